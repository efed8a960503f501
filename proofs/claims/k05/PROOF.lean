import PyProof.Rows.All
import Wide.All
import OpenK.AllK
import Wide.FinOn
import PySem.Challenge.RW_keepcompany_k05_works_by_hand_and_refuse
import HandS.ForMost
import HandS.ForExc
import HandS.Zip
import HandS.IsInst
import HandS.CallLocal
import HandS.CallSlots
import HandS.Defaults
import HandS.Small
import HandS.ExcIs
import HandS.Wide
import HandS.Gcd
import HandS.TupMul
import HandS.TupAny
import HandS.Conv
import HandS.Flow
import HandS.Style
import HandS.TryMany
import KE.KMathGC
import KE.KRevSl
import HandS.HeadHook4
import HandS.HeadEnd
import HandS.Head3
import HandS.WideBits
import HandS.Sort
import KE.GoesMore
import KE.GoesZip
import KE.KMathG
import KE.GoesEnum
import PyProof.EnumMake
import HandS.Deep
import KE.KTryMore
set_option Elab.async false
set_option linter.all false
set_option maxRecDepth 100000
set_option maxHeartbeats 0
set_option autoImplicit false
/-! The mirror: data without a heap, a store of lists, steps that the kernel can run. -/
namespace Mr
open PySem PySem.Spec PyProof.Rows L2

/-- data of the mirror; ref: a list, by its number in the store -/
inductive D where
  | non | bl (b : Bool) | int (i : Int) | str (l : List Nat) | ty (n : Nat) | tup (xs : List D) | ref (i : Nat) | fn (k : Nat) | rng (lo hi : Int) | frl (xs : List D) | any

/-- the store: a tree by the number's halves -/
inductive Tr where
  | nil
  | node (v : Option (List D)) (l r : Tr)

noncomputable def Tr.get (t : Tr) : Nat → Option (List D) := @Tr.rec (fun _ => Nat → Option (List D)) (fun _ => none) (fun v _ _ gl gr i => @Nat.casesOn (fun _ => Option (List D)) i v fun k => @Bool.casesOn (fun _ => Option (List D)) (Nat.beq (k % 2) 0) (gr (k / 2)) (gl (k / 2))) t
theorem Tr.get_nil (i : Nat) : Tr.nil.get i = none := rfl
theorem Tr.get_zero (v : Option (List D)) (l r : Tr) : (Tr.node v l r).get 0 = v := rfl
theorem Tr.get_succ (v : Option (List D)) (l r : Tr) (k : Nat) : (Tr.node v l r).get (k + 1) = if k % 2 = 0 then l.get (k / 2) else r.get (k / 2) := by
  show @Bool.casesOn (fun _ => Option (List D)) (Nat.beq (k % 2) 0) (r.get (k / 2)) (l.get (k / 2)) = _
  cases h : Nat.beq (k % 2) 0 with
  | true => rw [if_pos (Nat.eq_of_beq_eq_true h)]
  | false => rw [if_neg (Nat.ne_of_beq_eq_false h)]

/-- i's place is made x, in at most f halvings -/
def Tr.put : Nat → Tr → Nat → List D → Tr
  | 0, t, _, _ => t
  | _ + 1, .nil, 0, x => .node (some x) .nil .nil
  | f + 1, .nil, k + 1, x => if k % 2 = 0 then .node none (Tr.put f .nil (k / 2) x) .nil else .node none .nil (Tr.put f .nil (k / 2) x)
  | _ + 1, .node _ l r, 0, x => .node (some x) l r
  | f + 1, .node v l r, k + 1, x => if k % 2 = 0 then .node v (Tr.put f l (k / 2) x) r else .node v l (Tr.put f r (k / 2) x)
theorem Tr.get_put : ∀ (f : Nat) (t : Tr) (i : Nat) (x : List D) (j : Nat), i < f → (Tr.put f t i x).get j = if j = i then some x else t.get j
  | 0, _, _, _, _, h => absurd h (Nat.not_lt_zero _)
  | _ + 1, .nil, 0, x, j, _ => by
    cases j with
    | zero => rfl
    | succ j =>
      rw [if_neg (show ¬ (j + 1 = 0) by omega)]
      show (Tr.node (some x) .nil .nil).get (j + 1) = _
      rw [Tr.get_succ]
      show (if j % 2 = 0 then none else none) = (none : Option (List D))
      split <;> rfl
  | f + 1, .nil, k + 1, x, j, h => by
    have hk : k / 2 < f := by omega
    have e : Tr.put (f + 1) .nil (k + 1) x = if k % 2 = 0 then .node none (Tr.put f .nil (k / 2) x) .nil else .node none .nil (Tr.put f .nil (k / 2) x) := by rw [Tr.put]
    rw [e]
    cases j with
    | zero =>
      rw [if_neg (show ¬ (0 = k + 1) by omega)]
      by_cases hp : k % 2 = 0
      · rw [if_pos hp]; rfl
      · rw [if_neg hp]; rfl
    | succ j =>
      by_cases hp : k % 2 = 0
      · rw [if_pos hp, Tr.get_succ, Tr.get_put f .nil (k / 2) x (j / 2) hk]
        by_cases hj : j % 2 = 0
        · rw [if_pos hj]
          by_cases q : j = k
          · subst q; rw [if_pos rfl, if_pos rfl]
          · rw [if_neg (by omega), if_neg (by omega)]; rfl
        · rw [if_neg hj, if_neg (by omega)]; rfl
      · rw [if_neg hp, Tr.get_succ, Tr.get_put f .nil (k / 2) x (j / 2) hk]
        by_cases hj : j % 2 = 0
        · rw [if_pos hj, if_neg (by omega)]; rfl
        · rw [if_neg hj]
          by_cases q : j = k
          · subst q; rw [if_pos rfl, if_pos rfl]
          · rw [if_neg (by omega), if_neg (by omega)]; rfl
  | _ + 1, .node v l r, 0, x, j, _ => by
    cases j with
    | zero => rfl
    | succ j =>
      rw [if_neg (show ¬ (j + 1 = 0) by omega)]
      show (Tr.node (some x) l r).get (j + 1) = _
      rw [Tr.get_succ, Tr.get_succ]
  | f + 1, .node v l r, k + 1, x, j, h => by
    have hk : k / 2 < f := by omega
    have e : Tr.put (f + 1) (.node v l r) (k + 1) x = if k % 2 = 0 then .node v (Tr.put f l (k / 2) x) r else .node v l (Tr.put f r (k / 2) x) := by rw [Tr.put]
    rw [e]
    cases j with
    | zero =>
      rw [if_neg (show ¬ (0 = k + 1) by omega)]
      by_cases hp : k % 2 = 0
      · rw [if_pos hp]; rfl
      · rw [if_neg hp]; rfl
    | succ j =>
      by_cases hp : k % 2 = 0
      · rw [if_pos hp, Tr.get_succ, Tr.get_succ, Tr.get_put f l (k / 2) x (j / 2) hk]
        by_cases hj : j % 2 = 0
        · rw [if_pos hj, if_pos hj]
          by_cases q : j = k
          · subst q; rw [if_pos rfl, if_pos rfl]
          · rw [if_neg (by omega), if_neg (by omega)]
        · rw [if_neg hj, if_neg hj, if_neg (by omega)]
      · rw [if_neg hp, Tr.get_succ, Tr.get_succ, Tr.get_put f r (k / 2) x (j / 2) hk]
        by_cases hj : j % 2 = 0
        · rw [if_pos hj, if_pos hj, if_neg (by omega)]
        · rw [if_neg hj, if_neg hj]
          by_cases q : j = k
          · subst q; rw [if_pos rfl, if_pos rfl]
          · rw [if_neg (by omega), if_neg (by omega)]

end Mr

namespace Mr
open PySem PySem.Spec PyProof.Rows L2

structure Sto where
  n : Nat
  t : Tr
noncomputable def Sto.get (L : Sto) (i : Nat) : Option (List D) := @Sto.casesOn (fun _ => Option (List D)) L fun _ t => t.get i

/-- what a step comes to -/
inductive Out where
  | ok (d : D) (L : Sto)
  | err (c : Nat) (L : Sto)
  | bad
abbrev Env' := List (Option D)
abbrev EM := List (Option D) → Sto → Out
abbrev Fn' := List D → Sto → Out
noncomputable def Out.bd (o : Out) (k : D → Sto → Out) : Out := @Out.casesOn (fun _ => Out) o k (fun c L => .err c L) .bad
/-- what a statement comes to -/
inductive SO where
  | nx (S : Env') (L : Sto)
  | ret (d : D) (L : Sto)
  | brk (S : Env') (L : Sto)
  | cnt (S : Env') (L : Sto)
  | err (c : Nat) (S : Env') (L : Sto)
  | bad
abbrev SM := Env' → Sto → SO
noncomputable def Out.sd (o : Out) (S : Env') (k : D → Sto → SO) : SO := @Out.casesOn (fun _ => SO) o k (fun c L => .err c S L) .bad

/-- built-in classes by number -/
def tyN (n : Nat) : String := match n with | 0 => "NoneType" | 1 => "bool" | 2 => "int" | 3 => "str" | 4 => "tuple" | _ => "list"
/-- where the text's functions and error classes stand -/
structure Pm where
  K : PySem.W.Frag
  A : Nat → Addr
  C : Nat → Addr

/-- a list that the text's top holds -/
def SqKL (K : PySem.W.Frag) (a : Addr) (xs : List V) : Prop := ∃ (o : Obj) (its : Array Value) (n : Nat), K.lookup a = some o ∧ o.cls = .type "list" ∧ o.dict = none ∧ o.data = .seq its n ∧ its.size ≤ sizeLine ∧ Vals xs its.toList
mutual
inductive Dv (p : Pm) (H : Hp) (ρ : List Addr) : D → V → Prop
  | non : Dv p H ρ .non .non
  | bl (b : Bool) : Dv p H ρ (.bl b) (.bl b)
  | int (i : Int) : Dv p H ρ (.int i) (.int i)
  | str (l : List Nat) : Dv p H ρ (.str l) (.str ⟨l.toArray⟩)
  | ty (n : Nat) : Dv p H ρ (.ty n) (.ty (tyN n))
  | tup {a : Addr} {ds : List D} {xs : List V} : SqT p.K H a xs → Dvs p H ρ ds xs → Dv p H ρ (.tup ds) (.ref a)
  | ref {i : Nat} {a : Addr} : ρ[i]? = some a → Dv p H ρ (.ref i) (.ref a)
  | fn (k : Nat) : Dv p H ρ (.fn k) (.ref (p.A k))
  | rng {a : Addr} {lo hi : Int} : H a = some (.rng lo hi) → Dv p H ρ (.rng lo hi) (.ref a)
  | frl {a : Addr} {o : Obj} {ds : List D} {xs : List V} : H a = some (.frz o (.lst xs)) → Dvs p H ρ ds xs → Dv p H ρ (.frl ds) (.ref a)
  | frk {a : Addr} {ds : List D} {xs : List V} : SqKL p.K a xs → Dvs p H ρ ds xs → Dv p H ρ (.frl ds) (.ref a)
  | any (v : V) : Dv p H ρ .any v
inductive Dvs (p : Pm) (H : Hp) (ρ : List Addr) : List D → List V → Prop
  | nil : Dvs p H ρ [] []
  | cons {d : D} {ds : List D} {v : V} {vs : List V} : Dv p H ρ d v → Dvs p H ρ ds vs → Dvs p H ρ (d :: ds) (v :: vs)
end

/-- the store is the heap's lists at ρ -/
structure Rl (p : Pm) (ρ : List Addr) (L : Sto) (H : Hp) : Prop where
  nd : ρ.Nodup
  len : ρ.length = L.n
  at_ : ∀ i a, ρ[i]? = some a → ∃ ds xs, L.get i = some ds ∧ H a = some (.lst xs) ∧ Dvs p H ρ ds xs
structure Ext (ρ : List Addr) (H : Hp) (ρ' : List Addr) (H' : Hp) : Prop where
  pre : ∃ t, ρ' = ρ ++ t ∧ ∀ a ∈ t, H a = none
  keep : ∀ a o, H a = some o → a ∉ ρ → H' a = some o
  free : ∀ a, H' a = none → H a = none
theorem Ext.refl (ρ : List Addr) (H : Hp) : Ext ρ H ρ H := ⟨⟨[], by simp, fun _ h => nomatch h⟩, fun _ _ h _ => h, fun _ h => h⟩
theorem Ext.trans {ρ ρ1 ρ2 : List Addr} {H H1 H2 : Hp} (a : Ext ρ H ρ1 H1) (b : Ext ρ1 H1 ρ2 H2) : Ext ρ H ρ2 H2 := by
  obtain ⟨t, rfl, ht⟩ := a.pre
  obtain ⟨t2, rfl, ht2⟩ := b.pre
  refine ⟨⟨t ++ t2, by simp, fun x hx => ?_⟩, fun x o hx hn => ?_, fun x hx => a.free x (b.free x hx)⟩
  · rcases List.mem_append.mp hx with hx | hx
    · exact ht x hx
    · exact a.free x (ht2 x hx)
  · refine b.keep x o (a.keep x o hx hn) fun hm => ?_
    rcases List.mem_append.mp hm with hm | hm
    · exact hn hm
    · have := ht x hm; rw [hx] at this; cases this
theorem Ext.get {ρ ρ' : List Addr} {H H' : Hp} (e : Ext ρ H ρ' H') {i : Nat} {a : Addr} (h : ρ[i]? = some a) : ρ'[i]? = some a := by
  obtain ⟨t, rfl, _⟩ := e.pre
  have hl : i < ρ.length := (List.getElem?_eq_some_iff.mp h).1
  rw [List.getElem?_append_left hl]; exact h
theorem Rl.lst {p : Pm} {ρ : List Addr} {L : Sto} {H : Hp} (r : Rl p ρ L H) {a : Addr} (h : a ∈ ρ) : ∃ xs, H a = some (.lst xs) := by
  obtain ⟨i, hi⟩ := List.getElem?_of_mem h
  obtain ⟨ds, xs, _, e, _⟩ := r.at_ i a hi
  exact ⟨xs, e⟩
theorem sqT_mono {p : Pm} {ρ ρ' : List Addr} {L : Sto} {H H' : Hp} (r : Rl p ρ L H) (e : Ext ρ H ρ' H') {a : Addr} {xs : List V} (h : SqT p.K H a xs) : SqT p.K H' a xs := by
  rcases h with (h | ⟨o, h⟩) | h
  · refine .inl (.inl (e.keep a _ h fun hm => ?_))
    obtain ⟨ys, q⟩ := r.lst hm; rw [h] at q; cases q
  · refine .inl (.inr ⟨o, e.keep a _ h fun hm => ?_⟩)
    obtain ⟨ys, q⟩ := r.lst hm; rw [h] at q; cases q
  · exact .inr h
mutual
theorem Dv.mono {p : Pm} {ρ ρ' : List Addr} {L : Sto} {H H' : Hp} (r : Rl p ρ L H) (e : Ext ρ H ρ' H') : ∀ {d : D} {v : V}, Dv p H ρ d v → Dv p H' ρ' d v
  | _, _, .non => .non
  | _, _, .bl b => .bl b
  | _, _, .int i => .int i
  | _, _, .str l => .str l
  | _, _, .ty n => .ty n
  | _, _, .tup h hs => .tup (sqT_mono r e h) (Dvs.mono r e hs)
  | _, _, .ref h => .ref (e.get h)
  | _, _, .fn k => .fn k
  | _, _, .rng h => .rng (e.keep _ _ h fun hm => by obtain ⟨ys, q⟩ := r.lst hm; rw [h] at q; cases q)
  | _, _, .frl h hs => .frl (e.keep _ _ h fun hm => by obtain ⟨ys, q⟩ := r.lst hm; rw [h] at q; cases q) (Dvs.mono r e hs)
  | _, _, .frk h hs => .frk h (Dvs.mono r e hs)
  | _, _, .any v => .any v
theorem Dvs.mono {p : Pm} {ρ ρ' : List Addr} {L : Sto} {H H' : Hp} (r : Rl p ρ L H) (e : Ext ρ H ρ' H') : ∀ {ds : List D} {vs : List V}, Dvs p H ρ ds vs → Dvs p H' ρ' ds vs
  | _, _, .nil => .nil
  | _, _, .cons h hs => .cons (Dv.mono r e h) (Dvs.mono r e hs)
end
section
variable {p : Pm} {H H' : Hp} {ρ ρ' : List Addr} {L L' : Sto}
theorem Dvs.length : ∀ {ds : List D} {vs : List V}, Dvs p H ρ ds vs → ds.length = vs.length
  | _, _, .nil => rfl
  | _, _, .cons _ hs => congrArg Nat.succ (Dvs.length hs)
theorem Dvs.get : ∀ {ds : List D} {vs : List V} {i : Nat} {d : D}, Dvs p H ρ ds vs → ds[i]? = some d → ∃ v, vs[i]? = some v ∧ Dv p H ρ d v
  | _, _, _, _, .nil, e => by simp at e
  | _, _, 0, d, .cons h _, e => by simp at e; subst e; exact ⟨_, rfl, h⟩
  | _, _, i + 1, d, .cons _ hs, e => by
    obtain ⟨v, e1, e2⟩ := Dvs.get (i := i) (d := d) hs (by simpa using e)
    exact ⟨v, by simpa using e1, e2⟩
theorem Dvs.append : ∀ {ds es : List D} {vs ws : List V}, Dvs p H ρ ds vs → Dvs p H ρ es ws → Dvs p H ρ (ds ++ es) (vs ++ ws)
  | _, _, _, _, .nil, h => h
  | _, _, _, _, .cons h hs, h' => .cons h (Dvs.append hs h')
theorem Dvs.set {d : D} {v : V} (hd : Dv p H ρ d v) : ∀ {ds : List D} {vs : List V} (i : Nat), Dvs p H ρ ds vs → Dvs p H ρ (ds.set i d) (vs.set i v)
  | _, _, _, .nil => .nil
  | _, _, 0, .cons _ hs => .cons hd hs
  | _, _, i + 1, .cons h hs => .cons h (Dvs.set hd i hs)
theorem Dvs.take : ∀ {ds : List D} {vs : List V} (n : Nat), Dvs p H ρ ds vs → Dvs p H ρ (ds.take n) (vs.take n)
  | _, _, 0, _ => by simp only [List.take_zero]; exact .nil
  | _, _, _ + 1, .nil => .nil
  | _, _, n + 1, .cons h hs => .cons h (Dvs.take n hs)
theorem Dvs.drop : ∀ {ds : List D} {vs : List V} (n : Nat), Dvs p H ρ ds vs → Dvs p H ρ (ds.drop n) (vs.drop n)
  | _, _, 0, h => h
  | _, _, _ + 1, .nil => .nil
  | _, _, n + 1, .cons _ hs => Dvs.drop n hs
theorem Dvs.reverse {ds : List D} {vs : List V} (h : Dvs p H ρ ds vs) : Dvs p H ρ ds.reverse vs.reverse := by
  induction ds generalizing vs with
  | nil => cases h; exact .nil
  | cons d ds ih =>
    cases h with
    | cons h hs => rw [List.reverse_cons, List.reverse_cons]; exact (ih hs).append (.cons h .nil)
theorem Dvs.dropLast : ∀ {ds : List D} {vs : List V}, Dvs p H ρ ds vs → Dvs p H ρ ds.dropLast vs.dropLast
  | _, _, .nil => .nil
  | _, _, .cons _ .nil => .nil
  | _, _, .cons h (.cons h' hs) => by
    rw [List.dropLast_cons₂, List.dropLast_cons₂]
    exact .cons h (Dvs.dropLast (.cons h' hs))
theorem Dvs.rep {ds : List D} {vs : List V} (h : Dvs p H ρ ds vs) : ∀ k : Nat, Dvs p H ρ (List.replicate k ds).flatten (List.replicate k vs).flatten
  | 0 => .nil
  | k + 1 => by rw [List.replicate_succ, List.replicate_succ, List.flatten_cons, List.flatten_cons]; exact h.append (Dvs.rep h k)
theorem Dvs.isEmpty {ds : List D} {vs : List V} (h : Dvs p H ρ ds vs) : ds.isEmpty = vs.isEmpty := by cases h <;> rfl

/-- a new object that is no list -/
theorem Ext.fresh {q : Addr} (o : HO) (h : H q = none) : Ext ρ H ρ (upd H q o) :=
  ⟨⟨[], by simp, fun _ h => nomatch h⟩, fun a o' ha _ => by rw [upd_ne (ne_of_none ha h)]; exact ha, fun a ha => by
    by_cases e : a = q
    · subst e; exact h
    · rw [upd_ne e] at ha; exact ha⟩
theorem Rl.fresh (r : Rl p ρ L H) {q : Addr} (o : HO) (h : H q = none) : Rl p ρ L (upd H q o) :=
  ⟨r.nd, r.len, fun i a hi => by
    obtain ⟨ds, xs, e1, e2, e3⟩ := r.at_ i a hi
    exact ⟨ds, xs, e1, by rw [upd_ne (ne_of_none e2 h)]; exact e2, Dvs.mono r (Ext.fresh o h) e3⟩⟩

/-! ### the store's steps, by what follows -/
noncomputable def Tr.putK (f : Nat) : Tr → Nat → List D → (Tr → Out) → Out := @Nat.rec (fun _ => Tr → Nat → List D → (Tr → Out) → Out) (fun _ _ _ _ => .bad)
  (fun _ ih t i x k => @Tr.casesOn (fun _ => Out) t
    (@Nat.casesOn (fun _ => Out) i (k (.node (some x) .nil .nil)) fun j => @Bool.casesOn (fun _ => Out) (Nat.beq (j % 2) 0) (ih .nil (j / 2) x fun r => k (.node none .nil r)) (ih .nil (j / 2) x fun l => k (.node none l .nil)))
    fun v l r => @Nat.casesOn (fun _ => Out) i (k (.node (some x) l r)) fun j => @Bool.casesOn (fun _ => Out) (Nat.beq (j % 2) 0) (ih r (j / 2) x fun r' => k (.node v l r')) (ih l (j / 2) x fun l' => k (.node v l' r))) f
theorem Tr.putK_eq : ∀ (f : Nat) (t : Tr) (i : Nat) (x : List D) (k : Tr → Out), i < f → Tr.putK f t i x k = k (Tr.put f t i x)
  | 0, _, _, _, _, h => absurd h (Nat.not_lt_zero _)
  | f + 1, t, i, x, k, h => by
    cases t with
    | nil =>
      cases i with
      | zero => rfl
      | succ j =>
        have hj : j / 2 < f := by omega
        show @Bool.casesOn (fun _ => Out) (Nat.beq (j % 2) 0) (Tr.putK f .nil (j / 2) x fun r => k (.node none .nil r)) (Tr.putK f .nil (j / 2) x fun l => k (.node none l .nil)) = _
        rw [Tr.putK_eq f _ _ _ _ hj, Tr.putK_eq f _ _ _ _ hj, Tr.put]
        cases hb : Nat.beq (j % 2) 0 with
        | true => rw [if_pos (Nat.eq_of_beq_eq_true hb)]
        | false => rw [if_neg (Nat.ne_of_beq_eq_false hb)]
    | node v l r =>
      cases i with
      | zero => rfl
      | succ j =>
        have hj : j / 2 < f := by omega
        show @Bool.casesOn (fun _ => Out) (Nat.beq (j % 2) 0) (Tr.putK f r (j / 2) x fun r' => k (.node v l r')) (Tr.putK f l (j / 2) x fun l' => k (.node v l' r)) = _
        rw [Tr.putK_eq f _ _ _ _ hj, Tr.putK_eq f _ _ _ _ hj, Tr.put]
        cases hb : Nat.beq (j % 2) 0 with
        | true => rw [if_pos (Nat.eq_of_beq_eq_true hb)]
        | false => rw [if_neg (Nat.ne_of_beq_eq_false hb)]

def big : Nat := 1099511627776
/-- a list's place is made xs -/
noncomputable def Sto.setK (L : Sto) (i : Nat) (xs : List D) (k : Sto → Out) : Out := @Sto.casesOn (fun _ => Out) L fun n t => @Bool.casesOn (fun _ => Out) (Nat.blt i big) .bad (Tr.putK big t i xs fun t' => k ⟨n, t'⟩)
/-- a new list -/
noncomputable def Sto.newK (L : Sto) (xs : List D) (k : Nat → Sto → Out) : Out := @Sto.casesOn (fun _ => Out) L fun n t => @Bool.casesOn (fun _ => Out) (Nat.blt n big) .bad (Tr.putK big t n xs fun t' => k n ⟨Nat.succ n, t'⟩)
theorem blt_t {a b : Nat} (h : Nat.blt a b = true) : a < b := Nat.le_of_ble_eq_true h
/-- what setK does where it does something -/
theorem setK_or (L : Sto) (i : Nat) (xs : List D) (k : Sto → Out) : L.setK i xs k = .bad ∨ ∃ L', L.setK i xs k = k L' ∧ L'.n = L.n ∧ ∀ j, L'.get j = if j = i then some xs else L.get j := by
  obtain ⟨n, t⟩ := L
  cases h : Nat.blt i big with
  | false => left; show @Bool.casesOn (fun _ => Out) (Nat.blt i big) _ _ = _; rw [h]
  | true =>
    right
    refine ⟨⟨n, Tr.put big t i xs⟩, ?_, rfl, fun j => Tr.get_put big t i xs j (blt_t h)⟩
    show @Bool.casesOn (fun _ => Out) (Nat.blt i big) _ (Tr.putK big t i xs fun t' => k ⟨n, t'⟩) = _
    rw [h, Tr.putK_eq _ _ _ _ _ (blt_t h)]
theorem newK_or (L : Sto) (xs : List D) (k : Nat → Sto → Out) : L.newK xs k = .bad ∨ ∃ L', L.newK xs k = k L.n L' ∧ L'.n = L.n + 1 ∧ ∀ j, L'.get j = if j = L.n then some xs else L.get j := by
  obtain ⟨n, t⟩ := L
  cases h : Nat.blt n big with
  | false => left; show @Bool.casesOn (fun _ => Out) (Nat.blt n big) _ _ = _; rw [h]
  | true =>
    right
    refine ⟨⟨n + 1, Tr.put big t n xs⟩, ?_, rfl, fun j => Tr.get_put big t n xs j (blt_t h)⟩
    show @Bool.casesOn (fun _ => Out) (Nat.blt n big) _ (Tr.putK big t n xs fun t' => k n ⟨Nat.succ n, t'⟩) = _
    rw [h, Tr.putK_eq _ _ _ _ _ (blt_t h)]

/-- a new list on both sides -/
theorem Rl.new (r : Rl p ρ L H) {q : Addr} {ds : List D} {xs : List V} (hq : H q = none) (hd : Dvs p H ρ ds xs) (hn : L'.n = L.n + 1) (hg : ∀ j, L'.get j = if j = L.n then some ds else L.get j) :
    Ext ρ H (ρ ++ [q]) (upd H q (.lst xs)) ∧ Rl p (ρ ++ [q]) L' (upd H q (.lst xs)) ∧ (ρ ++ [q])[L.n]? = some q := by
  have hqρ : q ∉ ρ := fun hm => by obtain ⟨ys, e⟩ := r.lst hm; rw [hq] at e; cases e
  have ex : Ext ρ H (ρ ++ [q]) (upd H q (.lst xs)) := by
    refine ⟨⟨[q], rfl, fun a ha => ?_⟩, fun a o ha _ => by rw [upd_ne (ne_of_none ha hq)]; exact ha, fun a ha => ?_⟩
    · have e : a = q := by simpa using ha
      subst e; exact hq
    · by_cases e : a = q
      · subst e; exact hq
      · rw [upd_ne e] at ha; exact ha
  have hl : (ρ ++ [q])[L.n]? = some q := by rw [← r.len]; simp
  refine ⟨ex, ⟨?_, ?_, fun i a hi => ?_⟩, hl⟩
  · rw [List.nodup_append]
    refine ⟨r.nd, by simp, fun a ha b hb => ?_⟩
    have e : b = q := by simpa using hb
    rw [e]; intro z; rw [z] at ha; exact hqρ ha
  · rw [List.length_append, r.len, hn]; rfl
  · by_cases hi' : i < ρ.length
    · rw [List.getElem?_append_left hi'] at hi
      obtain ⟨es, ys, e1, e2, e3⟩ := r.at_ i a hi
      refine ⟨es, ys, ?_, by rw [upd_ne (ne_of_none e2 hq)]; exact e2, Dvs.mono r ex e3⟩
      rw [hg, if_neg (by have := r.len; omega)]; exact e1
    · have hi2 : i < (ρ ++ [q]).length := (List.getElem?_eq_some_iff.mp hi).1
      have e : i = ρ.length := by rw [List.length_append] at hi2; simp at hi2; omega
      subst e
      rw [List.getElem?_append_right (Nat.le_refl _)] at hi
      simp at hi
      subst hi
      exact ⟨ds, xs, by rw [hg, if_pos r.len], upd_same, Dvs.mono r ex hd⟩
/-- a list is changed on both sides -/
theorem Rl.set (r : Rl p ρ L H) {i : Nat} {a : Addr} {ds : List D} {xs : List V} (hi : ρ[i]? = some a) (hd : Dvs p H ρ ds xs) (hn : L'.n = L.n) (hg : ∀ j, L'.get j = if j = i then some ds else L.get j) :
    Ext ρ H ρ (upd H a (.lst xs)) ∧ Rl p ρ L' (upd H a (.lst xs)) := by
  have ha : a ∈ ρ := List.mem_of_getElem? hi
  have ex : Ext ρ H ρ (upd H a (.lst xs)) := by
    refine ⟨⟨[], by simp, fun _ h => nomatch h⟩, fun b o hb hn => ?_, fun b hb => ?_⟩
    · rw [upd_ne (fun e => hn (by rw [e]; exact ha))]; exact hb
    · by_cases e : b = a
      · subst e; rw [upd_same] at hb; cases hb
      · rw [upd_ne e] at hb; exact hb
  refine ⟨ex, r.nd, by rw [r.len, hn], fun j b hj => ?_⟩
  obtain ⟨es, ys, e1, e2, e3⟩ := r.at_ j b hj
  by_cases hji : j = i
  · subst hji
    have e : b = a := by rw [hi] at hj; exact (Option.some.inj hj).symm
    subst e
    exact ⟨ds, xs, by rw [hg, if_pos rfl], upd_same, Dvs.mono r ex hd⟩
  · have hba : b ≠ a := fun e => by
      subst e
      have h1 := (List.getElem?_eq_some_iff.mp hi)
      have h2 := (List.getElem?_eq_some_iff.mp hj)
      obtain ⟨l1, g1⟩ := h1
      obtain ⟨l2, g2⟩ := h2
      exact hji ((List.getElem_inj r.nd).mp (g2.trans g1.symm))
    exact ⟨es, ys, by rw [hg, if_neg hji]; exact e1, by rw [upd_ne hba]; exact e2, Dvs.mono r ex e3⟩
end

/-! ### the names' values -/
structure EnvR (p : Pm) (H : Hp) (ρ : List Addr) (S : List (Option D)) (σ : L2.St) : Prop where
  len : S.length = σ.length
  at_ : ∀ (i : Nat) (d : D), S[i]? = some (some d) → ∃ v, σ[i]? = some (some v) ∧ Dv p H ρ d v
theorem EnvR.mono {p : Pm} {ρ ρ' : List Addr} {L : Sto} {H H' : Hp} {S : List (Option D)} {σ : L2.St} (e : EnvR p H ρ S σ) (r : Rl p ρ L H) (x : Ext ρ H ρ' H') : EnvR p H' ρ' S σ :=
  ⟨e.len, fun i d h => by obtain ⟨v, e1, e2⟩ := e.at_ i d h; exact ⟨v, e1, Dv.mono r x e2⟩⟩
theorem EnvR.set {p : Pm} {ρ : List Addr} {H : Hp} {S : List (Option D)} {σ : L2.St} (e : EnvR p H ρ S σ) {i : Nat} {d : D} {v : V} (hd : Dv p H ρ d v) : EnvR p H ρ (S.set i (some d)) (σ.set i (some v)) := by
  refine ⟨by simp [e.len], fun j d' h => ?_⟩
  by_cases hj : i = j
  · subst hj
    by_cases hl : i < S.length
    · rw [List.getElem?_set_self hl] at h
      cases h
      exact ⟨v, List.getElem?_set_self (by rw [← e.len]; exact hl), hd⟩
    · rw [List.getElem?_eq_none (by simpa using hl)] at h; cases h
  · rw [List.getElem?_set_ne hj] at h
    obtain ⟨w, e1, e2⟩ := e.at_ j d' h
    exact ⟨w, by rw [List.getElem?_set_ne hj]; exact e1, e2⟩
theorem EnvR.gone {p : Pm} {ρ : List Addr} {H : Hp} {S : List (Option D)} {σ : L2.St} (e : EnvR p H ρ S σ) (i : Nat) : EnvR p H ρ (S.set i none) (σ.set i none) := by
  refine ⟨by simp [e.len], fun j d' h => ?_⟩
  by_cases hj : i = j
  · subst hj
    by_cases hl : i < S.length
    · rw [List.getElem?_set_self hl] at h; cases h
    · rw [List.getElem?_eq_none (by simpa using hl)] at h; cases h
  · rw [List.getElem?_set_ne hj] at h
    obtain ⟨w, e1, e2⟩ := e.at_ j d' h
    exact ⟨w, by rw [List.getElem?_set_ne hj]; exact e1, e2⟩
theorem EnvR.forget {p : Pm} {ρ : List Addr} {H : Hp} {S : List (Option D)} {σ : L2.St} (e : EnvR p H ρ S σ) (i : Nat) : EnvR p H ρ (S.set i none) σ := by
  refine ⟨by simp [e.len], fun j d' h => ?_⟩
  by_cases hj : i = j
  · subst hj
    by_cases hl : i < S.length
    · rw [List.getElem?_set_self hl] at h; cases h
    · rw [List.getElem?_eq_none (by simpa using hl)] at h; cases h
  · rw [List.getElem?_set_ne hj] at h
    exact e.at_ j d' h
theorem EnvR.start {p : Pm} {ρ : List Addr} {H : Hp} {ds : List D} {vs : List V} (h : Dvs p H ρ ds vs) (n : Nat) : EnvR p H ρ (ds.map some ++ List.replicate n none) (vs.map some ++ List.replicate n none) := by
  refine ⟨by simp [h.length], fun i d e => ?_⟩
  by_cases hi : i < ds.length
  · rw [List.getElem?_append_left (by simpa using hi), List.getElem?_map] at e
    cases q : ds[i]? with
    | none => rw [q] at e; cases e
    | some d' =>
      rw [q] at e; cases e
      obtain ⟨v, e1, e2⟩ := h.get q
      refine ⟨v, ?_, e2⟩
      rw [List.getElem?_append_left (by simpa [← h.length] using hi), List.getElem?_map, e1]; rfl
  · rw [List.getElem?_append_right (by simpa using hi), List.getElem?_replicate] at e
    split at e <;> cases e

/-! ### what is wanted of a step -/
abbrev Wx := Value → Option Addr → L2.St → Hp → Prop
section
variable (p : Pm) (W : Wx) (σ : L2.St)
def Po (Q : List Addr → Sto → D → V → Hp → Prop) (ρ : List Addr) (H : Hp) : Out → Prop
  | .ok d L => ∀ ρ' H' v, Ext ρ H ρ' H' → Rl p ρ' L H' → Dv p H' ρ' d v → Q ρ' L d v H'
  | .err c L => ∀ ρ' H', Ext ρ H ρ' H' → Rl p ρ' L H' → W (.ref (p.C c)) none σ H'
  | .bad => False
/-- .. of a row of values -/
def Pa (Q : List Addr → Sto → List D → List V → Hp → Prop) (ρ : List Addr) (H : Hp) : Out → Prop
  | .ok d L => match d with
    | .tup ds => ∀ ρ' H' vs, Ext ρ H ρ' H' → Rl p ρ' L H' → Dvs p H' ρ' ds vs → Q ρ' L ds vs H'
    | _ => False
  | .err c L => ∀ ρ' H', Ext ρ H ρ' H' → Rl p ρ' L H' → W (.ref (p.C c)) none σ H'
  | .bad => False
end
section
variable {p : Pm} {W : Wx} {σ : L2.St} {ρ ρ' : List Addr} {H H' : Hp}
theorem Po.ext {Q : List Addr → Sto → D → V → Hp → Prop} (e : Ext ρ H ρ' H') : ∀ {o : Out}, Po p W σ Q ρ H o → Po p W σ Q ρ' H' o
  | .ok _ _, h => fun ρ2 H2 v x r d => h ρ2 H2 v (e.trans x) r d
  | .err _ _, h => fun ρ2 H2 x r => h ρ2 H2 (e.trans x) r
  | .bad, h => h
theorem Po.imp {Q Q' : List Addr → Sto → D → V → Hp → Prop} (hQ : ∀ ρ' L d v H', Ext ρ H ρ' H' → Rl p ρ' L H' → Dv p H' ρ' d v → Q ρ' L d v H' → Q' ρ' L d v H') : ∀ {o : Out}, Po p W σ Q ρ H o → Po p W σ Q' ρ H o
  | .ok _ _, h => fun ρ2 H2 v x r d => hQ _ _ _ _ _ x r d (h ρ2 H2 v x r d)
  | .err _ _, h => h
  | .bad, h => h
theorem Pa.ext {Q : List Addr → Sto → List D → List V → Hp → Prop} (e : Ext ρ H ρ' H') : ∀ {o : Out}, Pa p W σ Q ρ H o → Pa p W σ Q ρ' H' o := by
  intro o h
  cases o with
  | ok d L =>
    cases d with
    | tup ds => exact fun ρ2 H2 v x r d => h ρ2 H2 v (e.trans x) r d
    | _ => exact h
  | err c L => exact fun ρ2 H2 x r => h ρ2 H2 (e.trans x) r
  | bad => exact h
/-- a step, then another -/
theorem Po.bd {Q : List Addr → Sto → D → V → Hp → Prop} {o : Out} {k : D → Sto → Out} (h : Po p W σ Q ρ H (o.bd k)) : Po p W σ (fun ρ1 L1 d _ H1 => Po p W σ Q ρ1 H1 (k d L1)) ρ H o := by
  cases o with
  | ok d L => exact fun ρ1 H1 v x r _ => Po.ext x h
  | err c L => exact h
  | bad => exact h
/-- a row is found, then a step -/
noncomputable def Out.row (o : Out) (k : List D → Sto → Out) : Out := o.bd fun d L => @D.casesOn (fun _ => Out) d .bad (fun _ => .bad) (fun _ => .bad) (fun _ => .bad) (fun _ => .bad) (fun ds => k ds L) (fun _ => .bad) (fun _ => .bad) (fun _ _ => .bad) (fun _ => .bad) .bad
theorem Pa.row {Q : List Addr → Sto → D → V → Hp → Prop} {o : Out} {k : List D → Sto → Out} (h : Po p W σ Q ρ H (o.row k)) : Pa p W σ (fun ρ1 L1 ds _ H1 => Po p W σ Q ρ1 H1 (k ds L1)) ρ H o := by
  cases o with
  | ok d L =>
    cases d with
    | tup ds => exact fun ρ1 H1 v x r _ => Po.ext x h
    | _ => exact h
  | err c L => exact h
  | bad => exact h
end

/-! ### the judgements -/
structure At (p : Pm) (Z : L2.St → Prop) (ρ : List Addr) (S : Env') (L : Sto) (σ : L2.St) (H : Hp) : Prop where
  z : Z σ
  env : EnvR p H ρ S σ
  rl : Rl p ρ L H
theorem At.ext {p : Pm} {Z : L2.St → Prop} {ρ ρ' : List Addr} {S : List (Option D)} {L L' : Sto} {σ : L2.St} {H H' : Hp} (a : At p Z ρ S L σ H) (e : Ext ρ H ρ' H') (r : Rl p ρ' L' H') : At p Z ρ' S L' σ H' := ⟨a.z, a.env.mono a.rl e, r⟩
def TrE (p : Pm) (Z : L2.St → Prop) (W : Wx) (m : EM) : TE := fun σ H Q => ∃ ρ S L, At p Z ρ S L σ H ∧ Po p W σ (fun ρ' L' d v H' => Q v H') ρ H (m S L)
def TrA (p : Pm) (Z : L2.St → Prop) (W : Wx) (m : EM) : TA := fun σ H Q => ∃ ρ S L, At p Z ρ S L σ H ∧ Pa p W σ (fun ρ' L' ds vs H' => Q vs H') ρ H (m S L)
/-- a test: its value is a bool -/
def TrT (p : Pm) (Z : L2.St → Prop) (W : Wx) (m : EM) : TT := fun σ H Q => ∃ ρ S L, At p Z ρ S L σ H ∧ Po p W σ (fun ρ' L' d v H' => ∃ b, d = .bl b ∧ Q b H') ρ H (m S L)
structure EE (X : Cx) (p : Pm) (Z : L2.St → Prop) (W : Wx) (e : Expr) (m : EM) : Prop where
  pe : PE X e (TrE p Z W m)
structure EA (X : Cx) (p : Pm) (Z : L2.St → Prop) (W : Wx) (es : List Expr) (m : EM) : Prop where
  pa : PA X es (TrA p Z W m)
structure ET (X : Cx) (p : Pm) (Z : L2.St → Prop) (W : Wx) (e : Expr) (m : EM) : Prop where
  pt : PT X e (TrT p Z W m)
theorem PE.imp {X : Cx} {e : Expr} {t t' : TE} (h : PE X e t) (hi : ∀ σ H Q, t' σ H Q → t σ H Q) : PE X e t' := ⟨fun pins s σ H Q I hq => h.run pins s σ H Q I (hi σ H Q hq)⟩
theorem PA.imp {X : Cx} {e : List Expr} {t t' : TA} (h : PA X e t) (hi : ∀ σ H Q, t' σ H Q → t σ H Q) : PA X e t' := ⟨fun pos pins s σ H Q I hq => h.run pos pins s σ H Q I (hi σ H Q hq)⟩
theorem PT.imp {X : Cx} {e : Expr} {t t' : TT} (h : PT X e t) (hi : ∀ σ H Q, t' σ H Q → t σ H Q) : PT X e t' := ⟨fun pins s σ H Q I hq => h.run pins s σ H Q I (hi σ H Q hq)⟩
theorem PS.imp {X : Cx} {e : Stmt} {t t' : TS} (h : PS X e t) (hi : ∀ D σ H, t' D σ H → t D σ H) : PS X e t' := ⟨fun pins s σ H D I hq => h.run pins s σ H D I (hi D σ H hq)⟩
theorem PSs.imp {X : Cx} {e : List Stmt} {t t' : TS} (h : PSs X e t) (hi : ∀ D σ H, t' D σ H → t D σ H) : PSs X e t' := ⟨fun pins s σ H D I hq => h.run pins s σ H D I (hi D σ H hq)⟩
end Mr

namespace Mr
open PySem PySem.Spec PyProof.Rows L2

/-! ### steps that the kernel runs from the left -/
noncomputable def fN (n : Nat) (k : Nat → Out) : Out := @Nat.rec (fun _ => Out) (k 0) (fun m _ => k (Nat.succ m)) n
theorem fN_eq (n : Nat) (k : Nat → Out) : fN n k = k n := by cases n <;> rfl
noncomputable def fI (i : Int) (k : Int → Out) : Out := @Int.casesOn (fun _ => Out) i (fun n => fN n fun m => k (.ofNat m)) fun n => fN n fun m => k (.negSucc m)
theorem fI_eq (i : Int) (k : Int → Out) : fI i k = k i := by
  cases i with
  | ofNat n => exact fN_eq n fun m => k (.ofNat m)
  | negSucc n => exact fN_eq n fun m => k (.negSucc m)
noncomputable def fL {α : Type} (xs : List α) : (List α → Out) → Out := @List.rec α (fun _ => (List α → Out) → Out) (fun k => k []) (fun x _ ih k => ih fun ys => k (x :: ys)) xs
theorem fL_eq {α : Type} (xs : List α) (k : List α → Out) : fL xs k = k xs := by
  induction xs generalizing k with
  | nil => rfl
  | cons x xs ih => exact ih _
noncomputable def nth {α : Type} (xs : List α) : Nat → Option α := @List.rec α (fun _ => Nat → Option α) (fun _ => none) (fun x _ ih i => @Nat.casesOn (fun _ => Option α) i (some x) fun j => ih j) xs
theorem nth_eq {α : Type} (xs : List α) (i : Nat) : nth xs i = xs[i]? := by
  induction xs generalizing i with
  | nil => simp [nth]
  | cons x xs ih =>
    cases i with
    | zero => rfl
    | succ j => exact (ih j).trans (by simp)
noncomputable def lenN {α : Type} (xs : List α) : Nat := @List.rec α (fun _ => Nat) 0 (fun _ _ ih => Nat.succ ih) xs
theorem lenN_eq {α : Type} (xs : List α) : lenN xs = xs.length := by
  induction xs with
  | nil => rfl
  | cons x xs ih => exact congrArg Nat.succ ih
/-- at most m items -/
noncomputable def short {α : Type} (xs : List α) (m : Nat) : Bool := Nat.ble (lenN xs) m
theorem short_le {α : Type} {xs : List α} {m : Nat} (h : short xs m = true) : xs.length ≤ m := by rw [← lenN_eq]; exact Nat.le_of_ble_eq_true h
def most : Nat := 100000
theorem most_line : most ≤ sizeLine := by rw [sizeLine_eq]; decide
theorem most_lt : most < sizeLine := by rw [sizeLine_eq]; decide
noncomputable def iff_ (b : Bool) (t e : Out) : Out := @Bool.casesOn (fun _ => Out) b e t

section
variable {X : Cx} {p : Pm} {Z : L2.St → Prop} {W : Wx} {pos : Pos}

/-! ### constants and names -/
def mC (d : D) : EM := fun _ L => .ok d L
noncomputable def mV (i : Nat) : EM := fun S L => match nth S i with
  | some (some d) => .ok d L
  | _ => .bad
theorem tr_const {t : TE} {d : D} {v : V} (ht : ∀ σ H Q, Q v H → t σ H Q) (hd : ∀ H ρ, Dv p H ρ d v) {σ : L2.St} {H : Hp} {Q : VK} (h : TrE p Z W (mC d) σ H Q) : t σ H Q := by
  obtain ⟨ρ, S, L, a, po⟩ := h
  exact ht σ H Q (po ρ H v (Ext.refl _ _) a.rl (hd H ρ))
theorem ee_int {i : Int} {j : Nat} : EE X p Z W (.Constant (.int i) j pos) (mC (.int i)) := ⟨PE.imp pe_int fun σ H Q h => tr_const (t := tC (.int i)) (fun _ _ _ q => q) (fun _ _ => .int i) h⟩
theorem ee_bl {b : Bool} {j : Nat} : EE X p Z W (.Constant (.bool b) j pos) (mC (.bl b)) := ⟨PE.imp pe_bl fun σ H Q h => tr_const (t := tC (.bl b)) (fun _ _ _ q => q) (fun _ _ => .bl b) h⟩
theorem ee_non {j : Nat} : EE X p Z W (.Constant .none j pos) (mC .non) := ⟨PE.imp pe_non fun σ H Q h => tr_const (t := tC .non) (fun _ _ _ q => q) (fun _ _ => .non) h⟩
theorem ee_str {x : Str} {l : List Nat} {j : Nat} (e : x = ⟨l.toArray⟩) : EE X p Z W (.Constant (.str x) j pos) (mC (.str l)) := ⟨PE.imp pe_str fun σ H Q h => tr_const (t := tC (.str x)) (fun _ _ _ q => q) (fun _ _ => by rw [e]; exact .str l) h⟩
theorem ee_var (i : Nat) {x : Str} (h : PE X (.Name x pos) (tVar i)) : EE X p Z W (.Name x pos) (mV i) := ⟨PE.imp h fun σ H Q h => by
  obtain ⟨ρ, S, L, a, po⟩ := h
  unfold mV at po
  rw [nth_eq] at po
  split at po
  · rename_i d e
    obtain ⟨v, e1, e2⟩ := a.env.at_ i d e
    exact ⟨v, e1, po ρ H v (Ext.refl _ _) a.rl e2⟩
  · exact po.elim⟩
theorem ee_glob {x : Str} {u : Value} {v : V} {d : D} (hd : ∀ H ρ, Dv p H ρ d v) (hm : X.mg x = some u) (r : RelV v u) (hg : Gl X x := by rfl) (hdb : (x == ("__debug__" : Str)) = false := by decide) : EE X p Z W (.Name x pos) (mC d) :=
  ⟨PE.imp (pe_glob hg hm r hdb) fun σ H Q h => tr_const (t := tC v) (fun _ _ _ q => q) hd h⟩

/-! ### two values, one value -/
/-- an operation of the mirror does what the rule asks -/
def Op2 (p : Pm) (r : R2) (o : D → D → Sto → Out) : Prop := ∀ {W : Wx} {σ : L2.St} {ρ : List Addr} {L : Sto} {H : Hp} {d e : D} {x y : V} {Q : VK}, Rl p ρ L H → Dv p H ρ d x → Dv p H ρ e y → Po p W σ (fun _ _ _ v H' => Q v H') ρ H (o d e L) → r x y H Q
def Op1 (p : Pm) (r : V → Hp → VK → Prop) (o : D → Sto → Out) : Prop := ∀ {W : Wx} {σ : L2.St} {ρ : List Addr} {L : Sto} {H : Hp} {d : D} {x : V} {Q : VK}, Rl p ρ L H → Dv p H ρ d x → Po p W σ (fun _ _ _ v H' => Q v H') ρ H (o d L) → r x H Q
def OpN (p : Pm) (r : List V → Hp → VK → Prop) (o : List D → Sto → Out) : Prop := ∀ {W : Wx} {σ : L2.St} {ρ : List Addr} {L : Sto} {H : Hp} {ds : List D} {vs : List V} {Q : VK}, Rl p ρ L H → Dvs p H ρ ds vs → Po p W σ (fun _ _ _ v H' => Q v H') ρ H (o ds L) → r vs H Q
noncomputable def m2 (o : D → D → Sto → Out) (ma mb : EM) : EM := fun S L => (ma S L).bd fun d L1 => (mb S L1).bd fun e L2 => o d e L2
noncomputable def m1 (o : D → Sto → Out) (ma : EM) : EM := fun S L => (ma S L).bd fun d L1 => o d L1
noncomputable def mN (o : List D → Sto → Out) (ms : EM) : EM := fun S L => (ms S L).row fun ds L1 => o ds L1
theorem tr_2 {r : R2} {o : D → D → Sto → Out} {ma mb : EM} (ho : Op2 p r o) {σ : L2.St} {H : Hp} {Q : VK} (h : TrE p Z W (m2 o ma mb) σ H Q) : tOp r (TrE p Z W ma) (TrE p Z W mb) σ H Q := by
  obtain ⟨ρ, S, L, a, po⟩ := h
  refine ⟨ρ, S, L, a, (Po.bd po).imp fun ρ1 L1 d x H1 e1 r1 d1 po1 => ?_⟩
  refine ⟨ρ1, S, L1, a.ext e1 r1, (Po.bd po1).imp fun ρ2 L2 e y H2 e2 r2 d2 po2 => ?_⟩
  exact ho r2 (d1.mono r1 e2) d2 po2
theorem ee_bin {op : Operator} {a b : Expr} {r : R2} {o : D → D → Sto → Out} {ma mb : EM} (hr : OpR X (binaryOp op) r) (ho : Op2 p r o) (ha : EE X p Z W a ma) (hb : EE X p Z W b mb) : EE X p Z W (.BinOp a op b pos) (m2 o ma mb) :=
  ⟨PE.imp (pe_op hr ha.pe hb.pe) fun _ _ _ h => tr_2 ho h⟩
theorem ee_un {op : UnaryOp} {a : Expr} {r : V → Hp → VK → Prop} {o : D → Sto → Out} {ma : EM} (hr : UnR X (unaryOp op) r) (ho : Op1 p r o) (ha : EE X p Z W a ma) : EE X p Z W (.UnaryOp op a pos) (m1 o ma) :=
  ⟨PE.imp (pe_un hr ha.pe) fun σ H Q h => by
    obtain ⟨ρ, S, L, a, po⟩ := h
    exact ⟨ρ, S, L, a, (Po.bd po).imp fun ρ1 L1 d x H1 e1 r1 d1 po1 => ho r1 d1 po1⟩⟩
theorem ee_cmp {op : CmpOp} {a b : Expr} {r : R2} {o : D → D → Sto → Out} {ma mb : EM} (hr : OpR X (compareOp op) r) (ho : Op2 p r o) (ha : EE X p Z W a ma) (hb : EE X p Z W b mb) (hm : behindInMarks op b = false) : EE X p Z W (.Compare a [op] [b] pos) (m2 o ma mb) :=
  ⟨PE.imp (pe_cmpR hr ha.pe hb.pe hm) fun _ _ _ h => tr_2 ho h⟩
theorem tr_test {t : TE} {m : EM} (ht : ∀ σ H Q, TrE p Z W m σ H Q → t σ H Q) {σ : L2.St} {H : Hp} {Q : Bool → Hp → Prop} (h : TrT p Z W m σ H Q) : tTest t σ H Q := by
  obtain ⟨ρ, S, L, a, po⟩ := h
  refine ht σ H _ ⟨ρ, S, L, a, po.imp fun ρ1 L1 d x H1 e1 r1 d1 q => ?_⟩
  obtain ⟨b, rfl, q⟩ := q
  cases d1
  exact ⟨b, rfl, q⟩
theorem et_cmp {op : CmpOp} {a b : Expr} {r : R2} {o : D → D → Sto → Out} {ma mb : EM} (hr : OpR X (compareOp op) r) (ho : Op2 p r o) (ha : EE X p Z W a ma) (hb : EE X p Z W b mb) (hm : behindInMarks op b = false) : ET X p Z W (.Compare a [op] [b] pos) (m2 o ma mb) :=
  ⟨PT.imp (pt_cmpR hr ha.pe hb.pe hm) fun _ _ _ h => tr_test (t := tOp r (TrE p Z W ma) (TrE p Z W mb)) (fun _ _ _ q => tr_2 ho q) h⟩

/-! ### truth -/
noncomputable def truB (d : D) (L : Sto) : Option Bool := match d with
  | .non => some false
  | .bl b => some b
  | .int i => some (!(PySem.W.Z.eqB i 0))
  | .tup ds => some (!ds.isEmpty)
  | .ref i => match L.get i with
    | some ds => some (!ds.isEmpty)
    | none => none
  | _ => none
theorem tru_of {ρ : List Addr} {L : Sto} {H : Hp} {d : D} {x : V} {b : Bool} (r : Rl p ρ L H) (h : Dv p H ρ d x) (e : truB d L = some b) : TruV p.K x H b := by
  cases h with
  | non => cases e; rfl
  | bl c => cases e; rfl
  | int i =>
    cases e
    show _ = (i != 0)
    cases q : PySem.W.Z.eqB i 0 with
    | true => rw [(PySem.W.Z.eqB_iff i 0).mp q]; rfl
    | false =>
      have : i ≠ 0 := fun z => by rw [(PySem.W.Z.eqB_iff i 0).mpr z] at q; cases q
      rw [bne_iff_ne.mpr this]; rfl
  | str l => cases e
  | ty n => cases e
  | tup h hs =>
    cases e
    exact .inr (.inl ⟨_, h, by rw [hs.isEmpty]⟩)
  | @ref i a h =>
    obtain ⟨ds, xs, e1, e2, e3⟩ := r.at_ i a h
    unfold truB at e
    simp only [e1] at e
    cases e
    exact .inl ⟨xs, SqL.of e2, by rw [e3.isEmpty]⟩
  | fn k => cases e
  | rng h => cases e
  | frl h hs => cases e
  | frk h hs => cases e
  | any v => cases e
noncomputable def mTru (m : EM) : EM := fun S L => (m S L).bd fun d L1 => match truB d L1 with
  | some b => .ok (.bl b) L1
  | none => .bad
theorem et_tru {a : Expr} {m : EM} (hK : p.K = X.K) (ha : EE X p Z W a m) (he : ∀ whole, isTrue a X.env whole = (do let v ← whole; standAt a.pos; holding [v] (truthy v)) := by intro _; rfl) : ET X p Z W a (mTru m) :=
  ⟨PT.imp (pt_truth ha.pe he) fun σ H Q h => by
    obtain ⟨ρ, S, L, a, po⟩ := h
    refine ⟨ρ, S, L, a, (Po.bd po).imp fun ρ1 L1 d x H1 e1 r1 d1 po1 => ?_⟩
    split at po1
    · rename_i b hb
      obtain ⟨c, e, q⟩ := po1 ρ1 H1 (.bl b) (Ext.refl _ _) r1 (.bl b)
      cases e
      exact ⟨b, by rw [← hK]; exact tru_of r1 d1 hb, q⟩
    · exact po1.elim⟩
/-- and, or, not as tests -/
noncomputable def mNotB (m : EM) : EM := fun S L => (m S L).bd fun d L1 => match d with
  | .bl b => .ok (.bl (!b)) L1
  | _ => .bad
noncomputable def mAndB (ma mb : EM) : EM := fun S L => (ma S L).bd fun d L1 => match d with
  | .bl b => @Bool.casesOn (fun _ => Out) b (.ok (.bl false) L1) (mb S L1)
  | _ => .bad
noncomputable def mOrB (ma mb : EM) : EM := fun S L => (ma S L).bd fun d L1 => match d with
  | .bl b => @Bool.casesOn (fun _ => Out) b (mb S L1) (.ok (.bl true) L1)
  | _ => .bad
structure EW (X : Cx) (p : Pm) (Z : L2.St → Prop) (W : Wx) (e : Expr) (m : EM) : Prop where
  pw : PW X e (TrT p Z W m)
theorem PW.imp {e : Expr} {t t' : TT} (h : PW X e t) (hi : ∀ σ H Q, t' σ H Q → t σ H Q) : PW X e t' := ⟨fun wh pins s σ H Q I hq => h.run wh pins s σ H Q I (hi σ H Q hq)⟩
theorem et_not {a : Expr} {m : EM} (ha : ET X p Z W a m) : ET X p Z W (.UnaryOp .Not a pos) (mNotB m) :=
  ⟨PT.imp (pt_not ha.pt) fun σ H Q h => by
    obtain ⟨ρ, S, L, a, po⟩ := h
    refine ⟨ρ, S, L, a, (Po.bd po).imp fun ρ1 L1 d x H1 e1 r1 d1 po1 => ?_⟩
    cases d1 with
    | bl b =>
      obtain ⟨c, e, q⟩ := po1 ρ1 H1 (.bl (!b)) (Ext.refl _ _) r1 (.bl _)
      cases e
      exact ⟨b, rfl, q⟩
    | _ => exact po1.elim⟩
theorem ew_and1 {a : Expr} {m : EM} (ha : ET X p Z W a m) : EW X p Z W (.BoolOp .And [a] pos) m := ⟨pw_and1 ha.pt⟩
theorem ew_or1 {a : Expr} {m : EM} (ha : ET X p Z W a m) : EW X p Z W (.BoolOp .Or [a] pos) m := ⟨pw_or1 ha.pt⟩
theorem ew_and {a b : Expr} {rest : List Expr} {ma mb : EM} (ha : ET X p Z W a ma) (hb : EW X p Z W (.BoolOp .And (b :: rest) pos) mb) : EW X p Z W (.BoolOp .And (a :: b :: rest) pos) (mAndB ma mb) :=
  ⟨PW.imp (pw_and ha.pt hb.pw) fun σ H Q h => by
    obtain ⟨ρ, S, L, a, po⟩ := h
    refine ⟨ρ, S, L, a, (Po.bd po).imp fun ρ1 L1 d x H1 e1 r1 d1 po1 => ?_⟩
    cases d1 with
    | bl b =>
      refine ⟨b, rfl, ?_⟩
      cases b with
      | true => rw [if_pos rfl]; exact ⟨ρ1, S, L1, a.ext e1 r1, po1⟩
      | false =>
        rw [if_neg Bool.false_ne_true]
        obtain ⟨c, e, q⟩ := po1 ρ1 H1 (.bl false) (Ext.refl _ _) r1 (.bl _)
        cases e; exact q
    | _ => exact po1.elim⟩
theorem ew_or {a b : Expr} {rest : List Expr} {ma mb : EM} (ha : ET X p Z W a ma) (hb : EW X p Z W (.BoolOp .Or (b :: rest) pos) mb) : EW X p Z W (.BoolOp .Or (a :: b :: rest) pos) (mOrB ma mb) :=
  ⟨PW.imp (pw_or ha.pt hb.pw) fun σ H Q h => by
    obtain ⟨ρ, S, L, a, po⟩ := h
    refine ⟨ρ, S, L, a, (Po.bd po).imp fun ρ1 L1 d x H1 e1 r1 d1 po1 => ?_⟩
    cases d1 with
    | bl b =>
      refine ⟨b, rfl, ?_⟩
      cases b with
      | false => rw [if_neg Bool.false_ne_true]; exact ⟨ρ1, S, L1, a.ext e1 r1, po1⟩
      | true =>
        rw [if_pos rfl]
        obtain ⟨c, e, q⟩ := po1 ρ1 H1 (.bl true) (Ext.refl _ _) r1 (.bl _)
        cases e; exact q
    | _ => exact po1.elim⟩
theorem et_w {e : Expr} {m : EM} (h : EW X p Z W e m) : ET X p Z W e m := ⟨h.pw.pt⟩
/-- and, or, not as values -/
noncomputable def mAndV (ma mb : EM) : EM := fun S L => (ma S L).bd fun d L1 => match truB d L1 with
  | some b => @Bool.casesOn (fun _ => Out) b (.ok d L1) (mb S L1)
  | none => .bad
noncomputable def mOrV (ma mb : EM) : EM := fun S L => (ma S L).bd fun d L1 => match truB d L1 with
  | some b => @Bool.casesOn (fun _ => Out) b (mb S L1) (.ok d L1)
  | none => .bad
noncomputable def mNotV (m : EM) : EM := fun S L => (m S L).bd fun d L1 => match truB d L1 with
  | some b => .ok (.bl (!b)) L1
  | none => .bad
theorem ee_one {op : BoolOp} {a : Expr} {m : EM} (ha : EE X p Z W a m) : EE X p Z W (.BoolOp op [a] pos) m := ⟨pe_one ha.pe⟩
theorem ee_and {a b : Expr} {rest : List Expr} {ma mb : EM} (hK : p.K = X.K) (ha : EE X p Z W a ma) (hb : EE X p Z W (.BoolOp .And (b :: rest) pos) mb) : EE X p Z W (.BoolOp .And (a :: b :: rest) pos) (mAndV ma mb) :=
  ⟨PE.imp (pe_andT ha.pe hb.pe) fun σ H Q h => by
    obtain ⟨ρ, S, L, a, po⟩ := h
    refine ⟨ρ, S, L, a, (Po.bd po).imp fun ρ1 L1 d x H1 e1 r1 d1 po1 => ?_⟩
    split at po1
    · rename_i b hb
      refine ⟨b, by rw [← hK]; exact tru_of r1 d1 hb, ?_⟩
      cases b with
      | true => rw [if_pos rfl]; exact ⟨ρ1, S, L1, a.ext e1 r1, po1⟩
      | false => rw [if_neg Bool.false_ne_true]; exact po1 ρ1 H1 x (Ext.refl _ _) r1 d1
    · exact po1.elim⟩
theorem ee_or {a b : Expr} {rest : List Expr} {ma mb : EM} (hK : p.K = X.K) (ha : EE X p Z W a ma) (hb : EE X p Z W (.BoolOp .Or (b :: rest) pos) mb) : EE X p Z W (.BoolOp .Or (a :: b :: rest) pos) (mOrV ma mb) :=
  ⟨PE.imp (pe_orT ha.pe hb.pe) fun σ H Q h => by
    obtain ⟨ρ, S, L, a, po⟩ := h
    refine ⟨ρ, S, L, a, (Po.bd po).imp fun ρ1 L1 d x H1 e1 r1 d1 po1 => ?_⟩
    split at po1
    · rename_i b hb
      refine ⟨b, by rw [← hK]; exact tru_of r1 d1 hb, ?_⟩
      cases b with
      | false => rw [if_neg Bool.false_ne_true]; exact ⟨ρ1, S, L1, a.ext e1 r1, po1⟩
      | true => rw [if_pos rfl]; exact po1 ρ1 H1 x (Ext.refl _ _) r1 d1
    · exact po1.elim⟩
theorem ee_not {a : Expr} {m : EM} (hK : p.K = X.K) (ha : EE X p Z W a m) : EE X p Z W (.UnaryOp .Not a pos) (mNotV m) :=
  ⟨PE.imp (pe_notT ha.pe) fun σ H Q h => by
    obtain ⟨ρ, S, L, a, po⟩ := h
    refine ⟨ρ, S, L, a, (Po.bd po).imp fun ρ1 L1 d x H1 e1 r1 d1 po1 => ?_⟩
    split at po1
    · rename_i b hb
      exact ⟨b, by rw [← hK]; exact tru_of r1 d1 hb, po1 ρ1 H1 _ (Ext.refl _ _) r1 (.bl _)⟩
    · exact po1.elim⟩
noncomputable def mIf (mc ma mb : EM) : EM := fun S L => (mc S L).bd fun d L1 => match d with
  | .bl b => @Bool.casesOn (fun _ => Out) b (mb S L1) (ma S L1)
  | _ => .bad
theorem ee_if {c a b : Expr} {mc ma mb : EM} (hc : ET X p Z W c mc) (ha : EE X p Z W a ma) (hb : EE X p Z W b mb) : EE X p Z W (.IfExp c a b pos) (mIf mc ma mb) :=
  ⟨PE.imp (pe_ifExp hc.pt ha.pe hb.pe) fun σ H Q h => by
    obtain ⟨ρ, S, L, a, po⟩ := h
    refine ⟨ρ, S, L, a, (Po.bd po).imp fun ρ1 L1 d x H1 e1 r1 d1 po1 => ?_⟩
    cases d1 with
    | bl b =>
      refine ⟨b, rfl, ?_⟩
      cases b with
      | true => rw [if_pos rfl]; exact ⟨ρ1, S, L1, a.ext e1 r1, po1⟩
      | false => rw [if_neg Bool.false_ne_true]; exact ⟨ρ1, S, L1, a.ext e1 r1, po1⟩
    | _ => exact po1.elim⟩

/-! ### rows of values, displays -/
def mNil : EM := fun _ L => .ok (.tup []) L
noncomputable def mCons (ma mr : EM) : EM := fun S L => (ma S L).bd fun d L1 => (mr S L1).row fun ds L2 => .ok (.tup (d :: ds)) L2
theorem ea_nil : EA X p Z W [] mNil := ⟨PA.imp pa_nil fun σ H Q h => by
  obtain ⟨ρ, S, L, a, po⟩ := h
  exact po ρ H [] (Ext.refl _ _) a.rl .nil⟩
theorem tr_cons {ma mr : EM} {σ : L2.St} {H : Hp} {Q : List V → Hp → Prop} (h : TrA p Z W (mCons ma mr) σ H Q) : tCons (TrE p Z W ma) (TrA p Z W mr) σ H Q := by
  obtain ⟨ρ, S, L, a, po⟩ := h
  have po' : Po p W σ (fun ρ1 L1 d x H1 => Pa p W σ (fun ρ2 L2 ds xs H2 => Pa p W σ (fun _ _ _ vs H' => Q vs H') ρ2 H2 (.ok (.tup (d :: ds)) L2)) ρ1 H1 (mr S L1)) ρ H (ma S L) := by
    unfold mCons at po
    cases hm : ma S L with
    | ok d L1 =>
      rw [hm] at po
      intro ρ1 H1 v x r dv
      have po1 : Pa p W σ (fun _ _ _ vs H' => Q vs H') ρ H ((mr S L1).row fun ds L2 => .ok (.tup (d :: ds)) L2) := po
      cases hr : mr S L1 with
      | ok e L2 =>
        rw [hr] at po1
        cases e with
        | tup ds => exact fun ρ2 H2 vs x2 r2 dvs => Pa.ext (x.trans x2) po1
        | _ => exact po1
      | err c L2 => rw [hr] at po1; exact fun ρ2 H2 x2 r2 => po1 ρ2 H2 (x.trans x2) r2
      | bad => rw [hr] at po1; exact po1
    | err c L1 => rw [hm] at po; exact po
    | bad => rw [hm] at po; exact po
  refine ⟨ρ, S, L, a, po'.imp fun ρ1 L1 d x H1 e1 r1 d1 pa => ?_⟩
  refine ⟨ρ1, S, L1, a.ext e1 r1, ?_⟩
  cases hr : mr S L1 with
  | ok e L2 =>
    rw [hr] at pa
    cases e with
    | tup ds => exact fun ρ2 H2 vs x2 r2 dvs => (pa ρ2 H2 vs x2 r2 dvs) ρ2 H2 (x :: vs) (Ext.refl _ _) r2 (.cons (d1.mono r1 x2) dvs)
    | _ => exact pa
  | err c L2 => rw [hr] at pa; exact pa
  | bad => rw [hr] at pa; exact pa
theorem ea_cons {e : Expr} {es : List Expr} {ma mr : EM} (ha : EE X p Z W e ma) (hr : EA X p Z W es mr) (hs : starEach (e :: es) X.env = (false, eval e X.env) :: starEach es X.env := by rfl) : EA X p Z W (e :: es) (mCons ma mr) :=
  ⟨PA.imp (pa_cons ha.pe hr.pa hs) fun _ _ _ h => tr_cons h⟩
noncomputable def oTup (ds : List D) (L : Sto) : Out := iff_ (short ds most) (.ok (.tup ds) L) .bad
noncomputable def oLst (ds : List D) (L : Sto) : Out := iff_ (short ds most) (L.newK ds fun i L' => .ok (.ref i) L') .bad
theorem iff_t {b : Bool} {t : Out} {W' : Wx} {σ : L2.St} {ρ : List Addr} {H : Hp} {Q : List Addr → Sto → D → V → Hp → Prop} (h : Po p W' σ Q ρ H (iff_ b t .bad)) : b = true ∧ Po p W' σ Q ρ H t := by
  cases b with
  | true => exact ⟨rfl, h⟩
  | false => exact h.elim
/-- the heap's new tuple -/
theorem po_tup {W' : Wx} {σ : L2.St} {ρ : List Addr} {L : Sto} {H : Hp} {ds : List D} {xs : List V} {Q : VK} (r : Rl p ρ L H) (hd : Dvs p H ρ ds xs) (h : Po p W' σ (fun _ _ _ v H' => Q v H') ρ H (.ok (.tup ds) L)) : ∀ q, H q = none → Q (.ref q) (upd H q (.tup xs)) := fun q hq =>
  h ρ _ (.ref q) (Ext.fresh _ hq) (r.fresh _ hq) (.tup (SqT.of upd_same) (hd.mono r (Ext.fresh _ hq)))
/-- the heap's new list -/
theorem po_lst {W' : Wx} {σ : L2.St} {ρ : List Addr} {L : Sto} {H : Hp} {ds : List D} {xs : List V} {Q : VK} (r : Rl p ρ L H) (hd : Dvs p H ρ ds xs) (h : Po p W' σ (fun _ _ _ v H' => Q v H') ρ H (L.newK ds fun i L' => .ok (.ref i) L')) : ∀ q, H q = none → Q (.ref q) (upd H q (.lst xs)) := fun q hq => by
  rcases newK_or L ds (fun i L' => .ok (.ref i) L') with e | ⟨L', e, hn, hg⟩
  · rw [e] at h; exact h.elim
  · rw [e] at h
    obtain ⟨x, r', hl⟩ := r.new hq hd hn hg
    exact h _ _ (.ref q) x r' (.ref hl)
theorem ee_tup {es : List Expr} {ms : EM} {x1 : Nat} (h : EA X p Z W es ms) : EE X p Z W (.Tuple es x1 pos) (mN oTup ms) :=
  ⟨PE.imp (pe_tup h.pa) fun σ H Q h => by
    obtain ⟨ρ, S, L, a, po⟩ := h
    have pa := Pa.row po
    refine ⟨ρ, S, L, a, ?_⟩
    cases hm : ms S L with
    | ok d L1 =>
      rw [hm] at pa
      cases d with
      | tup ds =>
        intro ρ1 H1 vs e1 r1 d1
        obtain ⟨hs, po1⟩ := iff_t (pa ρ1 H1 vs e1 r1 d1)
        exact ⟨by rw [← d1.length]; exact Nat.le_trans (short_le hs) most_line, po_tup r1 d1 po1⟩
      | _ => exact pa
    | err c L1 => rw [hm] at pa; exact pa
    | bad => rw [hm] at pa; exact pa⟩
theorem ee_lst {es : List Expr} {ms : EM} (h : EA X p Z W es ms) : EE X p Z W (.List es pos) (mN oLst ms) :=
  ⟨PE.imp (pe_lst h.pa) fun σ H Q h => by
    obtain ⟨ρ, S, L, a, po⟩ := h
    have pa := Pa.row po
    refine ⟨ρ, S, L, a, ?_⟩
    cases hm : ms S L with
    | ok d L1 =>
      rw [hm] at pa
      cases d with
      | tup ds =>
        intro ρ1 H1 vs e1 r1 d1
        obtain ⟨hs, po1⟩ := iff_t (pa ρ1 H1 vs e1 r1 d1)
        exact ⟨by rw [← d1.length]; exact Nat.le_trans (short_le hs) most_line, po_lst r1 d1 po1⟩
      | _ => exact pa
    | err c L1 => rw [hm] at pa; exact pa
    | bad => rw [hm] at pa; exact pa⟩
/-- a row of values through a rule by values -/
theorem tr_n {r : List V → Hp → VK → Prop} {o : List D → Sto → Out} {ms : EM} (ho : OpN p r o) {σ : L2.St} {H : Hp} {Q : VK} (h : TrE p Z W (mN o ms) σ H Q) : tCB r (TrA p Z W ms) σ H Q := by
  obtain ⟨ρ, S, L, a, po⟩ := h
  have pa := Pa.row po
  refine ⟨ρ, S, L, a, ?_⟩
  cases hm : ms S L with
  | ok d L1 =>
    rw [hm] at pa
    cases d with
    | tup ds => exact fun ρ1 H1 vs e1 r1 d1 => ho r1 d1 (pa ρ1 H1 vs e1 r1 d1)
    | _ => exact pa
  | err c L1 => rw [hm] at pa; exact pa
  | bad => rw [hm] at pa; exact pa
theorem ee_blt {x : Str} {pn : Pos} {e : Expr} {es : List Expr} {id : String} {r : List V → Hp → VK → Prop} {o : List D → Sto → Out} {ms : EM} (hc : CallR X (.builtin id) r) (ho : OpN p r o) (hm : X.mg x = none) (hv : bootBuiltins x = some (.builtin id)) (ha : EA X p Z W (e :: es) ms)
    (hg : Gl X x := by rfl) (hn : x ≠ "__name__" := by decide) (hdb : (x == ("__debug__" : Str)) = false := by decide)
    (he : starEach (e :: es) X.env = (false, eval e X.env) :: starEach es X.env := by rfl) (hpl : (backTo pos (starEach es X.env)).any (·.1) = false := by rfl) : EE X p Z W (.Call (.Name x pn) (e :: es) [] pos) (mN o ms) :=
  ⟨PE.imp (pe_callB hc hg hm hv ha.pa hn hdb he hpl) fun _ _ _ h => tr_n ho h⟩
theorem ee_bty {x : Str} {pn : Pos} {e : Expr} {es : List Expr} {T : String} {r : List V → Hp → VK → Prop} {o : List D → Sto → Out} {ms : EM} (hc : CallR X (.type T) r) (ho : OpN p r o) (hm : X.mg x = none) (hv : bootBuiltins x = some (.type T)) (ha : EA X p Z W (e :: es) ms)
    (hg : Gl X x := by rfl) (hn : x ≠ "__name__" := by decide) (hdb : (x == ("__debug__" : Str)) = false := by decide)
    (he : starEach (e :: es) X.env = (false, eval e X.env) :: starEach es X.env := by rfl) (hpl : (backTo pos (starEach es X.env)).any (·.1) = false := by rfl) : EE X p Z W (.Call (.Name x pn) (e :: es) [] pos) (mN o ms) :=
  ⟨PE.imp (pe_callTy hc hg hm hv ha.pa hn hdb he hpl) fun _ _ _ h => tr_n ho h⟩
theorem ee_bfun {x : Str} {pn : Pos} {e : Expr} {es : List Expr} {id : String} {r : List V → Hp → VK → Prop} {o : List D → Sto → Out} {ms : EM} (hc : CallR X (.builtin id) r) (ho : OpN p r o) (hm : X.mg x = some (.builtin id)) (ha : EA X p Z W (e :: es) ms)
    (hg : Gl X x := by rfl) (hdb : (x == ("__debug__" : Str)) = false := by decide)
    (he : starEach (e :: es) X.env = (false, eval e X.env) :: starEach es X.env := by rfl) (hpl : (backTo pos (starEach es X.env)).any (·.1) = false := by rfl) : EE X p Z W (.Call (.Name x pn) (e :: es) [] pos) (mN o ms) :=
  ⟨PE.imp (pe_callBfun hc hg hm ha.pa hdb he hpl) fun _ _ _ h => tr_n ho h⟩
theorem ee_ix {a b : Expr} {r : R2} {o : D → D → Sto → Out} {ma mb : EM} (hr : IxR X r) (ho : Op2 p r o) (ha : EE X p Z W a ma) (hb : EE X p Z W b mb) (hs : PlainIx b := by exact fun _ _ => rfl) : EE X p Z W (.Subscript a b pos) (m2 o ma mb) :=
  ⟨PE.imp (pe_ix hr ha.pe hb.pe hs) fun _ _ _ h => tr_2 ho h⟩
end
end Mr

namespace Mr
open PySem PySem.Spec PyProof.Rows L2

/-! ### own rules for what the layer lacks: t[::-1], t * 0, t * 1, lcm -/
section
variable {prog : Program} {w : World} {A : Around} {E : Value → Shared → Prop} {s : Shared}
theorem places_back (n : Nat) : Builtin.Slice.slicePlaces ((n : Int) - 1) (-1) (-1) = n := by
  unfold Builtin.Slice.slicePlaces
  have h1 : ¬ ((-1 : Int) > 0) := by omega
  simp only [h1, if_false]
  split
  · rename_i h
    have : (((n : Int) - 1 - -1 - 1) / - -1 + 1).toNat = n := by
      rw [Int.neg_neg, Int.ediv_one]; omega
    exact this
  · omega
theorem adjust_back (n : Nat) : Builtin.Slice.sliceAdjust none none (-1) (n : Int) = ((n : Int) - 1, -1) := by
  unfold Builtin.Slice.sliceAdjust
  rfl
theorem applied_back {sl : Addr} {t : Tok} {n : Nat} {Q : Int × Int × Nat → Shared → Prop} (hs : s.heap.IsSliceOf sl .none .none (.int (-1) t)) (h : Q ((n : Int) - 1, -1, n) s) :
    wpAny (model prog w) A (Builtin.Slice.sliceApplied (.ref sl) (pure (n : Int))) Q E s := by
  obtain ⟨os, hos, hcs, hds⟩ := id hs
  unfold Builtin.Slice.sliceApplied Builtin.Slice.sliceFields
  refine wpAny_bind (wpAny_bind (wpAny_field hos hds (x := .none) rfl (wpAny_bind (wpAny_field hos hds (x := .none) rfl (wpAny_bind (wpAny_field hos hds (x := .int (-1) t) rfl (wpAny_pure ?_)))))))
  refine wpAny_bind (slicePart_int ?_)
  show wpAny _ _ (if ((-1 : Int) == 0) = true then _ else _) _ _ s
  rw [if_neg (by decide)]
  refine wpAny_bind (slicePart_none (wpAny_bind (slicePart_none (wpAny_bind (wpAny_pure ?_)))))
  show wpAny _ _ (match Builtin.Slice.sliceAdjust none none (-1) (n : Int) with | (lo, hi) => pure (lo, (-1 : Int), Builtin.Slice.slicePlaces lo hi (-1))) _ _ s
  rw [adjust_back n]
  show wpAny _ _ (pure ((n : Int) - 1, (-1 : Int), Builtin.Slice.slicePlaces ((n : Int) - 1) (-1) (-1))) _ _ s
  rw [places_back]
  exact wpAny_pure h
theorem pick_back (xs : Array Value) : ((List.range xs.size).filterMap fun (m : Nat) => xs[((xs.size : Int) - 1 + (m : Int) * -1).toNat]?).toArray = xs.toList.reverse.toArray := by
  have e : (fun (m : Nat) => xs[((xs.size : Int) - 1 + (m : Int) * -1).toNat]?) = (fun k => xs[k]?) ∘ fun k => xs.size - 1 - k := by
    funext m
    have : ((xs.size : Int) - 1 + (m : Int) * -1).toNat = xs.size - 1 - m := by omega
    rw [this]; rfl
  rw [e, ← List.filterMap_map, PySem.W.krv_range, List.filterMap_reverse, PySem.W.krv_all]
theorem getItem_back {t sl : Addr} {items : Array Value} {u : Tok} {Q : Value → Shared → Prop} (ht : IsTup s.heap t items) (hs : s.heap.IsSliceOf sl .none .none (.int (-1) u)) (hsz : items.size ≤ sizeLine)
    (h : Q (.ref s.heap.objs.size) { s with heap := s.heap.push { cls := .type "tuple", data := .seq items.toList.reverse.toArray } }) : wpAny (model prog w) A (getItem (.ref t) (.ref sl)) Q E s := by
  have hfit : sizeOk (.seq items.toList.reverse.toArray) := by
    show items.toList.reverse.toArray.size ≤ sizeLine
    rw [List.size_toArray, List.length_reverse, Array.length_toList]; exact hsz
  obtain ⟨os, hos, hcs, hds⟩ := id hs
  have hT : s.TypeIs (.ref sl) "slice" := ⟨os, hos, hcs⟩
  unfold getItem
  try with_reducible refine wpAny_holding ?_
  first | refine wpAny_bind (wpAny_pure ?_) | skip
  refine wpAny_bind (wpAny_sequenceKey ht.typeIs (by decide) ?_)
  refine wpAny_bind (wpAny_callSpecial?_slot (name := Str.ofString "__getitem__") ht.typeIs PyProof.Rows.slot_tuple_getitem
    (wpAny_call_entry PyProof.Rows.slot_tuple_getitem ht.typeIs entry_tuple_getitem ?_ (args_tuple_getitem _ _)))
  show wpAny _ _ (Builtin.Tuple.tupleItemsOf (.ref t) >>= _) _ _ s
  refine wpAny_bind (tupleItemsOf_ ht ?_)
  refine wpAny_bind (wpAny_typeOf hT ?_)
  rw [if_pos (by decide)]
  refine wpAny_bind (applied_back hs ?_)
  have hno : ¬ (((((items.size : Int) - 1) == 0 && (-1 : Int) == 1) && items.size == items.size) = true) := by
    intro q
    rw [Bool.and_eq_true, Bool.and_eq_true] at q
    exact absurd (eq_of_beq q.1.2) (by decide)
  show wpAny _ _ (if ((((items.size : Int) - 1) == 0 && (-1 : Int) == 1) && items.size == items.size) = true then _ else _) _ _ s
  rw [if_neg hno, pick_back]
  first
    | exact wpAny_bind (m := Builtin.Tuple.tupleExact _) (wpAny_newObj_type (wpAny_pure ⟨_, rfl, wpAny_pure h⟩) hfit)
    | exact wpAny_bind (m := Builtin.Tuple.tupleExact _) (wpAny_newObj_type (wpAny_bind (wpAny_pure (wpAny_pure ⟨_, rfl, wpAny_pure h⟩))) hfit)
    | exact wpAny_bind (wpAny_bind (m := Builtin.Tuple.tupleExact _) (wpAny_newObj_type (wpAny_pure (wpAny_pure ⟨_, rfl, wpAny_pure h⟩)) hfit))
    | exact wpAny_bind (wpAny_bind (m := Builtin.Tuple.tupleExact _) (wpAny_newObj_type (wpAny_pure ⟨_, rfl, wpAny_pure h⟩) hfit))
end
section
variable {X : Cx}
def tBackT (K : PySem.W.Frag) (te : TE) : TE := fun σ H Q => te σ H fun x H1 => ∃ a xs, x = .ref a ∧ SqT K H1 a xs ∧ ∀ q, H1 q = none → Q (.ref q) (upd H1 q (.tup xs.reverse))
theorem pe_backT {e : Expr} {te : TE} {k : Nat} {p1 p2 p3 pos : Pos} (he : PE X e te) : PE X (.Subscript e (.Slice none none (some (.UnaryOp .USub (.Constant (.int 1) k p1) p2)) p3) pos) (tBackT X.K te) := by
  refine ⟨fun pins s σ H Q I h => ?_⟩
  refine Subscript_ (thn (he.run pins s σ H _ I h) fun v s1 ⟨x, H1, I1, r1, q1⟩ => ?_)
  obtain ⟨a, xs, rfl, hx, q⟩ := q1
  cases r1
  refine wpAny_Slice (thn (po_none.run pins s1 σ H1 (fun o H2 => o = none ∧ H2 = H1) I1 ⟨rfl, rfl⟩) fun vl s2 ⟨l, H2, I2, pl, el, e2⟩ => ?_)
  subst el e2
  refine thn (po_none.run pins s2 σ H2 (fun o H3 => o = none ∧ H3 = H2) I2 ⟨rfl, rfl⟩) fun vu s3 ⟨u, H3, I3, pu, eu, e3⟩ => ?_
  subst eu e3
  refine thn ((po_some (pe_un un_neg pe_int)).run pins s3 σ H3 (fun o H4 => o = some (-1) ∧ H4 = H3) I3 ⟨1, rfl, -1, rfl, rfl, rfl⟩) fun vs s4 ⟨o, H4, I4, pst, eo, e4⟩ => ?_
  subst eo e4
  have I5 : Inv X pins σ H4 { s4 with heap := s4.heap.push { cls := .type "slice", data := .fields #[vl, vu, vs] } } := I4.kept (t' := s4.toks) fun b ob q => Heap.get?_push_of_some _ q
  obtain ⟨its, r, ht, hz⟩ := I5.tuple hx
  have hlen := r.length
  cases pl
  cases pu
  cases pst with
  | int i t =>
    show wpAny (model X.prog X.w) X.A (subscriptTail e (.Slice none none (some (.UnaryOp .USub (.Constant (.int 1) k p1) p2)) p3) (.ref a) (.ref s4.heap.objs.size)) (EP X pins σ Q) X.xe _
    refine tail_any (ops := [.ref a, .ref s4.heap.objs.size]) ht.typeIs (PyProof.Rows.slot_tuple_getitem.lookup) ?_ (by with_unfolding_all rfl)
    refine getItem_back ht (Heap.IsSliceOf.new _ _ _ _) (by rw [List.size_toArray]; omega) ?_
    refine ⟨.ref _, _, I5.laid (t' := s4.toks) (o := .tup xs.reverse) (fun b ob q => Heap.get?_push_of_some _ q) (Nat.le_refl _) ?_, rfl, q _ (I5.hok.fresh (Nat.le_refl _))⟩
    exact ⟨by rw [List.length_reverse]; exact hz, _, r.reverse, IsTup.new _ _⟩
end
theorem tmul_same (l : Addr) (items : Array Value) (n : Nat) (dd : Option Addr) (sl : Array (Option Value)) (x : Int) (u : Tok) (c0 : (decide (x < -(2 ^ 63)) || decide (x ≥ 2 ^ 63)) = false) (c1 : (items.isEmpty || x == 1) = true) :
    Meets (Builtin.«tuple.__mul__» ⟨[.ref l, .int x u], []⟩) (fun _ R s => s.heap.get? l = some { cls := .type "tuple", dict := dd, data := .seq items n, slots := sl } ∧ R (.ok (.ret (Value.ref l))) s) :=
  .of_wp fun prog w A R s h => by
    obtain ⟨hp, g, d, tk, os⟩ := s
    obtain ⟨hl, h⟩ := h
    have f1 := AutoSeq1.idx_int
    wp_walk using wpAny_loadPart' hl
    rw [if_neg (show ¬ (decide (x < -(2 ^ 63)) || decide (x ≥ 2 ^ 63)) = true by rw [c0]; exact Bool.false_ne_true)]
    wp_walk using wpAny_loadPart' hl
    exact ⟨_, rfl, h⟩
theorem tmul_none (l : Addr) (items : Array Value) (n : Nat) (dd : Option Addr) (sl : Array (Option Value)) (x : Int) (u : Tok) (c0 : (decide (x < -(2 ^ 63)) || decide (x ≥ 2 ^ 63)) = false) (c1 : (items.isEmpty || x == 1) = false) (c2 : (decide (x ≤ 0) || items.isEmpty) = true) :
    Meets (Builtin.«tuple.__mul__» ⟨[.ref l, .int x u], []⟩) (fun _ R s => s.heap.get? l = some { cls := .type "tuple", dict := dd, data := .seq items n, slots := sl } ∧
      R (.ok (.ret (Value.ref s.heap.objs.size))) { s with heap := s.heap.push { cls := Value.type "tuple", data := Data.seq #[] }, toks := s.toks }) :=
  .of_wp fun prog w A R s h => by
    obtain ⟨hp, g, d, tk, os⟩ := s
    obtain ⟨hl, h⟩ := h
    have f1 := AutoSeq1.idx_int
    wp_walk using wpAny_loadPart' hl
    rw [if_neg (show ¬ (decide (x < -(2 ^ 63)) || decide (x ≥ 2 ^ 63)) = true by rw [c0]; exact Bool.false_ne_true)]
    wp_walk using wpAny_loadPart' hl
    exact ⟨_, rfl, h⟩
section
variable {X : Cx}
/-- t * k for k below 2 -/
def rRepS (K : PySem.W.Frag) : R2 := fun x y H Q => ∃ l k xs, x = .ref l ∧ y = .int k ∧ SqT K H l xs ∧ -1000 ≤ k ∧ k ≤ 1 ∧ ((xs = [] ∨ k = 1) → Q (.ref l) H) ∧ (¬ (xs = [] ∨ k = 1) → ∀ q, H q = none → Q (.ref q) (upd H q (.tup [])))
theorem op_repS : OpR X (binaryOp .Mult) (rRepS X.K) := by
  intro pins s σ H x y v u Q I rx ry h
  obtain ⟨l, k, xs, rfl, rfl, hT, h1, h2, qs, qn⟩ := h
  cases rx
  obtain ⟨t, rfl⟩ := ry
  obtain ⟨its, r, ⟨⟨cls, dd, data, sl⟩, ho, hc, n, hd⟩, hs⟩ := I.tuple hT
  simp only at hc hd
  subst hc hd
  have c0 : (decide (k < -(2 ^ 63)) || decide (k ≥ 2 ^ 63)) = false := by
    rw [decide_eq_false (by omega), decide_eq_false (by omega)] <;> rfl
  have hi : its.toArray.isEmpty = xs.isEmpty := by
    cases r <;> rfl
  by_cases c : xs = [] ∨ k = 1
  · have c1 : (its.toArray.isEmpty || k == 1) = true := by
      rw [hi]
      rcases c with e | e
      · rw [e]; rfl
      · rw [e, Bool.or_eq_true]; exact .inr rfl
    refine wpAny_binaryOp_repeat_ref (T := "tuple") (U := "int") (by decide) ⟨_, ho, rfl⟩ (fun s' => typeIs_int s' k t) noFill_tuple_mul F.fills_int_mul F.slot_int_rmul repeat_tuple F.slot_int_index.lookup
      (call_meets F.slot_int_rmul (typeIs_int s k t) F.entry_int_rmul (F.args_int_rmul_2 _ _) (int_rmul_tuple k t l its.toArray n dd sl)
        ⟨ho, rfl, ⟨_, ho, rfl⟩, call_meets F.slot_tuple_mul ⟨_, ho, rfl⟩ F.entry_tuple_mul (F.args_tuple_mul_2 _ _) (tmul_same l its.toArray n dd sl k t c0 c1) ⟨ho, ?_⟩⟩)
    exact ⟨.ref l, H, I, rfl, qs c⟩
  · have c1 : (its.toArray.isEmpty || k == 1) = false := by
      rw [hi, Bool.or_eq_false_iff]
      refine ⟨?_, beq_eq_false_iff_ne.mpr fun e => c (.inr e)⟩
      cases xs with
      | nil => exact absurd (.inl rfl) c
      | cons _ _ => rfl
    have hk : k ≤ 0 := by
      have : k ≠ 1 := fun e => c (.inr e)
      omega
    have c2 : (decide (k ≤ 0) || its.toArray.isEmpty) = true := by rw [decide_eq_true hk]; rfl
    refine wpAny_binaryOp_repeat_ref (T := "tuple") (U := "int") (by decide) ⟨_, ho, rfl⟩ (fun s' => typeIs_int s' k t) noFill_tuple_mul F.fills_int_mul F.slot_int_rmul repeat_tuple F.slot_int_index.lookup
      (call_meets F.slot_int_rmul (typeIs_int s k t) F.entry_int_rmul (F.args_int_rmul_2 _ _) (int_rmul_tuple k t l its.toArray n dd sl)
        ⟨ho, rfl, ⟨_, ho, rfl⟩, call_meets F.slot_tuple_mul ⟨_, ho, rfl⟩ F.entry_tuple_mul (F.args_tuple_mul_2 _ _) (tmul_none l its.toArray n dd sl k t c0 c1 c2) ⟨ho, ?_⟩⟩)
    refine ⟨.ref s.heap.objs.size, _, I.laid (t' := s.toks) (o := .tup []) (fun b ob q => Heap.get?_push_of_some _ q) (Nat.le_refl _) ?_, rfl, qn c _ (I.hok.fresh (Nat.le_refl _))⟩
    exact ⟨Nat.zero_le _, [], .nil, IsTup.new _ _⟩
/-- lcm -/
def rLcm : List V → Hp → VK → Prop := fun vs H Q => ∃ a b : Int, vs = [.int a, .int b] ∧ a.natAbs.log2 + b.natAbs.log2 < 10000 ∧ Q (.int ((Nat.lcm a.natAbs b.natAbs : Nat) : Int)) H
theorem log_max (a b : Nat) : (max a b).log2 ≤ a.log2 + b.log2 := by
  by_cases h : a ≤ b
  · rw [Nat.max_eq_right h]; omega
  · rw [Nat.max_eq_left (by omega)]; omega
theorem cr_lcm : CallR X (.builtin "math.lcm") rLcm := by
  intro pins s σ H vs us Q I r h
  obtain ⟨a, b, rfl, hl, q⟩ := h
  obtain ⟨t, u, rfl⟩ := Vals.int2 r
  have h1 : (max 1 a.natAbs).log2 ≤ a.natAbs.log2 := by
    have := log_max 1 a.natAbs
    have e : (1 : Nat).log2 = 0 := by decide
    omega
  have h2 := log_max a.natAbs b.natAbs
  have h3 : (((Nat.lcm 1 a.natAbs).lcm b.natAbs : Nat) : Int).natAbs.log2 < bitsLine := by
    rw [Int.natAbs_natCast, PySem.W.mc_lcm_one]
    refine Nat.lt_of_le_of_lt (m := 20002) ?_ (by decide)
    have hm := PySem.W.mc_lcm_le a.natAbs b.natAbs
    by_cases z : a.natAbs.lcm b.natAbs = 0
    · rw [z]; decide
    · have e1 : a.natAbs < 2 ^ (a.natAbs.log2 + 1) := Nat.lt_log2_self
      have e2 : b.natAbs < 2 ^ (b.natAbs.log2 + 1) := Nat.lt_log2_self
      have e3 : a.natAbs * b.natAbs < 2 ^ (a.natAbs.log2 + 1) * 2 ^ (b.natAbs.log2 + 1) := Nat.mul_lt_mul'' e1 e2
      rw [← Nat.pow_add] at e3
      have e4 : (a.natAbs.lcm b.natAbs).log2 < a.natAbs.log2 + 1 + (b.natAbs.log2 + 1) := (Nat.log2_lt z).mpr (Nat.lt_of_le_of_lt hm e3)
      omega
  have q' : Q (.int (((Nat.lcm 1 a.natAbs).lcm b.natAbs : Nat) : Int)) H := by rw [PySem.W.mc_lcm_one]; exact q
  exact call_function_meets PySem.W.MGF.kind_lcm PySem.W.MGF.plain_lcm PySem.W.MGF.entry_lcm (PySem.W.MGF.args_lcm _ _) (PySem.W.mg_run_lcm a t b u (by omega) (by omega) h3).meets ⟨.int _, H, I.tok _, ⟨_, rfl⟩, q'⟩
end
end Mr

namespace Mr
open PySem PySem.Spec PyProof.Rows L2
noncomputable def appK {α : Type} (xs ys : List α) (k : List α → Out) : Out := @List.rec α (fun _ => (List α → Out) → Out) (fun k => k ys) (fun x _ ih k => ih fun zs => k (x :: zs)) xs k
theorem appK_eq {α : Type} (xs ys : List α) (k : List α → Out) : appK xs ys k = k (xs ++ ys) := by
  induction xs generalizing k with
  | nil => rfl
  | cons x xs ih => exact ih fun zs => k (x :: zs)
section
variable {p : Pm} {W : Wx} {σ : L2.St} {ρ : List Addr} {L : Sto} {H : Hp} {Q : VK}
theorem po_ok {d : D} {v : V} (h : Po p W σ (fun _ _ _ v H' => Q v H') ρ H (.ok d L)) (r : Rl p ρ L H) (hd : Dv p H ρ d v) : Q v H := h ρ H v (Ext.refl _ _) r hd
/-- the list at i -/
theorem Rl.list {i : Nat} {a : Addr} (r : Rl p ρ L H) (h : ρ[i]? = some a) : ∃ ds xs, L.get i = some ds ∧ H a = some (.lst xs) ∧ Dvs p H ρ ds xs := r.at_ i a h
end
section
variable {p : Pm}
noncomputable def oAdd (d e : D) (L : Sto) : Out := match d, e with
  | .int i, .int j => fI (Int.add i j) fun k => .ok (.int k) L
  | .tup xs, .tup ys => iff_ (short xs most) (iff_ (short ys most) (appK xs ys fun zs => .ok (.tup zs) L) .bad) .bad
  | .ref i, .ref j => match L.get i, L.get j with
    | some xs, some ys => iff_ (short xs most) (iff_ (short ys most) (appK xs ys fun zs => L.newK zs fun k L' => .ok (.ref k) L') .bad) .bad
    | _, _ => .bad
  | _, _ => .bad
theorem two_most {α β : Type} {xs : List α} {ys : List β} (h1 : short xs most = true) (h2 : short ys most = true) : xs.length + ys.length ≤ sizeLine := by
  have a := short_le h1
  have b := short_le h2
  rw [sizeLine_eq]
  have : most = 100000 := rfl
  omega
theorem op2_add : Op2 p (fun x y H Q => rI0 (fun i j => .int (i + j)) x y H Q ∨ (rCatA p.K x y H Q ∨ rCat x y H Q)) oAdd := by
  intro W σ ρ L H d e x y Q r hd he po
  cases hd with
  | int i =>
    cases he with
    | int j =>
      have po1 : Po p W σ (fun _ _ _ v H' => Q v H') ρ H (fI (i + j) fun k => .ok (.int k) L) := po
      rw [fI_eq] at po1
      exact .inl ⟨i, j, rfl, rfl, po_ok po1 r (.int _)⟩
    | _ => exact po.elim
  | @tup a ds xs h hs =>
    cases he with
    | @tup b es ys h' hs' =>
      obtain ⟨c1, po1⟩ := iff_t (show Po p W σ (fun _ _ _ v H' => Q v H') ρ H (iff_ (short ds most) (iff_ (short es most) (appK ds es fun zs => .ok (.tup zs) L) .bad) .bad) from po)
      obtain ⟨c2, po2⟩ := iff_t po1
      rw [appK_eq] at po2
      refine .inr (.inl ⟨a, b, xs, ys, rfl, rfl, h, h', ?_, fun e => ?_, fun _ e => ?_, fun _ _ q hq => po_tup r (hs.append hs') po2 q hq⟩)
      · rw [← hs.length, ← hs'.length]; exact two_most c1 c2
      · subst e; cases hs; exact po_ok po2 r (.tup h' hs')
      · subst e; cases hs'
        rw [List.append_nil] at po2
        exact po_ok po2 r (.tup h hs)
    | _ => exact po.elim
  | @ref i a h =>
    cases he with
    | @ref j b h' =>
      obtain ⟨ds, xs, e1, e2, e3⟩ := r.at_ i a h
      obtain ⟨es, ys, f1, f2, f3⟩ := r.at_ j b h'
      have po0 : Po p W σ (fun _ _ _ v H' => Q v H') ρ H (iff_ (short ds most) (iff_ (short es most) (appK ds es fun zs => L.newK zs fun k L' => .ok (.ref k) L') .bad) .bad) := by
        have q : oAdd (.ref i) (.ref j) L = (iff_ (short ds most) (iff_ (short es most) (appK ds es fun zs => L.newK zs fun k L' => .ok (.ref k) L') .bad) .bad) := by
          show (match L.get i, L.get j with
            | some xs, some ys => iff_ (short xs most) (iff_ (short ys most) (appK xs ys fun zs => L.newK zs fun k L' => .ok (.ref k) L') .bad) .bad
            | _, _ => .bad) = _
          rw [e1, f1]
        rw [← q]; exact po
      obtain ⟨c1, po1⟩ := iff_t po0
      obtain ⟨c2, po2⟩ := iff_t po1
      rw [appK_eq] at po2
      exact .inr (.inr ⟨a, b, xs, ys, rfl, rfl, e2, f2, by rw [← e3.length, ← f3.length]; exact two_most c1 c2, po_lst r (e3.append f3) po2⟩)
    | _ => exact po.elim
  | _ => exact po.elim
noncomputable def oSub (d e : D) (L : Sto) : Out := match d, e with
  | .int i, .int j => fI (Int.sub i j) fun k => .ok (.int k) L
  | _, _ => .bad
theorem op2_sub : Op2 p (rI0 fun i j => .int (i - j)) oSub := by
  intro W σ ρ L H d e x y Q r hd he po
  cases hd with
  | int i =>
    cases he with
    | int j =>
      have po1 : Po p W σ (fun _ _ _ v H' => Q v H') ρ H (fI (i - j) fun k => .ok (.int k) L) := po
      rw [fI_eq] at po1
      exact ⟨i, j, rfl, rfl, po_ok po1 r (.int _)⟩
    | _ => exact po.elim
  | _ => exact po.elim
/-- so many copies, one behind the other -/
noncomputable def repK {α : Type} (n : Nat) (xs : List α) (k : List α → Out) : Out := @Nat.rec (fun _ => (List α → Out) → Out) (fun k => k []) (fun _ ih k => ih fun ys => appK xs ys k) n k
theorem repK_eq {α : Type} (n : Nat) (xs : List α) (k : List α → Out) : repK n xs k = k (List.replicate n xs).flatten := by
  induction n generalizing k with
  | zero => rfl
  | succ n ih =>
    show repK n xs (fun ys => appK xs ys k) = _
    rw [ih, appK_eq, List.replicate_succ, List.flatten_cons]
noncomputable def oMul (d e : D) (L : Sto) : Out := match d, e with
  | .int i, .int j => iff_ (Nat.blt (Nat.add (Nat.log2 i.natAbs) (Nat.log2 j.natAbs)) 1000000) (fI (Int.mul i j) fun k => .ok (.int k) L) .bad
  | .tup xs, .int k => match k with
    | .ofNat n => iff_ (!xs.isEmpty) (iff_ (Nat.ble n 1000) (iff_ (short xs 1000) (repK n xs fun zs => .ok (.tup zs) L) .bad) .bad) .bad
    | _ => .bad
  | .ref i, .int k => match k with
    | .ofNat n => match L.get i with
      | some xs => iff_ (Nat.ble n 1000) (iff_ (short xs 100) (repK n xs fun zs => L.newK zs fun k L' => .ok (.ref k) L') .bad) .bad
      | none => .bad
    | _ => .bad
  | _, _ => .bad
theorem op2_mul : Op2 p (fun x y H Q => rI CMulW (fun i j => .int (i * j)) x y H Q ∨ (rRepT p.K x y H Q ∨ (rRepS p.K x y H Q ∨ rRep x y H Q))) oMul := by
  intro W σ ρ L H d e x y Q r hd he po
  cases hd with
  | int i =>
    cases he with
    | int j =>
      obtain ⟨c1, po1⟩ := iff_t (show Po p W σ (fun _ _ _ v H' => Q v H') ρ H (iff_ (Nat.blt (Nat.add (Nat.log2 i.natAbs) (Nat.log2 j.natAbs)) 1000000) (fI (i * j) fun k => .ok (.int k) L) .bad) from po)
      rw [fI_eq] at po1
      exact .inl ⟨i, j, rfl, rfl, blt_t c1, po_ok po1 r (.int _)⟩
    | _ => exact po.elim
  | @tup a ds xs h hs =>
    cases he with
    | int k =>
      cases k with
      | ofNat n =>
        obtain ⟨c0, po0⟩ := iff_t (show Po p W σ (fun _ _ _ v H' => Q v H') ρ H (iff_ (!ds.isEmpty) (iff_ (Nat.ble n 1000) (iff_ (short ds 1000) (repK n ds fun zs => .ok (.tup zs) L) .bad) .bad) .bad) from po)
        obtain ⟨c1, po1⟩ := iff_t po0
        obtain ⟨c2, po2⟩ := iff_t po1
        rw [repK_eq] at po2
        have hn : n ≤ 1000 := Nat.le_of_ble_eq_true c1
        have hl := short_le c2
        rw [hs.length] at hl
        have e0 : xs ≠ [] := by
          intro e
          subst e
          cases hs
          cases c0
        by_cases two : 2 ≤ n
        · refine .inr (.inl ⟨a, n, xs, rfl, rfl, h, e0, by omega, by omega, hl, fun q hq => ?_⟩)
          rw [Int.toNat_natCast]
          exact po_tup r (hs.rep n) po2 q hq
        · refine .inr (.inr (.inl ⟨a, n, xs, rfl, rfl, h, by omega, by omega, fun c => ?_, fun c q hq => ?_⟩))
          · have en : n = 1 := by
              rcases c with c | c
              · exact absurd c e0
              · omega
            subst en
            have e1 : (List.replicate 1 ds).flatten = ds := by simp
            rw [e1] at po2
            exact po_ok po2 r (.tup h hs)
          · have en : n = 0 := by
              have : ¬ (n : Int) = 1 := fun z => c (.inr z)
              omega
            subst en
            exact po_tup r .nil po2 q hq
      | negSucc n => exact po.elim
    | _ => exact po.elim
  | @ref i a h =>
    cases he with
    | int k =>
      cases k with
      | ofNat n =>
        obtain ⟨ds, xs, e1, e2, e3⟩ := r.at_ i a h
        have po0 : Po p W σ (fun _ _ _ v H' => Q v H') ρ H (iff_ (Nat.ble n 1000) (iff_ (short ds 100) (repK n ds fun zs => L.newK zs fun k L' => .ok (.ref k) L') .bad) .bad) := by
          have q : oMul (.ref i) (.int (.ofNat n)) L = (iff_ (Nat.ble n 1000) (iff_ (short ds 100) (repK n ds fun zs => L.newK zs fun k L' => .ok (.ref k) L') .bad) .bad) := by
            show (match L.get i with
              | some xs => iff_ (Nat.ble n 1000) (iff_ (short xs 100) (repK n xs fun zs => L.newK zs fun k L' => .ok (.ref k) L') .bad) .bad
              | none => .bad) = _
            rw [e1]
          rw [← q]; exact po
        obtain ⟨c1, po1⟩ := iff_t po0
        obtain ⟨c2, po2⟩ := iff_t po1
        rw [repK_eq] at po2
        have hn : n ≤ 1000 := Nat.le_of_ble_eq_true c1
        have hl := short_le c2
        rw [e3.length] at hl
        refine .inr (.inr (.inr ⟨a, n, xs, rfl, rfl, e2, by omega, by omega, ?_, fun q hq => ?_⟩))
        · rw [Int.toNat_natCast, sizeLine_eq]
          have := Nat.mul_le_mul hl hn
          omega
        · rw [Int.toNat_natCast]
          exact po_lst r (e3.rep n) po2 q hq
      | negSucc n => exact po.elim
    | _ => exact po.elim
  | _ => exact po.elim

noncomputable def oFdiv (d e : D) (L : Sto) : Out := match d, e with
  | .int i, .int j => match j with
    | .ofNat n => iff_ (Nat.blt 0 n) (iff_ (Nat.blt (Nat.log2 n) 9000) (fI (Int.ediv i (.ofNat n)) fun k => .ok (.int k) L) .bad) .bad
    | .negSucc n => iff_ (Nat.blt n 1000000000) (fI (Int.fdiv i (.negSucc n)) fun k => .ok (.int k) L) .bad
  | _, _ => .bad
theorem op2_fdiv : Op2 p (fun x y H Q => rI CDivW (fun i j => .int (i / j)) x y H Q ∨ rI CDivN (fun i j => .int (i.fdiv j)) x y H Q) oFdiv := by
  intro W σ ρ L H d e x y Q r hd he po
  cases hd with
  | int i =>
    cases he with
    | int j =>
      cases j with
      | ofNat n =>
        obtain ⟨c1, po1⟩ := iff_t (show Po p W σ (fun _ _ _ v H' => Q v H') ρ H (iff_ (Nat.blt 0 n) (iff_ (Nat.blt (Nat.log2 n) 9000) (fI (i / (.ofNat n)) fun k => .ok (.int k) L) .bad) .bad) from po)
        obtain ⟨c2, po2⟩ := iff_t po1
        rw [fI_eq] at po2
        refine .inl ⟨i, .ofNat n, rfl, rfl, ⟨?_, ?_⟩, po_ok po2 r (.int _)⟩
        · have := blt_t c1; show (0 : Int) < (n : Int); omega
        · exact blt_t c2
      | negSucc n =>
        obtain ⟨c1, po1⟩ := iff_t (show Po p W σ (fun _ _ _ v H' => Q v H') ρ H (iff_ (Nat.blt n 1000000000) (fI (Int.fdiv i (.negSucc n)) fun k => .ok (.int k) L) .bad) from po)
        rw [fI_eq] at po1
        refine .inr ⟨i, .negSucc n, rfl, rfl, ⟨(by intro z; cases z), ?_⟩, po_ok po1 r (.int _)⟩
        have := blt_t c1
        show n + 1 < 1073741824
        omega
    | _ => exact po.elim
  | _ => exact po.elim
noncomputable def oMod (d e : D) (L : Sto) : Out := match d, e with
  | .int i, .int j => match j with
    | .ofNat n => iff_ (Nat.blt 0 n) (fI (Int.emod i (.ofNat n)) fun k => .ok (.int k) L) .bad
    | .negSucc _ => .bad
  | _, _ => .bad
theorem op2_mod : Op2 p (rI (fun _ j => 0 < j) fun i j => .int (i % j)) oMod := by
  intro W σ ρ L H d e x y Q r hd he po
  cases hd with
  | int i =>
    cases he with
    | int j =>
      cases j with
      | ofNat n =>
        obtain ⟨c1, po1⟩ := iff_t (show Po p W σ (fun _ _ _ v H' => Q v H') ρ H (iff_ (Nat.blt 0 n) (fI (i % (.ofNat n)) fun k => .ok (.int k) L) .bad) from po)
        rw [fI_eq] at po1
        refine ⟨i, .ofNat n, rfl, rfl, ?_, po_ok po1 r (.int _)⟩
        have := blt_t c1; show (0 : Int) < (n : Int); omega
      | negSucc n => exact po.elim
    | _ => exact po.elim
  | _ => exact po.elim
noncomputable def oCmp (f : Int → Int → Bool) (d e : D) (L : Sto) : Out := match d, e with
  | .int i, .int j => @Bool.casesOn (fun _ => Out) (f i j) (.ok (.bl false) L) (.ok (.bl true) L)
  | _, _ => .bad
theorem op2_cmp {f : Int → Int → Bool} {P : Int → Int → Prop} [∀ i j, Decidable (P i j)] (hf : ∀ i j, f i j = true ↔ P i j) : Op2 p (rI0 fun i j => .bl (decide (P i j))) (oCmp f) := by
  intro W σ ρ L H d e x y Q r hd he po
  cases hd with
  | int i =>
    cases he with
    | int j =>
      have po1 : Po p W σ (fun _ _ _ v H' => Q v H') ρ H (@Bool.casesOn (fun _ => Out) (f i j) (.ok (.bl false) L) (.ok (.bl true) L)) := po
      refine ⟨i, j, rfl, rfl, ?_⟩
      show Q (.bl (decide (P i j))) H
      cases c : f i j with
      | true =>
        rw [c] at po1
        rw [decide_eq_true ((hf i j).mp c)]
        exact po_ok po1 r (.bl _)
      | false =>
        rw [c] at po1
        rw [decide_eq_false fun z => by rw [(hf i j).mpr z] at c; cases c]
        exact po_ok po1 r (.bl _)
    | _ => exact po.elim
  | _ => exact po.elim
noncomputable def oLt := oCmp PySem.W.Z.ltB
noncomputable def oLe := oCmp PySem.W.Z.leB
noncomputable def oGt := oCmp fun i j => PySem.W.Z.ltB j i
noncomputable def oGe := oCmp fun i j => PySem.W.Z.leB j i
theorem op2_lt : Op2 p (rI0 fun i j => .bl (decide (i < j))) oLt := op2_cmp PySem.W.Z.ltB_iff
theorem op2_le : Op2 p (rI0 fun i j => .bl (decide (i ≤ j))) oLe := op2_cmp PySem.W.Z.leB_iff
theorem op2_gt : Op2 p (rI0 fun i j => .bl (decide (j < i))) oGt := op2_cmp fun i j => PySem.W.Z.ltB_iff j i
theorem op2_ge : Op2 p (rI0 fun i j => .bl (decide (j ≤ i))) oGe := op2_cmp fun i j => PySem.W.Z.leB_iff j i
/-! ### equality of data -/
noncomputable def toPy (d : D) : Option PyData := @D.rec (fun _ => Option PyData) (fun _ => Option (List PyData)) (some .none) (fun b => some (.bool b)) (fun i => some (.int i)) (fun l => some (.str ⟨l.toArray⟩)) (fun _ => none)
  (fun _ ih => @Option.casesOn _ (fun _ => Option PyData) ih none fun l => some (.tuple l)) (fun _ => none) (fun _ => none) (fun _ _ => none) (fun _ _ => none) none
  (some []) (fun _ _ ih ihs => @Option.casesOn _ (fun _ => Option (List PyData)) ih none fun x => @Option.casesOn _ (fun _ => Option (List PyData)) ihs none fun l => some (x :: l)) d
noncomputable def toPys (ds : List D) : Option (List PyData) := @List.rec D (fun _ => Option (List PyData)) (some []) (fun d _ ihs => @Option.casesOn _ (fun _ => Option (List PyData)) (toPy d) none fun x => @Option.casesOn _ (fun _ => Option (List PyData)) ihs none fun l => some (x :: l)) ds
theorem toPy_tup (ds : List D) : toPy (.tup ds) = @Option.casesOn _ (fun _ => Option PyData) (toPys ds) none fun l => some (.tuple l) := by
  have key : ∀ ds : List D, @D.rec_1 (fun _ => Option PyData) (fun _ => Option (List PyData)) (some .none) (fun b => some (.bool b)) (fun i => some (.int i)) (fun l => some (.str ⟨l.toArray⟩)) (fun _ => none)
      (fun _ ih => @Option.casesOn _ (fun _ => Option PyData) ih none fun l => some (.tuple l)) (fun _ => none) (fun _ => none) (fun _ _ => none) (fun _ _ => none) none
      (some []) (fun _ _ ih ihs => @Option.casesOn _ (fun _ => Option (List PyData)) ih none fun x => @Option.casesOn _ (fun _ => Option (List PyData)) ihs none fun l => some (x :: l)) ds = toPys ds := by
    intro ds
    induction ds with
    | nil => rfl
    | cons d ds ih =>
      exact congrArg (fun t => @Option.casesOn _ (fun _ => Option (List PyData)) (toPy d) none fun x => @Option.casesOn _ (fun _ => Option (List PyData)) t none fun l => some (x :: l)) ih
  exact congrArg (fun t => @Option.casesOn _ (fun _ => Option PyData) t none fun l => some (.tuple l)) (key ds)
mutual
theorem dp_of {ρ : List Addr} {H : Hp} : ∀ {d : D} {x : V} {e : PyData}, Dv p H ρ d x → toPy d = some e → Dp p.K H x e
  | _, _, _, .non, h => by cases h; exact .non
  | _, _, _, .bl b, h => by cases h; exact .bl b
  | _, _, _, .int i, h => by cases h; exact .int i
  | _, _, _, .str l, h => by cases h; exact .str _
  | _, _, _, .ty n, h => by cases h
  | _, _, _, .tup (ds := ds) hq hs, h => by
    rw [toPy_tup] at h
    cases q : toPys ds with
    | none => rw [q] at h; cases h
    | some l =>
      rw [q] at h
      cases h
      exact .tup hq (dps_of hs q)
  | _, _, _, .ref _, h => by cases h
  | _, _, _, .fn _, h => by cases h
  | _, _, _, .rng _, h => by cases h
  | _, _, _, .frl _ _, h => by cases h
  | _, _, _, .frk _ _, h => by cases h
  | _, _, _, .any _, h => by cases h
theorem dps_of {ρ : List Addr} {H : Hp} : ∀ {ds : List D} {xs : List V} {es : List PyData}, Dvs p H ρ ds xs → toPys ds = some es → DpAll p.K H xs es
  | _, _, _, .nil, h => by cases h; exact .nil
  | _, _, _, .cons (d := d) (ds := ds) hd hs, h => by
    have h' : @Option.casesOn _ (fun _ => Option (List PyData)) (toPy d) none (fun x => @Option.casesOn _ (fun _ => Option (List PyData)) (toPys ds) none fun l => some (x :: l)) = some _ := h
    cases q : toPy d with
    | none => rw [q] at h'; cases h'
    | some e =>
      rw [q] at h'
      cases q2 : toPys ds with
      | none => rw [q2] at h'; cases h'
      | some l =>
        rw [q2] at h'
        cases h'
        exact .cons (dp_of hd q) (dps_of hs q2)
end
noncomputable def oEqG (neg : Bool) (d e : D) (L : Sto) : Out := match toPy d, toPy e with
  | some a, some b => iff_ (SeqAt.shaped a) (iff_ (SeqAt.shaped b) (@Bool.casesOn (fun _ => Out) (PyData.eqv a b) (.ok (.bl neg) L) (.ok (.bl (!neg)) L)) .bad) .bad
  | _, _ => .bad
theorem eqG {neg : Bool} {W : Wx} {σ : L2.St} {ρ : List Addr} {L : Sto} {H : Hp} {d e : D} {x y : V} {Q : VK} (r : Rl p ρ L H) (hd : Dv p H ρ d x) (he : Dv p H ρ e y) (po : Po p W σ (fun _ _ _ v H' => Q v H') ρ H (oEqG neg d e L)) :
    ∃ a b, Dp p.K H x a ∧ Dp p.K H y b ∧ SeqAt.shaped a = true ∧ SeqAt.shaped b = true ∧ Q (.bl (if neg then !PyData.eqv a b else PyData.eqv a b)) H := by
  unfold oEqG at po
  split at po
  · rename_i a b ea eb
    obtain ⟨c1, po1⟩ := iff_t po
    obtain ⟨c2, po2⟩ := iff_t po1
    refine ⟨a, b, dp_of hd ea, dp_of he eb, c1, c2, ?_⟩
    cases c : PyData.eqv a b with
    | true =>
      rw [c] at po2
      have := po_ok po2 r (.bl _)
      cases neg <;> exact this
    | false =>
      rw [c] at po2
      have := po_ok po2 r (.bl _)
      cases neg <;> exact this
  · exact po.elim
noncomputable def oEq (d e : D) (L : Sto) : Out := match d, e with
  | .int i, .int j => @Bool.casesOn (fun _ => Out) (PySem.W.Z.eqB i j) (.ok (.bl false) L) (.ok (.bl true) L)
  | d, e => oEqG false d e L
noncomputable def oNe (d e : D) (L : Sto) : Out := match d, e with
  | .int i, .int j => @Bool.casesOn (fun _ => Out) (PySem.W.Z.eqB i j) (.ok (.bl true) L) (.ok (.bl false) L)
  | d, e => oEqG true d e L
theorem shaped_int (i : Int) : SeqAt.shaped (.int i) = true := by
  show (PyData.canLay0 (.int i) && decide (PyData.depth (.int i) ≤ 64)) = true
  rfl
theorem op2_eq : Op2 p (rEqD p.K) oEq := by
  intro W σ ρ L H d e x y Q r hd he po
  unfold oEq at po
  split at po
  · rename_i i j
    cases hd
    cases he
    refine ⟨.int i, .int j, .int i, .int j, shaped_int i, shaped_int j, ?_⟩
    show Q (.bl (i == j)) H
    cases c : PySem.W.Z.eqB i j with
    | true =>
      rw [c] at po
      rw [beq_iff_eq.mpr ((PySem.W.Z.eqB_iff i j).mp c)]
      exact po_ok po r (.bl _)
    | false =>
      rw [c] at po
      rw [beq_eq_false_iff_ne.mpr fun z => by rw [(PySem.W.Z.eqB_iff i j).mpr z] at c; cases c]
      exact po_ok po r (.bl _)
  · obtain ⟨a, b, h1, h2, h3, h4, q⟩ := eqG r hd he po
    exact ⟨a, b, h1, h2, h3, h4, q⟩
theorem op2_ne : Op2 p (rNeD p.K) oNe := by
  intro W σ ρ L H d e x y Q r hd he po
  unfold oNe at po
  split at po
  · rename_i i j
    cases hd
    cases he
    refine ⟨.int i, .int j, .int i, .int j, shaped_int i, shaped_int j, ?_⟩
    show Q (.bl (!(i == j))) H
    cases c : PySem.W.Z.eqB i j with
    | true =>
      rw [c] at po
      rw [beq_iff_eq.mpr ((PySem.W.Z.eqB_iff i j).mp c)]
      exact po_ok po r (.bl _)
    | false =>
      rw [c] at po
      rw [beq_eq_false_iff_ne.mpr fun z => by rw [(PySem.W.Z.eqB_iff i j).mpr z] at c; cases c]
      exact po_ok po r (.bl _)
  · obtain ⟨a, b, h1, h2, h3, h4, q⟩ := eqG r hd he po
    exact ⟨a, b, h1, h2, h3, h4, q⟩
/-- is None -/
noncomputable def oIsN (neg : Bool) (d e : D) (L : Sto) : Out := match e with
  | .non => match d with
    | .non => .ok (.bl (!neg)) L
    | .any => .bad
    | _ => .ok (.bl neg) L
  | _ => .bad
theorem not_non {ρ : List Addr} {H : Hp} {d : D} {x : V} (h : Dv p H ρ d x) (h1 : d ≠ .non) (h2 : d ≠ .any) : x ≠ .non := by
  cases h with
  | non => exact absurd rfl h1
  | any v => exact absurd rfl h2
  | _ => intro z; cases z
theorem isN {neg : Bool} {W : Wx} {σ : L2.St} {ρ : List Addr} {L : Sto} {H : Hp} {d e : D} {x y : V} {Q : VK} (r : Rl p ρ L H) (hd : Dv p H ρ d x) (he : Dv p H ρ e y) (po : Po p W σ (fun _ _ _ v H' => Q v H') ρ H (oIsN neg d e L)) :
    y = .non ∧ Q (.bl (if neg then !decide (x = .non) else decide (x = .non))) H := by
  cases he with
  | non =>
    refine ⟨rfl, ?_⟩
    by_cases h1 : d = .non
    · subst h1
      cases hd
      rw [decide_eq_true rfl]
      have := po_ok (show Po p W σ (fun _ _ _ v H' => Q v H') ρ H (.ok (.bl (!neg)) L) from po) r (.bl _)
      cases neg <;> exact this
    · by_cases h2 : d = .any
      · subst h2; exact po.elim
      · rw [decide_eq_false (not_non hd h1 h2)]
        have po1 : Po p W σ (fun _ _ _ v H' => Q v H') ρ H (.ok (.bl neg) L) := by
          cases d <;> first | exact absurd rfl h1 | exact absurd rfl h2 | exact po
        have := po_ok po1 r (.bl _)
        cases neg <;> exact this
  | _ => exact po.elim
theorem op2_isN : Op2 p (fun x y H Q => y = .non ∧ Q (.bl (decide (x = .non))) H) (oIsN false) := fun r hd he po => isN r hd he po
theorem op2_notN : Op2 p (fun x y H Q => y = .non ∧ Q (.bl (!decide (x = .non))) H) (oIsN true) := fun r hd he po => isN r hd he po
noncomputable def oNeg (d : D) (L : Sto) : Out := match d with
  | .int i => fI (Int.neg i) fun k => .ok (.int k) L
  | _ => .bad
theorem op1_neg : Op1 p (rU fun i => .int (-i)) oNeg := by
  intro W σ ρ L H d x Q r hd po
  cases hd with
  | int i =>
    have po1 : Po p W σ (fun _ _ _ v H' => Q v H') ρ H (fI (-i) fun k => .ok (.int k) L) := po
    rw [fI_eq] at po1
    exact ⟨i, rfl, po_ok po1 r (.int _)⟩
  | _ => exact po.elim
/-! ### places -/
noncomputable def atD (xs : List D) (i : Int) : Option D := match i with
  | .ofNat n => nth xs n
  | .negSucc m => match Nat.ble (Nat.succ m) (lenN xs) with
    | true => nth xs (Nat.sub (lenN xs) (Nat.succ m))
    | false => none
theorem atD_ok {ρ : List Addr} {H : Hp} {ds : List D} {xs : List V} {i : Int} {d : D} (h : Dvs p H ρ ds xs) (e : atD ds i = some d) : ∃ v, atI xs i = some v ∧ Dv p H ρ d v := by
  cases i with
  | ofNat n =>
    have e' : nth ds n = some d := e
    rw [nth_eq] at e'
    obtain ⟨v, e1, e2⟩ := h.get e'
    exact ⟨v, atI_nat e1, e2⟩
  | negSucc m =>
    unfold atD at e
    simp only at e
    split at e
    · rename_i hb
      have hl : m + 1 ≤ ds.length := by rw [← lenN_eq]; exact Nat.le_of_ble_eq_true hb
      have e' : nth ds (lenN ds - (m + 1)) = some d := e
      rw [nth_eq, lenN_eq] at e'
      obtain ⟨v, e1, e2⟩ := h.get e'
      refine ⟨v, ?_, e2⟩
      rw [h.length] at e1 hl
      unfold atI ixN
      rw [if_neg (by omega), if_pos (by omega)]
      have : (Int.negSucc m + (xs.length : Int)).toNat = xs.length - (m + 1) := by omega
      rw [this]
      exact e1
    · cases e
noncomputable def oIx (d e : D) (L : Sto) : Out := match e with
  | .int i => match d with
    | .tup xs => match atD xs i with
      | some v => .ok v L
      | none => .bad
    | .ref k => match L.get k with
      | some xs => match atD xs i with
        | some v => .ok v L
        | none => .bad
      | none => .bad
    | _ => .bad
  | _ => .bad
theorem op2_ix : Op2 p (fun x y H Q => rIxL p.K x y H Q ∨ rIxT p.K x y H Q) oIx := by
  intro W σ ρ L H d e x y Q r hd he po
  cases he with
  | int i =>
    cases hd with
    | @tup a ds xs h hs =>
      have po1 : Po p W σ (fun _ _ _ v H' => Q v H') ρ H (match atD ds i with
        | some v => .ok v L
        | none => .bad) := po
      split at po1
      · rename_i v ev
        obtain ⟨u, e1, e2⟩ := atD_ok hs ev
        exact .inr ⟨a, xs, i, u, rfl, rfl, h, e1, po_ok po1 r e2⟩
      · exact po1.elim
    | @ref k a h =>
      obtain ⟨ds, xs, e1, e2, e3⟩ := r.at_ k a h
      have po1 : Po p W σ (fun _ _ _ v H' => Q v H') ρ H (match L.get k with
        | some xs => match atD xs i with
          | some v => .ok v L
          | none => .bad
        | none => .bad) := po
      rw [e1] at po1
      simp only at po1
      split at po1
      · rename_i v ev
        obtain ⟨u, f1, f2⟩ := atD_ok e3 ev
        exact .inl ⟨a, xs, i, u, rfl, rfl, SqL.of e2, f1, po_ok po1 r f2⟩
      · exact po1.elim
    | _ => exact po.elim
  | _ => exact po.elim
end
end Mr

namespace Mr
open PySem PySem.Spec PyProof.Rows L2
/-! ### slices -/
noncomputable def cutK {α : Type} (xs : List α) : Nat → Nat → (List α → Out) → Out := @List.rec α (fun _ => Nat → Nat → (List α → Out) → Out) (fun _ _ k => k [])
  (fun x _ ih a m k => @Nat.casesOn (fun _ => Out) a (@Nat.casesOn (fun _ => Out) m (k []) fun m' => ih 0 m' fun ys => k (x :: ys)) fun a' => ih a' m k) xs
theorem cutK_eq {α : Type} (xs : List α) : ∀ (a m : Nat) (k : List α → Out), cutK xs a m k = k ((xs.drop a).take m) := by
  induction xs with
  | nil => intro a m k; simp [cutK]
  | cons x xs ih =>
    intro a m k
    cases a with
    | zero =>
      cases m with
      | zero => rfl
      | succ m =>
        show cutK xs 0 m (fun ys => k (x :: ys)) = _
        rw [ih]; simp
    | succ a =>
      show cutK xs a m k = _
      rw [ih]; simp
noncomputable def sx (n d : Nat) (o : Option Int) : Nat := match o with
  | none => d
  | some v => match v with
    | .ofNat k => @Bool.casesOn (fun _ => Nat) (Nat.ble k n) n k
    | .negSucc k => Nat.sub n (Nat.succ k)
theorem sx_eq (n d : Nat) (o : Option Int) : sx n d o = HT.sIx n d o := by
  cases o with
  | none => rfl
  | some v =>
    cases v with
    | ofNat k =>
      show @Bool.casesOn (fun _ => Nat) (Nat.ble k n) n k = if ((k : Nat) : Int) < 0 then (((k : Nat) : Int) + (n : Int)).toNat else min ((k : Nat) : Int).toNat n
      rw [if_neg (by omega), Int.toNat_natCast]
      cases h : Nat.ble k n with
      | true => have := Nat.le_of_ble_eq_true h; show k = _; omega
      | false =>
        have : ¬ k ≤ n := fun z => by rw [Nat.ble_eq_true_of_le z] at h; cases h
        show n = _; omega
    | negSucc k =>
      show n - (k + 1) = if Int.negSucc k < 0 then (Int.negSucc k + (n : Int)).toNat else min (Int.negSucc k).toNat n
      rw [if_pos (by omega)]
      omega
section
variable {p : Pm} {X : Cx} {Z : L2.St → Prop} {W : Wx} {pos : Pos}
def OptD (d : D) (o : Option Int) : Prop := (d = .non ∧ o = none) ∨ ∃ i, d = .int i ∧ o = some i
def TrO (p : Pm) (Z : L2.St → Prop) (W : Wx) (m : EM) : TO := fun σ H Q => ∃ ρ S L, At p Z ρ S L σ H ∧ Po p W σ (fun ρ' L' d v H' => ∃ o, OptD d o ∧ Q o H') ρ H (m S L)
structure EO (X : Cx) (p : Pm) (Z : L2.St → Prop) (W : Wx) (e : Option Expr) (m : EM) : Prop where
  po : PO X e (TrO p Z W m)
theorem PO.imp {e : Option Expr} {t t' : TO} (h : PO X e t) (hi : ∀ σ H Q, t' σ H Q → t σ H Q) : PO X e t' := ⟨fun pins s σ H Q I hq => h.run pins s σ H Q I (hi σ H Q hq)⟩
theorem eo_none : EO X p Z W none (mC .non) := ⟨PO.imp po_none fun σ H Q h => by
  obtain ⟨ρ, S, L, a, po⟩ := h
  obtain ⟨o, ho, q⟩ := po ρ H .non (Ext.refl _ _) a.rl .non
  rcases ho with ⟨_, rfl⟩ | ⟨i, e, _⟩
  · exact q
  · cases e⟩
noncomputable def mPart (m : EM) : EM := fun S L => (m S L).bd fun d L1 => match d with
  | .int i => .ok (.int i) L1
  | _ => .bad
theorem eo_some {e : Expr} {m : EM} (h : EE X p Z W e m) : EO X p Z W (some e) (mPart m) := ⟨PO.imp (po_some h.pe) fun σ H Q h => by
  obtain ⟨ρ, S, L, a, po⟩ := h
  refine ⟨ρ, S, L, a, (Po.bd po).imp fun ρ1 L1 d x H1 e1 r1 d1 po1 => ?_⟩
  cases d1 with
  | int i =>
    obtain ⟨o, ho, q⟩ := po1 ρ1 H1 (.int i) (Ext.refl _ _) r1 (.int i)
    rcases ho with ⟨e, _⟩ | ⟨j, e, rfl⟩
    · cases e
    · cases e; exact ⟨i, rfl, q⟩
  | _ => exact po1.elim⟩
noncomputable def optD (d : D) : Option (Option Int) := match d with
  | .non => some none
  | .int i => some (some i)
  | _ => none
noncomputable def oSl (d l h : D) (L : Sto) : Out := match optD l, optD h with
  | some lo, some hi => match d with
    | .tup xs => fN (lenN xs) fun n => fN (sx n 0 lo) fun a => fN (sx n n hi) fun b => cutK xs a (Nat.sub b a) fun ys => .ok (.tup ys) L
    | .ref i => match L.get i with
      | some xs => fN (lenN xs) fun n => fN (sx n 0 lo) fun a => fN (sx n n hi) fun b => cutK xs a (Nat.sub b a) fun ys => L.newK ys fun k L' => .ok (.ref k) L'
      | none => .bad
    | _ => .bad
  | _, _ => .bad
theorem cut_all {α : Type} (xs : List α) (lo hi : Option Int) (h : HT.sIx xs.length 0 lo = 0 ∧ HT.sIx xs.length xs.length hi = xs.length) : (xs.drop (HT.sIx xs.length 0 lo)).take (HT.sIx xs.length xs.length hi - HT.sIx xs.length 0 lo) = xs := by
  rw [h.1, h.2]; simp
theorem sl_ok {W : Wx} {σ : L2.St} {ρ : List Addr} {L : Sto} {H : Hp} {d l h : D} {x : V} {lo hi : Option Int} {Q : VK} (r : Rl p ρ L H) (hd : Dv p H ρ d x) (hl : OptD l lo) (hh : OptD h hi) (po : Po p W σ (fun _ _ _ v H' => Q v H') ρ H (oSl d l h L)) :
    rSlA p.K x lo hi H Q ∨ rSlL p.K x lo hi H Q := by
  have el : optD l = some lo := by rcases hl with ⟨rfl, rfl⟩ | ⟨i, rfl, rfl⟩ <;> rfl
  have eh : optD h = some hi := by rcases hh with ⟨rfl, rfl⟩ | ⟨i, rfl, rfl⟩ <;> rfl
  unfold oSl at po
  rw [el, eh] at po
  simp only at po
  cases hd with
  | @tup a ds xs hq hs =>
    simp only [fN_eq, cutK_eq, sx_eq, lenN_eq] at po
    have hlen := hs.length
    left
    refine ⟨a, xs, rfl, hq, fun hw => ?_, fun hw q hq' => ?_⟩
    · rw [← hlen] at hw
      have e := cut_all ds lo hi hw
      have po' : Po p W σ (fun _ _ _ v H' => Q v H') ρ H (.ok (.tup ds) L) := by rw [← e]; exact po
      exact po_ok po' r (.tup hq hs)
    · have hc : Dvs p H ρ ((ds.drop (HT.sIx ds.length 0 lo)).take (HT.sIx ds.length ds.length hi - HT.sIx ds.length 0 lo)) (cutV xs lo hi) := by
        unfold cutV
        rw [← hlen]
        exact Dvs.take _ (Dvs.drop _ hs)
      exact po_tup r hc po q hq'
  | @ref i a hr =>
    obtain ⟨ds, xs, e1, e2, e3⟩ := r.at_ i a hr
    simp only [e1] at po
    simp only [fN_eq, cutK_eq, sx_eq, lenN_eq] at po
    have hlen := e3.length
    right
    have hc : Dvs p H ρ ((ds.drop (HT.sIx ds.length 0 lo)).take (HT.sIx ds.length ds.length hi - HT.sIx ds.length 0 lo)) (cutV xs lo hi) := by
      unfold cutV
      rw [← hlen]
      exact Dvs.take _ (Dvs.drop _ e3)
    exact ⟨a, xs, rfl, SqL.of e2, fun q hq' => po_lst r hc po q hq'⟩
  | _ => exact po.elim
noncomputable def isOpt (d : D) : Bool := match optD d with
  | some _ => true
  | none => false
theorem isOpt_ok {d : D} (h : isOpt d = true) : ∃ o, OptD d o := by
  cases d <;> first | exact ⟨none, .inl ⟨rfl, rfl⟩⟩ | exact ⟨_, .inr ⟨_, rfl, rfl⟩⟩ | cases h
noncomputable def mSl (me ml mh : EM) : EM := fun S L => (me S L).bd fun d L1 => (ml S L1).bd fun l L2 => iff_ (isOpt l) ((mh S L2).bd fun h L3 => iff_ (isOpt h) (oSl d l h L3) .bad) .bad
theorem ee_sl {e : Expr} {lo hi : Option Expr} {me ml mh : EM} {p2 : Pos} (hK : p.K = X.K) (he : EE X p Z W e me) (hl : EO X p Z W lo ml) (hh : EO X p Z W hi mh) : EE X p Z W (.Subscript e (.Slice lo hi none p2) pos) (mSl me ml mh) :=
  ⟨PE.imp (pe_slice (SlR.or sl_tupA sl_list) he.pe hl.po hh.po) fun σ H Q h => by
    obtain ⟨ρ, S, L, a, po⟩ := h
    refine ⟨ρ, S, L, a, (Po.bd po).imp fun ρ1 L1 d x H1 e1 r1 d1 po1 => ?_⟩
    refine ⟨ρ1, S, L1, a.ext e1 r1, (Po.bd po1).imp fun ρ2 L2 l y H2 e2 r2 d2 po2 => ?_⟩
    obtain ⟨c1, po3⟩ := iff_t po2
    obtain ⟨o1, h1⟩ := isOpt_ok c1
    refine ⟨o1, h1, ρ2, S, L2, (a.ext e1 r1).ext e2 r2, (Po.bd po3).imp fun ρ3 L3 h y H3 e3 r3 d3 po4 => ?_⟩
    obtain ⟨c2, po5⟩ := iff_t po4
    obtain ⟨o2, h2⟩ := isOpt_ok c2
    refine ⟨o2, h2, ?_⟩
    have := sl_ok r3 (d1.mono r1 (e2.trans e3)) h1 h2 po5
    rw [hK] at this
    exact this⟩
/-- t[::-1], of a tuple -/
noncomputable def revK {α : Type} (xs : List α) (k : List α → Out) : Out := @List.rec α (fun _ => List α → Out) (fun acc => k acc) (fun x _ ih acc => ih (x :: acc)) xs []
theorem revK_eq {α : Type} (xs : List α) (k : List α → Out) : revK xs k = k xs.reverse := by
  have key : ∀ (xs acc : List α), @List.rec α (fun _ => List α → Out) (fun acc => k acc) (fun x _ ih acc => ih (x :: acc)) xs acc = k (xs.reverse ++ acc) := by
    intro xs
    induction xs with
    | nil => intro acc; rfl
    | cons x xs ih =>
      intro acc
      show @List.rec α (fun _ => List α → Out) (fun acc => k acc) (fun x _ ih acc => ih (x :: acc)) xs (x :: acc) = _
      rw [ih]; simp
  show @List.rec α (fun _ => List α → Out) (fun acc => k acc) (fun x _ ih acc => ih (x :: acc)) xs [] = _
  rw [key]; simp
noncomputable def mBack (me : EM) : EM := fun S L => (me S L).bd fun d L1 => match d with
  | .tup xs => revK xs fun ys => .ok (.tup ys) L1
  | _ => .bad
theorem ee_back {e : Expr} {me : EM} {k : Nat} {p1 p2 p3 : Pos} (hK : p.K = X.K) (he : EE X p Z W e me) : EE X p Z W (.Subscript e (.Slice none none (some (.UnaryOp .USub (.Constant (.int 1) k p1) p2)) p3) pos) (mBack me) :=
  ⟨PE.imp (pe_backT he.pe) fun σ H Q h => by
    obtain ⟨ρ, S, L, a, po⟩ := h
    refine ⟨ρ, S, L, a, (Po.bd po).imp fun ρ1 L1 d x H1 e1 r1 d1 po1 => ?_⟩
    cases d1 with
    | @tup b ds xs hq hs =>
      have po2 : Po p W σ (fun _ _ _ v H' => Q v H') ρ1 H1 (revK ds fun ys => .ok (.tup ys) L1) := po1
      rw [revK_eq] at po2
      exact ⟨b, xs, rfl, by rw [← hK]; exact hq, fun q hq' => po_tup r1 hs.reverse po2 q hq'⟩
    | _ => exact po1.elim⟩
end

/-! ### built-in functions, by rows of values -/
section
variable {p : Pm}
noncomputable def oLen (ds : List D) (L : Sto) : Out := match ds with
  | [.tup xs] => fN (lenN xs) fun n => .ok (.int (.ofNat n)) L
  | [.ref i] => match L.get i with
    | some xs => fN (lenN xs) fun n => .ok (.int (.ofNat n)) L
    | none => .bad
  | [.frl xs] => fN (lenN xs) fun n => .ok (.int (.ofNat n)) L
  | _ => .bad
theorem dvs1 {ρ : List Addr} {H : Hp} {d : D} {vs : List V} (h : Dvs p H ρ [d] vs) : ∃ v, vs = [v] ∧ Dv p H ρ d v := by
  cases h with
  | cons h hs => cases hs; exact ⟨_, rfl, h⟩
theorem dvs2 {ρ : List Addr} {H : Hp} {d e : D} {vs : List V} (h : Dvs p H ρ [d, e] vs) : ∃ v w, vs = [v, w] ∧ Dv p H ρ d v ∧ Dv p H ρ e w := by
  cases h with
  | cons h hs =>
    obtain ⟨w, rfl, h2⟩ := dvs1 hs
    exact ⟨_, w, rfl, h, h2⟩
theorem opn_len : OpN p (fun xs H Q => ∃ x n, xs = [x] ∧ LenV p.K x H n ∧ Q (.int n) H) oLen := by
  intro W σ ρ L H ds vs Q r hd po
  unfold oLen at po
  split at po
  · rename_i xs
    obtain ⟨v, rfl, h⟩ := dvs1 hd
    cases h with
    | @tup a ds ys hq hs =>
      rw [fN_eq, lenN_eq] at po
      exact ⟨.ref a, xs.length, rfl, .inr ⟨ys, hq, hs.length⟩, po_ok po r (.int _)⟩
  · rename_i i
    obtain ⟨v, rfl, h⟩ := dvs1 hd
    cases h with
    | @ref i a h =>
      obtain ⟨ds, xs, e1, e2, e3⟩ := r.at_ i a h
      rw [e1] at po
      simp only at po
      rw [fN_eq, lenN_eq] at po
      exact ⟨.ref a, ds.length, rfl, .inl ⟨xs, SqL.of e2, e3.length⟩, po_ok po r (.int _)⟩
  · rename_i xs
    obtain ⟨v, rfl, h⟩ := dvs1 hd
    cases h with
    | @frl a o ds ys hq hs =>
      rw [fN_eq, lenN_eq] at po
      exact ⟨.ref a, xs.length, rfl, .inl ⟨ys, .inl (.inr ⟨_, hq⟩), hs.length⟩, po_ok po r (.int _)⟩
    | @frk a ds ys hq hs =>
      rw [fN_eq, lenN_eq] at po
      exact ⟨.ref a, xs.length, rfl, .inl ⟨ys, .inr hq, hs.length⟩, po_ok po r (.int _)⟩
  · exact po.elim
noncomputable def oTuple (ds : List D) (L : Sto) : Out := match ds with
  | [.tup xs] => .ok (.tup xs) L
  | [.ref i] => match L.get i with
    | some xs => .ok (.tup xs) L
    | none => .bad
  | _ => .bad
theorem opn_tuple : OpN p (fun xs H Q => ∃ a ys, xs = [.ref a] ∧ ((SqL p.K H a ys ∧ ∀ l, H l = none → Q (.ref l) (upd H l (.tup ys))) ∨ (SqT p.K H a ys ∧ Q (.ref a) H))) oTuple := by
  intro W σ ρ L H ds vs Q r hd po
  unfold oTuple at po
  split at po
  · rename_i xs
    obtain ⟨v, rfl, h⟩ := dvs1 hd
    cases h with
    | @tup a ds ys hq hs => exact ⟨a, ys, rfl, .inr ⟨hq, po_ok po r (.tup hq hs)⟩⟩
  · rename_i i
    obtain ⟨v, rfl, h⟩ := dvs1 hd
    cases h with
    | @ref i a h =>
      obtain ⟨ds, xs, e1, e2, e3⟩ := r.at_ i a h
      rw [e1] at po
      exact ⟨a, xs, rfl, .inl ⟨SqL.of e2, fun q hq => po_tup r e3 po q hq⟩⟩
  · exact po.elim
noncomputable def oList (ds : List D) (L : Sto) : Out := match ds with
  | [.tup xs] => L.newK xs fun k L' => .ok (.ref k) L'
  | [.ref i] => match L.get i with
    | some xs => L.newK xs fun k L' => .ok (.ref k) L'
    | none => .bad
  | _ => .bad
theorem opn_list : OpN p (fun xs H Q => ∃ a ys, xs = [.ref a] ∧ (SqL p.K H a ys ∨ SqT p.K H a ys) ∧ ∀ l, H l = none → Q (.ref l) (upd H l (.lst ys))) oList := by
  intro W σ ρ L H ds vs Q r hd po
  unfold oList at po
  split at po
  · rename_i xs
    obtain ⟨v, rfl, h⟩ := dvs1 hd
    cases h with
    | @tup a ds ys hq hs => exact ⟨a, ys, rfl, .inr hq, fun q hq' => po_lst r hs po q hq'⟩
  · rename_i i
    obtain ⟨v, rfl, h⟩ := dvs1 hd
    cases h with
    | @ref i a h =>
      obtain ⟨ds, xs, e1, e2, e3⟩ := r.at_ i a h
      rw [e1] at po
      exact ⟨a, xs, rfl, .inl (SqL.of e2), fun q hq => po_lst r e3 po q hq⟩
  · exact po.elim
noncomputable def oGcd (ds : List D) (L : Sto) : Out := match ds with
  | [.int i, .int j] => fN (Nat.gcd i.natAbs j.natAbs) fun n => .ok (.int (.ofNat n)) L
  | _ => .bad
theorem opn_gcd : OpN p rGcd oGcd := by
  intro W σ ρ L H ds vs Q r hd po
  unfold oGcd at po
  split at po
  · rename_i i j
    obtain ⟨v, w, rfl, h1, h2⟩ := dvs2 hd
    cases h1
    cases h2
    rw [fN_eq] at po
    exact ⟨i, j, rfl, po_ok po r (.int _)⟩
  · exact po.elim
noncomputable def oLcm (ds : List D) (L : Sto) : Out := match ds with
  | [.int i, .int j] => iff_ (Nat.blt (Nat.add (Nat.log2 i.natAbs) (Nat.log2 j.natAbs)) 10000) (fN (Nat.lcm i.natAbs j.natAbs) fun n => .ok (.int (.ofNat n)) L) .bad
  | _ => .bad
theorem opn_lcm : OpN p rLcm oLcm := by
  intro W σ ρ L H ds vs Q r hd po
  unfold oLcm at po
  split at po
  · rename_i i j
    obtain ⟨v, w, rfl, h1, h2⟩ := dvs2 hd
    cases h1
    cases h2
    obtain ⟨c, po1⟩ := iff_t po
    rw [fN_eq] at po1
    exact ⟨i, j, rfl, blt_t c, po_ok po1 r (.int _)⟩
  · exact po.elim
noncomputable def oAbs (ds : List D) (L : Sto) : Out := match ds with
  | [.int i] => fN i.natAbs fun n => .ok (.int (.ofNat n)) L
  | _ => .bad
theorem opn_abs : OpN p (fun xs H Q => ∃ i, xs = [.int i] ∧ Q (.int (if i < 0 then -i else i)) H) oAbs := by
  intro W σ ρ L H ds vs Q r hd po
  unfold oAbs at po
  split at po
  · rename_i i
    obtain ⟨v, rfl, h⟩ := dvs1 hd
    cases h
    rw [fN_eq] at po
    refine ⟨i, rfl, ?_⟩
    have e : (if i < 0 then -i else i) = ((i.natAbs : Nat) : Int) := by split <;> omega
    rw [e]
    exact po_ok po r (.int _)
  · exact po.elim
noncomputable def oMax2 (ds : List D) (L : Sto) : Out := match ds with
  | [.int i, .int j] => @Bool.casesOn (fun _ => Out) (PySem.W.Z.ltB i j) (.ok (.int i) L) (.ok (.int j) L)
  | _ => .bad
theorem opn_max2 : OpN p (fun xs H Q => ∃ i j, xs = [.int i, .int j] ∧ Q (.int (if j > i then j else i)) H) oMax2 := by
  intro W σ ρ L H ds vs Q r hd po
  unfold oMax2 at po
  split at po
  · rename_i i j
    obtain ⟨v, w, rfl, h1, h2⟩ := dvs2 hd
    cases h1
    cases h2
    refine ⟨i, j, rfl, ?_⟩
    cases c : PySem.W.Z.ltB i j with
    | true => rw [c] at po; rw [if_pos ((PySem.W.Z.ltB_iff i j).mp c)]; exact po_ok po r (.int _)
    | false =>
      rw [c] at po
      rw [if_neg fun z => by rw [(PySem.W.Z.ltB_iff i j).mpr z] at c; cases c]
      exact po_ok po r (.int _)
  · exact po.elim
noncomputable def oMin2 (ds : List D) (L : Sto) : Out := match ds with
  | [.int i, .int j] => @Bool.casesOn (fun _ => Out) (PySem.W.Z.ltB j i) (.ok (.int i) L) (.ok (.int j) L)
  | _ => .bad
theorem opn_min2 : OpN p (fun xs H Q => ∃ i j, xs = [.int i, .int j] ∧ Q (.int (if j < i then j else i)) H) oMin2 := by
  intro W σ ρ L H ds vs Q r hd po
  unfold oMin2 at po
  split at po
  · rename_i i j
    obtain ⟨v, w, rfl, h1, h2⟩ := dvs2 hd
    cases h1
    cases h2
    refine ⟨i, j, rfl, ?_⟩
    cases c : PySem.W.Z.ltB j i with
    | true => rw [c] at po; rw [if_pos ((PySem.W.Z.ltB_iff j i).mp c)]; exact po_ok po r (.int _)
    | false =>
      rw [c] at po
      rw [if_neg fun z => by rw [(PySem.W.Z.ltB_iff j i).mpr z] at c; cases c]
      exact po_ok po r (.int _)
  · exact po.elim
/-- a list of ints, of bools -/
noncomputable def intsD (ds : List D) : Option (List Int) := @List.rec D (fun _ => Option (List Int)) (some []) (fun d _ ih => match d with
  | .int i => @Option.casesOn _ (fun _ => Option (List Int)) ih none fun l => some (i :: l)
  | _ => none) ds
theorem intsD_ok {ρ : List Addr} {H : Hp} : ∀ {ds : List D} {xs : List V} {ns : List Int}, Dvs p H ρ ds xs → intsD ds = some ns → xs = ns.map V.int
  | _, _, _, .nil, h => by cases h; rfl
  | _, _, ns, .cons (d := d) (ds := ds) hd hs, h => by
    cases hd with
    | int i =>
      have h' : @Option.casesOn _ (fun _ => Option (List Int)) (intsD ds) none (fun l => some (i :: l)) = some ns := h
      cases q : intsD ds with
      | none => rw [q] at h'; cases h'
      | some l =>
        rw [q] at h'
        cases h'
        rw [intsD_ok hs q]; rfl
    | _ => exact (nomatch h)
noncomputable def blsD (ds : List D) : Option (List Bool) := @List.rec D (fun _ => Option (List Bool)) (some []) (fun d _ ih => match d with
  | .bl i => @Option.casesOn _ (fun _ => Option (List Bool)) ih none fun l => some (i :: l)
  | _ => none) ds
theorem blsD_ok {ρ : List Addr} {H : Hp} : ∀ {ds : List D} {xs : List V} {ns : List Bool}, Dvs p H ρ ds xs → blsD ds = some ns → xs = ns.map V.bl
  | _, _, _, .nil, h => by cases h; rfl
  | _, _, ns, .cons (d := d) (ds := ds) hd hs, h => by
    cases hd with
    | bl i =>
      have h' : @Option.casesOn _ (fun _ => Option (List Bool)) (blsD ds) none (fun l => some (i :: l)) = some ns := h
      cases q : blsD ds with
      | none => rw [q] at h'; cases h'
      | some l =>
        rw [q] at h'
        cases h'
        rw [blsD_ok hs q]; rfl
    | _ => exact (nomatch h)
noncomputable def oAll (ds : List D) (L : Sto) : Out := match ds with
  | [.ref i] => match L.get i with
    | some xs => match blsD xs with
      | some bs => @Bool.casesOn (fun _ => Out) (bs.all id) (.ok (.bl false) L) (.ok (.bl true) L)
      | none => .bad
    | none => .bad
  | _ => .bad
theorem opn_all : OpN p (rAll p.K) oAll := by
  intro W σ ρ L H ds vs Q r hd po
  unfold oAll at po
  split at po
  · rename_i i
    obtain ⟨v, rfl, h⟩ := dvs1 hd
    cases h with
    | @ref i a h =>
      obtain ⟨ds, xs, e1, e2, e3⟩ := r.at_ i a h
      rw [e1] at po
      simp only at po
      split at po
      · rename_i bs eb
        have ex := blsD_ok e3 eb
        refine ⟨a, bs, rfl, SqL.of (by rw [← ex]; exact e2), ?_⟩
        cases c : bs.all id with
        | true => rw [c] at po; exact po_ok po r (.bl _)
        | false => rw [c] at po; exact po_ok po r (.bl _)
      · exact po.elim
  · exact po.elim
noncomputable def oAny (ds : List D) (L : Sto) : Out := match ds with
  | [.ref i] => match L.get i with
    | some xs => match blsD xs with
      | some bs => @Bool.casesOn (fun _ => Out) (bs.any id) (.ok (.bl false) L) (.ok (.bl true) L)
      | none => .bad
    | none => .bad
  | _ => .bad
theorem opn_any : OpN p (rAny p.K) oAny := by
  intro W σ ρ L H ds vs Q r hd po
  unfold oAny at po
  split at po
  · rename_i i
    obtain ⟨v, rfl, h⟩ := dvs1 hd
    cases h with
    | @ref i a h =>
      obtain ⟨ds, xs, e1, e2, e3⟩ := r.at_ i a h
      rw [e1] at po
      simp only at po
      split at po
      · rename_i bs eb
        have ex := blsD_ok e3 eb
        refine ⟨a, bs, rfl, SqL.of (by rw [← ex]; exact e2), ?_⟩
        cases c : bs.any id with
        | true => rw [c] at po; exact po_ok po r (.bl _)
        | false => rw [c] at po; exact po_ok po r (.bl _)
      · exact po.elim
  · exact po.elim
noncomputable def sumK (ns : List Int) (k : Int → Out) : Out := @List.rec Int (fun _ => Int → Out) (fun acc => k acc) (fun n _ ih acc => fI (Int.add acc n) fun a => ih a) ns 0
theorem sumK_eq (ns : List Int) (k : Int → Out) : sumK ns k = k ns.sum := by
  have key : ∀ (ns : List Int) (acc : Int), @List.rec Int (fun _ => Int → Out) (fun acc => k acc) (fun n _ ih acc => fI (Int.add acc n) fun a => ih a) ns acc = k (acc + ns.sum) := by
    intro ns
    induction ns with
    | nil => intro acc; simp
    | cons n ns ih =>
      intro acc
      show fI (acc + n) (fun a => @List.rec Int (fun _ => Int → Out) (fun acc => k acc) (fun n _ ih acc => fI (Int.add acc n) fun a => ih a) ns a) = _
      rw [fI_eq, ih, List.sum_cons, Int.add_assoc]
  have := key ns 0
  rw [Int.zero_add] at this
  exact this
noncomputable def oSum (ds : List D) (L : Sto) : Out := match ds with
  | [.ref i] => match L.get i with
    | some xs => match intsD xs with
      | some ns => sumK ns fun n => .ok (.int n) L
      | none => .bad
    | none => .bad
  | _ => .bad
theorem opn_sum : OpN p (rSum p.K) oSum := by
  intro W σ ρ L H ds vs Q r hd po
  unfold oSum at po
  split at po
  · rename_i i
    obtain ⟨v, rfl, h⟩ := dvs1 hd
    cases h with
    | @ref i a h =>
      obtain ⟨ds, xs, e1, e2, e3⟩ := r.at_ i a h
      rw [e1] at po
      simp only at po
      split at po
      · rename_i ns en
        have ex := intsD_ok e3 en
        rw [sumK_eq] at po
        exact ⟨a, ns, rfl, SqL.of (by rw [← ex]; exact e2), po_ok po r (.int _)⟩
      · exact po.elim
  · exact po.elim
/-! ### isinstance -/
noncomputable def tyOf (d : D) : Option Nat := match d with
  | .non => some 0
  | .bl _ => some 1
  | .int _ => some 2
  | .str _ => some 3
  | .tup _ => some 4
  | .ref _ => some 5
  | .frl _ => some 5
  | _ => none
theorem tyOf_ok {ρ : List Addr} {L : Sto} {H : Hp} {d : D} {x : V} {n : Nat} (r : Rl p ρ L H) (h : Dv p H ρ d x) (e : tyOf d = some n) : TyX p.K H x (.type (tyN n)) := by
  cases h with
  | non => cases e; exact .base .non
  | bl b => cases e; exact .base (.bl b)
  | int i => cases e; exact .base (.int i)
  | str l => cases e; exact .base (.str _)
  | tup hq hs =>
    cases e
    rcases hq with (hq | ⟨o, hq⟩) | ⟨o, its, m, k1, k2, _⟩
    · exact .base (.tup hq)
    · exact .fTuple hq
    · exact .kTuple k1 k2
  | ref hr =>
    cases e
    obtain ⟨ds, xs, e1, e2, e3⟩ := r.at_ _ _ hr
    exact .base (.lst e2)
  | frl hq hs => cases e; exact .base (.frz hq)
  | frk hq hs =>
    cases e
    obtain ⟨o, its, n, k1, k2, _⟩ := hq
    exact .kList k1 k2
  | ty n => cases e
  | fn k => cases e
  | rng h => cases e
  | any v => cases e
noncomputable def isiB (a b : Nat) : Bool := match Nat.beq a b with
  | true => true
  | false => match a, b with
    | 1, 2 => true
    | _, _ => false
theorem isiB_ok : ∀ a b : Nat, a ≤ 5 → b ≤ 5 → kitB (tyN a) (tyN b) = some (isiB a b) := by
  intro a b ha hb
  rcases (show a = 0 ∨ a = 1 ∨ a = 2 ∨ a = 3 ∨ a = 4 ∨ a = 5 by omega) with rfl | rfl | rfl | rfl | rfl | rfl <;>
  rcases (show b = 0 ∨ b = 1 ∨ b = 2 ∨ b = 3 ∨ b = 4 ∨ b = 5 by omega) with rfl | rfl | rfl | rfl | rfl | rfl <;>
  decide +kernel
theorem tyOf_le {d : D} {n : Nat} (e : tyOf d = some n) : n ≤ 5 := by
  cases d <;> first | (cases e; decide) | cases e
noncomputable def oIsi (ds : List D) (L : Sto) : Out := match ds with
  | [d, .ty b] => match tyOf d with
    | some a => iff_ (Nat.ble b 5) (@Bool.casesOn (fun _ => Out) (isiB a b) (.ok (.bl false) L) (.ok (.bl true) L)) .bad
    | none => .bad
  | _ => .bad
theorem opn_isi : OpN p (rIsi p.K) oIsi := by
  intro W σ ρ L H ds vs Q r hd po
  unfold oIsi at po
  split at po
  · rename_i d b
    obtain ⟨v, w, rfl, h1, h2⟩ := dvs2 hd
    cases h2
    split at po
    · rename_i a ea
      obtain ⟨c, po1⟩ := iff_t po
      refine ⟨v, .ty (tyN b), .type (tyN a), .type (tyN b), isiB a b, rfl, .ty _, tyOf_ok r h1 ea, kit_ty (isiB_ok a b (tyOf_le ea) (Nat.le_of_ble_eq_true c)), ?_⟩
      cases q : isiB a b with
      | true => rw [q] at po1; exact po_ok po1 r (.bl _)
      | false => rw [q] at po1; exact po_ok po1 r (.bl _)
    · exact po.elim
  · exact po.elim
end
end Mr

namespace Mr
open PySem PySem.Spec PyProof.Rows L2
/-! ### statements -/
def PoS (p : Pm) (W : Wx) (T : Ends) (ρ : List Addr) (H : Hp) : SO → Prop
  | .nx S L => ∀ ρ' H' σ, Ext ρ H ρ' H' → Rl p ρ' L H' → EnvR p H' ρ' S σ → T.nx σ H'
  | .ret d L => ∀ ρ' H' v, Ext ρ H ρ' H' → Rl p ρ' L H' → Dv p H' ρ' d v → T.rt v H'
  | .brk S L => ∀ ρ' H' σ, Ext ρ H ρ' H' → Rl p ρ' L H' → EnvR p H' ρ' S σ → T.bk σ H'
  | .cnt S L => ∀ ρ' H' σ, Ext ρ H ρ' H' → Rl p ρ' L H' → EnvR p H' ρ' S σ → T.ct σ H'
  | .err c S L => ∀ ρ' H' σ, Ext ρ H ρ' H' → Rl p ρ' L H' → EnvR p H' ρ' S σ → W (.ref (p.C c)) none σ H'
  | .bad => False
abbrev ZT : L2.St → Prop := fun _ => True
def TrS (p : Pm) (Z : L2.St → Prop) (W : Wx) (m : SM) : TS := fun T σ H => ∃ ρ S L, At p Z ρ S L σ H ∧ PoS p W T ρ H (m S L)
structure ES (X : Cx) (p : Pm) (Z : L2.St → Prop) (W : Wx) (st : Stmt) (m : SM) : Prop where
  ps : PS X st (TrS p Z W m)
structure ESs (X : Cx) (p : Pm) (Z : L2.St → Prop) (W : Wx) (st : List Stmt) (m : SM) : Prop where
  ps : PSs X st (TrS p Z W m)
section
variable {p : Pm} {W : Wx} {T : Ends} {ρ ρ' : List Addr} {H H' : Hp} {S : List (Option D)} {L : Sto} {σ : L2.St} {Z : L2.St → Prop}
theorem PoS.ext (e : Ext ρ H ρ' H') : ∀ {o : SO}, PoS p W T ρ H o → PoS p W T ρ' H' o
  | .nx _ _, h => fun ρ2 H2 σ x r d => h ρ2 H2 σ (e.trans x) r d
  | .ret _ _, h => fun ρ2 H2 v x r d => h ρ2 H2 v (e.trans x) r d
  | .brk _ _, h => fun ρ2 H2 σ x r d => h ρ2 H2 σ (e.trans x) r d
  | .cnt _ _, h => fun ρ2 H2 σ x r d => h ρ2 H2 σ (e.trans x) r d
  | .err _ _ _, h => fun ρ2 H2 σ x r d => h ρ2 H2 σ (e.trans x) r d
  | .bad, h => h
theorem PoS.sd {o : Out} {k : D → Sto → SO} (a : At p Z ρ S L σ H) (h : PoS p W T ρ H (o.sd S k)) : Po p W σ (fun ρ1 L1 d _ H1 => PoS p W T ρ1 H1 (k d L1)) ρ H o := by
  cases o with
  | ok d L1 => exact fun ρ1 H1 v x r _ => PoS.ext x h
  | err c L1 => exact fun ρ1 H1 x r => h ρ1 H1 σ x r (a.env.mono a.rl x)
  | bad => exact h
theorem At.zt (a : At p Z ρ S L σ H) : At p ZT ρ S L σ H := ⟨trivial, a.env, a.rl⟩
end
section
variable {X : Cx} {p : Pm} {Z : L2.St → Prop} {W : Wx} {pos : Pos}
def sNil : SM := fun S L => .nx S L
noncomputable def sSeq (a b : SM) : SM := fun S L => match a S L with
  | .nx S1 L1 => b S1 L1
  | .ret d L1 => .ret d L1
  | .brk S1 L1 => .brk S1 L1
  | .cnt S1 L1 => .cnt S1 L1
  | .err c S1 L1 => .err c S1 L1
  | .bad => .bad
theorem es_nil : ESs X p Z W [] sNil := ⟨PSs.imp pss_nil fun D σ H h => by
  obtain ⟨ρ, S, L, a, po⟩ := h
  exact po ρ H σ (Ext.refl _ _) a.rl a.env⟩
theorem es_cons {st : Stmt} {rest : List Stmt} {a b : SM} (h1 : ES X p Z W st a) (h2 : ESs X p ZT W rest b) : ESs X p Z W (st :: rest) (sSeq a b) := ⟨PSs.imp (pss_cons h1.ps h2.ps) fun T σ H h => by
  obtain ⟨ρ, S, L, at_, po⟩ := h
  refine ⟨ρ, S, L, at_, ?_⟩
  unfold sSeq at po
  cases hm : a S L with
  | nx S1 L1 =>
    rw [hm] at po
    exact fun ρ1 H1 σ1 x r en => ⟨ρ1, S1, L1, ⟨trivial, en, r⟩, PoS.ext x po⟩
  | ret d L1 => rw [hm] at po; exact po
  | brk S1 L1 => rw [hm] at po; exact po
  | cnt S1 L1 => rw [hm] at po; exact po
  | err c S1 L1 => rw [hm] at po; exact po
  | bad => rw [hm] at po; exact po⟩
theorem es_one {st : Stmt} {a : SM} (h1 : ES X p Z W st a) : ESs X p Z W [st] a := ⟨pss_one h1.ps⟩
theorem es_pass : ES X p Z W (.Pass pos) sNil := ⟨PS.imp ps_pass fun D σ H h => by
  obtain ⟨ρ, S, L, a, po⟩ := h
  exact po ρ H σ (Ext.refl _ _) a.rl a.env⟩
def sBrk : SM := fun S L => .brk S L
def sCnt : SM := fun S L => .cnt S L
theorem es_brk : ES X p Z W (.Break pos) sBrk := ⟨PS.imp ps_break fun D σ H h => by
  obtain ⟨ρ, S, L, a, po⟩ := h
  exact po ρ H σ (Ext.refl _ _) a.rl a.env⟩
theorem es_cnt : ES X p Z W (.Continue pos) sCnt := ⟨PS.imp ps_continue fun D σ H h => by
  obtain ⟨ρ, S, L, a, po⟩ := h
  exact po ρ H σ (Ext.refl _ _) a.rl a.env⟩
noncomputable def sEx (m : EM) : SM := fun S L => (m S L).sd S fun _ L1 => .nx S L1
theorem es_ex {e : Expr} {m : EM} (h : EE X p Z W e m) (hs : swapsWith e none pos.line X.env = pure false := by rfl) : ES X p Z W (.Expr e pos) (sEx m) := ⟨PS.imp (ps_expr h.pe hs) fun T σ H h => by
  obtain ⟨ρ, S, L, a, po⟩ := h
  exact ⟨ρ, S, L, a, (PoS.sd a po).imp fun ρ1 L1 d v H1 e1 r1 d1 q => q ρ1 H1 σ (Ext.refl _ _) r1 (a.env.mono a.rl e1)⟩⟩
noncomputable def sRet (m : EM) : SM := fun S L => (m S L).sd S fun d L1 => .ret d L1
theorem es_ret {e : Expr} {m : EM} (h : EE X p Z W e m) : ES X p Z W (.Return (some e) pos) (sRet m) := ⟨PS.imp (ps_ret h.pe) fun T σ H h => by
  obtain ⟨ρ, S, L, a, po⟩ := h
  exact ⟨ρ, S, L, a, (PoS.sd a po).imp fun ρ1 L1 d v H1 e1 r1 d1 q => q ρ1 H1 v (Ext.refl _ _) r1 d1⟩⟩
def sRetN : SM := fun _ L => .ret .non L
theorem es_retN : ES X p Z W (.Return none pos) sRetN := ⟨PS.imp ps_retN fun T σ H h => by
  obtain ⟨ρ, S, L, a, po⟩ := h
  exact po ρ H .non (Ext.refl _ _) a.rl .non⟩
noncomputable def sIf (mc : EM) (a b : SM) : SM := fun S L => (mc S L).sd S fun d L1 => match d with
  | .bl c => @Bool.casesOn (fun _ => SO) c (b S L1) (a S L1)
  | _ => .bad
theorem es_if {c : Expr} {t u : List Stmt} {mc : EM} {a b : SM} (hc : ET X p Z W c mc) (ha : ESs X p Z W t a) (hb : ESs X p Z W u b) : ES X p Z W (.If c t u pos) (sIf mc a b) := ⟨PS.imp (ps_if hc.pt ha.ps hb.ps) fun T σ H h => by
  obtain ⟨ρ, S, L, at_, po⟩ := h
  refine ⟨ρ, S, L, at_, (PoS.sd at_ po).imp fun ρ1 L1 d v H1 e1 r1 d1 q => ?_⟩
  cases d1 with
  | bl c =>
    refine ⟨c, rfl, ?_⟩
    cases c with
    | true => rw [if_pos rfl]; exact ⟨ρ1, S, L1, at_.ext e1 r1, q⟩
    | false => rw [if_neg Bool.false_ne_true]; exact ⟨ρ1, S, L1, at_.ext e1 r1, q⟩
  | _ => exact q.elim⟩
/-! ### targets -/
abbrev GM := D → List (Option D) → Sto → SO
noncomputable def setS {α : Type} (xs : List α) (i : Nat) (v : α) (k : List α → SO) : SO := @List.rec α (fun _ => Nat → (List α → SO) → SO) (fun _ k => k []) (fun x xs ih i k => @Nat.casesOn (fun _ => SO) i (k (v :: xs)) fun j => ih j fun ys => k (x :: ys)) xs i k
theorem setS_eq {α : Type} (xs : List α) (i : Nat) (v : α) (k : List α → SO) : setS xs i v k = k (xs.set i v) := by
  induction xs generalizing i k with
  | nil => rfl
  | cons x xs ih =>
    cases i with
    | zero => rfl
    | succ j => exact ih j fun ys => k (x :: ys)
def TrG (p : Pm) (W : Wx) (g : GM) : TG := fun v σ H Q => ∃ ρ S L d, At p ZT ρ S L σ H ∧ Dv p H ρ d v ∧ PoS p W ⟨Q, fun _ _ => False, fun _ _ => False, fun _ _ => False⟩ ρ H (g d S L)
def TrGs (p : Pm) (W : Wx) (g : GM) : TGs := fun vs σ H Q => ∃ ρ S L ds, At p ZT ρ S L σ H ∧ Dvs p H ρ ds vs ∧ PoS p W ⟨Q, fun _ _ => False, fun _ _ => False, fun _ _ => False⟩ ρ H (g (.tup ds) S L)
structure EG (X : Cx) (p : Pm) (W : Wx) (tg : Expr) (g : GM) : Prop where
  pg : PG X tg (TrG p W g)
structure EGs (X : Cx) (p : Pm) (W : Wx) (tg : List Expr) (g : GM) : Prop where
  pg : PGs X tg (TrGs p W g)
theorem PG.imp {e : Expr} {t t' : TG} (h : PG X e t) (hi : ∀ v σ H Q, t' v σ H Q → t v σ H Q) : PG X e t' := ⟨fun pins s σ H v u Q I r hq => h.run pins s σ H v u Q I r (hi v σ H Q hq)⟩
theorem PGs.imp {e : List Expr} {t t' : TGs} (h : PGs X e t) (hi : ∀ v σ H Q, t' v σ H Q → t v σ H Q) : PGs X e t' := ⟨fun pins s σ H v u Q I r hq => h.run pins s σ H v u Q I r (hi v σ H Q hq)⟩
noncomputable def gNm (i : Nat) : GM := fun d S L => setS S i (some d) fun S' => .nx S' L
theorem eg_name {i : Nat} {tg : Expr} (h : PG X tg (gName i)) : EG X p W tg (gNm i) := ⟨PG.imp h fun v σ H Q h => by
  obtain ⟨ρ, S, L, d, a, dv, po⟩ := h
  unfold gNm at po
  rw [setS_eq] at po
  exact po ρ H (σ.set i (some v)) (Ext.refl _ _) a.rl (a.env.set dv)⟩
def gNl : GM := fun d S L => match d with
  | .tup [] => .nx S L
  | _ => .bad
theorem egs_nil : EGs X p W [] gNl := ⟨PGs.imp pgs_nil fun vs σ H Q h => by
  obtain ⟨ρ, S, L, ds, a, dv, po⟩ := h
  cases dv with
  | nil => exact ⟨rfl, po ρ H σ (Ext.refl _ _) a.rl a.env⟩
  | cons _ _ => exact po.elim⟩
noncomputable def gCn (g gs : GM) : GM := fun d S L => match d with
  | .tup (x :: xs) => match g x S L with
    | .nx S1 L1 => gs (.tup xs) S1 L1
    | .err c S1 L1 => .err c S1 L1
    | _ => .bad
  | _ => .bad
theorem egs_cons {e : Expr} {es : List Expr} {g gs : GM} (h1 : EG X p W e g) (h2 : EGs X p W es gs) (hs : (assignEach (e :: es) X.env).map (·.2) = assign e X.env :: (assignEach es X.env).map (·.2) := by rfl) : EGs X p W (e :: es) (gCn g gs) := ⟨PGs.imp (pgs_cons h1.pg h2.pg hs) fun vs σ H Q h => by
  obtain ⟨ρ, S, L, ds, a, dv, po⟩ := h
  cases dv with
  | nil => exact po.elim
  | @cons d ds v vs hd hs =>
    refine ⟨v, vs, rfl, ρ, S, L, d, a, hd, ?_⟩
    have po1 : PoS p W ⟨Q, fun _ _ => False, fun _ _ => False, fun _ _ => False⟩ ρ H (match g d S L with
      | .nx S1 L1 => gs (.tup ds) S1 L1
      | .err c S1 L1 => .err c S1 L1
      | _ => .bad) := po
    cases hm : g d S L with
    | nx S1 L1 =>
      rw [hm] at po1
      exact fun ρ1 H1 σ1 x r en => ⟨ρ1, S1, L1, ds, ⟨trivial, en, r⟩, hs.mono a.rl x, PoS.ext x po1⟩
    | err c S1 L1 => rw [hm] at po1; exact po1
    | ret d L1 => rw [hm] at po1; exact po1.elim
    | brk d L1 => rw [hm] at po1; exact po1.elim
    | cnt d L1 => rw [hm] at po1; exact po1.elim
    | bad => rw [hm] at po1; exact po1.elim⟩
noncomputable def gTp (n : Nat) (gs : GM) : GM := fun d S L => match d with
  | .tup xs => @Bool.casesOn (fun _ => SO) (Nat.beq (lenN xs) n) .bad (gs (.tup xs) S L)
  | _ => .bad
theorem eg_tup {es : List Expr} {k : Nat} {gs : GM} {n : Nat} (hK : p.K = X.K) (hc : X.calm = true) (h : EGs X p W es gs) (hn : (assignEach es X.env).length = n := by rfl) (hst : (assignEach es X.env).findIdx? (·.1) = none := by rfl) : EG X p W (.Tuple es k pos) (gTp n gs) := ⟨PG.imp (pg_tup hc h.pg hn hst) fun v σ H Q h => by
  obtain ⟨ρ, S, L, d, a, dv, po⟩ := h
  cases dv with
  | @tup b ds xs hq hs =>
    have po1 : PoS p W ⟨Q, fun _ _ => False, fun _ _ => False, fun _ _ => False⟩ ρ H (@Bool.casesOn (fun _ => SO) (Nat.beq (lenN ds) n) .bad (gs (.tup ds) S L)) := po
    cases hb : Nat.beq (lenN ds) n with
    | true =>
      rw [hb] at po1
      refine ⟨b, xs, rfl, by rw [← hK]; exact hq, ?_, ρ, S, L, ds, a, hs, po1⟩
      rw [← hs.length, ← lenN_eq]; exact Nat.eq_of_beq_eq_true hb
    | false => rw [hb] at po1; exact po1.elim
  | _ => exact po.elim⟩
/-- o[i] = v -/
noncomputable def setD (xs : List D) (i : Nat) (v : D) (k : List D → SO) : SO := setS xs i v k
noncomputable def Sto.setS (L : Sto) (i : Nat) (xs : List D) (S : List (Option D)) : SO := match L.setK i xs fun L' => .ok .non L' with
  | .ok _ L' => .nx S L'
  | _ => .bad
theorem sset_or (L : Sto) (i : Nat) (xs : List D) (S : List (Option D)) : L.setS i xs S = .bad ∨ ∃ L', L.setS i xs S = .nx S L' ∧ L'.n = L.n ∧ ∀ j, L'.get j = if j = i then some xs else L.get j := by
  unfold Sto.setS
  rcases setK_or L i xs (fun L' => .ok .non L') with e | ⟨L', e, h1, h2⟩
  · left; rw [e]
  · right; exact ⟨L', by rw [e], h1, h2⟩
noncomputable def ixD (n : Nat) (i : Int) : Option Nat := match i with
  | .ofNat k => match Nat.blt k n with
    | true => some k
    | false => none
  | .negSucc k => match Nat.blt k n with
    | true => some (Nat.sub n (Nat.succ k))
    | false => none
theorem ixD_ok {n : Nat} {i : Int} {j : Nat} (h : ixD n i = some j) : ixN n i = some j := by
  unfold ixD at h
  unfold ixN
  split at h
  · rename_i k
    split at h
    · rename_i hb
      cases h
      have := blt_t hb
      rw [if_pos (by show (0 : Int) ≤ (j : Int); omega), if_pos (by show (j : Int) < (n : Int); omega)]
      rfl
    · cases h
  · rename_i k
    split at h
    · rename_i hb
      cases h
      have := blt_t hb
      rw [if_neg (by omega), if_pos (by omega)]
      congr 1
      show (Int.negSucc k + (n : Int)).toNat = n - (k + 1)
      omega
    · cases h
noncomputable def oSet (o i v : D) (S : List (Option D)) (L : Sto) : SO := match o, i with
  | .ref k, .int n => match L.get k with
    | some xs => match ixD (lenN xs) n with
      | some j => setD xs j v fun ys => L.setS k ys S
      | none => .bad
    | none => .bad
  | _, _ => .bad
/-- a list's place is set -/
theorem set_ok {T : Ends} {ρ : List Addr} {S : List (Option D)} {L : Sto} {H : Hp} {o i v : D} {x y z : V} {Q : Hp → Prop} (r : Rl p ρ L H) (ho : Dv p H ρ o x) (hi : Dv p H ρ i y) (hv : Dv p H ρ v z) (po : PoS p W T ρ H (oSet o i v S L))
    (hq : ∀ L' H', PoS p W T ρ H (.nx S L') → Ext ρ H ρ H' → Rl p ρ L' H' → Q H') : rSetL x y z H Q := by
  cases ho with
  | @ref k a hr =>
    cases hi with
    | int n =>
      obtain ⟨ds, xs, e1, e2, e3⟩ := r.at_ k a hr
      have po1 : PoS p W T ρ H (match L.get k with
        | some xs => match ixD (lenN xs) n with
          | some j => setD xs j v fun ys => L.setS k ys S
          | none => .bad
        | none => .bad) := po
      rw [e1] at po1
      simp only at po1
      split at po1
      · rename_i j ej
        unfold setD at po1
        rw [setS_eq] at po1
        have ej' := ixD_ok ej
        rw [lenN_eq, e3.length] at ej'
        refine ⟨a, xs, n, j, rfl, rfl, e2, ej', ?_⟩
        rcases sset_or L k (ds.set j v) S with e | ⟨L', e, h1, h2⟩
        · rw [e] at po1; exact po1.elim
        · rw [e] at po1
          obtain ⟨x1, r1⟩ := r.set hr (e3.set hv j) h1 h2
          exact hq L' _ po1 x1 r1
      · exact po1.elim
    | _ => exact po.elim
  | _ => exact po.elim
noncomputable def gSb (mo mi : EM) : GM := fun d S L => (mo S L).sd S fun o L1 => (mi S L1).sd S fun i L2 => oSet o i d S L2
theorem eg_sub {o i : Expr} {mo mi : EM} (ho : EE X p ZT W o mo) (hi : EE X p ZT W i mi) (ha : ∀ v, assign (.Subscript o i pos) X.env v = (do
      let ov ← holding [v] (eval o X.env)
      let iv ← holding [v, ov] (eval i X.env)
      standAt pos
      holding [v, ov, iv] (setItem ov iv v)
      release [v, ov, iv] []) := by intro _; rfl) : EG X p W (.Subscript o i pos) (gSb mo mi) := ⟨PG.imp (pg_sub ho.pe hi.pe set_list ha) fun v σ H Q h => by
  obtain ⟨ρ, S, L, d, a, dv, po⟩ := h
  refine ⟨ρ, S, L, a, (PoS.sd a po).imp fun ρ1 L1 od ov H1 e1 r1 d1 po1 => ?_⟩
  have a1 := a.ext e1 r1
  refine ⟨ρ1, S, L1, a1, (PoS.sd a1 po1).imp fun ρ2 L2 id_ iv H2 e2 r2 d2 po2 => ?_⟩
  have a2 := a1.ext e2 r2
  exact set_ok r2 (d1.mono r1 e2) d2 (dv.mono a.rl (e1.trans e2)) po2 fun L' H' q x r' => q ρ2 H' σ x r' (a2.env.mono r2 x)⟩
/-! ### assignments -/
noncomputable def sAs (m : EM) (g : GM) : SM := fun S L => (m S L).sd S fun d L1 => g d S L1
/-- a target's step stays a target's step -/
def GOk (g : GM) : Prop := ∀ d S L, match g d S L with
  | .nx _ _ => True
  | .err _ _ _ => True
  | .bad => True
  | _ => False
theorem PoS.asg {T : Ends} {ρ : List Addr} {H : Hp} {o : SO} (ho : match o with
  | .nx _ _ => True
  | .err _ _ _ => True
  | .bad => True
  | _ => False) (h : PoS p W T ρ H o) : PoS p W ⟨T.nx, fun _ _ => False, fun _ _ => False, fun _ _ => False⟩ ρ H o := by
  cases o with
  | nx S L => exact h
  | err c S L => exact h
  | bad => exact h
  | ret _ _ => exact ho.elim
  | brk _ _ => exact ho.elim
  | cnt _ _ => exact ho.elim
/-- ends that a target may have -/
noncomputable def gEnd (g : GM) : GM := fun d S L => match g d S L with
  | .nx S1 L1 => .nx S1 L1
  | .err c S1 L1 => .err c S1 L1
  | _ => .bad
theorem gEnd_ok (g : GM) : GOk (gEnd g) := by
  intro d S L
  unfold gEnd
  cases g d S L <;> trivial
theorem eg_end {tg : Expr} {g : GM} (h : EG X p W tg g) : EG X p W tg (gEnd g) := ⟨PG.imp h.pg fun v σ H Q h => by
  obtain ⟨ρ, S, L, d, a, dv, po⟩ := h
  refine ⟨ρ, S, L, d, a, dv, ?_⟩
  unfold gEnd at po
  cases hm : g d S L with
  | nx S1 L1 => rw [hm] at po; exact po
  | err c S1 L1 => rw [hm] at po; exact po
  | ret _ _ => rw [hm] at po; exact po.elim
  | brk _ _ => rw [hm] at po; exact po.elim
  | cnt _ _ => rw [hm] at po; exact po.elim
  | bad => rw [hm] at po; exact po.elim⟩
theorem es_asg {tg e : Expr} {m : EM} {g : GM} (he : EE X p ZT W e m) (hg : EG X p W tg g) (hs : swapsWithSole [tg] e pos.line X.env = pure false := by rfl) (hw : swappedStores [tg] e X.env = pure none := by rfl) (h1 : (assignEach [tg] X.env).map (·.2) = [assign tg X.env] := by rfl) :
    ES X p ZT W (.Assign [tg] e pos) (sAs m (gEnd g)) := ⟨PS.imp (ps_asg he.pe (eg_end hg).pg hs hw h1) fun T σ H h => by
  obtain ⟨ρ, S, L, a, po⟩ := h
  refine ⟨ρ, S, L, a, (PoS.sd a po).imp fun ρ1 L1 d v H1 e1 r1 d1 q => ?_⟩
  exact ⟨ρ1, S, L1, d, a.ext e1 r1, d1, PoS.asg (gEnd_ok g d S L1) q⟩⟩
noncomputable def sSet (i : Nat) (m : EM) : SM := fun S L => (m S L).sd S fun d L1 => setS S i (some d) fun S' => .nx S' L1
/-- name = e, by the layer's rule for it -/
theorem es_set {i : Nat} {st : Stmt} {m : EM} (h : PS X st (tAsg (TrE p Z W m) (gName i))) : ES X p Z W st (sSet i m) := ⟨PS.imp h fun T σ H h => by
  obtain ⟨ρ, S, L, a, po⟩ := h
  refine ⟨ρ, S, L, a, (PoS.sd a po).imp fun ρ1 L1 d v H1 e1 r1 d1 q => ?_⟩
  rw [setS_eq] at q
  exact q ρ1 H1 (σ.set i (some v)) (Ext.refl _ _) r1 ((a.env.mono a.rl e1).set d1)⟩
noncomputable def Out.rowS (o : Out) (S : List (Option D)) (k : List D → Sto → SO) : SO := o.sd S fun d L => match d with
  | .tup ds => k ds L
  | _ => .bad
theorem PoS.rowS {T : Ends} {ρ : List Addr} {S : List (Option D)} {L : Sto} {σ : L2.St} {H : Hp} {o : Out} {k : List D → Sto → SO} (a : At p Z ρ S L σ H) (h : PoS p W T ρ H (o.rowS S k)) : Pa p W σ (fun ρ1 L1 ds _ H1 => PoS p W T ρ1 H1 (k ds L1)) ρ H o := by
  cases o with
  | ok d L1 =>
    cases d with
    | tup ds => exact fun ρ1 H1 v x r _ => PoS.ext x h
    | _ => exact h
  | err c L1 => exact fun ρ1 H1 x r => h ρ1 H1 σ x r (a.env.mono a.rl x)
  | bad => exact h
theorem Pa.imp {Q Q' : List Addr → Sto → List D → List V → Hp → Prop} {σ : L2.St} {ρ : List Addr} {H : Hp} (hQ : ∀ ρ' L d v H', Ext ρ H ρ' H' → Rl p ρ' L H' → Dvs p H' ρ' d v → Q ρ' L d v H' → Q' ρ' L d v H') : ∀ {o : Out}, Pa p W σ Q ρ H o → Pa p W σ Q' ρ H o := by
  intro o h
  cases o with
  | ok d L =>
    cases d with
    | tup ds => exact fun ρ2 H2 v x r d => hQ _ _ _ _ _ x r d (h ρ2 H2 v x r d)
    | _ => exact h
  | err c L => exact h
  | bad => exact h
/-- a, b = x, y -/
noncomputable def sPar (i j : Nat) (m : EM) : SM := fun S L => (m S L).rowS S fun ds L1 => match ds with
  | [d, e] => setS S i (some d) fun S1 => setS S1 j (some e) fun S2 => .nx S2 L1
  | _ => .bad
theorem es_par {i j : Nat} {st : Stmt} {m : EM} (h : PS X st (tPar i j (TrA p ZT W m))) : ES X p ZT W st (sPar i j m) := ⟨PS.imp h fun T σ H h => by
  obtain ⟨ρ, S, L, a, po⟩ := h
  refine ⟨ρ, S, L, a, (PoS.rowS a po).imp fun ρ1 L1 ds vs H1 e1 r1 d1 q => ?_⟩
  split at q
  · rename_i d e
    obtain ⟨v, w, rfl, h1, h2⟩ := dvs2 d1
    rw [setS_eq, setS_eq] at q
    exact ⟨v, w, rfl, q ρ1 H1 _ (Ext.refl _ _) r1 (((a.env.mono a.rl e1).set h1).set h2)⟩
  · exact q.elim⟩
/-- name op= e -/
noncomputable def sAug (i : Nat) (o : D → D → Sto → Out) (m : EM) : SM := fun S L => match nth S i with
  | some (some d) => (m S L).sd S fun e L1 => (o d e L1).sd S fun z L2 => setS S i (some z) fun S' => .nx S' L2
  | _ => .bad
theorem es_aug {i : Nat} {st : Stmt} {r : R2} {o : D → D → Sto → Out} {m : EM} (h : PS X st (tAug i (TrE p ZT W m) r)) (ho : Op2 p r o) : ES X p ZT W st (sAug i o m) := ⟨PS.imp h fun T σ H h => by
  obtain ⟨ρ, S, L, a, po⟩ := h
  unfold sAug at po
  rw [nth_eq] at po
  split at po
  · rename_i d ed
    obtain ⟨x, e1, e2⟩ := a.env.at_ i d ed
    refine ⟨x, e1, ρ, S, L, a, (PoS.sd a po).imp fun ρ1 L1 e y H1 x1 r1 d1 q => ?_⟩
    have a1 := a.ext x1 r1
    refine ho r1 (e2.mono a.rl x1) d1 ((PoS.sd (W := W) (Z := ZT) (σ := σ) a1 q).imp fun ρ2 L2 z v H2 x2 r2 d2 q2 => ?_)
    rw [setS_eq] at q2
    exact q2 ρ2 H2 _ (Ext.refl _ _) r2 ((a1.env.mono r1 x2).set d2)
  · exact po.elim⟩
/-- xs[i] op= e -/
noncomputable def sAugS (mo mi me : EM) (og : D → D → Sto → Out) (o : D → D → Sto → Out) : SM := fun S L => (mo S L).sd S fun ob L1 => (mi S L1).sd S fun ix L2 => (og ob ix L2).sd S fun x L3 => (me S L3).sd S fun y L4 => (o x y L4).sd S fun z L5 => oSet ob ix z S L5
theorem es_augS {st : Stmt} {rg r : R2} {og o : D → D → Sto → Out} {mo mi me : EM} (h : PS X st (tAugS (TrE p ZT W mo) (TrE p ZT W mi) (TrE p ZT W me) rg r rSetL)) (hog : Op2 p rg og) (ho : Op2 p r o) : ES X p ZT W st (sAugS mo mi me og o) := ⟨PS.imp h fun T σ H h => by
  obtain ⟨ρ, S, L, a, po⟩ := h
  refine ⟨ρ, S, L, a, (PoS.sd a po).imp fun ρ1 L1 ob ov H1 x1 r1 d1 q1 => ?_⟩
  have a1 := a.ext x1 r1
  refine ⟨ρ1, S, L1, a1, (PoS.sd a1 q1).imp fun ρ2 L2 ix iv H2 x2 r2 d2 q2 => ?_⟩
  have a2 := a1.ext x2 r2
  refine hog r2 (d1.mono r1 x2) d2 ((PoS.sd (W := W) (Z := ZT) (σ := σ) a2 q2).imp fun ρ3 L3 x xv H3 x3 r3 d3 q3 => ?_)
  have a3 := a2.ext x3 r3
  refine ⟨ρ3, S, L3, a3, (PoS.sd a3 q3).imp fun ρ4 L4 y yv H4 x4 r4 d4 q4 => ?_⟩
  have a4 := a3.ext x4 r4
  refine ho r4 (d3.mono r3 x4) d4 ((PoS.sd (W := W) (Z := ZT) (σ := σ) a4 q4).imp fun ρ5 L5 z zv H5 x5 r5 d5 q5 => ?_)
  have a5 := a4.ext x5 r5
  exact set_ok r5 (d1.mono r1 (x2.trans (x3.trans (x4.trans x5)))) (d2.mono r2 (x3.trans (x4.trans x5))) d5 q5 fun L' H' q x r' => q ρ5 H' σ x r' (a5.env.mono r5 x)⟩
end
end Mr

namespace Mr
open PySem PySem.Spec PyProof.Rows L2 RZ
/-! ### a weaker keeping: all but lists -/
structure Ex2 (ρ : List Addr) (H : Hp) (ρ' : List Addr) (H' : Hp) : Prop where
  pre : ∃ t, ρ' = ρ ++ t
  keep : ∀ a o, H a = some o → (∀ xs, o ≠ .lst xs) → H' a = some o
theorem Ext.ex2 {p : Pm} {ρ ρ' : List Addr} {L : Sto} {H H' : Hp} (e : Ext ρ H ρ' H') (r : Rl p ρ L H) : Ex2 ρ H ρ' H' := ⟨let ⟨t, h, _⟩ := e.pre; ⟨t, h⟩, fun a o h n => e.keep a o h fun hm => by
  obtain ⟨xs, q⟩ := r.lst hm; rw [h] at q; exact n xs (Option.some.inj q)⟩
theorem Ex2.get {ρ ρ' : List Addr} {H H' : Hp} (e : Ex2 ρ H ρ' H') {i : Nat} {a : Addr} (h : ρ[i]? = some a) : ρ'[i]? = some a := by
  obtain ⟨t, rfl⟩ := e.pre
  have hl : i < ρ.length := (List.getElem?_eq_some_iff.mp h).1
  rw [List.getElem?_append_left hl]; exact h
theorem sqT_mono2 {p : Pm} {ρ ρ' : List Addr} {H H' : Hp} (e : Ex2 ρ H ρ' H') {a : Addr} {xs : List V} (h : SqT p.K H a xs) : SqT p.K H' a xs := by
  rcases h with (h | ⟨o, h⟩) | h
  · exact .inl (.inl (e.keep a _ h fun _ q => nomatch q))
  · exact .inl (.inr ⟨o, e.keep a _ h fun _ q => nomatch q⟩)
  · exact .inr h
mutual
theorem Dv.mono2 {p : Pm} {ρ ρ' : List Addr} {H H' : Hp} (e : Ex2 ρ H ρ' H') : ∀ {d : D} {v : V}, Dv p H ρ d v → Dv p H' ρ' d v
  | _, _, .non => .non
  | _, _, .bl b => .bl b
  | _, _, .int i => .int i
  | _, _, .str l => .str l
  | _, _, .ty n => .ty n
  | _, _, .tup h hs => .tup (sqT_mono2 e h) (Dvs.mono2 e hs)
  | _, _, .ref h => .ref (e.get h)
  | _, _, .fn k => .fn k
  | _, _, .rng h => .rng (e.keep _ _ h fun _ q => nomatch q)
  | _, _, .frl h hs => .frl (e.keep _ _ h fun _ q => nomatch q) (Dvs.mono2 e hs)
  | _, _, .frk h hs => .frk h (Dvs.mono2 e hs)
  | _, _, .any v => .any v
theorem Dvs.mono2 {p : Pm} {ρ ρ' : List Addr} {H H' : Hp} (e : Ex2 ρ H ρ' H') : ∀ {ds : List D} {vs : List V}, Dvs p H ρ ds vs → Dvs p H' ρ' ds vs
  | _, _, .nil => .nil
  | _, _, .cons h hs => .cons (Dv.mono2 e h) (Dvs.mono2 e hs)
end
/-- a list beside the store is changed -/
theorem ex2_upd {ρ : List Addr} {H : Hp} {q : Addr} {xs ys : List V} (h : H q = some (.lst xs)) : Ex2 ρ H ρ (upd H q (.lst ys)) := ⟨⟨[], by simp⟩, fun a o ha n => by
  have : a ≠ q := fun e => by rw [e, h] at ha; exact n xs (Option.some.inj ha).symm
  rw [upd_ne this]; exact ha⟩
theorem Rl.beside {p : Pm} {ρ : List Addr} {L : Sto} {H : Hp} {q : Addr} {xs ys : List V} (r : Rl p ρ L H) (h : H q = some (.lst xs)) (hn : q ∉ ρ) : Rl p ρ L (upd H q (.lst ys)) := ⟨r.nd, r.len, fun i a hi => by
  obtain ⟨ds, zs, e1, e2, e3⟩ := r.at_ i a hi
  have : a ≠ q := fun e => hn (by rw [← e]; exact List.mem_of_getElem? hi)
  exact ⟨ds, zs, e1, by rw [upd_ne this]; exact e2, e3.mono2 (ex2_upd h)⟩⟩
/-- a list of the heap joins the store -/
theorem Rl.adopt {p : Pm} {ρ : List Addr} {L L' : Sto} {H : Hp} {q : Addr} {ds : List D} {xs : List V} (r : Rl p ρ L H) (h : H q = some (.lst xs)) (hn : q ∉ ρ) (hd : Dvs p H ρ ds xs) (hl : L'.n = L.n + 1) (hg : ∀ j, L'.get j = if j = L.n then some ds else L.get j) :
    Rl p (ρ ++ [q]) L' H ∧ (ρ ++ [q])[L.n]? = some q := by
  have ex : Ex2 ρ H (ρ ++ [q]) H := ⟨⟨[q], rfl⟩, fun _ _ h _ => h⟩
  refine ⟨⟨?_, ?_, fun i a hi => ?_⟩, by rw [← r.len]; simp⟩
  · rw [List.nodup_append]
    refine ⟨r.nd, by simp, fun a ha b hb => ?_⟩
    have e : b = q := by simpa using hb
    rw [e]; intro z; rw [z] at ha; exact hn ha
  · rw [List.length_append, r.len, hl]; rfl
  · by_cases hi' : i < ρ.length
    · rw [List.getElem?_append_left hi'] at hi
      obtain ⟨es, ys, e1, e2, e3⟩ := r.at_ i a hi
      exact ⟨es, ys, by rw [hg, if_neg (by have := r.len; omega)]; exact e1, e2, e3.mono2 ex⟩
    · have hi2 : i < (ρ ++ [q]).length := (List.getElem?_eq_some_iff.mp hi).1
      have e : i = ρ.length := by rw [List.length_append] at hi2; simp at hi2; omega
      subst e
      rw [List.getElem?_append_right (Nat.le_refl _)] at hi
      simp at hi
      subst hi
      exact ⟨ds, xs, by rw [hg, if_pos r.len], h, hd.mono2 ex⟩

/-! ### what is walked -/
structure IJ (p : Pm) (J : It) (nf : Sto → Nat → Option (Option D)) (ρ : List Addr) (H : Hp) : Prop where
  go : ∀ (i : Nat) (ρ' : List Addr) (L' : Sto) (H' : Hp) (x : D), Ext ρ H ρ' H' → Rl p ρ' L' H' → nf L' i = some (some x) → J.go i H' ∧ ∀ v H'', J.yld i H' v H'' → Ext ρ' H' ρ' H'' ∧ Rl p ρ' L' H'' ∧ Dv p H'' ρ' x v
  stop : ∀ (i : Nat) (ρ' : List Addr) (L' : Sto) (H' : Hp), Ext ρ H ρ' H' → Rl p ρ' L' H' → nf L' i = some none → J.stop i H'
theorem IJ.ext {p : Pm} {J : It} {nf : Sto → Nat → Option (Option D)} {ρ ρ1 : List Addr} {H H1 : Hp} (j : IJ p J nf ρ H) (e : Ext ρ H ρ1 H1) : IJ p J nf ρ1 H1 :=
  ⟨fun i ρ' L' H' x x1 => j.go i ρ' L' H' x (e.trans x1), fun i ρ' L' H' x1 => j.stop i ρ' L' H' (e.trans x1)⟩
def PoI (p : Pm) (W : Wx) (σ : L2.St) (Q : List Addr → Sto → D → Hp → Prop) (ρ : List Addr) (H : Hp) : Out → Prop
  | .ok d L => ∀ ρ' H', Ext ρ H ρ' H' → Rl p ρ' L H' → Q ρ' L d H'
  | .err c L => ∀ ρ' H', Ext ρ H ρ' H' → Rl p ρ' L H' → W (.ref (p.C c)) none σ H'
  | .bad => False
def TrI (p : Pm) (Z : L2.St → Prop) (W : Wx) (m : EM) (nf : D → Sto → Nat → Option (Option D)) : TI := fun σ H R => ∃ ρ S L, At p Z ρ S L σ H ∧ PoI p W σ (fun ρ' L' d H' => ∀ J, IJ p J (nf d) ρ' H' → R J H') ρ H (m S L)
structure EI (X : Cx) (p : Pm) (Z : L2.St → Prop) (W : Wx) (tg e : Expr) (m : EM) (nf : D → Sto → Nat → Option (Option D)) : Prop where
  pi : PI X tg e (TrI p Z W m nf)
theorem PI.imp {X : Cx} {tg e : Expr} {t t' : TI} (h : PI X tg e t) (hi : ∀ σ H Q, t' σ H Q → t σ H Q) : PI X tg e t' := ⟨fun pins s σ H R I hq => h.run pins s σ H R I (hi σ H R hq)⟩
noncomputable def lookN (xs : List D) (i : Nat) : Option (Option D) := some (nth xs i)
noncomputable def nfL (d : D) (L : Sto) (i : Nat) : Option (Option D) := match d with
  | .ref k => match L.get k with
    | some xs => some (nth xs i)
    | none => none
  | _ => none
noncomputable def nfT (d : D) (_ : Sto) (i : Nat) : Option (Option D) := match d with
  | .tup xs => some (nth xs i)
  | _ => none
noncomputable def nfR (d : D) (_ : Sto) (i : Nat) : Option (Option D) := match d with
  | .rng lo hi => match PySem.W.Z.ltB (Int.add lo (.ofNat i)) hi with
    | true => some (some (.int (Int.add lo (.ofNat i))))
    | false => some none
  | _ => none
noncomputable def nfE (d : D) (L : Sto) (i : Nat) : Option (Option D) := match d with
  | .ref k => match L.get k with
    | some xs => match nth xs i with
      | some x => some (some (.tup [.int (.ofNat i), x]))
      | none => some none
    | none => none
  | _ => none
noncomputable def nfZ (d : D) (L : Sto) (i : Nat) : Option (Option D) := match d with
  | .tup [.ref k, .ref j] => match L.get k, L.get j with
    | some xs, some ys => match nth xs i, nth ys i with
      | some x, some y => some (some (.tup [x, y]))
      | _, _ => some none
    | _, _ => none
  | .tup [.tup xs, .tup ys] => match nth xs i, nth ys i with
    | some x, some y => some (some (.tup [x, y]))
    | _, _ => some none
  | _ => none
section
variable {p : Pm} {ρ : List Addr} {L : Sto} {H : Hp}
theorem ij_list {k : Nat} {a : Addr} (h : ρ[k]? = some a) : IJ p (Itl p.K a) (nfL (.ref k)) ρ H := by
  refine ⟨fun i ρ' L' H' x e r q => ?_, fun i ρ' L' H' e r q => ?_⟩
  · obtain ⟨ds, xs, e1, e2, e3⟩ := r.at_ k a (e.get h)
    have q' : (match L'.get k with
      | some xs => some (nth xs i)
      | none => none) = some (some x) := q
    rw [e1] at q'
    have q2 : ds[i]? = some x := by rw [← nth_eq]; exact Option.some.inj q'
    obtain ⟨v, f1, f2⟩ := e3.get q2
    refine ⟨⟨xs, v, SqL.of e2, f1⟩, fun w H'' ⟨y1, y2⟩ => ?_⟩
    subst y1
    have := y2 xs (SqL.of e2)
    rw [f1] at this
    cases this
    exact ⟨Ext.refl _ _, r, f2⟩
  · obtain ⟨ds, xs, e1, e2, e3⟩ := r.at_ k a (e.get h)
    have q' : (match L'.get k with
      | some xs => some (nth xs i)
      | none => none) = some none := q
    rw [e1] at q'
    have q2 : ds[i]? = none := by rw [← nth_eq]; exact Option.some.inj q'
    exact ⟨xs, SqL.of e2, by rw [← e3.length]; exact List.getElem?_eq_none_iff.mp q2⟩
theorem sqT_inj {K : PySem.W.Frag} {H : Hp} {a : Addr} {xs : List V} (h : SqT K H a xs) : SqT K H a xs := h
theorem ij_tup {a : Addr} {ds : List D} {xs : List V} (r0 : Rl p ρ L H) (h : SqT p.K H a xs) (hs : Dvs p H ρ ds xs) : IJ p (Itt p.K a) (nfT (.tup ds)) ρ H := by
  refine ⟨fun i ρ' L' H' x e r q => ?_, fun i ρ' L' H' e r q => ?_⟩
  · have q2 : ds[i]? = some x := by rw [← nth_eq]; exact Option.some.inj q
    obtain ⟨v, f1, f2⟩ := hs.get q2
    have h' := sqT_mono r0 e h
    refine ⟨⟨xs, v, h', f1⟩, fun w H'' ⟨y1, y2⟩ => ?_⟩
    subst y1
    have := y2 xs h'
    rw [f1] at this
    cases this
    exact ⟨Ext.refl _ _, r, f2.mono r0 e⟩
  · have q2 : ds[i]? = none := by rw [← nth_eq]; exact Option.some.inj q
    exact ⟨xs, sqT_mono r0 e h, by rw [← hs.length]; exact List.getElem?_eq_none_iff.mp q2⟩
theorem ij_rng {lo hi : Int} : IJ p (Itr lo (hi - lo).toNat) (nfR (.rng lo hi)) ρ H := by
  refine ⟨fun i ρ' L' H' x e r q => ?_, fun i ρ' L' H' e r q => ?_⟩
  · have q' : (match PySem.W.Z.ltB (lo + ((i : Nat) : Int)) hi with
      | true => some (some (D.int (lo + ((i : Nat) : Int))))
      | false => some none) = some (some x) := q
    split at q'
    · rename_i c
      have c' := (PySem.W.Z.ltB_iff _ _).mp c
      cases q'
      refine ⟨?_, fun w H'' ⟨y1, y2⟩ => ?_⟩
      · show i < (hi - lo).toNat; omega
      · subst y1 y2
        exact ⟨Ext.refl _ _, r, .int _⟩
    · cases q'
  · have q' : (match PySem.W.Z.ltB (lo + ((i : Nat) : Int)) hi with
      | true => some (some (D.int (lo + ((i : Nat) : Int))))
      | false => some none) = some none := q
    split at q'
    · cases q'
    · rename_i c
      have c' : ¬ lo + ((i : Nat) : Int) < hi := fun z => by rw [(PySem.W.Z.ltB_iff _ _).mpr z] at c; cases c
      show (hi - lo).toNat ≤ i
      omega
theorem ij_enum {k : Nat} {a : Addr} (h : ρ[k]? = some a) : IJ p (Ite p.K a) (nfE (.ref k)) ρ H := by
  refine ⟨fun i ρ' L' H' x e r q => ?_, fun i ρ' L' H' e r q => ?_⟩
  · obtain ⟨ds, xs, e1, e2, e3⟩ := r.at_ k a (e.get h)
    have q' : (match L'.get k with
      | some xs => match nth xs i with
        | some x => some (some (D.tup [.int (.ofNat i), x]))
        | none => some none
      | none => none) = some (some x) := q
    rw [e1] at q'
    simp only at q'
    rw [nth_eq] at q'
    cases q2 : ds[i]? with
    | none => rw [q2] at q'; cases q'
    | some y =>
      rw [q2] at q'
      cases q'
      obtain ⟨v, f1, f2⟩ := e3.get q2
      refine ⟨⟨xs, v, SqL.of e2, f1⟩, fun w H'' ⟨T, u, y1, y2, y3, y4⟩ => ?_⟩
      have := y4 xs (SqL.of e2)
      rw [f1] at this
      cases this
      subst y1 y3
      exact ⟨Ext.fresh _ y2, r.fresh _ y2, .tup (SqT.of upd_same) (.cons (.int _) (.cons (f2.mono r (Ext.fresh _ y2)) .nil))⟩
  · obtain ⟨ds, xs, e1, e2, e3⟩ := r.at_ k a (e.get h)
    have q' : (match L'.get k with
      | some xs => match nth xs i with
        | some x => some (some (D.tup [.int (.ofNat i), x]))
        | none => some none
      | none => none) = some none := q
    rw [e1] at q'
    simp only at q'
    rw [nth_eq] at q'
    cases q2 : ds[i]? with
    | none => exact ⟨xs, SqL.of e2, by rw [← e3.length]; exact List.getElem?_eq_none_iff.mp q2⟩
    | some y => rw [q2] at q'; cases q'
theorem ij_zipL {k j : Nat} {a b : Addr} (h : ρ[k]? = some a) (h' : ρ[j]? = some b) : IJ p (Itz p.K a b) (nfZ (.tup [.ref k, .ref j])) ρ H := by
  refine ⟨fun i ρ' L' H' x e r q => ?_, fun i ρ' L' H' e r q => ?_⟩
  · obtain ⟨ds, xs, e1, e2, e3⟩ := r.at_ k a (e.get h)
    obtain ⟨es, ys, g1, g2, g3⟩ := r.at_ j b (e.get h')
    have q' : (match L'.get k, L'.get j with
      | some xs, some ys => match nth xs i, nth ys i with
        | some x, some y => some (some (D.tup [x, y]))
        | _, _ => some none
      | _, _ => none) = some (some x) := q
    rw [e1, g1] at q'
    simp only at q'
    rw [nth_eq, nth_eq] at q'
    cases q2 : ds[i]? with
    | none => rw [q2] at q'; cases q'
    | some y =>
      cases q3 : es[i]? with
      | none => rw [q2, q3] at q'; cases q'
      | some z =>
        rw [q2, q3] at q'
        cases q'
        obtain ⟨v, f1, f2⟩ := e3.get q2
        obtain ⟨w, w1, w2⟩ := g3.get q3
        refine ⟨⟨xs, ys, v, w, SqL.of e2, SqL.of g2, f1, w1⟩, fun u H'' ⟨T, s1, s2, y1, y2, y3, y4, y5⟩ => ?_⟩
        have t1 := y4 xs (SqL.of e2)
        have t2 := y5 ys (SqL.of g2)
        rw [f1] at t1
        rw [w1] at t2
        cases t1
        cases t2
        subst y1 y3
        exact ⟨Ext.fresh _ y2, r.fresh _ y2, .tup (SqT.of upd_same) (.cons (f2.mono r (Ext.fresh _ y2)) (.cons (w2.mono r (Ext.fresh _ y2)) .nil))⟩
  · obtain ⟨ds, xs, e1, e2, e3⟩ := r.at_ k a (e.get h)
    obtain ⟨es, ys, g1, g2, g3⟩ := r.at_ j b (e.get h')
    have q' : (match L'.get k, L'.get j with
      | some xs, some ys => match nth xs i, nth ys i with
        | some x, some y => some (some (D.tup [x, y]))
        | _, _ => some none
      | _, _ => none) = some none := q
    rw [e1, g1] at q'
    simp only at q'
    rw [nth_eq, nth_eq] at q'
    refine ⟨xs, ys, SqL.of e2, SqL.of g2, ?_⟩
    cases q2 : ds[i]? with
    | none => exact .inl (by rw [← e3.length]; exact List.getElem?_eq_none_iff.mp q2)
    | some y =>
      cases q3 : es[i]? with
      | none => exact .inr (by rw [← g3.length]; exact List.getElem?_eq_none_iff.mp q3)
      | some z => rw [q2, q3] at q'; cases q'
theorem ij_zipT {a b : Addr} {ds es : List D} {xs ys : List V} (r0 : Rl p ρ L H) (h : SqT p.K H a xs) (hs : Dvs p H ρ ds xs) (h' : SqT p.K H b ys) (hs' : Dvs p H ρ es ys) : IJ p (ItzT p.K a b) (nfZ (.tup [.tup ds, .tup es])) ρ H := by
  refine ⟨fun i ρ' L' H' x e r q => ?_, fun i ρ' L' H' e r q => ?_⟩
  · have q' : (match nth ds i, nth es i with
        | some x, some y => some (some (D.tup [x, y]))
        | _, _ => some none) = some (some x) := q
    rw [nth_eq, nth_eq] at q'
    cases q2 : ds[i]? with
    | none => rw [q2] at q'; cases q'
    | some y =>
      cases q3 : es[i]? with
      | none => rw [q2, q3] at q'; cases q'
      | some z =>
        rw [q2, q3] at q'
        cases q'
        obtain ⟨v, f1, f2⟩ := hs.get q2
        obtain ⟨w, w1, w2⟩ := hs'.get q3
        have k1 := sqT_mono r0 e h
        have k2 := sqT_mono r0 e h'
        refine ⟨⟨xs, ys, v, w, k1, k2, f1, w1⟩, fun u H'' ⟨T, s1, s2, y1, y2, y3, y4, y5⟩ => ?_⟩
        have t1 := y4 xs k1
        have t2 := y5 ys k2
        rw [f1] at t1
        rw [w1] at t2
        cases t1
        cases t2
        subst y1 y3
        exact ⟨Ext.fresh _ y2, r.fresh _ y2, .tup (SqT.of upd_same) (.cons ((f2.mono r0 e).mono r (Ext.fresh _ y2)) (.cons ((w2.mono r0 e).mono r (Ext.fresh _ y2)) .nil))⟩
  · have q' : (match nth ds i, nth es i with
        | some x, some y => some (some (D.tup [x, y]))
        | _, _ => some none) = some none := q
    rw [nth_eq, nth_eq] at q'
    refine ⟨xs, ys, sqT_mono r0 e h, sqT_mono r0 e h', ?_⟩
    cases q2 : ds[i]? with
    | none => exact .inl (by rw [← hs.length]; exact List.getElem?_eq_none_iff.mp q2)
    | some y =>
      cases q3 : es[i]? with
      | none => exact .inr (by rw [← hs'.length]; exact List.getElem?_eq_none_iff.mp q3)
      | some z => rw [q2, q3] at q'; cases q'
end
section
variable {X : Cx} {p : Pm} {Z : L2.St → Prop} {W : Wx} {tg : Expr} {pos : Pos}
theorem PoI.of {σ : L2.St} {ρ : List Addr} {H : Hp} {Q : List Addr → Sto → D → Hp → Prop} {Q' : List Addr → Sto → D → V → Hp → Prop} (hq : ∀ ρ' L d v H', Ext ρ H ρ' H' → Rl p ρ' L H' → Dv p H' ρ' d v → Q ρ' L d H' → Q' ρ' L d v H') : ∀ {o : Out}, PoI p W σ Q ρ H o → Po p W σ Q' ρ H o
  | .ok _ _, h => fun ρ' H' v x r d => hq _ _ _ _ _ x r d (h ρ' H' x r)
  | .err _ _, h => h
  | .bad, h => h
/-- only a list, only a tuple -/
noncomputable def onlyL (m : EM) : EM := fun S L => (m S L).bd fun d L1 => match d with
  | .ref k => .ok (.ref k) L1
  | _ => .bad
noncomputable def onlyT (m : EM) : EM := fun S L => (m S L).bd fun d L1 => match d with
  | .tup k => .ok (.tup k) L1
  | _ => .bad
theorem poi_bd {σ : L2.St} {ρ : List Addr} {H : Hp} {Q : List Addr → Sto → D → Hp → Prop} {o : Out} {k : D → Sto → Out} (h : PoI p W σ Q ρ H (o.bd k)) : Po p W σ (fun ρ1 L1 d _ H1 => PoI p W σ Q ρ1 H1 (k d L1)) ρ H o := by
  cases o with
  | ok d L =>
    intro ρ1 H1 v x r _
    have h' : PoI p W σ Q ρ H (k d L) := h
    revert h'
    cases k d L with
    | ok e L2 => exact fun h' ρ2 H2 x2 r2 => h' ρ2 H2 (x.trans x2) r2
    | err c L2 => exact fun h' ρ2 H2 x2 r2 => h' ρ2 H2 (x.trans x2) r2
    | bad => exact fun h' => h'
  | err c L => exact h
  | bad => exact h
theorem ei_list {e : Expr} {m : EM} (hK : p.K = X.K) (h : EE X p Z W e m) : EI X p Z W tg e (onlyL m) nfL := ⟨PI.imp (pi_list h.pe) fun σ H R h => by
  obtain ⟨ρ, S, L, a, po⟩ := h
  refine ⟨ρ, S, L, a, (poi_bd po).imp fun ρ1 L1 d x H1 e1 r1 d1 q => ?_⟩
  cases d1 with
  | @ref k b hk =>
    obtain ⟨ds, xs, f1, f2, f3⟩ := r1.at_ k b hk
    exact ⟨b, rfl, ⟨xs, SqL.of f2⟩, q ρ1 H1 (Ext.refl _ _) r1 _ (by rw [← hK]; exact ij_list hk)⟩
  | _ => exact q.elim⟩
theorem ei_tup {e : Expr} {m : EM} (hK : p.K = X.K) (h : EE X p Z W e m) : EI X p Z W tg e (onlyT m) nfT := ⟨PI.imp (pi_tup h.pe) fun σ H R h => by
  obtain ⟨ρ, S, L, a, po⟩ := h
  refine ⟨ρ, S, L, a, (poi_bd po).imp fun ρ1 L1 d x H1 e1 r1 d1 q => ?_⟩
  cases d1 with
  | @tup b ds xs hq hs => exact ⟨b, rfl, ⟨xs, by rw [← hK]; exact hq⟩, q ρ1 H1 (Ext.refl _ _) r1 _ (by rw [← hK]; exact ij_tup r1 hq hs)⟩
  | _ => exact q.elim⟩
theorem poi_row {σ : L2.St} {ρ : List Addr} {H : Hp} {Q : List Addr → Sto → D → Hp → Prop} {o : Out} {k : List D → Sto → Out} (h : PoI p W σ Q ρ H (o.row k)) : Pa p W σ (fun ρ1 L1 ds _ H1 => PoI p W σ Q ρ1 H1 (k ds L1)) ρ H o := by
  cases o with
  | ok d L =>
    cases d with
    | tup ds =>
      intro ρ1 H1 v x r _
      have h' : PoI p W σ Q ρ H (k ds L) := h
      revert h'
      cases k ds L with
      | ok e L2 => exact fun h' ρ2 H2 x2 r2 => h' ρ2 H2 (x.trans x2) r2
      | err c L2 => exact fun h' ρ2 H2 x2 r2 => h' ρ2 H2 (x.trans x2) r2
      | bad => exact fun h' => h'
    | _ => exact h
  | err c L => exact h
  | bad => exact h
def lim : Nat := 1000000000000
noncomputable def rng1 (m : EM) : EM := fun S L => (m S L).row fun ds L1 => match ds with
  | [.int j] => iff_ (Nat.blt j.natAbs lim) (.ok (.rng 0 j) L1) .bad
  | _ => .bad
noncomputable def rng2 (m : EM) : EM := fun S L => (m S L).row fun ds L1 => match ds with
  | [.int i, .int j] => iff_ (Nat.blt i.natAbs lim) (iff_ (Nat.blt j.natAbs lim) (.ok (.rng i j) L1) .bad) .bad
  | _ => .bad
theorem iffI {b : Bool} {t : Out} {σ : L2.St} {ρ : List Addr} {H : Hp} {Q : List Addr → Sto → D → Hp → Prop} (h : PoI p W σ Q ρ H (iff_ b t .bad)) : b = true ∧ PoI p W σ Q ρ H t := by
  cases b with
  | true => exact ⟨rfl, h⟩
  | false => exact h.elim
theorem ei_rng1 {a : Expr} {m : EM} {pn : Pos} (hm : X.mg "range" = none) (ha : EA X p Z W [a] m) (hg : Gl X "range" := by rfl) (hs : starEach [a] X.env = [(false, eval a X.env)] := by rfl) : EI X p Z W tg (.Call (.Name "range" pn) [a] [] pos) (rng1 m) nfR := ⟨PI.imp (pi_range1 hg hm ha.pa hs) fun σ H R h => by
  obtain ⟨ρ, S, L, a, po⟩ := h
  refine ⟨ρ, S, L, a, (Pa.imp fun ρ1 L1 ds vs H1 e1 r1 d1 q => ?_) (poi_row po)⟩
  split at q
  · rename_i j
    obtain ⟨v, rfl, h1⟩ := dvs1 d1
    cases h1
    obtain ⟨c, q1⟩ := iffI q
    have hl := blt_t c
    have e : lim = 1000000000000 := rfl
    have := q1 ρ1 H1 (Ext.refl _ _) r1 _ ij_rng
    rw [Int.sub_zero] at this
    exact ⟨j, rfl, by omega, by omega, this⟩
  · exact q.elim⟩
theorem ei_rng2 {a b : Expr} {m : EM} {pn : Pos} (hm : X.mg "range" = none) (ha : EA X p Z W [a, b] m) (hg : Gl X "range" := by rfl) (hs : starEach [a, b] X.env = [(false, eval a X.env), (false, eval b X.env)] := by rfl) (hs2 : starEach [b] X.env = [(false, eval b X.env)] := by rfl) : EI X p Z W tg (.Call (.Name "range" pn) [a, b] [] pos) (rng2 m) nfR := ⟨PI.imp (pi_range2 hg hm ha.pa hs hs2) fun σ H R h => by
  obtain ⟨ρ, S, L, a, po⟩ := h
  refine ⟨ρ, S, L, a, (Pa.imp fun ρ1 L1 ds vs H1 e1 r1 d1 q => ?_) (poi_row po)⟩
  split at q
  · rename_i i j
    obtain ⟨v, w, rfl, h1, h2⟩ := dvs2 d1
    cases h1
    cases h2
    obtain ⟨c, q1⟩ := iffI q
    obtain ⟨c2, q2⟩ := iffI q1
    have hl := blt_t c
    have hl2 := blt_t c2
    have e : lim = 1000000000000 := rfl
    exact ⟨i, j, rfl, ⟨by omega, by omega, by omega, by omega⟩, q2 ρ1 H1 (Ext.refl _ _) r1 _ ij_rng⟩
  · exact q.elim⟩
noncomputable def enm (m : EM) : EM := fun S L => (m S L).row fun ds L1 => match ds with
  | [.ref k] => .ok (.ref k) L1
  | _ => .bad
theorem ei_enum {a : Expr} {m : EM} {pn tpos : Pos} {elts : List Expr} {kk : Nat} (hK : p.K = X.K) (hm : X.mg "enumerate" = none) (ha : EA X p Z W [a] m) (hg : Gl X "enumerate" := by rfl) (hs : starEach [a] X.env = [(false, eval a X.env)] := by rfl) : EI X p Z W (.Tuple elts kk tpos) (.Call (.Name "enumerate" pn) [a] [] pos) (enm m) nfE := ⟨PI.imp (pi_enum hg hm ha.pa hs) fun σ H R h => by
  obtain ⟨ρ, S, L, a, po⟩ := h
  refine ⟨ρ, S, L, a, (Pa.imp fun ρ1 L1 ds vs H1 e1 r1 d1 q => ?_) (poi_row po)⟩
  split at q
  · rename_i k
    obtain ⟨v, rfl, h1⟩ := dvs1 d1
    cases h1 with
    | @ref k b hk =>
      obtain ⟨ds, xs, f1, f2, f3⟩ := r1.at_ k b hk
      exact ⟨b, xs, rfl, SqL.of f2, q ρ1 H1 (Ext.refl _ _) r1 _ (by rw [← hK]; exact ij_enum hk)⟩
  · exact q.elim⟩
noncomputable def zip2 (m : EM) : EM := fun S L => (m S L).row fun ds L1 => match ds with
  | [.ref k, .ref j] => .ok (.tup [.ref k, .ref j]) L1
  | [.tup xs, .tup ys] => .ok (.tup [.tup xs, .tup ys]) L1
  | _ => .bad
theorem ei_zip {a b : Expr} {m : EM} {pn tpos : Pos} {elts : List Expr} {kk : Nat} (hK : p.K = X.K) (hm : X.mg "zip" = none) (ha : EA X p Z W [a, b] m) (hg : Gl X "zip" := by rfl)
    (hs : starEach [a, b] X.env = (false, eval a X.env) :: starEach [b] X.env := by rfl) (hpl : (backTo pos (starEach [b] X.env)).any (·.1) = false := by rfl) : EI X p Z W (.Tuple elts kk tpos) (.Call (.Name "zip" pn) [a, b] [] pos) (zip2 m) nfZ := ⟨PI.imp (pi_zipA hg hm ha.pa hs hpl) fun σ H R h => by
  obtain ⟨ρ, S, L, a, po⟩ := h
  refine ⟨ρ, S, L, a, (Pa.imp fun ρ1 L1 ds vs H1 e1 r1 d1 q => ?_) (poi_row po)⟩
  split at q
  · rename_i k j
    obtain ⟨v, w, rfl, h1, h2⟩ := dvs2 d1
    cases h1 with
    | @ref _ b hk =>
      cases h2 with
      | @ref _ c hj =>
        obtain ⟨ds, xs, f1, f2, f3⟩ := r1.at_ k b hk
        obtain ⟨es, ys, g1, g2, g3⟩ := r1.at_ j c hj
        exact ⟨b, c, xs, ys, rfl, .inl ⟨SqL.of f2, SqL.of g2, q ρ1 H1 (Ext.refl _ _) r1 _ (by rw [← hK]; exact ij_zipL hk hj)⟩⟩
  · rename_i xs ys
    obtain ⟨v, w, rfl, h1, h2⟩ := dvs2 d1
    cases h1 with
    | @tup b ds us hq hs =>
      cases h2 with
      | @tup c es ws hq' hs' => exact ⟨b, c, us, ws, rfl, .inr ⟨by rw [← hK]; exact hq, by rw [← hK]; exact hq', q ρ1 H1 (Ext.refl _ _) r1 _ (by rw [← hK]; exact ij_zipT r1 hq hs hq' hs')⟩⟩
  · exact q.elim⟩
end
end Mr

namespace Mr
open PySem PySem.Spec PyProof.Rows L2
/-! ### loops -/
abbrev NF := D → Sto → Nat → Option (Option D)
noncomputable def forK (nf : NF) (g : GM) (b : SM) (d : D) (fuel : Nat) : Nat → List (Option D) → Sto → SO := @Nat.rec (fun _ => Nat → List (Option D) → Sto → SO) (fun _ _ _ => .bad) (fun _ ih i S L => match nf d L i with
  | none => .bad
  | some none => .nx S L
  | some (some x) => match g x S L with
    | .nx S1 L1 => match b S1 L1 with
      | .nx S2 L2 => ih (Nat.succ i) S2 L2
      | .cnt S2 L2 => ih (Nat.succ i) S2 L2
      | .brk S2 L2 => .nx S2 L2
      | .ret z L2 => .ret z L2
      | .err c S2 L2 => .err c S2 L2
      | .bad => .bad
    | .err c S1 L1 => .err c S1 L1
    | _ => .bad) fuel
noncomputable def sFor (m : EM) (nf : NF) (g : GM) (b : SM) : SM := fun S L => (m S L).sd S fun d L1 => forK nf g b d 100000 0 S L1
section
variable {p : Pm} {W : Wx} {T : Ends} {ρ ρ' : List Addr} {H H' : Hp} {S : List (Option D)} {L : Sto} {σ : L2.St} {Z : L2.St → Prop}
theorem PoI.sd {o : Out} {k : D → Sto → SO} (a : At p Z ρ S L σ H) (h : PoS p W T ρ H (o.sd S k)) : PoI p W σ (fun ρ1 L1 d H1 => Ext ρ H ρ1 H1 ∧ Rl p ρ1 L1 H1 ∧ PoS p W T ρ1 H1 (k d L1)) ρ H o := by
  cases o with
  | ok d L1 => exact fun ρ1 H1 x r => ⟨x, r, PoS.ext x h⟩
  | err c L1 => exact fun ρ1 H1 x r => h ρ1 H1 σ x r (a.env.mono a.rl x)
  | bad => exact h
theorem PoI.imp {Q Q' : List Addr → Sto → D → Hp → Prop} (hQ : ∀ ρ' L d H', Q ρ' L d H' → Q' ρ' L d H') : ∀ {o : Out}, PoI p W σ Q ρ H o → PoI p W σ Q' ρ H o
  | .ok _ _, h => fun ρ2 H2 x r => hQ _ _ _ _ (h ρ2 H2 x r)
  | .err _ _, h => h
  | .bad, h => h
theorem PoS.nx {S1 : List (Option D)} {L1 : Sto} {σ1 : L2.St} (h : PoS p W T ρ H (.nx S1 L1)) (r : Rl p ρ L1 H) (e : EnvR p H ρ S1 σ1) : T.nx σ1 H := h ρ H σ1 (Ext.refl _ _) r e
end
section
variable {X : Cx} {p : Pm} {Z : L2.St → Prop} {W : Wx} {pos : Pos}
theorem es_for {tg iter : Expr} {body : List Stmt} {m : EM} {nf : NF} {g : GM} {b : SM} (hp : PassesOwn (model X.prog X.w) X.A X.env X.xe) (hc : X.calm = true) (hi : EI X p ZT W tg iter m nf) (hg : EG X p W tg g) (hb : ESs X p ZT W body b)
    (hs : ∀ x, foldedSetIterable iter X.env x = pure x := by intro _; rfl) : ES X p ZT W (.For tg iter body [] pos) (sFor m nf g b) := ⟨PS.imp (ps_for hp hc hi.pi hg.pg hb.ps hs) fun T σ H h => by
  obtain ⟨ρ0, S0, L0, a0, po0⟩ := h
  refine ⟨ρ0, S0, L0, a0, (PoI.sd a0 po0).imp fun ρ1 L1 d H1 ⟨e1, r1, po1⟩ J hj => ?_⟩
  refine ⟨fun i m σ' H' => ∃ ρ S L, Ext ρ1 H1 ρ H' ∧ At p ZT ρ S L σ' H' ∧ PoS p W T ρ H' (forK nf g b d m i S L), ⟨100000, ρ1, S0, L1, Ext.refl _ _, (a0.ext e1 r1).zt, po1⟩, ?_⟩
  rintro i m σ2 H2 ⟨ρ2, S2, L2, e2, a2, po2⟩
  cases m with
  | zero => exact po2.elim
  | succ m =>
    have po3 : PoS p W T ρ2 H2 (match nf d L2 i with
      | none => .bad
      | some none => .nx S2 L2
      | some (some x) => match g x S2 L2 with
        | .nx S1 L1 => match b S1 L1 with
          | .nx S2 L2 => forK nf g b d m (Nat.succ i) S2 L2
          | .cnt S2 L2 => forK nf g b d m (Nat.succ i) S2 L2
          | .brk S2 L2 => .nx S2 L2
          | .ret z L2 => .ret z L2
          | .err c S2 L2 => .err c S2 L2
          | .bad => .bad
        | .err c S1 L1 => .err c S1 L1
        | _ => .bad) := po2
    cases hn : nf d L2 i with
    | none => rw [hn] at po3; exact po3.elim
    | some y =>
      cases y with
      | none =>
        rw [hn] at po3
        exact .inl ⟨hj.stop i ρ2 L2 H2 e2 a2.rl hn, po3.nx a2.rl a2.env⟩
      | some x =>
        rw [hn] at po3
        obtain ⟨j1, j2⟩ := hj.go i ρ2 L2 H2 x e2 a2.rl hn
        refine .inr ⟨j1, fun σ' H' => ∃ ρ S L, Ext ρ1 H1 ρ H' ∧ At p ZT ρ S L σ' H' ∧ PoS p W T ρ H' (forK nf g b d m (i + 1) S L), fun σ' H' q => ⟨m, Nat.lt_succ_self m, q⟩, fun v H3 hy => ?_⟩
        obtain ⟨e3, r3, d3⟩ := j2 v H3 hy
        refine ⟨ρ2, S2, L2, x, a2.ext e3 r3, d3, ?_⟩
        have po4 := PoS.ext e3 po3
        have e23 := e2.trans e3
        simp only at po4
        cases hg1 : g x S2 L2 with
        | nx S4 L4 =>
          rw [hg1] at po4
          intro ρ4 H4 σ4 e4 r4 n4
          refine ⟨ρ4, S4, L4, ⟨trivial, n4, r4⟩, ?_⟩
          have po5 := PoS.ext e4 po4
          have e24 := e23.trans e4
          simp only at po5
          cases hb1 : b S4 L4 with
          | nx S5 L5 =>
            rw [hb1] at po5
            exact fun ρ5 H5 σ5 e5 r5 n5 => ⟨ρ5, S5, L5, e24.trans e5, ⟨trivial, n5, r5⟩, PoS.ext e5 po5⟩
          | cnt S5 L5 =>
            rw [hb1] at po5
            exact fun ρ5 H5 σ5 e5 r5 n5 => ⟨ρ5, S5, L5, e24.trans e5, ⟨trivial, n5, r5⟩, PoS.ext e5 po5⟩
          | brk S5 L5 => rw [hb1] at po5; exact po5
          | ret z L5 => rw [hb1] at po5; exact po5
          | err c S5 L5 => rw [hb1] at po5; exact po5
          | bad => rw [hb1] at po5; exact po5
        | err c S4 L4 => rw [hg1] at po4; exact po4
        | ret _ _ => rw [hg1] at po4; exact po4.elim
        | brk _ _ => rw [hg1] at po4; exact po4.elim
        | cnt _ _ => rw [hg1] at po4; exact po4.elim
        | bad => rw [hg1] at po4; exact po4.elim⟩
noncomputable def whK (c : EM) (b : SM) (fuel : Nat) : List (Option D) → Sto → SO := @Nat.rec (fun _ => List (Option D) → Sto → SO) (fun _ _ => .bad) (fun _ ih S L => (c S L).sd S fun d L1 => match d with
  | .bl true => match b S L1 with
    | .nx S2 L2 => ih S2 L2
    | .cnt S2 L2 => ih S2 L2
    | .brk S2 L2 => .nx S2 L2
    | .ret z L2 => .ret z L2
    | .err c S2 L2 => .err c S2 L2
    | .bad => .bad
  | .bl false => .nx S L1
  | _ => .bad) fuel
noncomputable def sWh (c : EM) (b : SM) : SM := whK c b 100000
theorem es_while {c : Expr} {body : List Stmt} {mc : EM} {b : SM} (hp : PassesOwn (model X.prog X.w) X.A X.env X.xe) (hc : ET X p ZT W c mc) (hb : ESs X p ZT W body b) : ES X p ZT W (.While c body [] pos) (sWh mc b) := ⟨PS.imp (ps_while hp hc.pt hb.ps) fun T σ H h => by
  obtain ⟨ρ0, S0, L0, a0, po0⟩ := h
  refine ⟨fun m σ' H' => ∃ ρ S L, At p ZT ρ S L σ' H' ∧ PoS p W T ρ H' (whK mc b m S L), ⟨100000, ρ0, S0, L0, a0, po0⟩, ?_⟩
  rintro m σ2 H2 ⟨ρ2, S2, L2, a2, po2⟩
  cases m with
  | zero => exact po2.elim
  | succ m =>
    have po3 : PoS p W T ρ2 H2 ((mc S2 L2).sd S2 fun d L1 => match d with
      | .bl true => match b S2 L1 with
        | .nx S2 L2 => whK mc b m S2 L2
        | .cnt S2 L2 => whK mc b m S2 L2
        | .brk S2 L2 => .nx S2 L2
        | .ret z L2 => .ret z L2
        | .err c S2 L2 => .err c S2 L2
        | .bad => .bad
      | .bl false => .nx S2 L1
      | _ => .bad) := po2
    refine ⟨ρ2, S2, L2, a2, (PoS.sd a2 po3).imp fun ρ3 L3 d v H3 e3 r3 d3 po4 => ?_⟩
    have a3 := a2.ext e3 r3
    cases d3 with
    | bl c =>
      refine ⟨c, rfl, ?_⟩
      cases c with
      | false => rw [if_neg Bool.false_ne_true]; exact po4.nx r3 a3.env
      | true =>
        rw [if_pos rfl]
        refine ⟨fun σ' H' => ∃ ρ S L, At p ZT ρ S L σ' H' ∧ PoS p W T ρ H' (whK mc b m S L), fun σ' H' q => ⟨m, Nat.lt_succ_self m, q⟩, ρ3, S2, L3, a3, ?_⟩
        simp only at po4
        cases hb1 : b S2 L3 with
        | nx S5 L5 =>
          rw [hb1] at po4
          exact fun ρ5 H5 σ5 e5 r5 n5 => ⟨ρ5, S5, L5, ⟨trivial, n5, r5⟩, PoS.ext e5 po4⟩
        | cnt S5 L5 =>
          rw [hb1] at po4
          exact fun ρ5 H5 σ5 e5 r5 n5 => ⟨ρ5, S5, L5, ⟨trivial, n5, r5⟩, PoS.ext e5 po4⟩
        | brk S5 L5 => rw [hb1] at po4; exact po4
        | ret z L5 => rw [hb1] at po4; exact po4
        | err c S5 L5 => rw [hb1] at po4; exact po4
        | bad => rw [hb1] at po4; exact po4
    | _ => exact po4.elim⟩
end
end Mr

namespace Mr
open PySem PySem.Spec PyProof.Rows L2
/-! ### list comprehensions -/
noncomputable def setO {α : Type} (xs : List α) (i : Nat) (v : α) (k : List α → Out) : Out := @List.rec α (fun _ => Nat → (List α → Out) → Out) (fun _ k => k []) (fun x xs ih i k => @Nat.casesOn (fun _ => Out) i (k (v :: xs)) fun j => ih j fun ys => k (x :: ys)) xs i k
theorem setO_eq {α : Type} (xs : List α) (i : Nat) (v : α) (k : List α → Out) : setO xs i v k = k (xs.set i v) := by
  induction xs generalizing i k with
  | nil => rfl
  | cons x xs ih =>
    cases i with
    | zero => rfl
    | succ j => exact ih j fun ys => k (x :: ys)
def wipeL (S : List (Option D)) : List Nat → List (Option D)
  | [] => S
  | v :: vs => (wipeL S vs).set v none
noncomputable def wipeO (S : List (Option D)) (vs : List Nat) : (List (Option D) → Out) → Out := @List.rec Nat (fun _ => (List (Option D) → Out) → Out) (fun k => k S) (fun v _ ih k => ih fun S' => setO S' v none k) vs
theorem wipeO_eq (S : List (Option D)) (vs : List Nat) (k : List (Option D) → Out) : wipeO S vs k = k (wipeL S vs) := by
  induction vs generalizing k with
  | nil => rfl
  | cons v vs ih =>
    show wipeO S vs (fun S' => setO S' v none k) = _
    rw [ih, setO_eq]; rfl
theorem EnvR.wipe {p : Pm} {ρ : List Addr} {H : Hp} {S : List (Option D)} {σ : L2.St} (e : EnvR p H ρ S σ) : ∀ vs : List Nat, EnvR p H ρ (wipeL S vs) (L2.wipe σ vs)
  | [] => e
  | v :: vs => (EnvR.wipe e vs).gone v
noncomputable def revO (xs : List D) : List D → (List D → Out) → Out := @List.rec D (fun _ => List D → (List D → Out) → Out) (fun a k => k a) (fun x _ ih a k => ih (x :: a) k) xs
theorem revO_eq (xs a : List D) (k : List D → Out) : revO xs a k = k (xs.reverse ++ a) := by
  induction xs generalizing a with
  | nil => rfl
  | cons x xs ih =>
    show revO xs (x :: a) k = _
    rw [ih, List.reverse_cons, List.append_assoc]; rfl
noncomputable def lcK (nf : NF) (g : GM) (mt me : EM) (d : D) (S0 : List (Option D)) (fuel : Nat) : Nat → List D → Sto → Out := @Nat.rec (fun _ => Nat → List D → Sto → Out) (fun _ _ _ => .bad) (fun _ ih i acc L => match nf d L i with
  | none => .bad
  | some none => revO acc [] fun ys => L.newK ys fun j L' => .ok (.ref j) L'
  | some (some x) => match g x S0 L with
    | .nx S1 _ => match mt S1 L with
      | .ok (.bl true) L2 => match me S1 L2 with
        | .ok y L3 => ih (Nat.succ i) (y :: acc) L3
        | _ => .bad
      | .ok (.bl false) L2 => ih (Nat.succ i) acc L2
      | _ => .bad
    | _ => .bad) fuel
noncomputable def mLc (mi : EM) (nf : NF) (g : GM) (mt me : EM) (vs : List Nat) : EM := fun S L => (mi S L).bd fun d L1 => wipeO S vs fun S0 => lcK nf g mt me d S0 100000 0 [] L1
abbrev WF : Wx := fun _ _ _ _ => False
def TrC (p : Pm) (g : GM) (vs : List Nat) : TG := fun v σ H Q => ∃ ρ S L d, At p ZT ρ S L σ H ∧ Dv p H ρ d v ∧ match g d S L with
  | .nx S' _ => ∀ σ', EnvR p H ρ S' σ' → wipe σ' vs = wipe σ vs → Q σ' H
  | _ => False
structure CT (X : Cx) (p : Pm) (tg : Expr) (g : GM) (vs : List Nat) : Prop where
  pg : PG X tg (TrC p g vs)
structure ETs (X : Cx) (p : Pm) (Z : L2.St → Prop) (W : Wx) (ifs : List Expr) (m : EM) : Prop where
  pt : PTs X ifs (TrT p Z W m)
theorem wipe_set {σ : L2.St} {i : Nat} {x : Option V} : ∀ {vs : List Nat}, i ∈ vs → wipe (σ.set i x) vs = wipe σ vs
  | v :: vs, h => by
    unfold L2.wipe
    by_cases hi : i ∈ vs
    · rw [wipe_set hi]
    · have e : i = v := by rcases List.mem_cons.mp h with h | h; exact h; exact absurd h hi
      subst e
      have : ∀ vs : List Nat, i ∉ vs → L2.wipe (σ.set i x) vs = (L2.wipe σ vs).set i x := by
        intro vs hn
        induction vs with
        | nil => rfl
        | cons w ws ih =>
          unfold L2.wipe
          rw [ih fun z => hn (List.mem_cons_of_mem _ z), List.set_comm _ _ fun e => hn (by rw [e]; exact List.mem_cons_self)]
      rw [this vs hi, List.set_set]
theorem wipe_wipe (σ : L2.St) (vs : List Nat) : wipe (wipe σ vs) vs = wipe σ vs := by
  have : ∀ ws : List Nat, (∀ w ∈ ws, w ∈ vs) → wipe (wipe σ ws) vs = wipe σ vs := by
    intro ws
    induction ws with
    | nil => intro _; rfl
    | cons w ws ih =>
      intro hh
      show wipe ((wipe σ ws).set w none) vs = _
      rw [wipe_set (hh w List.mem_cons_self)]
      exact ih fun z hz => hh z (List.mem_cons_of_mem _ hz)
  exact this vs fun _ h => h
section
variable {X : Cx} {p : Pm} {Z : L2.St → Prop} {W : Wx} {pos : Pos}
def mYes : EM := fun _ L => .ok (.bl true) L
theorem PTs.imp {e : List Expr} {t t' : TT} (h : PTs X e t) (hi : ∀ σ H Q, t' σ H Q → t σ H Q) : PTs X e t' := ⟨fun pins s σ H Q I hq => h.run pins s σ H Q I (hi σ H Q hq)⟩
theorem ets_nil : ETs X p Z W [] mYes := ⟨PTs.imp pts_nil fun σ H Q h => by
  obtain ⟨ρ, S, L, a, po⟩ := h
  obtain ⟨b, e, q⟩ := po ρ H (.bl true) (Ext.refl _ _) a.rl (.bl true)
  cases e; exact q⟩
theorem ets_one {c : Expr} {m : EM} (h : ET X p Z W c m) : ETs X p Z W [c] m := ⟨pts_one h.pt⟩
theorem ct_name {i : Nat} {tg : Expr} {vs : List Nat} (h : PG X tg (gName i)) (hi : i ∈ vs) : CT X p tg (gNm i) vs := ⟨PG.imp h fun v σ H Q h => by
  obtain ⟨ρ, S, L, d, a, dv, po⟩ := h
  unfold gNm at po
  rw [setS_eq] at po
  exact po (σ.set i (some v)) (a.env.set dv) (wipe_set hi)⟩
noncomputable def gPr (i j : Nat) : GM := fun d S L => match d with
  | .tup [x, y] => setS S i (some x) fun S1 => setS S1 j (some y) fun S2 => .nx S2 L
  | _ => .bad
theorem ct_pair {a b : Expr} {i j k : Nat} {vs : List Nat} (hK : p.K = X.K) (hc : X.calm = true) (h1 : PG X a (gName i)) (h2 : PG X b (gName j)) (hi : i ∈ vs) (hj : j ∈ vs)
    (hs : (assignEach [a, b] X.env).map (·.2) = assign a X.env :: (assignEach [b] X.env).map (·.2) := by rfl) (hs2 : (assignEach [b] X.env).map (·.2) = assign b X.env :: (assignEach [] X.env).map (·.2) := by rfl)
    (hn : (assignEach [a, b] X.env).length = 2 := by rfl) (hst : (assignEach [a, b] X.env).findIdx? (·.1) = none := by rfl) : CT X p (.Tuple [a, b] k pos) (gPr i j) vs := ⟨PG.imp (pg_tup hc (pgs_cons h1 (pgs_cons h2 pgs_nil hs2) hs) hn hst) fun v σ H Q h => by
  obtain ⟨ρ, S, L, d, at_, dv, po⟩ := h
  unfold gPr at po
  split at po
  · rename_i S' L' h
    split at h
    · rename_i x y
      cases dv with
      | @tup q ds xs hq hs =>
        obtain ⟨v, w, rfl, d1, d2⟩ := dvs2 hs
        rw [setS_eq, setS_eq] at h
        cases h
        exact ⟨q, [v, w], rfl, by rw [← hK]; exact hq, rfl, v, [w], rfl, w, [], rfl, rfl, po _ ((at_.env.set d1).set d2) (by rw [wipe_set hj, wipe_set hi])⟩
    · cases h
  · exact po.elim⟩
theorem tr_lc {mi mt me : EM} {nf : NF} {g : GM} {vs : List Nat} {σ : L2.St} {H : Hp} {Q : VK} (h : TrE p Z W (mLc mi nf g mt me vs) σ H Q) : tLc (TrI p Z W mi nf) (TrC p g vs) (TrT p ZT WF mt) (TrE p ZT WF me) vs σ H Q := by
  obtain ⟨ρ0, S, L0, a0, po0⟩ := h
  have hI : PoI p W σ (fun ρ1 L1 d H1 => Ext ρ0 H ρ1 H1 ∧ Rl p ρ1 L1 H1 ∧ Po p W σ (fun _ _ _ v H' => Q v H') ρ1 H1 (wipeO S vs fun S0 => lcK nf g mt me d S0 100000 0 [] L1)) ρ0 H (mi S L0) := by
    unfold mLc at po0
    cases hm : mi S L0 with
    | ok d L1 => rw [hm] at po0; exact fun ρ1 H1 x r => ⟨x, r, Po.ext x po0⟩
    | err c L1 => rw [hm] at po0; exact po0
    | bad => rw [hm] at po0; exact po0
  refine ⟨ρ0, S, L0, a0, hI.imp fun ρ1 L1 d H1 ⟨e1, r1, po1⟩ J hj => ?_⟩
  intro D0 hD
  rw [wipeO_eq] at po1
  have en1 : EnvR p H1 ρ1 (wipeL S vs) (wipe σ vs) := (a0.env.mono a0.rl e1).wipe vs
  have hD1 : D0 ∉ ρ1 := fun hm => by obtain ⟨ys, e⟩ := r1.lst hm; rw [hD] at e; cases e
  have eu : Ext ρ1 H1 ρ1 (upd H1 D0 (.lst [])) := Ext.fresh _ hD
  refine ⟨fun i m H' => ∃ ρ L acc ys, Ext ρ1 H1 ρ H' ∧ Rl p ρ L H' ∧ D0 ∉ ρ ∧ H' D0 = some (.lst ys) ∧ Dvs p H' ρ acc.reverse ys ∧ ys.length + m ≤ 100000 ∧ Po p W σ (fun _ _ _ v H' => Q v H') ρ1 H1 (lcK nf g mt me d (wipeL S vs) m i acc L), ⟨100000, ρ1, L1, [], [], eu, r1.fresh _ hD, hD1, upd_same, .nil, Nat.le_refl _, po1⟩, ?_⟩
  rintro i m H2 ⟨ρ2, L2, acc, ys, e2, r2, hn2, hD2, dv2, hl2, po2⟩
  cases m with
  | zero => exact po2.elim
  | succ m =>
    have po3 : Po p W σ (fun _ _ _ v H' => Q v H') ρ1 H1 (match nf d L2 i with
      | none => .bad
      | some none => revO acc [] fun ys => L2.newK ys fun j L' => .ok (.ref j) L'
      | some (some x) => match g x (wipeL S vs) L2 with
        | .nx S1 _ => match mt S1 L2 with
          | .ok (.bl true) L2 => match me S1 L2 with
            | .ok y L3 => lcK nf g mt me d (wipeL S vs) m (Nat.succ i) (y :: acc) L3
            | _ => .bad
          | .ok (.bl false) L2 => lcK nf g mt me d (wipeL S vs) m (Nat.succ i) acc L2
          | _ => .bad
        | _ => .bad) := po2
    cases hn : nf d L2 i with
    | none => rw [hn] at po3; exact po3.elim
    | some y =>
      cases y with
      | none =>
        rw [hn] at po3
        simp only at po3
        rw [revO_eq, List.append_nil] at po3
        refine .inl ⟨hj.stop i ρ2 L2 H2 e2 r2 hn, ?_⟩
        rcases newK_or L2 acc.reverse (fun j L' => .ok (.ref j) L') with e | ⟨L', e, h1, h2⟩
        · rw [e] at po3; exact po3.elim
        · rw [e] at po3
          obtain ⟨q1, q2⟩ := r2.adopt hD2 hn2 dv2 h1 h2
          obtain ⟨t, ht, ht2⟩ := e2.pre
          have e3 : Ext ρ1 H1 (ρ2 ++ [D0]) H2 := ⟨⟨t ++ [D0], by rw [ht, List.append_assoc], fun a ha => by
            rcases List.mem_append.mp ha with ha | ha
            · exact ht2 a ha
            · have e : a = D0 := by simpa using ha
              subst e; exact hD⟩, e2.keep, e2.free⟩
          exact po3 (ρ2 ++ [D0]) H2 (.ref D0) e3 q1 (.ref q2)
      | some x =>
        rw [hn] at po3
        simp only at po3
        obtain ⟨j1, j2⟩ := hj.go i ρ2 L2 H2 x e2 r2 hn
        refine .inr ⟨j1, fun H' => ∃ ρ L acc ys, Ext ρ1 H1 ρ H' ∧ Rl p ρ L H' ∧ D0 ∉ ρ ∧ H' D0 = some (.lst ys) ∧ Dvs p H' ρ acc.reverse ys ∧ ys.length + m ≤ 100000 ∧ Po p W σ (fun _ _ _ v H' => Q v H') ρ1 H1 (lcK nf g mt me d (wipeL S vs) m (i + 1) acc L), fun H' q => ⟨m, Nat.lt_succ_self m, q⟩, fun v H3 hy => ?_⟩
        obtain ⟨e3, r3, d3⟩ := j2 v H3 hy
        have e13 := e2.trans e3
        have hD3 : H3 D0 = some (.lst ys) := e3.keep D0 _ hD2 hn2
        refine ⟨ρ2, wipeL S vs, L2, x, ⟨trivial, en1.mono r1 e13, r3⟩, d3, ?_⟩
        split
        · rename_i S1 Lx hg1
          rw [hg1] at po3
          simp only at po3
          intro σ' en4 hw
          refine ⟨hw.trans (wipe_wipe σ vs), ?_⟩
          refine ⟨ρ2, S1, L2, ⟨trivial, en4, r3⟩, ?_⟩
          cases ht : mt S1 L2 with
          | ok dt L4 =>
            rw [ht] at po3
            intro ρ4 H4 v4 e4 r4 d4
            have hD4 : H4 D0 = some (.lst ys) := e4.keep D0 _ hD3 hn2
            have hn4 : D0 ∉ ρ4 := fun hm => by
              obtain ⟨t, ht, ht2⟩ := e4.pre
              rw [ht] at hm
              rcases List.mem_append.mp hm with hm | hm
              · exact hn2 hm
              · have := ht2 D0 hm; rw [hD3] at this; cases this
            cases d4 with
            | bl b =>
              refine ⟨b, rfl, ?_⟩
              cases b with
              | false =>
                rw [if_neg Bool.false_ne_true]
                exact ⟨ρ4, L4, acc, ys, e13.trans e4, r4, hn4, hD4, (dv2.mono r2 e3).mono r3 e4, by omega, po3⟩
              | true =>
                rw [if_pos rfl]
                refine ⟨ρ4, S1, L4, ⟨trivial, en4.mono r3 e4, r4⟩, ?_⟩
                simp only at po3
                cases hm : me S1 L4 with
                | ok y L5 =>
                  rw [hm] at po3
                  intro ρ5 H5 v5 e5 r5 d5
                  have hD5 : H5 D0 = some (.lst ys) := e5.keep D0 _ hD4 hn4
                  have hn5 : D0 ∉ ρ5 := fun hm => by
                    obtain ⟨t, ht, ht2⟩ := e5.pre
                    rw [ht] at hm
                    rcases List.mem_append.mp hm with hm | hm
                    · exact hn4 hm
                    · have := ht2 D0 hm; rw [hD4] at this; cases this
                  have hs : (100000 : Nat) < sizeLine := by rw [sizeLine_eq]; decide
                  have x2 := ex2_upd (ρ := ρ5) (ys := ys ++ [v5]) hD5
                  have dv5 : Dvs p H5 ρ5 acc.reverse ys := ((dv2.mono r2 e3).mono r3 e4).mono r4 e5
                  have e15 := (e13.trans e4).trans e5
                  refine ⟨ys, hD5, by omega, ρ5, L5, y :: acc, ys ++ [v5], ⟨e15.pre, fun a o ha hna => ?_, fun a ha => ?_⟩, r5.beside hD5 hn5, hn5, upd_same, ?_, by simp; omega, po3⟩
                  · have hne : a ≠ D0 := fun e => by rw [e, hD] at ha; cases ha
                    rw [upd_ne hne]; exact e15.keep a o ha hna
                  · by_cases e : a = D0
                    · subst e; exact hD
                    · rw [upd_ne e] at ha; exact e15.free a ha
                  · rw [List.reverse_cons]
                    exact (dv5.mono2 x2).append (.cons (d5.mono2 x2) .nil)
                | err c L5 => rw [hm] at po3; exact po3.elim
                | bad => rw [hm] at po3; exact po3.elim
            | _ => exact po3.elim
          | err c L4 => rw [ht] at po3; exact po3.elim
          | bad => rw [ht] at po3; exact po3.elim
        · rename_i hno
          cases hg1 : g x (wipeL S vs) L2 with
          | nx S1 Lx => exact absurd hg1 (hno S1 Lx)
          | _ => rw [hg1] at po3; exact po3.elim
theorem ee_lc {elt tg iter : Expr} {ifs : List Expr} {scope : Scope} {own : List (Str × Nat)} {mi mt me : EM} {nf : NF} {g : GM} (hc : X.calm = true) (hN : X.N.Nodup) (hi : EI X p Z W tg iter mi nf) (ok : BlkOk X.N X.env.scope scope own)
    (hg : ∀ (s : Shared) (H : Hp) (C : Addr) (cl : List (Str × Addr)) (fp : List Addr), CT (X.blk s H scope (compEnvC scope cl C X.env) fp) p tg g (own.map (·.2))) (ht : ∀ (s : Shared) (H : Hp) (C : Addr) (cl : List (Str × Addr)) (fp : List Addr), ETs (X.blk s H scope (compEnvC scope cl C X.env) fp) p ZT WF ifs mt)
    (he : ∀ (s : Shared) (H : Hp) (C : Addr) (cl : List (Str × Addr)) (fp : List Addr), EE (X.blk s H scope (compEnvC scope cl C X.env) fp) p ZT WF elt me) (hs : ∀ x, foldedSetIterable iter X.env x = pure x := by intro _; rfl) :
    EE X p Z W (.ListComp elt [⟨tg, iter, ifs, 0⟩] scope pos) (mLc mi nf g mt me (own.map (·.2))) := ⟨PE.imp (pe_lc hc hN hi.pi ok (fun s H C cl fp => (hg s H C cl fp).pg) (fun s H C cl fp => (ht s H C cl fp).pt) (fun s H C cl fp => (he s H C cl fp).pe) hs) fun σ H Q h => tr_lc h⟩
theorem es_setLc {i : Nat} {y : Str} {py : Pos} {elt tg iter : Expr} {ifs : List Expr} {scope : Scope} {own : List (Str × Nat)} {spos : Pos} {mi mt me : EM} {nf : NF} {g : GM} (hc : X.calm = true) (hN : X.N.Nodup) (hy : X.N[i]? = some y) (hyl : X.env.scope.names.lookup y = some .local)
    (hsw : swapsWith (.ListComp elt [⟨tg, iter, ifs, 0⟩] scope pos) (some (.Name y py)) spos.line X.env = pure true) (hi : EI X p ZT W tg iter mi nf) (ok : BlkOk X.N X.env.scope scope own)
    (hg : ∀ (s : Shared) (H : Hp) (C : Addr) (cl : List (Str × Addr)) (fp : List Addr), CT (X.blk s H scope (compEnvC scope cl C X.env) fp) p tg g (own.map (·.2))) (ht : ∀ (s : Shared) (H : Hp) (C : Addr) (cl : List (Str × Addr)) (fp : List Addr), ETs (X.blk s H scope (compEnvC scope cl C X.env) fp) p ZT WF ifs mt)
    (he : ∀ (s : Shared) (H : Hp) (C : Addr) (cl : List (Str × Addr)) (fp : List Addr), EE (X.blk s H scope (compEnvC scope cl C X.env) fp) p ZT WF elt me) (hs : ∀ x, foldedSetIterable iter X.env x = pure x := by intro _; rfl) :
    ES X p ZT W (.Assign [.Name y py] (.ListComp elt [⟨tg, iter, ifs, 0⟩] scope pos) spos) (sSet i (mLc mi nf g mt me (own.map (·.2)))) := es_set (PS.imp (ps_setLc hc hN hy hyl hsw hi.pi ok (fun s H C cl fp => (hg s H C cl fp).pg) (fun s H C cl fp => (ht s H C cl fp).pt) (fun s H C cl fp => (he s H C cl fp).pe) hs) fun T σ H h => tr_lc (show TrE p ZT W (mLc mi nf g mt me (own.map (·.2))) σ H (fun v H1 => gName i v σ H1 T.nx) from h))
end
end Mr

namespace Mr
open PySem PySem.Spec PyProof.Rows L2
/-! ### own defs -/
section
variable {p : Pm} {W : Wx} {σ τ : L2.St} {ρ : List Addr} {H : Hp}
theorem Po.sw {W' : Wx} {Q : List Addr → Sto → D → V → Hp → Prop} (hw : ∀ c H, W (.ref (p.C c)) none σ H → W' (.ref (p.C c)) none τ H) : ∀ {o : Out}, Po p W σ Q ρ H o → Po p W' τ Q ρ H o
  | .ok _ _, h => h
  | .err _ _, h => fun ρ' H' e r => hw _ _ (h ρ' H' e r)
  | .bad, h => h
end
def spM (p : Pm) (n : Nat) (F : Fn') : Sp := fun vs H Q E => vs.length = n ∧ ∃ ρ ds L, Rl p ρ L H ∧ Dvs p H ρ ds vs ∧ Po p (fun c d _ H' => E c d H') [] (fun _ _ _ v H' => Q v H') ρ H (F ds L)
noncomputable def envO (tl : List (Option D)) (ds : List D) : (List (Option D) → Out) → Out := @List.rec D (fun _ => (List (Option D) → Out) → Out) (fun k => k tl) (fun d _ ih k => ih fun ys => k (some d :: ys)) ds
theorem envO_eq (tl : List (Option D)) (ds : List D) (k : List (Option D) → Out) : envO tl ds k = k (ds.map some ++ tl) := by
  induction ds generalizing k with
  | nil => rfl
  | cons d ds ih =>
    show envO tl ds (fun ys => k (some d :: ys)) = _
    rw [ih]; rfl
noncomputable def SO.fin (o : SO) : Out := match o with
  | .nx _ L => .ok .non L
  | .ret d L => .ok d L
  | .err c _ L => .err c L
  | _ => .bad
noncomputable def fnM (tl : List (Option D)) (b : SM) : Fn' := fun ds L => envO tl ds fun S => (b S L).fin
theorem fn_ok {P : Program} {w : World} {K : PySem.W.Frag} {mg : Str → Option Value} {base : Heap} {x qual : Str} {params : Arguments} {body : List Stmt} {scope : Scope} {dvs : List V} {kws : List (Str × V)} {f : Addr} {fd : FuncData} {N ps : List Str} {k n : Nat} {p : Pm} {b : SM} {tl : List (Option D)}
    (F : FunD K x qual params body scope dvs kws f fd) (S : FnScope N ps scope) (hn : ps.length = n) (htl : tl = List.replicate (N.length - n) none)
    (hbody : ∀ (cdv : Value) (A : Around) (outer : List Env) (s : Shared) (H : Hp) (E : XK), Room k (A.deeper (envOfC qual scope s.heap.objs.size f cdv)) →
      ESs (cxOf (L2.CX P w) P w K mg base N qual scope f cdv A outer s H E) p ZT (fun cls d _ H' => E cls d H') body b) : FnOk P w K mg base (L2.CX P w) (k + 1) f fd ps (spM p n (fnM tl b)) := by
  refine F.ok S (fun vs H Q E h => h.1.trans hn.symm) fun cdv A outer s H vs Q E hr h => ⟨_, (hbody cdv A outer s H E hr).ps, ?_⟩
  obtain ⟨hl, ρ, ds, L, r, dv, po⟩ := h
  have e : L2.start N vs = vs.map some ++ List.replicate (N.length - n) none := by unfold L2.start; rw [hl]
  rw [e]
  unfold fnM at po
  rw [envO_eq, htl] at po
  refine ⟨ρ, _, L, ⟨trivial, EnvR.start dv _, r⟩, ?_⟩
  revert po
  cases b (ds.map some ++ List.replicate (N.length - n) none) L with
  | nx S1 L1 => exact fun po ρ' H' σ' e' r' n' => po ρ' H' .non e' r' .non
  | ret d L1 => exact fun po => po
  | err c S1 L1 => exact fun po ρ' H' σ' e' r' n' => po ρ' H' e' r'
  | brk _ _ => exact fun po => po.elim
  | cnt _ _ => exact fun po => po.elim
  | bad => exact fun po => po
def badF : Fn' := fun _ _ => .bad
theorem fn_bad {P : Program} {w : World} {K : PySem.W.Frag} {mg : Str → Option Value} {base : Heap} {f : Addr} {fd : FuncData} {ps : List Str} {n : Nat} {p : Pm} (hn : ps.length = n) : FnOk P w K mg base (L2.CX P w) 0 f fd ps (spM p n badF) :=
  ⟨fun vs H Q E h => h.1.trans hn.symm, fun _ _ _ _ _ _ _ _ _ _ _ _ _ h => by obtain ⟨_, _, _, _, _, _, po⟩ := h; exact po.elim⟩
/-- a def of the text, by its name -/
structure Kn (P : Program) (w : World) (K : PySem.W.Frag) (mg : Str → Option Value) (base : Heap) (p : Pm) (k : Nat) (x : Str) (n : Nat) (F : Fn') : Prop where
  ex : ∃ (f : Addr) (fd : FuncData) (ps : List Str), FnOk P w K mg base (L2.CX P w) k f fd ps (spM p n F) ∧ mg x = some (.ref f) ∧ PySem.W.keepIn K (.ref f) = true ∧ Binds K fd ps []
theorem Kn.mono {P : Program} {w : World} {K : PySem.W.Frag} {mg : Str → Option Value} {base : Heap} {p : Pm} {k j : Nat} {x : Str} {n : Nat} {F : Fn'} (h : Kn P w K mg base p k x n F) (hk : k ≤ j) : Kn P w K mg base p j x n F := by
  obtain ⟨f, fd, ps, a, b, c, d⟩ := h.ex
  exact ⟨f, fd, ps, a.mono hk, b, c, d⟩
noncomputable def mCall (n : Nat) (F : Fn') (ms : EM) : EM := fun S L => (ms S L).row fun ds L1 => @Bool.casesOn (fun _ => Out) (Nat.beq (lenN ds) n) .bad (F ds L1)
section
variable {X : Cx} {p : Pm} {Z : L2.St → Prop} {W : Wx} {pos : Pos}
theorem takes_blk {s : Shared} {H : Hp} {scope : Scope} {ce : Env} {fp : List Addr} : Takes (X.blk s H scope ce fp) WF := fun u s' x => by
  obtain ⟨_, _, _, _, _, _, _, _, _, _, _, _, _, _, _, _, w⟩ := x
  exact w.elim
theorem tr_call {n : Nat} {F : Fn'} {ms : EM} {σ : L2.St} {H : Hp} {Q : VK} (h : TrE p Z W (mCall n F ms) σ H Q) : tCallS (spM p n F) (WE W) (TrA p Z W ms) σ H Q := by
  obtain ⟨ρ, S, L, a, po⟩ := h
  refine ⟨ρ, S, L, a, (Pa.imp fun ρ1 L1 ds vs H1 e1 r1 d1 q => ?_) (Pa.row po)⟩
  cases hb : Nat.beq (lenN ds) n with
  | false => rw [hb] at q; exact q.elim
  | true =>
    rw [hb] at q
    refine ⟨by rw [← d1.length, ← lenN_eq]; exact Nat.eq_of_beq_eq_true hb, ρ1, ds, L1, r1, d1, Po.sw (fun _ _ h => h) q⟩
theorem ee_call {x : Str} {pn : Pos} {e : Expr} {es : List Expr} {n k j : Nat} {F : Fn'} {ms : EM} (h : Kn X.prog X.w X.K X.mg X.base p k x n F) (hr : Room j X.A) (hkj : k ≤ j) (tk : Takes X W) (ha : EA X p Z W (e :: es) ms) (hg : Gl X x := by rfl)
    (hdb : (x == ("__debug__" : Str)) = false := by decide) (he : starEach (e :: es) X.env = (false, eval e X.env) :: starEach es X.env := by rfl) (hpl : (backTo pos (starEach es X.env)).any (·.1) = false := by rfl) : EE X p Z W (.Call (.Name x pn) (e :: es) [] pos) (mCall n F ms) := by
  obtain ⟨f, fd, ps, hF, hm, hk, hb⟩ := h.ex
  exact ⟨PE.imp (pe_callS (hF.mono hkj) hr hg hm hk hb (passAt tk) ha.pa hdb he hpl) fun σ H Q q => tr_call q⟩
theorem ee_call0 {x : Str} {pn : Pos} {k j : Nat} {F : Fn'} (h : Kn X.prog X.w X.K X.mg X.base p k x 0 F) (hr : Room j X.A) (hkj : k ≤ j) (tk : Takes X W) (hg : Gl X x := by rfl)
    (hdb : (x == ("__debug__" : Str)) = false := by decide) : EE X p Z W (.Call (.Name x pn) [] [] pos) (fun _ L => F [] L) := by
  obtain ⟨f, fd, ps, hF, hm, hk, hb⟩ := h.ex
  refine ⟨⟨fun pins s σ H Q I h => ?_⟩⟩
  obtain ⟨ρ, S, L, a, po⟩ := h
  refine wpAny_Call_Name_kw (ld_glob I hg hm ?_ hdb)
  exact PySem.W.callWith_K0 I.kIn hk (run_fnS (us := []) (E := WE W) (hF.mono hkj) hr hb (passAt tk σ) I .nil ⟨rfl, ρ, [], L, a.rl, .nil, Po.sw (fun _ _ h => h) po⟩)
/-- a local that holds a def -/
structure Fnd (P : Program) (w : World) (K : PySem.W.Frag) (mg : Str → Option Value) (base : Heap) (p : Pm) (k : Nat) (i : Nat) (n : Nat) (F : Fn') : Prop where
  ex : ∃ (fd : FuncData) (ps : List Str), FnOk P w K mg base (L2.CX P w) k (p.A i) fd ps (spM p n F) ∧ PySem.W.keepIn K (.ref (p.A i)) = true ∧ Binds K fd ps []
/-- the defs that a local may hold, by number -/
noncomputable def mCallV (i n : Nat) (tb : Nat → Option Fn') (ms : EM) : EM := fun S L => match nth S i with
  | some (some (.fn k)) => match tb k with
    | some F => mCall n F ms S L
    | none => .bad
  | _ => .bad
theorem ee_callV {x : Str} {pn : Pos} {e : Expr} {es : List Expr} {i n j : Nat} {tb : Nat → Option Fn'} {ms : EM} (hT : ∀ k F, tb k = some F → Fnd X.prog X.w X.K X.mg X.base p j k n F) (hr : Room j X.A) (tk : Takes X W) (ha : EA X p Z W (e :: es) ms)
    (hN : X.N[i]? = some x := by rfl) (hv : Vis X.env.scope x := by first | exact Or.inl rfl | exact Or.inr (Or.inl rfl) | exact Or.inr (Or.inr rfl))
    (hdb : (x == ("__debug__" : Str)) = false := by decide) (hcd : (x == ("__classdict__" : Str)) = false := by decide)
    (he : starEach (e :: es) X.env = (false, eval e X.env) :: starEach es X.env := by rfl) (hpl : (backTo pos (starEach es X.env)).any (·.1) = false := by rfl) : EE X p Z W (.Call (.Name x pn) (e :: es) [] pos) (mCallV i n tb ms) := by
  refine ⟨⟨fun pins s σ H Q I h => ?_⟩⟩
  obtain ⟨ρ, S, L, a, po⟩ := h
  unfold mCallV at po
  rw [nth_eq] at po
  split at po
  · rename_i k hk
    split at po
    · rename_i F hF
      obtain ⟨v, hv1, hv2⟩ := a.env.at_ i _ hk
      cases hv2
      obtain ⟨fd, ps, f1, f2, f3⟩ := (hT k F hF).ex
      refine wpAny_Call_Name_kw (thn ((pe_var (pos := pn) hN hv hdb hcd).run pins s σ H (fun v H1 => v = .ref (p.A k) ∧ H1 = H) I ⟨.ref (p.A k), hv1, rfl, rfl⟩) fun u s1 ⟨v, H1, I1, r1, q1⟩ => ?_)
      obtain ⟨rfl, rfl⟩ := q1
      cases r1
      have q : tCallS (spM p n F) (WE W) (TrA p Z W ms) σ H1 Q := tr_call ⟨ρ, S, L, a, po⟩
      refine PySem.W.callWith_K (h₀ := X.base) I.ok.mod.kin f2 (thn (ha.pa.run pos pins s1 σ _ _ I1 q) fun us s2 ⟨vs, H2, I2, r, q⟩ => ⟨I2.kIn, ?_⟩) he hpl
      exact run_fnS f1 hr f3 (passAt tk σ) I2 r q
    · exact po.elim
  · exact po.elim
/-! ### calls by names -/
noncomputable def pickO (perm : List Nat) (ds : List D) : (List D → Out) → Out := @List.rec Nat (fun _ => (List D → Out) → Out) (fun k => k []) (fun i _ ih k => match nth ds i with
  | some d => ih fun ys => k (d :: ys)
  | none => .bad) perm
def pick {α : Type} (perm : List Nat) (xs : List α) : List α := perm.filterMap fun i => xs[i]?
theorem pickO_or (perm : List Nat) (ds : List D) (k : List D → Out) : pickO perm ds k = .bad ∨ pickO perm ds k = k (pick perm ds) := by
  induction perm generalizing k with
  | nil => right; rfl
  | cons i is ih =>
    have e : pickO (i :: is) ds k = match nth ds i with
      | some d => pickO is ds fun ys => k (d :: ys)
      | none => .bad := rfl
    rw [e, nth_eq]
    cases h : ds[i]? with
    | none => left; rfl
    | some d =>
      rcases ih (fun ys => k (d :: ys)) with q | q
      · left; exact q
      · right
        show pickO is ds (fun ys => k (d :: ys)) = _
        rw [q]
        unfold pick
        rw [List.filterMap_cons, h]
theorem pick_vals {zs : List V} {ws : List Value} (h : Vals zs ws) : ∀ perm : List Nat, Vals (pick perm zs) (pick perm ws)
  | [] => .nil
  | i :: is => by
    unfold pick
    rw [List.filterMap_cons, List.filterMap_cons]
    have hr : ∀ {zs : List V} {ws : List Value} (i : Nat), Vals zs ws → (zs[i]? = none ∧ ws[i]? = none) ∨ ∃ v u, zs[i]? = some v ∧ ws[i]? = some u ∧ RelV v u := by
      intro zs ws i h
      induction h generalizing i with
      | nil => left; simp
      | cons r rr ih =>
        cases i with
        | zero => right; exact ⟨_, _, rfl, rfl, r⟩
        | succ j => rcases ih j with ⟨a, b⟩ | ⟨v, u, a, b, c⟩
                    · left; simpa using ⟨by simpa using a, by simpa using b⟩
                    · right; exact ⟨v, u, by simpa using a, by simpa using b, c⟩
    rcases hr i h with ⟨a, b⟩ | ⟨v, u, a, b, c⟩
    · rw [a, b]; exact pick_vals h is
    · rw [a, b]; exact .cons c (pick_vals h is)
theorem pick_dvs {p : Pm} {ρ : List Addr} {H : Hp} {ds : List D} {vs : List V} (h : Dvs p H ρ ds vs) : ∀ perm : List Nat, Dvs p H ρ (pick perm ds) (pick perm vs)
  | [] => .nil
  | i :: is => by
    unfold pick
    rw [List.filterMap_cons, List.filterMap_cons]
    cases q : ds[i]? with
    | none =>
      have : vs[i]? = none := by
        have := List.getElem?_eq_none_iff.mp q
        rw [h.length] at this
        exact List.getElem?_eq_none_iff.mpr this
      rw [this]; exact pick_dvs h is
    | some d =>
      obtain ⟨v, e1, e2⟩ := h.get q
      rw [e1]; exact .cons e2 (pick_dvs h is)
structure EK (X : Cx) (p : Pm) (Z : L2.St → Prop) (W : Wx) (ks : List Keyword) (m : EM) : Prop where
  pk : PK X ks (TrA p Z W m)
theorem PK.imp {e : List Keyword} {t t' : TA} (h : PK X e t) (hi : ∀ σ H Q, t' σ H Q → t σ H Q) : PK X e t' := ⟨fun pos pins s σ H Q I hq => h.run pos pins s σ H Q I (hi σ H Q hq)⟩
theorem ek_nil : EK X p Z W [] mNil := ⟨PK.imp pk_nil fun σ H Q h => by
  obtain ⟨ρ, S, L, a, po⟩ := h
  exact po ρ H [] (Ext.refl _ _) a.rl .nil⟩
theorem ek_cons {nm : Option Str} {e : Expr} {kpos : Pos} {kws : List Keyword} {ma mr : EM} (ha : EE X p Z W e ma) (hr : EK X p Z W kws mr) : EK X p Z W (⟨nm, e, kpos⟩ :: kws) (mCons ma mr) := ⟨PK.imp (pk_cons ha.pe hr.pk) fun σ H Q h => tr_cons h⟩
/-- how a call by names alone binds -/
structure KBp (K : PySem.W.Frag) (fd : FuncData) (ps ks : List Str) (perm : List Nat) : Prop where
  to : ∀ (s : Shared) (ws : List Value), K.In s.heap → (pick perm ws).length = ps.length → BindsTo s fd ⟨[], ks.zip ws⟩ (ps.zip (pick perm ws))
structure KnK (P : Program) (w : World) (K : PySem.W.Frag) (mg : Str → Option Value) (base : Heap) (p : Pm) (k : Nat) (x : Str) (n : Nat) (F : Fn') (ks : List Str) (perm : List Nat) : Prop where
  ex : ∃ (f : Addr) (fd : FuncData) (ps : List Str), FnOk P w K mg base (L2.CX P w) k f fd ps (spM p n F) ∧ mg x = some (.ref f) ∧ PySem.W.keepIn K (.ref f) = true ∧ KBp K fd ps ks perm
noncomputable def mCallK (n : Nat) (F : Fn') (perm : List Nat) (ms : EM) : EM := fun S L => (ms S L).row fun ds L1 => pickO perm ds fun es => @Bool.casesOn (fun _ => Out) (Nat.beq (lenN es) n) .bad (F es L1)
theorem ee_callK {x : Str} {pn : Pos} {kws : List Keyword} {n k j : Nat} {F : Fn'} {ms : EM} {ks : List Str} {perm : List Nat} (h : KnK X.prog X.w X.K X.mg X.base p k x n F ks perm) (hr : Room j X.A) (hkj : k ≤ j) (tk : Takes X W) (ha : EK X p Z W kws ms) (hg : Gl X x := by rfl)
    (hks : (backToKw pos (keywordEach kws X.env)).filterMap (·.1) = ks := by rfl) (hall : (backToKw pos (keywordEach kws X.env)).all (·.1.isSome) = true := by rfl)
    (hdb : (x == ("__debug__" : Str)) = false := by decide) (hpl : ((backTo pos (starEach [] X.env)).any (·.1) || (backToKw pos (keywordEach kws X.env)).any (·.1.isNone)) = false := by rfl) :
    EE X p Z W (.Call (.Name x pn) [] kws pos) (mCallK n F perm ms) := by
  obtain ⟨f, fd, ps, hF0, hm, hk, hb⟩ := h.ex
  have hF := hF0.mono hkj
  refine ⟨⟨fun pins s σ H Q I h => ?_⟩⟩
  obtain ⟨ρ, S, L, a, po⟩ := h
  have tr : TrA p Z W ms σ H (fun vs H1 => spM p n F (pick perm vs) H1 Q (WE W σ)) := by
    refine ⟨ρ, S, L, a, (Pa.imp fun ρ1 L1 ds vs H1 e1 r1 d1 q => ?_) (Pa.row po)⟩
    rcases pickO_or perm ds (fun es => @Bool.casesOn (fun _ => Out) (Nat.beq (lenN es) n) .bad (F es L1)) with e | e
    · rw [e] at q; exact q.elim
    · rw [e] at q
      have d2 := pick_dvs d1 perm
      simp only at q
      cases hb : Nat.beq (lenN (pick perm ds)) n with
      | false => rw [hb] at q; exact q.elim
      | true =>
        rw [hb] at q
        refine ⟨by rw [← d2.length, ← lenN_eq]; exact Nat.eq_of_beq_eq_true hb, ρ1, _, L1, r1, d2, Po.sw (fun _ _ h => h) q⟩
  refine wpAny_Call_Name_kw (ld_glob I hg hm ?_ hdb)
  refine PySem.W.callWith_KW0 (h₀ := X.base) I.ok.mod.kin hk hall (thn (ha.pk.run pos pins s σ H _ I tr) fun ws s2 ⟨zs, H2, I2, rz, q2⟩ => ⟨I2.kIn, ?_⟩) hpl
  rw [hks]
  have r2 := pick_vals rz perm
  have hl : (pick perm ws).length = ps.length := by rw [← r2.length]; exact hF.len _ _ _ _ q2
  refine wpAny_call (codeAny_mono (hF.run X.A X.stack s2 H2 ⟨[], ks.zip ws⟩ (pick perm ws) (pick perm zs) Q (WE W σ) hr I2.env0 (hb.to s2 ws I2.kIn hl) r2 q2) fun r s' hq => ?_)
  cases r with
  | error e => exact passAt tk σ pins H2 s2 e s' I2 hq
  | ok fl =>
    cases fl with
    | ret u => exact I2.after hq
    | next => exact False.elim hq
    | brk => exact False.elim hq
    | cont => exact False.elim hq
/-! ### methods of lists -/
noncomputable def mMeth (mo ms : EM) (o : D → List D → Sto → Out) : EM := fun S L => (mo S L).bd fun d L1 => (ms S L1).row fun ds L2 => o d ds L2
/-- joins two rows -/
noncomputable def catO (xs ys : List D) : (List D → Out) → Out := @List.rec D (fun _ => (List D → Out) → Out) (fun k => k ys) (fun x _ ih k => ih fun zs => k (x :: zs)) xs
theorem catO_eq (xs ys : List D) (k : List D → Out) : catO xs ys k = k (xs ++ ys) := by
  induction xs generalizing k with
  | nil => rfl
  | cons x xs ih =>
    show catO xs ys (fun zs => k (x :: zs)) = _
    rw [ih]; rfl
noncomputable def oApp (d : D) (ds : List D) (L : Sto) : Out := match d, ds with
  | .ref i, [x] => match L.get i with
    | some xs => iff_ (short xs most) (catO xs [x] fun ys => L.setK i ys fun L' => .ok .non L') .bad
    | none => .bad
  | _, _ => .bad
noncomputable def isRef (d : D) : Bool := match d with
  | .ref _ => true
  | _ => false
noncomputable def mMethL (mo ms : EM) (o : D → List D → Sto → Out) : EM := fun S L => (mo S L).bd fun d L1 => @Bool.casesOn (fun _ => Out) (isRef d) .bad ((ms S L1).row fun ds L2 => o d ds L2)
theorem tr_meth {r : V → List V → Hp → VK → Prop} {o : D → List D → Sto → Out} {mo ms : EM} (ho : ∀ {σ : L2.St} {ρ : List Addr} {L : Sto} {H : Hp} {d : D} {ds : List D} {x : V} {xs : List V} {Q : VK}, Rl p ρ L H → Dv p H ρ d x → Dvs p H ρ ds xs → Po p W σ (fun _ _ _ v H' => Q v H') ρ H (o d ds L) → r x xs H Q)
    {σ : L2.St} {H : Hp} {Q : VK} (h : TrE p Z W (mMethL mo ms o) σ H Q) : tBM X.K "list" r (TrE p Z W mo) (TrA p Z W ms) σ H Q := by
  obtain ⟨ρ, S, L, a, po⟩ := h
  refine ⟨ρ, S, L, a, (Po.imp fun ρ1 L1 d v H1 e1 r1 d1 q => ?_) (Po.bd po)⟩
  cases d1 with
  | @ref i b hi =>
    obtain ⟨ds, xs, f1, f2, f3⟩ := r1.at_ i b hi
    have a1 := a.ext e1 r1
    refine ⟨.inl ⟨rfl, xs, SqL.of f2⟩, ρ1, S, L1, a1, (Pa.imp fun ρ2 L2 es vs H2 e2 r2 d2 q2 => ?_) (Pa.row q)⟩
    exact ho r2 (.ref (e2.get hi)) d2 q2
  | _ => exact q.elim
theorem app_ho {σ : L2.St} {ρ : List Addr} {L : Sto} {H : Hp} {d : D} {ds : List D} {x : V} {xs : List V} {Q : VK} (r : Rl p ρ L H) (hd : Dv p H ρ d x) (hs : Dvs p H ρ ds xs) (po : Po p W σ (fun _ _ _ v H' => Q v H') ρ H (oApp d ds L)) : rAppend x xs H Q := by
  unfold oApp at po
  split at po
  · rename_i i z
    cases hd with
    | @ref _ b hi =>
      obtain ⟨v, rfl, h1⟩ := dvs1 hs
      obtain ⟨es, ys, f1, f2, f3⟩ := r.at_ i b hi
      rw [f1] at po
      obtain ⟨c, po⟩ := iff_t po
      rw [catO_eq] at po
      have hl := short_le c
      rw [f3.length] at hl
      refine ⟨b, ys, v, rfl, rfl, f2, Nat.lt_of_le_of_lt hl most_lt, ?_⟩
      rcases setK_or L i (es ++ [z]) (fun L' => .ok .non L') with e | ⟨L', e, h2, h3⟩
      · rw [e] at po; exact po.elim
      · rw [e] at po
        obtain ⟨x1, r1⟩ := r.set hi (f3.append (.cons h1 .nil)) h2 h3
        exact po ρ _ .non x1 r1 .non
  · exact po.elim
theorem ee_append {o e : Expr} {apos : Pos} {mo ma : EM} (ho : EE X p Z W o mo) (ha : EA X p Z W [e] ma)
    (hbase : attributeBase o "append" X.env (eval o X.env) = eval o X.env := by rfl)
    (hfew : ((backTo pos (starEach [e] X.env)).all (fun x => !x.1) && (backToKw pos (keywordEach [] X.env)).all (fun x => x.1.isSome)
      && decide ([e].length + ([] : List Keyword).length + (if ([] : List Keyword).isEmpty then 0 else 1) < 30)) = true := by rfl)
    (hline : (apos.endLine == pos.line) = true := by rfl) (hs : starEach [e] X.env = (false, eval e X.env) :: starEach [] X.env := by rfl) (hplain : (backTo pos (starEach [] X.env)).any (·.1) = false := by rfl) :
    EE X p Z W (.Call (.Attribute o "append" apos) [e] [] pos) (mMethL mo ma oApp) :=
  ⟨PE.imp (pe_bm PySem.F.plainAttrs_list PySem.F.slot_list_append PySem.F.type_list_append mt_append ho.pe ha.pa hbase hfew hline hs hplain) fun σ H Q h => tr_meth (X := X) (fun r hd hs po => app_ho r hd hs po) h⟩
end
end Mr

namespace Mr
open PySem PySem.Spec PyProof.Rows L2
/-! ### own exceptions -/
/-- an own class of errors, by its number -/
structure ExK (K : PySem.W.Frag) (mg : Str → Option Value) (p : Pm) (c : Nat) (x : Str) : Prop where
  gC : mg x = some (.ref (p.C c))
  kC : PySem.W.keepIn K (.ref (p.C c)) = true
  q : PySem.W.excIn K (p.C c) [.type "ValueError", .type "Exception", .type "BaseException", .type "object"] "ValueError.__new__" = true
  h1 : PySem.W.subIn K (.ref (p.C c)) (.type "BaseException") = some true
  h2 : PySem.W.typeIn K (.ref (p.C c)) = some (.type "type")
section
variable {X : Cx} {p : Pm} {Z : L2.St → Prop} {W : Wx} {pos : Pos}
theorem pmk_own0 {x : Str} {c : Nat} {pn : Pos} (h : ExK X.K X.mg p c x) (hg : Gl X x) (hdb : (x == ("__debug__" : Str)) = false := by decide) : PMk X (.Call (.Name x pn) [] [] pos) (fun _ H Q => Q (.ref (p.C c)) none H) := by
  intro pins s σ H Q I hq
  refine wpAny_Call_Name_kw (ld_glob I hg h.gC ?_ hdb)
  refine PySem.W.callWith_K0 I.kIn h.kC ?_
  show wpAny _ _ (call (.ref (p.C c)) []) _ _ _
  obtain ⟨bm, N, nm, qn, bs, hdct, sn, sub, ab, col, dd, k0, k1, k2, k3, k5, mN, hC, hN, hni, T⟩ := exc_obj I.kIn h.q
  refine wpAny_call_exc_subT PySem.F.excBase_ValueError T hC hN hni (fun h' e hm => ?_) (by show 0 ≤ sizeLine; omega)
  exact mk_of I hm (raises_own h.h1 h.h2) hq (I.hok.gone hm.new)
def sRaise (c : Nat) : SM := fun S L => .err c S L
theorem es_raise {x : Str} {c : Nat} {pn pos2 : Pos} (hc : X.calm = true) (tk : Takes X W) (h : ExK X.K X.mg p c x) (hg : Gl X x := by rfl) (hdb : (x == ("__debug__" : Str)) = false := by decide) : ES X p Z W (.Raise (some (.Call (.Name x pn) [] [] pos)) none pos2) (sRaise c) :=
  ⟨PS.imp (ps_raise hc tk (pmk_own0 h hg hdb)) fun D σ H hq => by
    obtain ⟨ρ, S, L, a, po⟩ := hq
    exact po ρ H σ (Ext.refl _ _) a.rl a.env⟩
/-! ### try -/
noncomputable def hdl (c : Nat) (S : List (Option D)) (L : Sto) (hs : List (Nat × SM)) : SO := @List.rec (Nat × SM) (fun _ => SO) (.err c S L) (fun h _ ih => @Bool.casesOn (fun _ => SO) (Nat.beq c h.1) ih (h.2 S L)) hs
noncomputable def sTry (n : Nat) (b : SM) (hs : List (Nat × SM)) : SM := fun S L => match b S L with
  | .err c S1 L1 => @Bool.casesOn (fun _ => SO) (Nat.blt c n) .bad (hdl c S1 L1 hs)
  | .nx S1 L1 => .nx S1 L1
  | .ret d L1 => .ret d L1
  | .brk S1 L1 => .brk S1 L1
  | .cnt S1 L1 => .cnt S1 L1
  | .bad => .bad
/-- clauses without names -/
inductive EHs (X : Cx) (p : Pm) (W : Wx) : List ExceptHandler → List (Nat × SM) → Prop
  | nil : EHs X p W [] []
  | cons {x : Str} {k : Nat} {b₀ : Stmt} {suite : List Stmt} {np pos' : Pos} {hds : List ExceptHandler} {hs : List (Nat × SM)} {m : SM} (hc : Names X x (.ref (p.C k)))
      (hsu : ∀ (a : Addr) (oe : Obj) (cls : Value) (d : Option Addr) (pn : List (Addr × Obj)), ESs (X.suite a ((a, oe) :: pn)) p ZT W (b₀ :: suite) m) (r : EHs X p W hds hs) :
      EHs X p W (.ExceptHandler (some (.Name x np)) none (b₀ :: suite) pos' :: hds) ((k, m) :: hs)
theorem EHs.ok {hds : List ExceptHandler} {hs : List (Nat × SM)} (h : EHs X p W hds hs) : HdsOk X hds (hs.map fun q => ((.ref (p.C q.1) : Value), fun (_ : Addr) (_ : Value) (_ : Option Addr) => TrS p ZT W q.2)) := by
  induction h with
  | nil => exact .nil
  | cons hc hsu r ih => exact .cons hc (fun a oe cls d pn _ _ => (hsu a oe cls d pn).ps) ih
/-- one class is none of the others -/
def ExM (K : PySem.W.Frag) (p : Pm) (n : Nat) : Prop := ∀ c k, c < n → k < n → PySem.W.exmOne K (.ref (p.C c)) (.ref (p.C k)) = some (Nat.beq c k)
theorem hdl_ok {T : Ends} {n c : Nat} {hs : List (Nat × SM)} (hx : ExM X.K p n) (hc : c < n) (hh : ∀ q ∈ hs, q.1 < n) {S : List (Option D)} {L : Sto} {ρ : List Addr} {H : Hp} {σ : L2.St} (r : Rl p ρ L H) (e : EnvR p H ρ S σ) (h : PoS p W T ρ H (hdl c S L hs)) :
    wMany X.K W T (hs.map fun q => ((.ref (p.C q.1) : Value), fun (_ : Addr) (_ : Value) (_ : Option Addr) => TrS p ZT W q.2)) (.ref (p.C c)) none σ H := by
  induction hs with
  | nil => exact h ρ H σ (Ext.refl _ _) r e
  | cons q hs ih =>
    have h1 : PoS p W T ρ H (@Bool.casesOn (fun _ => SO) (Nat.beq c q.1) (hdl c S L hs) (q.2 S L)) := h
    refine ⟨Nat.beq c q.1, hx c q.1 hc (hh q List.mem_cons_self), fun hb a _ => ?_, fun hb => ?_⟩
    · rw [hb] at h1
      exact ⟨ρ, S, L, ⟨trivial, e, r⟩, h1⟩
    · rw [hb] at h1
      exact ih (fun z hz => hh z (List.mem_cons_of_mem _ hz)) h1
theorem es_try {body : List Stmt} {h₀ : ExceptHandler} {hds : List ExceptHandler} {b : SM} {hs : List (Nat × SM)} {n : Nat} (hst : X.stack = X.env :: X.outer) (hf : X.env.frame = some X.env.locals) (tk : Takes X W) (hx : ExM X.K p n) (hh : ∀ q ∈ hs, q.1 < n)
    (hb : ∀ (W : WX) (pn : List (Addr × Obj)) (xe : Value → Shared → Prop), Takes (X.tr pn xe) W → PassesOwn (model X.prog X.w) X.A X.env xe → ESs (X.tr pn xe) p ZT W body b) (he : EHs X p W (h₀ :: hds) hs) :
    ES X p ZT W (.Try body (h₀ :: hds) [] [] pos) (sTry n b hs) := ⟨PS.imp (ps_try_many (tb := fun W => TrS p ZT W b) hst hf tk (fun W pn xe t q => (hb W pn xe t q).ps) he.ok) fun T σ H h => by
  obtain ⟨ρ, S, L, a, po⟩ := h
  refine ⟨ρ, S, L, a, ?_⟩
  unfold sTry at po
  cases hm : b S L with
  | err c S1 L1 =>
    rw [hm] at po
    intro ρ1 H1 σ1 e1 r1 n1
    simp only at po
    cases hc : Nat.blt c n with
    | false => rw [hc] at po; exact po.elim
    | true => rw [hc] at po; exact hdl_ok hx (blt_t hc) hh r1 n1 (PoS.ext e1 po)
  | nx S1 L1 => rw [hm] at po; exact po
  | ret d L1 => rw [hm] at po; exact po
  | brk S1 L1 => rw [hm] at po; exact po
  | cnt S1 L1 => rw [hm] at po; exact po
  | bad => rw [hm] at po; exact po⟩
/-! ### clauses that name the error -/
def wManyA (K : PySem.W.Frag) (Wout : WX) (D : Ends) : List (Nat × Value × (Addr → Value → Option Addr → TS)) → WX
  | [] => Wout
  | (i, c, ts) :: r => fun cls d σ H => ∃ b, PySem.W.exmOne K cls c = some b ∧ (b = true → ∀ a, H a = none → ts a cls d { nx := fun σ' H' => D.nx (σ'.set i none) H', rt := D.rt, bk := fun σ' H' => D.bk (σ'.set i none) H', ct := fun σ' H' => D.ct (σ'.set i none) H' } (σ.set i (some (.ref a))) H) ∧
    (b = false → wManyA K Wout D r cls d σ H)
inductive HdsAs (X : Cx) : List ExceptHandler → List (Nat × Value × (Addr → Value → Option Addr → TS)) → Prop
  | nil : HdsAs X [] []
  | cons {n : Str} {i : Nat} {x : Str} {c : Value} {ts : Addr → Value → Option Addr → TS} {b₀ : Stmt} {suite : List Stmt} {np pos' : Pos} {hds : List ExceptHandler} {l : List (Nat × Value × (Addr → Value → Option Addr → TS))} (hi : X.N[i]? = some n) (hln : X.env.kindOf n = some .local) (hc : Names X x c)
      (hsu : ∀ (a : Addr) (oe : Obj) (cls : Value) (d : Option Addr) (pn : List (Addr × Obj)), Zc cls d oe → (∃ vs, oe.data = .fields vs) → PSs (X.suite a ((a, oe) :: pn)) (b₀ :: suite) (ts a cls d)) (r : HdsAs X hds l) :
      HdsAs X (.ExceptHandler (some (.Name x np)) (some n) (b₀ :: suite) pos' :: hds) ((i, c, ts) :: l)
end
section
variable {X : Cx} {body : List Stmt} {h₀ : ExceptHandler} {hds : List ExceptHandler} {l : List (Nat × Value × (Addr → Value → Option Addr → TS))} {pos : Pos} {tb : WX → TS} {Wout : WX}
theorem ps_try_manyA (hs : X.stack = X.env :: X.outer) (hf : X.env.frame = some X.env.locals) (hN : X.N.Nodup) (tk : Takes X Wout)
    (hb : ∀ (W : WX) (pn : List (Addr × Obj)) (xe : Value → Shared → Prop), Takes (X.tr pn xe) W → PassesOwn (model X.prog X.w) X.A X.env xe → PSs (X.tr pn xe) body (tb W))
    (hh : HdsAs X (h₀ :: hds) l) : PS X (.Try body (h₀ :: hds) [] [] pos) (fun D σ H => tb (wManyA X.K Wout D l) D σ H) := by
  refine ⟨fun pins s σ H D I h => ?_⟩
  have okX := I.ok
  have frE : X.A.frames = some (X.env :: X.outer) := by rw [okX.frames, hs]
  refine wpAny_Try_except ?_
  refine wpAny_mono ((hb (wManyA X.K Wout D l) (X.pn ++ pins) (fun e s₁ => wpAny (model X.prog X.w) X.A (noteFrame e X.env) (fun _ s₂ => wpAny (model X.prog X.w) X.A (setFlight e none) (fun _ s₃ =>
    wpAny (model X.prog X.w) X.A (handleBy e X.env (h₀ :: hds)) (SP X pins D) X.xe s₃) X.xe s₂) X.xe s₁) (fun u s' xq => ?_) PassesOwn.looking).run [] s σ H D (I.toTry _) h) (fun f s1 spE => ?_) (fun e s1 heq => heq)
  · obtain ⟨a, B, sIn, pins', σ', H', cls, d, rfl, ivJ2, nbq, uq, skA, naq, osq, agq, wq⟩ := xq
    have ivJ : Inv X pins σ' H' sIn := ivJ2.ofTry okX
    have skB : Sky B (X.env :: X.outer) a (Zc cls d) X.env.locals s'.heap := by rw [← hs]; exact skA
    show wpAny (model X.prog X.w) X.A (noteFrame (.ref a) X.env) _ _ _
    refine Sky.land Zc.steady frE hf skB fun hp3 fx3 uq3 => ?_
    have iv3 : Inv X pins σ' H' { s' with heap := hp3 } := ivJ.landed nbq fx3.1 (uq.trans uq3) osq agq
    obtain ⟨oeq3, vsq3, heq3, hzq3, hdq3⟩ := fx3.there
    have frNot : ∀ {h : Heap} {o : Obj} {vs : Array Value}, h.FunFrames B (X.env :: X.outer) → h.get? a = some o → o.data = .fields vs → a ∉ frs (X.env :: X.outer) := fun {h o vs} ff e dd hm => by
      obtain ⟨_, o', e', hnf⟩ := ff.mem hm
      rw [e] at e'; cases e'
      exact hnf _ dd
    have nfr2 := frNot fx3.2.2.1 heq3 hdq3
    have offL : a ≠ X.env.locals := fun z => nfr2 (List.mem_filterMap.mpr ⟨X.env, List.mem_cons_self, by rw [hf, z]⟩)
    have offF : a ∉ X.fs := fun hm => by
      obtain ⟨e, heq, q⟩ := List.mem_filterMap.mp hm
      exact nfr2 (List.mem_filterMap.mpr ⟨e, List.mem_cons_of_mem _ heq, q⟩)
    have su3 := iv3.suite heq3 hdq3 naq offL offF
    have goq : ∀ {hds' : List ExceptHandler} {l' : List (Nat × Value × (Addr → Value → Option Addr → TS))}, HdsAs X hds' l' → wManyA X.K Wout D l' cls d σ' H' →
        wpAny (model X.prog X.w) X.A (handleBy (.ref a) X.env hds') (SP X pins D) X.xe { s' with heap := hp3 } := by
      intro hds' l' hkq
      induction hkq with
      | nil =>
        intro wq
        refine wpAny_handleBy_nil ?_
        obtain ⟨k1, k2, k3, oe, vs, Tq, oT, ts', heq, hzq, hdq, h1q, hrq⟩ := id fx3
        unfold PySem.passOn
        refine wpAny_bind (wpAny_field heq hdq h1q ?_)
        rw [if_neg (show ¬ ((Value.ref Tq == Value.none) = true) from by simp)]
        have finq : wpAny (model X.prog X.w) X.A (setFlight (.ref a) X.env.frame) (fun _ s4 => wpAny (model X.prog X.w) X.A (throw (.ref a) : Sem Flow) (SP X pins D) X.xe s4) X.xe { s' with heap := hp3 } := by
          rw [hf]
          refine HandSPX.setFlight_upZ fx3 fun hp4 hhq4 uq4 => wpAny_throw (tk _ _ ?_)
          exact ⟨a, B, sIn, pins, σ', H', cls, d, rfl, ivJ, nbq, (uq.trans uq3).trans uq4, .inr (.inr (by rw [hs]; exact hhq4)), naq, osq, agq, wq⟩
        first
          | exact wpAny_bind (wpAny_pure (wpAny_bind finq))
          | exact wpAny_bind finq
      | @cons n i x c ts b₀ suite np pos' hdsq2 lq2 hi hln hc hsuq r ihq =>
        have lcq : Loc X.env.scope n := .inl hln
        intro wq
        obtain ⟨b, hbq1, yesH, noH⟩ := wq
        refine wpAny_handleBy_cons (codeAny_handlers_test ?_) (by intro q; cases q)
        have lkT : PySem.W.Looks (model X.prog X.w) hp3 (typeOf (.ref a)) cls := fun A Q E s k q => wpAny_typeOf_ref (k _ _ heq3) (by rw [hzq3.1]; exact q)
        have lkM := PySem.W.exm_one (M := model X.prog X.w) (iv3.kIn) lkT hbq1
        have tst : ∀ {Q : Value → Shared → Prop} {E : Value → Shared → Prop}, Q c { s' with heap := hp3 } → wpAny (model X.prog X.w) (X.A.mark (some (.ref a))) (eval (.Name x np) X.env) Q E { s' with heap := hp3 } := fun {Q E} q => by
          obtain ⟨hgq, hdbq, hm | ⟨hm, hv, hnnq⟩⟩ := hc
          · exact ld_glob (X := X.suite a ((a, oeq3) :: (X.pn ++ pins))) su3 hgq hm q hdbq
          · exact ld_blt (X := X.suite a ((a, oeq3) :: (X.pn ++ pins))) su3 hgq hm hv q hnnq hdbq
        refine tst (lkM.here ?_)
        cases b with
        | true =>
          refine codeAny_handlers_suite_as ?_
          refine HandSPX.lands_againZ fx3 fun hp4 fx4 uq4 => ?_
          have iv4 : Inv X pins σ' H' { s' with heap := hp4 } := ivJ.landed nbq fx4.1 ((uq.trans uq3).trans uq4) osq agq
          obtain ⟨oeq4, vsq4, heq4, hzq4, hdq4⟩ := fx4.there
          have su4 := iv4.suite heq4 hdq4 naq offL offF
          refine store_ok (X := X.suite a ((a, oeq4) :: (X.pn ++ pins))) (v := .ref a) su4 hN hi lcq rfl (fun sv5 su5 => ?_) (.inr hln)
          refine wpAny_mono ((hsuq a oeq4 cls d (X.pn ++ pins) hzq4 ⟨_, hdq4⟩).run [] sv5 _ H' _ su5 (yesH rfl a naq)) (fun f sv6 spE => ?_) (fun _ _ z => False.elim z)
          have endq : ∀ {σq6 : L2.St} {Hq6 : Hp} {Q : Shared → Prop}, Inv (X.suite a ((a, oeq4) :: (X.pn ++ pins))) [] σq6 Hq6 sv6 → (∀ sv7, Inv X pins (σq6.set i none) Hq6 sv7 → Q sv7) →
              wpAny (model X.prog X.w) X.A (do bindName X.env n .none; unbindBehindTheSuite X.env n pos') (fun _ sv7 => Q sv7) X.xe sv6 := fun {σq6 Hq6 Q} su6 hq => gone_ok (su6.unsuite okX) hN hi hln hq
          cases f with
          | next =>
            obtain ⟨σq6, Hq6, su6, qq6⟩ := spE
            exact endq su6 fun sv7 iv7 => ⟨_, _, iv7, qq6⟩
          | brk =>
            obtain ⟨σq6, Hq6, su6, qq6⟩ := spE
            exact endq su6 fun sv7 iv7 => ⟨_, _, iv7, qq6⟩
          | cont =>
            obtain ⟨σq6, Hq6, su6, qq6⟩ := spE
            exact endq su6 fun sv7 iv7 => ⟨_, _, iv7, qq6⟩
          | ret u =>
            obtain ⟨vq6, σq6, Hq6, su6, rq6, qq6⟩ := spE
            exact endq su6 fun sv7 iv7 => ⟨_, _, _, iv7, rq6, qq6⟩
        | false =>
          show wpAny _ X.A (handleBy (.ref a) X.env hdsq2) _ _ _
          exact ihq (noH rfl)
    exact goq hh wq
  · cases f with
    | next =>
      obtain ⟨σ', H', ivJ2, q⟩ := spE
      exact wpAny_execs_nil ⟨σ', H', ivJ2.ofTry okX, q⟩
    | brk =>
      obtain ⟨σ', H', ivJ2, q⟩ := spE
      exact ⟨σ', H', ivJ2.ofTry okX, q⟩
    | cont =>
      obtain ⟨σ', H', ivJ2, q⟩ := spE
      exact ⟨σ', H', ivJ2.ofTry okX, q⟩
    | ret u =>
      obtain ⟨v, σ', H', ivJ2, r, q⟩ := spE
      exact ⟨v, σ', H', ivJ2.ofTry okX, r, q⟩
end
end Mr

namespace Mr
open PySem PySem.Spec PyProof.Rows L2
section
variable {X : Cx} {p : Pm} {Z : L2.St → Prop} {W : Wx} {pos : Pos}
/-! ### clauses that name the error, of the mirror -/
noncomputable def endA (i : Nat) (o : SO) : SO := match o with
  | .nx S L => setS S i none fun S' => .nx S' L
  | .ret d L => .ret d L
  | .brk S L => setS S i none fun S' => .brk S' L
  | .cnt S L => setS S i none fun S' => .cnt S' L
  | .err _ _ _ => .bad
  | .bad => .bad
noncomputable def hdlA (c : Nat) (S : List (Option D)) (L : Sto) (hs : List (Nat × Nat × SM)) : SO := @List.rec (Nat × Nat × SM) (fun _ => SO) (.err c S L) (fun h _ ih => @Bool.casesOn (fun _ => SO) (Nat.beq c h.2.1) ih (match nth S h.1 with
  | some _ => setS S h.1 (some .any) fun S' => endA h.1 (h.2.2 S' L)
  | none => .bad)) hs
noncomputable def sTryA (n : Nat) (b : SM) (hs : List (Nat × Nat × SM)) : SM := fun S L => match b S L with
  | .err c S1 L1 => @Bool.casesOn (fun _ => SO) (Nat.blt c n) .bad (hdlA c S1 L1 hs)
  | .nx S1 L1 => .nx S1 L1
  | .ret d L1 => .ret d L1
  | .brk S1 L1 => .brk S1 L1
  | .cnt S1 L1 => .cnt S1 L1
  | .bad => .bad
abbrev Za (i : Nat) (a : Addr) : L2.St → Prop := fun σ => σ[i]? = some (some (.ref a))
def tsA (p : Pm) (q : Nat × Nat × SM) : Addr → Value → Option Addr → TS := fun a cls d T σ H => (cls = .ref (p.C q.2.1) ∧ d = none) ∧ TrS p (Za q.1 a) WF q.2.2 T σ H
inductive EHa (X : Cx) (p : Pm) : List ExceptHandler → List (Nat × Nat × SM) → Prop
  | nil : EHa X p [] []
  | cons {n : Str} {i : Nat} {x : Str} {k : Nat} {b₀ : Stmt} {suite : List Stmt} {np pos' : Pos} {hds : List ExceptHandler} {hs : List (Nat × Nat × SM)} {m : SM} (hi : X.N[i]? = some n) (hln : X.env.kindOf n = some .local) (hc : Names X x (.ref (p.C k)))
      (hsu : ∀ (a : Addr) (oe : Obj) (pn : List (Addr × Obj)), Zc (.ref (p.C k)) none oe → (∃ vs, oe.data = .fields vs) → ESs (X.suite a ((a, oe) :: pn)) p (Za i a) WF (b₀ :: suite) m) (r : EHa X p hds hs) :
      EHa X p (.ExceptHandler (some (.Name x np)) (some n) (b₀ :: suite) pos' :: hds) ((i, k, m) :: hs)
theorem EHa.ok {hds : List ExceptHandler} {hs : List (Nat × Nat × SM)} (h : EHa X p hds hs) : HdsAs X hds (hs.map fun q => (q.1, (.ref (p.C q.2.1) : Value), tsA p q)) := by
  induction h with
  | nil => exact .nil
  | cons hi hln hc hsu r ih => exact .cons hi hln hc (fun a oe cls d pn hz hf => ⟨fun pins s σ H D I h => by
      obtain ⟨⟨rfl, rfl⟩, h⟩ := h
      exact (hsu a oe pn hz hf).ps.run pins s σ H D I h⟩) ih
theorem endA_ok {T : Ends} {i : Nat} {ρ : List Addr} {H : Hp} {o : SO} (h : PoS p W T ρ H (endA i o)) : PoS p WF { nx := fun σ' H' => T.nx (σ'.set i none) H', rt := T.rt, bk := fun σ' H' => T.bk (σ'.set i none) H', ct := fun σ' H' => T.ct (σ'.set i none) H' } ρ H o := by
  cases o with
  | nx S L =>
    have h' : PoS p W T ρ H (setS S i none fun S' => .nx S' L) := h
    rw [setS_eq] at h'
    exact fun ρ' H' σ e r n => h' ρ' H' _ e r (n.gone i)
  | brk S L =>
    have h' : PoS p W T ρ H (setS S i none fun S' => .brk S' L) := h
    rw [setS_eq] at h'
    exact fun ρ' H' σ e r n => h' ρ' H' _ e r (n.gone i)
  | cnt S L =>
    have h' : PoS p W T ρ H (setS S i none fun S' => .cnt S' L) := h
    rw [setS_eq] at h'
    exact fun ρ' H' σ e r n => h' ρ' H' _ e r (n.gone i)
  | ret d L => exact h
  | err c S L => exact h.elim
  | bad => exact h.elim
theorem hdlA_ok {T : Ends} {n c : Nat} {hs : List (Nat × Nat × SM)} (hx : ExM X.K p n) (hc : c < n) (hh : ∀ q ∈ hs, q.2.1 < n) {S : List (Option D)} {L : Sto} {ρ : List Addr} {H : Hp} {σ : L2.St} (r : Rl p ρ L H) (e : EnvR p H ρ S σ) (h : PoS p W T ρ H (hdlA c S L hs)) :
    wManyA X.K W T (hs.map fun q => (q.1, (.ref (p.C q.2.1) : Value), tsA p q)) (.ref (p.C c)) none σ H := by
  induction hs with
  | nil => exact h ρ H σ (Ext.refl _ _) r e
  | cons q hs ih =>
    have h1 : PoS p W T ρ H (@Bool.casesOn (fun _ => SO) (Nat.beq c q.2.1) (hdlA c S L hs) (match nth S q.1 with
      | some _ => setS S q.1 (some .any) fun S' => endA q.1 (q.2.2 S' L)
      | none => .bad)) := h
    refine ⟨Nat.beq c q.2.1, hx c q.2.1 hc (hh q List.mem_cons_self), fun hb a _ => ?_, fun hb => ?_⟩
    · rw [hb] at h1
      have hcq : c = q.2.1 := Nat.eq_of_beq_eq_true hb
      refine ⟨⟨by rw [hcq], rfl⟩, ?_⟩
      simp only at h1
      rw [nth_eq] at h1
      split at h1
      · rename_i z hz
        rw [setS_eq] at h1
        have hl : q.1 < σ.length := by rw [← e.len]; exact (List.getElem?_eq_some_iff.mp hz).1
        exact ⟨ρ, S.set q.1 (some .any), L, ⟨List.getElem?_set_self hl, e.set (.any _), r⟩, endA_ok h1⟩
      · exact h1.elim
    · rw [hb] at h1
      exact ih (fun z hz => hh z (List.mem_cons_of_mem _ hz)) h1
theorem es_tryA {body : List Stmt} {h₀ : ExceptHandler} {hds : List ExceptHandler} {b : SM} {hs : List (Nat × Nat × SM)} {n : Nat} (hst : X.stack = X.env :: X.outer) (hf : X.env.frame = some X.env.locals) (hN : X.N.Nodup) (tk : Takes X W) (hx : ExM X.K p n) (hh : ∀ q ∈ hs, q.2.1 < n)
    (hb : ∀ (W : WX) (pn : List (Addr × Obj)) (xe : Value → Shared → Prop), Takes (X.tr pn xe) W → PassesOwn (model X.prog X.w) X.A X.env xe → ESs (X.tr pn xe) p ZT W body b) (he : EHa X p (h₀ :: hds) hs) :
    ES X p ZT W (.Try body (h₀ :: hds) [] [] pos) (sTryA n b hs) := ⟨PS.imp (ps_try_manyA (tb := fun W => TrS p ZT W b) hst hf hN tk (fun W pn xe t q => (hb W pn xe t q).ps) he.ok) fun T σ H h => by
  obtain ⟨ρ, S, L, a, po⟩ := h
  refine ⟨ρ, S, L, a, ?_⟩
  unfold sTryA at po
  cases hm : b S L with
  | err c S1 L1 =>
    rw [hm] at po
    intro ρ1 H1 σ1 e1 r1 n1
    simp only at po
    cases hc : Nat.blt c n with
    | false => rw [hc] at po; exact po.elim
    | true => rw [hc] at po; exact hdlA_ok hx (blt_t hc) hh r1 n1 (PoS.ext e1 po)
  | nx S1 L1 => rw [hm] at po; exact po
  | ret d L1 => rw [hm] at po; exact po
  | brk S1 L1 => rw [hm] at po; exact po
  | cnt S1 L1 => rw [hm] at po; exact po
  | bad => rw [hm] at po; exact po⟩
/-- isinstance(error, ValueError) in a clause -/
theorem ee_isE {a : Addr} {oe : Obj} {pn : List (Addr × Obj)} {i k : Nat} {x : Str} {p1 p2 p3 : Pos} (C : ExcC X.K (p.C k)) (hk : PySem.W.kitOne X.K (.ref (p.C k)) (.type "ValueError") = some true) (hz : Zc (.ref (p.C k)) none oe) (hf : ∃ vs, oe.data = .fields vs)
    (hm : X.mg "isinstance" = none) (hv : X.mg "ValueError" = none) (hp : PE (X.suite a ((a, oe) :: pn)) (.Name x p2) (tVar i))
    (hg : Gl (X.suite a ((a, oe) :: pn)) "isinstance" := by rfl) (hg2 : Gl (X.suite a ((a, oe) :: pn)) "ValueError" := by rfl)
    (he : starEach [.Name x p2, .Name "ValueError" p3] (X.suite a ((a, oe) :: pn)).env = (false, eval (.Name x p2) (X.suite a ((a, oe) :: pn)).env) :: starEach [.Name "ValueError" p3] (X.suite a ((a, oe) :: pn)).env := by rfl)
    (he2 : starEach [.Name "ValueError" p3] (X.suite a ((a, oe) :: pn)).env = (false, eval (.Name "ValueError" p3) (X.suite a ((a, oe) :: pn)).env) :: starEach [] (X.suite a ((a, oe) :: pn)).env := by rfl)
    (hpl : (backTo pos (starEach [.Name "ValueError" p3] (X.suite a ((a, oe) :: pn)).env)).any (·.1) = false := by rfl) :
    EE (X.suite a ((a, oe) :: pn)) p (Za i a) WF (.Call (.Name "isinstance" p1) [.Name x p2, .Name "ValueError" p3] [] pos) mYes :=
  ⟨PE.imp (pe_callB (call_isE C hz hf) hg hm (by rfl) (pa_cons hp (pa_cons (pe_bltn (v := .ty "ValueError") (u := .type "ValueError") hg2 hv (by rfl) rfl) pa_nil he2) he) (by decide) (by decide) he hpl) fun σ H Q h => by
    obtain ⟨ρ, S, L, at_, po⟩ := h
    refine ⟨.ref a, at_.z, .ty "ValueError", .type "ValueError", true, rfl, fun u r => ?_, hk, po ρ H (.bl true) (Ext.refl _ _) at_.rl (.bl true)⟩
    cases r; rfl⟩
/-! ### nodes by name -/
theorem ee_type {x : Str} {n : Nat} (hm : X.mg x = none) (hv : bootBuiltins x = some (.type (tyN n))) (hg : Gl X x := by rfl) (hn : x ≠ "__name__" := by decide) (hdb : (x == ("__debug__" : Str)) = false := by decide) : EE X p Z W (.Name x pos) (mC (.ty n)) :=
  ⟨PE.imp (pe_bltn (v := .ty (tyN n)) hg hm hv rfl hn hdb) fun σ H Q h => tr_const (t := tC (.ty (tyN n))) (fun _ _ _ q => q) (fun _ _ => .ty n) h⟩
section
variable {a b : Expr} {ma mb : EM}
theorem b_add (hK : p.K = X.K) (ha : EE X p Z W a ma) (hb : EE X p Z W b mb) : EE X p Z W (.BinOp a .Add b pos) (m2 oAdd ma mb) := ee_bin (by rw [hK]; exact op_add.or (op_catA.or op_cat)) op2_add ha hb
theorem b_sub (hK : p.K = X.K) (ha : EE X p Z W a ma) (hb : EE X p Z W b mb) : EE X p Z W (.BinOp a .Sub b pos) (m2 oSub ma mb) := ee_bin op_sub op2_sub ha hb
theorem b_mul (hK : p.K = X.K) (ha : EE X p Z W a ma) (hb : EE X p Z W b mb) : EE X p Z W (.BinOp a .Mult b pos) (m2 oMul ma mb) := ee_bin (by rw [hK]; exact op_mulW.or (op_repT.or (op_repS.or op_rep))) op2_mul ha hb
theorem b_fdiv (hK : p.K = X.K) (ha : EE X p Z W a ma) (hb : EE X p Z W b mb) : EE X p Z W (.BinOp a .FloorDiv b pos) (m2 oFdiv ma mb) := ee_bin (op_fdivW.or op_fdivN) op2_fdiv ha hb
theorem b_mod (hK : p.K = X.K) (ha : EE X p Z W a ma) (hb : EE X p Z W b mb) : EE X p Z W (.BinOp a .Mod b pos) (m2 oMod ma mb) := ee_bin op_mod op2_mod ha hb
noncomputable def oPow (d e : D) (L : Sto) : Out := match d, e with
  | .int i, .int j => iff_ (PySem.W.Z.leB 0 j) (iff_ (PySem.W.Z.ltB j 1000) (iff_ (Nat.blt (Int.natAbs i) 1000) (fI (Int.pow i (Int.toNat j)) fun z => .ok (.int z) L) .bad) .bad) .bad
  | _, _ => .bad
theorem c_lt (hK : p.K = X.K) (ha : EE X p Z W a ma) (hb : EE X p Z W b mb) (hm : behindInMarks .Lt b = false := by rfl) : EE X p Z W (.Compare a [.Lt] [b] pos) (m2 oLt ma mb) := ee_cmp op_lt op2_lt ha hb hm
theorem c_le (hK : p.K = X.K) (ha : EE X p Z W a ma) (hb : EE X p Z W b mb) (hm : behindInMarks .LtE b = false := by rfl) : EE X p Z W (.Compare a [.LtE] [b] pos) (m2 oLe ma mb) := ee_cmp op_le op2_le ha hb hm
theorem c_gt (hK : p.K = X.K) (ha : EE X p Z W a ma) (hb : EE X p Z W b mb) (hm : behindInMarks .Gt b = false := by rfl) : EE X p Z W (.Compare a [.Gt] [b] pos) (m2 oGt ma mb) := ee_cmp op_gt op2_gt ha hb hm
theorem c_ge (hK : p.K = X.K) (ha : EE X p Z W a ma) (hb : EE X p Z W b mb) (hm : behindInMarks .GtE b = false := by rfl) : EE X p Z W (.Compare a [.GtE] [b] pos) (m2 oGe ma mb) := ee_cmp op_ge op2_ge ha hb hm
theorem c_eq (hK : p.K = X.K) (hu : X.A.units + 64 < cLine) (ha : EE X p Z W a ma) (hb : EE X p Z W b mb) (hm : behindInMarks .Eq b = false := by rfl) : EE X p Z W (.Compare a [.Eq] [b] pos) (m2 oEq ma mb) := ee_cmp (by rw [hK]; exact op_eqD hu) op2_eq ha hb hm
theorem c_ne (hK : p.K = X.K) (hu : X.A.units + 64 < cLine) (ha : EE X p Z W a ma) (hb : EE X p Z W b mb) (hm : behindInMarks .NotEq b = false := by rfl) : EE X p Z W (.Compare a [.NotEq] [b] pos) (m2 oNe ma mb) := ee_cmp (by rw [hK]; exact op_neD hu) op2_ne ha hb hm
theorem c_is (hK : p.K = X.K) (ha : EE X p Z W a ma) (hb : EE X p Z W b mb) (hm : behindInMarks .Is b = false := by rfl) : EE X p Z W (.Compare a [.Is] [b] pos) (m2 (oIsN false) ma mb) := ee_cmp op_isN op2_isN ha hb hm
theorem c_isn (hK : p.K = X.K) (ha : EE X p Z W a ma) (hb : EE X p Z W b mb) (hm : behindInMarks .IsNot b = false := by rfl) : EE X p Z W (.Compare a [.IsNot] [b] pos) (m2 (oIsN true) ma mb) := ee_cmp op_notN op2_notN ha hb hm
theorem t_lt (hK : p.K = X.K) (ha : EE X p Z W a ma) (hb : EE X p Z W b mb) (hm : behindInMarks .Lt b = false := by rfl) : ET X p Z W (.Compare a [.Lt] [b] pos) (m2 oLt ma mb) := et_cmp op_lt op2_lt ha hb hm
theorem t_le (hK : p.K = X.K) (ha : EE X p Z W a ma) (hb : EE X p Z W b mb) (hm : behindInMarks .LtE b = false := by rfl) : ET X p Z W (.Compare a [.LtE] [b] pos) (m2 oLe ma mb) := et_cmp op_le op2_le ha hb hm
theorem t_gt (hK : p.K = X.K) (ha : EE X p Z W a ma) (hb : EE X p Z W b mb) (hm : behindInMarks .Gt b = false := by rfl) : ET X p Z W (.Compare a [.Gt] [b] pos) (m2 oGt ma mb) := et_cmp op_gt op2_gt ha hb hm
theorem t_ge (hK : p.K = X.K) (ha : EE X p Z W a ma) (hb : EE X p Z W b mb) (hm : behindInMarks .GtE b = false := by rfl) : ET X p Z W (.Compare a [.GtE] [b] pos) (m2 oGe ma mb) := et_cmp op_ge op2_ge ha hb hm
theorem t_eq (hK : p.K = X.K) (hu : X.A.units + 64 < cLine) (ha : EE X p Z W a ma) (hb : EE X p Z W b mb) (hm : behindInMarks .Eq b = false := by rfl) : ET X p Z W (.Compare a [.Eq] [b] pos) (m2 oEq ma mb) := et_cmp (by rw [hK]; exact op_eqD hu) op2_eq ha hb hm
theorem t_ne (hK : p.K = X.K) (hu : X.A.units + 64 < cLine) (ha : EE X p Z W a ma) (hb : EE X p Z W b mb) (hm : behindInMarks .NotEq b = false := by rfl) : ET X p Z W (.Compare a [.NotEq] [b] pos) (m2 oNe ma mb) := et_cmp (by rw [hK]; exact op_neD hu) op2_ne ha hb hm
theorem t_is (hK : p.K = X.K) (ha : EE X p Z W a ma) (hb : EE X p Z W b mb) (hm : behindInMarks .Is b = false := by rfl) : ET X p Z W (.Compare a [.Is] [b] pos) (m2 (oIsN false) ma mb) := et_cmp op_isN op2_isN ha hb hm
theorem t_isn (hK : p.K = X.K) (ha : EE X p Z W a ma) (hb : EE X p Z W b mb) (hm : behindInMarks .IsNot b = false := by rfl) : ET X p Z W (.Compare a [.IsNot] [b] pos) (m2 (oIsN true) ma mb) := et_cmp op_notN op2_notN ha hb hm
theorem b_ix (hK : p.K = X.K) (ha : EE X p Z W a ma) (hb : EE X p Z W b mb) (hs : PlainIx b := by exact fun _ _ => rfl) : EE X p Z W (.Subscript a b pos) (m2 oIx ma mb) := ee_ix (by rw [hK]; exact ix_list.or ix_tup) op2_ix ha hb hs
theorem b_neg (ha : EE X p Z W a ma) : EE X p Z W (.UnaryOp .USub a pos) (m1 oNeg ma) := ee_un un_neg op1_neg ha
end
end
end Mr

namespace Mr
open PySem PySem.Spec PyProof.Rows L2
section
variable {X : Cx} {p : Pm} {Z : L2.St → Prop} {W : Wx} {pos : Pos}
/-! ### xs[i] op= e -/
theorem getL : PGet X (rIxL X.K) := by
  rintro pins s0 σ0 H0 x0 y0 v0 u0 Q0 I0 rx0 ry0 ⟨q0, ys, k, c, rfl, rfl, sq, at0, w0⟩
  cases rx0
  obtain ⟨t0, rfl⟩ := ry0
  obtain ⟨js, rj, pj, hj0⟩ := I0.list sq
  obtain ⟨n0, g1, g2, g3, g4, g5⟩ := atI_get at0
  obtain ⟨u1, eu1, ru1⟩ := rj.get g2
  have len0 := rj.length
  have big0 := line63
  have done0 : EP X pins σ0 Q0 u1 s0 := ⟨c, H0, I0, ru1, w0⟩
  rcases Int.lt_or_le k 0 with neg | pos0
  · have place : (k + (js.toArray.size : Int)).toNat = n0 := by
      rw [seqIndex_neg (by omega) g4] at g1; rw [List.size_toArray, ← len0]; exact Option.some.inj g1
    exact wpAny_getItem_list_neg pj.isList (by omega) (by rw [List.size_toArray] <;> omega) (by omega) (by rw [place]; simpa using eu1) done0
  · have place : k.toNat = n0 := by rw [seqIndex_of pos0 g5] at g1; exact Option.some.inj g1
    exact wpAny_getItem_list pj.isList pos0 (by omega) (by rw [place]; simpa using eu1) done0
noncomputable def oIxL (d e : D) (L : Sto) : Out := match e with
  | .int i => match d with
    | .ref k => match L.get k with
      | some xs => match atD xs i with
        | some v => .ok v L
        | none => .bad
      | none => .bad
    | _ => .bad
  | _ => .bad
theorem op2_ixL : Op2 p (rIxL p.K) oIxL := by
  intro W σ ρ L H d e x y Q r hd he po
  cases he with
  | int i =>
    cases hd with
    | @ref k a h =>
      obtain ⟨ds, xs, e1, e2, e3⟩ := r.at_ k a h
      have po1 : Po p W σ (fun _ _ _ v H' => Q v H') ρ H (match L.get k with
        | some xs => match atD xs i with
          | some v => .ok v L
          | none => .bad
        | none => .bad) := po
      rw [e1] at po1
      simp only at po1
      split at po1
      · rename_i v ev
        obtain ⟨u, f1, f2⟩ := atD_ok e3 ev
        exact ⟨a, xs, i, u, rfl, rfl, SqL.of e2, f1, po_ok po1 r f2⟩
      · exact po1.elim
    | _ => exact po.elim
  | _ => exact po.elim
/-! ### name op= e, of ints -/
noncomputable def oAddI (d e : D) (L : Sto) : Out := match d, e with
  | .int i, .int j => fI (Int.add i j) fun k => .ok (.int k) L
  | _, _ => .bad
theorem op2_addI : Op2 p (rI0 fun i j => .int (i + j)) oAddI := by
  intro W σ ρ L H d e x y Q r hd he po
  cases hd with
  | int i =>
    cases he with
    | int j =>
      have po1 : Po p W σ (fun _ _ _ v H' => Q v H') ρ H (fI (i + j) fun k => .ok (.int k) L) := po
      rw [fI_eq] at po1
      exact ⟨i, j, rfl, rfl, po_ok po1 r (.int _)⟩
    | _ => exact po.elim
  | _ => exact po.elim
noncomputable def oMulI (d e : D) (L : Sto) : Out := match d, e with
  | .int i, .int j => iff_ (Nat.blt (Nat.add (Nat.log2 i.natAbs) (Nat.log2 j.natAbs)) 1000000) (fI (Int.mul i j) fun k => .ok (.int k) L) .bad
  | _, _ => .bad
theorem op2_mulI : Op2 p (rI CMulW fun i j => .int (i * j)) oMulI := by
  intro W σ ρ L H d e x y Q r hd he po
  cases hd with
  | int i =>
    cases he with
    | int j =>
      obtain ⟨c1, po1⟩ := iff_t (show Po p W σ (fun _ _ _ v H' => Q v H') ρ H (iff_ (Nat.blt (Nat.add (Nat.log2 i.natAbs) (Nat.log2 j.natAbs)) 1000000) (fI (i * j) fun k => .ok (.int k) L) .bad) from po)
      rw [fI_eq] at po1
      exact ⟨i, j, rfl, rfl, blt_t c1, po_ok po1 r (.int _)⟩
    | _ => exact po.elim
  | _ => exact po.elim
theorem iop_mulW : OpR X (inplaceOp .Mult) (rI CMulW fun i j => .int (i * j)) := opI fun _ _ _ _ _ _ _ hc q => imul_int q hc.ok
section
variable {i : Nat} {x : Str} {e : Expr} {m : EM} {p' : Pos}
theorem s_augAdd (hN : X.N.Nodup) (he : EE X p ZT W e m) (hi : X.N[i]? = some x := by rfl) (hx : Loc X.env.scope x := by first | exact Or.inl rfl | exact Or.inr rfl) (hf : X.fn x = true ∨ X.env.scope.names.lookup x = some .local := by first | exact .inl rfl | exact .inr rfl) : ES X p ZT W (.AugAssign (.Name x p') .Add e pos) (sAug i oAddI m) := es_aug (ps_aug hN hi hx he.pe iop_add hf) op2_addI
theorem s_augSub (hN : X.N.Nodup) (he : EE X p ZT W e m) (hi : X.N[i]? = some x := by rfl) (hx : Loc X.env.scope x := by first | exact Or.inl rfl | exact Or.inr rfl) (hf : X.fn x = true ∨ X.env.scope.names.lookup x = some .local := by first | exact .inl rfl | exact .inr rfl) : ES X p ZT W (.AugAssign (.Name x p') .Sub e pos) (sAug i oSub m) := es_aug (ps_aug hN hi hx he.pe iop_sub hf) op2_sub
theorem s_augMul (hN : X.N.Nodup) (he : EE X p ZT W e m) (hi : X.N[i]? = some x := by rfl) (hx : Loc X.env.scope x := by first | exact Or.inl rfl | exact Or.inr rfl) (hf : X.fn x = true ∨ X.env.scope.names.lookup x = some .local := by first | exact .inl rfl | exact .inr rfl) : ES X p ZT W (.AugAssign (.Name x p') .Mult e pos) (sAug i oMulI m) := es_aug (ps_aug hN hi hx he.pe iop_mulW hf) op2_mulI
end
section
variable {o i e : Expr} {mo mi me : EM} {p' : Pos}
theorem s_augSAdd (hK : p.K = X.K) (ho : EE X p ZT W o mo) (hi : EE X p ZT W i mi) (he : EE X p ZT W e me)
    (ha : ∀ ov iv new, augStore i ov iv new = (do holding [new, ov, iv] (setItem ov iv new); release [new, ov, iv] []; pure .next) := by intros; rfl) : ES X p ZT W (.AugAssign (.Subscript o i p') .Add e pos) (sAugS mo mi me oIxL oAddI) := es_augS (ps_augS ho.pe hi.pe getL he.pe iop_add set_list ha) (by rw [← hK]; exact op2_ixL) op2_addI
theorem s_augSSub (hK : p.K = X.K) (ho : EE X p ZT W o mo) (hi : EE X p ZT W i mi) (he : EE X p ZT W e me)
    (ha : ∀ ov iv new, augStore i ov iv new = (do holding [new, ov, iv] (setItem ov iv new); release [new, ov, iv] []; pure .next) := by intros; rfl) : ES X p ZT W (.AugAssign (.Subscript o i p') .Sub e pos) (sAugS mo mi me oIxL oSub) := es_augS (ps_augS ho.pe hi.pe getL he.pe iop_sub set_list ha) (by rw [← hK]; exact op2_ixL) op2_sub
end
/-! ### name = e, a, b = c, d -/
theorem s_set {i : Nat} {x : Str} {e : Expr} {m : EM} {p' : Pos} (hN : X.N.Nodup) (he : EE X p Z W e m) (hi : X.N[i]? = some x := by rfl) (hx : Loc X.env.scope x := by first | exact Or.inl rfl | exact Or.inr rfl)
    (hs : swapsWithSole [.Name x p'] e pos.line X.env = pure false := by rfl) (hw : swappedStores [.Name x p'] e X.env = pure none := by rfl) (hf : X.fn x = true ∨ X.env.scope.names.lookup x = some .local := by first | exact .inl rfl | exact .inr rfl) : ES X p Z W (.Assign [.Name x p'] e pos) (sSet i m) := es_set (ps_asg he.pe (pg_name hN hi hx hf) hs hw rfl)
theorem s_par {i j : Nat} {x y : Str} {a b : Expr} {m : EM} {px py pt : Pos} {kt k2 pt2} (hc : X.calm = true) (hN : X.N.Nodup) (ha : EA X p ZT W [a, b] m) (hij : i ≠ j) (hi : X.N[i]? = some x := by rfl) (hj : X.N[j]? = some y := by rfl)
    (hx : X.env.scope.names.lookup x = some .local := by rfl) (hy : X.env.scope.names.lookup y = some .local := by rfl)
    (hw : swappedStores [.Tuple [.Name x px, .Name y py] kt pt] (.Tuple [a, b] k2 pt2) X.env = pure (some [x, y]) := by rfl)
    (hs : swapsWithSole [.Tuple [.Name x px, .Name y py] kt pt] (.Tuple [a, b] k2 pt2) pos.line X.env = pure false := by rfl) :
    ES X p ZT W (.Assign [.Tuple [.Name x px, .Name y py] kt pt] (.Tuple [a, b] k2 pt2) pos) (sPar i j m) := es_par (ps_par hc hN hi hj hij hx hy ha.pa hw hs)
noncomputable def sPar3 (i j l : Nat) (m : EM) : SM := fun S L => (m S L).rowS S fun ds L1 => match ds with
  | [d, e, f] => setS S i (some d) fun S1 => setS S1 j (some e) fun S2 => setS S2 l (some f) fun S3 => .nx S3 L1
  | _ => .bad
theorem s_par3 {i j l : Nat} {x y z : Str} {a b c : Expr} {m : EM} {px py pz pt : Pos} {kt k2 pt2} (hc : X.calm = true) (hN : X.N.Nodup) (ha : EA X p ZT W [a, b, c] m) (hij : i ≠ j) (hil : i ≠ l) (hjl : j ≠ l) (hi : X.N[i]? = some x := by rfl) (hj : X.N[j]? = some y := by rfl) (hl : X.N[l]? = some z := by rfl)
    (hx : X.env.scope.names.lookup x = some .local := by rfl) (hy : X.env.scope.names.lookup y = some .local := by rfl) (hz : X.env.scope.names.lookup z = some .local := by rfl)
    (hw : swappedStores [.Tuple [.Name x px, .Name y py, .Name z pz] kt pt] (.Tuple [a, b, c] k2 pt2) X.env = pure (some [x, y, z]) := by rfl)
    (hs : swapsWithSole [.Tuple [.Name x px, .Name y py, .Name z pz] kt pt] (.Tuple [a, b, c] k2 pt2) pos.line X.env = pure false := by rfl) :
    ES X p ZT W (.Assign [.Tuple [.Name x px, .Name y py, .Name z pz] kt pt] (.Tuple [a, b, c] k2 pt2) pos) (sPar3 i j l m) := ⟨PS.imp (ps_par3 hc hN hi hj hl hij hil hjl hx hy hz ha.pa hw hs) fun T σ H h => by
  obtain ⟨ρ, S, L, at0, po⟩ := h
  refine ⟨ρ, S, L, at0, (PoS.rowS at0 po).imp fun ρ1 L1 ds vs H1 e1 r1 d1 q => ?_⟩
  split at q
  · rename_i d e f
    cases d1 with
    | cons h1 t1 =>
      obtain ⟨v, w, rfl, h2, h3⟩ := dvs2 t1
      rw [setS_eq, setS_eq, setS_eq] at q
      exact ⟨_, v, w, rfl, q ρ1 H1 _ (Ext.refl _ _) r1 ((((at0.env.mono at0.rl e1).set h1).set h2).set h3)⟩
  · exact q.elim⟩
theorem g_name {i : Nat} {x : Str} (hN : X.N.Nodup) (hi : X.N[i]? = some x := by rfl) (hx : Loc X.env.scope x := by first | exact Or.inl rfl | exact Or.inr rfl) (hf : X.fn x = true ∨ X.env.scope.names.lookup x = some .local := by first | exact .inl rfl | exact .inr rfl) : PG X (.Name x pos) (gName i) := pg_name hN hi hx hf
/-! ### 10 ** 30 -/
noncomputable def oPowI (d e : D) (L : Sto) : Out := match d, e with
  | .int i, .int (.ofNat j) => iff_ (Nat.ble j 1000) (iff_ (Nat.blt (Int.natAbs i) 1000) (fI (Int.pow i j) fun k => .ok (.int k) L) .bad) .bad
  | _, _ => .bad
theorem op2_pow : Op2 p (rI CPow fun i j => .int (i ^ j.toNat)) oPowI := by
  intro W σ ρ L H d e x y Q r hd he po
  cases hd with
  | int i =>
    cases he with
    | int j =>
      cases j with
      | ofNat j =>
        obtain ⟨c1, po1⟩ := iff_t (show Po p W σ (fun _ _ _ v H' => Q v H') ρ H (iff_ (Nat.ble j 1000) (iff_ (Nat.blt (Int.natAbs i) 1000) (fI (i ^ j) fun k => .ok (.int k) L) .bad) .bad) from po)
        obtain ⟨c2, po2⟩ := iff_t po1
        rw [fI_eq] at po2
        have h1 := Nat.le_of_ble_eq_true c1
        have h2 := blt_t c2
        exact ⟨i, (j : Int), rfl, rfl, ⟨by omega, by omega, by omega⟩, po_ok po2 r (.int _)⟩
      | negSucc j => exact po.elim
    | _ => exact po.elim
  | _ => exact po.elim
theorem b_pow {a b : Expr} {ma mb : EM} (ha : EE X p Z W a ma) (hb : EE X p Z W b mb) : EE X p Z W (.BinOp a .Pow b pos) (m2 oPowI ma mb) := ee_bin op_pow op2_pow ha hb
/-! ### isinstance(x, (A, B)) -/
noncomputable def mIsi2 (a b : Nat) (mx : EM) : EM := fun S L => (mx S L).bd fun d L1 => match tyOf d with
  | some k => iff_ (Nat.ble a 5) (iff_ (Nat.ble b 5) (@Bool.casesOn (fun _ => Out) (isiB k a) (@Bool.casesOn (fun _ => Out) (isiB k b) (.ok (.bl false) L1) (.ok (.bl true) L1)) (.ok (.bl true) L1)) .bad) .bad
  | none => .bad
theorem ee_isi2 {e : Expr} {xa xb : Str} {a b : Nat} {mx : EM} {p1 p2 p3 p4 : Pos} {k : Nat} (hK : p.K = X.K) (he : EE X p Z W e mx) (hm : X.mg "isinstance" = none) (hma : X.mg xa = none) (hmb : X.mg xb = none) (hva : bootBuiltins xa = some (.type (tyN a))) (hvb : bootBuiltins xb = some (.type (tyN b)))
    (hg : Gl X "isinstance" := by rfl) (hga : Gl X xa := by rfl) (hgb : Gl X xb := by rfl) (hna : xa ≠ "__name__" := by decide) (hda : (xa == ("__debug__" : Str)) = false := by decide) (hnb : xb ≠ "__name__" := by decide) (hdb : (xb == ("__debug__" : Str)) = false := by decide)
    (s1 : starEach [e, .Tuple [.Name xa p2, .Name xb p3] k p4] X.env = (false, eval e X.env) :: starEach [.Tuple [.Name xa p2, .Name xb p3] k p4] X.env := by rfl)
    (s2 : starEach [.Tuple [.Name xa p2, .Name xb p3] k p4] X.env = (false, eval (.Tuple [.Name xa p2, .Name xb p3] k p4) X.env) :: starEach [] X.env := by rfl)
    (s3 : starEach [.Name xa p2, .Name xb p3] X.env = (false, eval (.Name xa p2) X.env) :: starEach [.Name xb p3] X.env := by rfl) (s4 : starEach [.Name xb p3] X.env = (false, eval (.Name xb p3) X.env) :: starEach [] X.env := by rfl)
    (hpl : (backTo pos (starEach [.Tuple [.Name xa p2, .Name xb p3] k p4] X.env)).any (·.1) = false := by rfl) :
    EE X p Z W (.Call (.Name "isinstance" p1) [e, .Tuple [.Name xa p2, .Name xb p3] k p4] [] pos) (mIsi2 a b mx) :=
  ⟨PE.imp (pe_callB call_isiT hg hm (by rfl) (pa_cons he.pe (pa_cons (pe_tup (pa_cons (pe_bltn (v := .ty (tyN a)) hga hma hva rfl hna hda) (pa_cons (pe_bltn (v := .ty (tyN b)) hgb hmb hvb rfl hnb hdb) pa_nil s4) s3)) pa_nil s2) s1) (by decide) (by decide) s1 hpl) fun σ H Q h => by
    obtain ⟨ρ, S, L, at0, po⟩ := h
    refine ⟨ρ, S, L, at0, (Po.bd po).imp fun ρ1 L1 d v H1 e1 r1 d1 q => ?_⟩
    split at q
    · rename_i t et
      obtain ⟨c1, q1⟩ := iff_t q
      obtain ⟨c2, q2⟩ := iff_t q1
      refine ⟨by show 2 ≤ sizeLine; rw [sizeLine_eq]; decide, fun tp htp => ?_⟩
      have ty := tyOf_ok (r1.fresh (.tup [.ty (tyN a), .ty (tyN b)]) htp) (d1.mono r1 (Ext.fresh _ htp)) et
      rw [hK] at ty
      have ka := isiB_ok t a (tyOf_le et) (Nat.le_of_ble_eq_true c1)
      have kb := isiB_ok t b (tyOf_le et) (Nat.le_of_ble_eq_true c2)
      refine ⟨v, tp, [.ty (tyN a), .ty (tyN b)], .type (tyN t), [.type (tyN a), .type (tyN b)], isiB t a || isiB t b, rfl, upd_same, .cons (.ty _) (.cons (.ty _) .nil), ty, ?_, ?_⟩
      · have e1 := kit_ty (K := X.K) ka
        have e2 := kit_ty (K := X.K) kb
        unfold PySem.W.kitAny
        rw [e1]
        cases isiB t a with
        | true => rfl
        | false =>
          show PySem.W.kitAny X.K (.type (tyN t)) [.type (tyN b)] = _
          unfold PySem.W.kitAny
          rw [e2]
          cases isiB t b <;> rfl
      · have fin : Po p W σ (fun _ _ _ v H' => Q v H') ρ1 H1 (.ok (.bl (isiB t a || isiB t b)) L1) := by
          revert q2
          cases isiB t a with
          | true => exact fun z => z
          | false => cases isiB t b <;> exact fun z => z
        exact fin ρ1 _ (.bl _) (Ext.fresh _ htp) (r1.fresh _ htp) (.bl _)
    · exact q.elim⟩
/-! ### constants of the module -/
theorem ee_const {x : Str} {u : Value} {v : V} {d : D} (hd : ∀ H ρ, Dv p H ρ d v) (hm : X.mg x = some u) (r : RelV v u) (hg : Gl X x := by rfl) (hdb : (x == ("__debug__" : Str)) = false := by decide) : EE X p Z W (.Name x pos) (mC d) := ee_glob hd hm r hg hdb
theorem Kn.fnd {P : Program} {w : World} {K : PySem.W.Frag} {mg : Str → Option Value} {base : Heap} {k j : Nat} {x : Str} {n i : Nat} {F : Fn'} (h : Kn P w K mg base p k x n F) (e : mg x = some (.ref (p.A i))) (hk : k ≤ j) : Fnd P w K mg base p j i n F := by
  obtain ⟨f, fd, ps, a, b, c, d⟩ := h.ex
  rw [e] at b
  cases b
  exact ⟨fd, ps, a.mono hk, c, d⟩
theorem ee_fnv {x : Str} {i : Nat} (e : X.mg x = some (.ref (p.A i))) (hg : Gl X x := by rfl) (hdb : (x == ("__debug__" : Str)) = false := by decide) : EE X p Z W (.Name x pos) (mC (.fn i)) := ee_glob (v := .ref (p.A i)) (fun _ _ => .fn i) e rfl hg hdb
/-! ### how calls by names bind -/
theorem kbp {K : PySem.W.Frag} {x qual : Str} {params : Arguments} {body : List Stmt} {scope : Scope} {kws : List (Str × V)} {f : Addr} {fd : FuncData} {ps ks : List Str} {perm : List Nat} (F : FunD K x qual params body scope [] kws f fd)
    (h : ∀ (kV doc pm : Value) (an : Option Addr) (cdv ct : Value) (ws : List Value), (pick perm ws).length = ps.length → bindArgs (PySem.W.fnOf x qual params body scope .none kV doc pm an cdv ct) ⟨[], ks.zip ws⟩ = pure (ps.zip (pick perm ws))) : KBp K fd ps ks perm := by
  obtain ⟨oc, od, dV, kV, doc, pm, an, cdv, ct, osl, rfl, lk, hcd, hD, hK⟩ := F.ex
  rcases hD with ⟨_, rfl⟩ | ⟨e, _⟩
  · exact ⟨fun s ws _ hl => .of_eq (h kV doc pm an cdv ct ws hl)⟩
  · exact absurd rfl e
end
end Mr

namespace Mr
open PySem PySem.Spec PyProof.Rows L2
section
variable {X : Cx} {p : Pm} {Z : L2.St → Prop} {W : Wx} {pos : Pos} {tg : Expr}
theorem PI.either {e : Expr} {t u : TI} (h : PI X tg e t) (h' : PI X tg e u) : PI X tg e (fun σ H R => t σ H R ∨ u σ H R) := ⟨fun pins s σ H R I hq => hq.elim (h.run pins s σ H R I) (h'.run pins s σ H R I)⟩
noncomputable def nfS (d : D) (L : Sto) (i : Nat) : Option (Option D) := match d with
  | .ref _ => nfL d L i
  | .tup _ => nfT d L i
  | _ => none
noncomputable def onlyS (m : EM) : EM := fun S L => (m S L).bd fun d L1 => match d with
  | .ref i => .ok (.ref i) L1
  | .tup xs => .ok (.tup xs) L1
  | _ => .bad
theorem ei_seq {e : Expr} {m : EM} (hK : p.K = X.K) (h : EE X p Z W e m) : EI X p Z W tg e (onlyS m) nfS := ⟨PI.imp (PI.either (ei_list hK h).pi (ei_tup hK h).pi) fun σ H R q => by
  obtain ⟨ρ, S, L, a, po⟩ := q
  unfold onlyS at po
  cases hm : m S L with
  | ok d L1 =>
    rw [hm] at po
    cases d with
    | ref i => exact .inl ⟨ρ, S, L, a, by unfold onlyL; rw [hm]; exact po⟩
    | tup xs => exact .inr ⟨ρ, S, L, a, by unfold onlyT; rw [hm]; exact po⟩
    | _ => exact po.elim
  | err c L1 => rw [hm] at po; exact .inl ⟨ρ, S, L, a, by unfold onlyL; rw [hm]; exact po⟩
  | bad => rw [hm] at po; exact po.elim⟩
section
variable {x : Str} {pn : Pos} {a b : Expr} {es : List Expr} {ms : EM}
theorem f_len (hK : p.K = X.K) (hm : X.mg "len" = none) (ha : EA X p Z W [a] ms) (hg : Gl X "len" := by rfl) (he : starEach [a] X.env = (false, eval a X.env) :: starEach [] X.env := by rfl) : EE X p Z W (.Call (.Name "len" pn) [a] [] pos) (mN oLen ms) := ee_blt (by rw [hK]; exact call_len) opn_len hm (by rfl) ha hg (by decide) (by decide) he rfl
theorem f_isi (hK : p.K = X.K) (hm : X.mg "isinstance" = none) (ha : EA X p Z W [a, b] ms) (hg : Gl X "isinstance" := by rfl) (he : starEach [a, b] X.env = (false, eval a X.env) :: starEach [b] X.env := by rfl) (hpl : (backTo pos (starEach [b] X.env)).any (·.1) = false := by rfl) : EE X p Z W (.Call (.Name "isinstance" pn) [a, b] [] pos) (mN oIsi ms) := ee_blt (by rw [hK]; exact call_isi) opn_isi hm (by rfl) ha hg (by decide) (by decide) he hpl
theorem f_abs (hm : X.mg "abs" = none) (ha : EA X p Z W [a] ms) (hg : Gl X "abs" := by rfl) (he : starEach [a] X.env = (false, eval a X.env) :: starEach [] X.env := by rfl) : EE X p Z W (.Call (.Name "abs" pn) [a] [] pos) (mN oAbs ms) := ee_blt call_abs opn_abs hm (by rfl) ha hg (by decide) (by decide) he rfl
theorem f_max2 (hc : X.calm = true) (hm : X.mg "max" = none) (ha : EA X p Z W [a, b] ms) (hg : Gl X "max" := by rfl) (he : starEach [a, b] X.env = (false, eval a X.env) :: starEach [b] X.env := by rfl) (hpl : (backTo pos (starEach [b] X.env)).any (·.1) = false := by rfl) : EE X p Z W (.Call (.Name "max" pn) [a, b] [] pos) (mN oMax2 ms) := ee_blt (call_max2 hc) opn_max2 hm (by rfl) ha hg (by decide) (by decide) he hpl
theorem f_min2 (hc : X.calm = true) (hm : X.mg "min" = none) (ha : EA X p Z W [a, b] ms) (hg : Gl X "min" := by rfl) (he : starEach [a, b] X.env = (false, eval a X.env) :: starEach [b] X.env := by rfl) (hpl : (backTo pos (starEach [b] X.env)).any (·.1) = false := by rfl) : EE X p Z W (.Call (.Name "min" pn) [a, b] [] pos) (mN oMin2 ms) := ee_blt (call_min2 hc) opn_min2 hm (by rfl) ha hg (by decide) (by decide) he hpl
theorem f_all (hK : p.K = X.K) (hc : X.calm = true) (hm : X.mg "all" = none) (ha : EA X p Z W [a] ms) (hg : Gl X "all" := by rfl) (he : starEach [a] X.env = (false, eval a X.env) :: starEach [] X.env := by rfl) : EE X p Z W (.Call (.Name "all" pn) [a] [] pos) (mN oAll ms) := ee_blt (by rw [hK]; exact cr_all hc) opn_all hm (by rfl) ha hg (by decide) (by decide) he rfl
theorem f_any (hK : p.K = X.K) (hc : X.calm = true) (hm : X.mg "any" = none) (ha : EA X p Z W [a] ms) (hg : Gl X "any" := by rfl) (he : starEach [a] X.env = (false, eval a X.env) :: starEach [] X.env := by rfl) : EE X p Z W (.Call (.Name "any" pn) [a] [] pos) (mN oAny ms) := ee_blt (by rw [hK]; exact cr_any hc) opn_any hm (by rfl) ha hg (by decide) (by decide) he rfl
theorem f_sum (hK : p.K = X.K) (hc : X.calm = true) (hm : X.mg "sum" = none) (ha : EA X p Z W [a] ms) (hg : Gl X "sum" := by rfl) (he : starEach [a] X.env = (false, eval a X.env) :: starEach [] X.env := by rfl) : EE X p Z W (.Call (.Name "sum" pn) [a] [] pos) (mN oSum ms) := ee_blt (by rw [hK]; exact cr_sum hc) opn_sum hm (by rfl) ha hg (by decide) (by decide) he rfl
theorem f_tuple (hK : p.K = X.K) (hm : X.mg "tuple" = none) (ha : EA X p Z W [a] ms) (hg : Gl X "tuple" := by rfl) (he : starEach [a] X.env = (false, eval a X.env) :: starEach [] X.env := by rfl) : EE X p Z W (.Call (.Name "tuple" pn) [a] [] pos) (mN oTuple ms) := ee_bty (by rw [hK]; exact call_tuple_of) opn_tuple hm (by rfl) ha hg (by decide) (by decide) he rfl
theorem f_list (hK : p.K = X.K) (hm : X.mg "list" = none) (ha : EA X p Z W [a] ms) (hg : Gl X "list" := by rfl) (he : starEach [a] X.env = (false, eval a X.env) :: starEach [] X.env := by rfl) : EE X p Z W (.Call (.Name "list" pn) [a] [] pos) (mN oList ms) := ee_bty (by rw [hK]; exact call_list_of) opn_list hm (by rfl) ha hg (by decide) (by decide) he rfl
theorem f_gcd (hm : X.mg "gcd" = some (.builtin "math.gcd")) (ha : EA X p Z W [a, b] ms) (hg : Gl X "gcd" := by rfl) (he : starEach [a, b] X.env = (false, eval a X.env) :: starEach [b] X.env := by rfl) (hpl : (backTo pos (starEach [b] X.env)).any (·.1) = false := by rfl) : EE X p Z W (.Call (.Name "gcd" pn) [a, b] [] pos) (mN oGcd ms) := ee_bfun cr_gcd opn_gcd hm ha hg (by decide) he hpl
theorem f_lcm (hm : X.mg "lcm" = some (.builtin "math.lcm")) (ha : EA X p Z W [a, b] ms) (hg : Gl X "lcm" := by rfl) (he : starEach [a, b] X.env = (false, eval a X.env) :: starEach [b] X.env := by rfl) (hpl : (backTo pos (starEach [b] X.env)).any (·.1) = false := by rfl) : EE X p Z W (.Call (.Name "lcm" pn) [a, b] [] pos) (mN oLcm ms) := ee_bfun cr_lcm opn_lcm hm ha hg (by decide) he hpl
end
end
end Mr

namespace Mr
open PySem PySem.Spec PyProof.Rows L2
/-! ### what the head tells, for the mirror -/
def intsV : List Value → List Int → Bool
  | [], [] => true
  | .int i _ :: us, z :: zs => decide (i = z) && intsV us zs
  | _, _ => false
theorem intsV_ok : ∀ {us : List Value} {zs : List Int}, intsV us zs = true → Vals (zs.map V.int) us
  | [], [], _ => .nil
  | .int i t :: us, z :: zs, h => by
    obtain ⟨h1, h2⟩ := Bool.and_eq_true_iff.mp (show (decide (i = z) && intsV us zs) = true from h)
    have e := of_decide_eq_true h1
    subst e
    exact .cons ⟨t, rfl⟩ (intsV_ok h2)
def tupC (K : PySem.W.Frag) (x : Str) (zs : List Int) : Bool := match K.lookup (He.ga K x) with
  | some o => decide (o.cls = .type "tuple") && (match o.data with
    | .seq its _ => Nat.ble its.size 1000 && intsV its.toList zs
    | _ => false)
  | none => false
theorem dvs_ints {p : Pm} {H : Hp} {ρ : List Addr} : ∀ zs : List Int, Dvs p H ρ (zs.map D.int) (zs.map V.int)
  | [] => .nil
  | z :: zs => .cons (.int z) (dvs_ints zs)
theorem tupC_ok {p : Pm} {K : PySem.W.Frag} {x : Str} {zs : List Int} (hK : p.K = K) (h : tupC K x zs = true) : ∀ H ρ, Dv p H ρ (.tup (zs.map D.int)) (.ref (He.ga K x)) := by
  unfold tupC at h
  split at h
  · rename_i o ho
    obtain ⟨h1, h2⟩ := Bool.and_eq_true_iff.mp h
    split at h2
    · rename_i its n hd
      obtain ⟨h3, h4⟩ := Bool.and_eq_true_iff.mp h2
      intro H ρ
      have hs : its.size ≤ sizeLine := by
        have := Nat.le_of_ble_eq_true h3
        rw [sizeLine_eq]; omega
      exact .tup (xs := zs.map V.int) (.inr ⟨o, its, n, by rw [hK]; exact ho, of_decide_eq_true h1, hd, hs, intsV_ok h4⟩) (dvs_ints zs)
    · cases h2
  · cases h
theorem and1 {a b : Bool} (h : (a && b) = true) : a = true := (Bool.and_eq_true_iff.mp h).1
theorem and2 {a b : Bool} (h : (a && b) = true) : b = true := (Bool.and_eq_true_iff.mp h).2
def excB (K : PySem.W.Frag) (x : Str) : Bool :=
  He.eqO (PySem.W.findIn K (.ref (He.ga K x)) "__getattribute__") (some (some (.builtin "BaseException.__getattribute__"))) && (He.eqO (PySem.W.findIn K (.ref (He.ga K x)) "__getattr__") (some none) &&
  (decide (PySem.W.subIn K (.ref (He.ga K x)) (.type "BaseException") = some true) && (PySem.W.hasDictIn K (He.ga K x) && (He.eqO (PySem.W.findIn K (.ref (He.ga K x)) "__class__") (some (some (.builtin "object.__class__"))) &&
  (He.eqO (PySem.W.specialIn K (.builtin "object.__class__") "__get__") (some (some (.builtin "getset_descriptor.__get__"))) && (decide (PySem.W.takesIn K (.builtin "object.__class__") = some true) && (decide (PySem.W.mroIn K (He.ga K x) (.type "object") = some true) &&
  decide (PySem.W.kitOne K (.ref (He.ga K x)) (.type "ValueError") = some true))))))))
theorem excB_ok {K : PySem.W.Frag} {x : Str} (h : excB K x = true) : ExcC K (He.ga K x) ∧ PySem.W.kitOne K (.ref (He.ga K x)) (.type "ValueError") = some true := by
  unfold excB at h
  have h1 := and2 h
  have h2 := and2 h1
  have h3 := and2 h2
  have h4 := and2 h3
  have h5 := and2 h4
  have h6 := and2 h5
  have h7 := and2 h6
  exact ⟨⟨He.eqO_ok (and1 h), He.eqO_ok (and1 h1), of_decide_eq_true (and1 h2), and1 h3, He.eqO_ok (and1 h4), He.eqO_ok (and1 h5), of_decide_eq_true (and1 h6), of_decide_eq_true (and1 h7)⟩, of_decide_eq_true (and2 h7)⟩
theorem exk_of {K : PySem.W.Frag} {mg : Str → Option Value} {p : Pm} {c : Nat} {x : Str} (hc : p.C c = He.ga K x) (g : mg x = some (.ref (He.ga K x))) (e : (He.Fa.exc x).ok K = true) : ExK K mg p c x := by
  obtain ⟨q, k, s, t⟩ := He.exc_ok e
  exact ⟨by rw [hc]; exact g, by rw [hc]; exact k, by rw [hc]; exact q, by rw [hc]; exact s, by rw [hc]; exact t⟩
theorem cx_none {P : Program} {w : World} (H : Hp) (s : Shared) (e : Value) (s' : Shared) (h : L2.CX P w [] H s (fun _ _ _ => False) e s') : False := by
  obtain ⟨_, _, _, _, _, _, _, _, _, _, _, _, z⟩ := h
  exact z
theorem fn_cx {P : Program} {w : World} {K : PySem.W.Frag} {mg : Str → Option Value} {base : Heap} {k : Nat} {f : Addr} {fd : FuncData} {ps : List Str} {sp : Sp} (F : FnOk P w K mg base (L2.CX P w) k f fd ps sp) : FnOk P w K mg base (fun o H s E u t => ∃ (P : Program) (w : World), L2.CX P w o H s E u t) k f fd ps sp :=
  ⟨F.len, fun A outer s H args us vs Q E hr he hb hv hs => codeAny_mono (F.run A outer s H args us vs Q E hr he hb hv hs) fun r s' h => by
    cases r with
    | error e => exact ⟨P, w, h⟩
    | ok fl => cases fl <;> exact h⟩
/-! ### the law's answer -/
noncomputable def isT (o : Out) : Bool := match o with
  | .ok (.bl true) _ => true
  | _ => false
def L0 : Sto := ⟨0, .nil⟩
theorem rl_L0 {p : Pm} {H : Hp} : Rl p [] L0 H := ⟨List.nodup_nil, rfl, fun i a h => by simp at h⟩
theorem law_any {p : Pm} {F : Fn'} (h : isT (F [.any] L0) = true) {H : Hp} {v : V} : spM p 1 F [v] H (fun v _ => v = .bl true) fun _ _ _ => False := by
  refine ⟨rfl, [], [.any], L0, rl_L0, .cons (.any v) .nil, ?_⟩
  unfold isT at h
  split at h
  · rename_i L e
    rw [e]
    intro ρ' H' v' _ _ d
    cases d; rfl
  · cases h
end Mr

namespace Mr
open PySem PySem.Spec PyProof.Rows L2
section
variable {X : Cx} {p : Pm} {Z : L2.St → Prop} {W : Wx} {pos : Pos} {tg : Expr}
/-! ### bits -/
noncomputable def oShl (d e : D) (L : Sto) : Out := match d, e with
  | .int i, .int (.ofNat j) => iff_ (Nat.ble j 100000) (iff_ (Nat.blt (Nat.log2 i.natAbs) 1000000) (fI (Int.mul i (.ofNat (Nat.pow 2 j))) fun k => .ok (.int k) L) .bad) .bad
  | _, _ => .bad
theorem op2_shl : Op2 p (rI CShl fun i j => .int (i * 2 ^ j.toNat)) oShl := by
  intro W σ ρ L H d e x y Q r hd he po
  cases hd with
  | int i =>
    cases he with
    | int j =>
      cases j with
      | ofNat j =>
        obtain ⟨c1, po1⟩ := iff_t (show Po p W σ (fun _ _ _ v H' => Q v H') ρ H (iff_ (Nat.ble j 100000) (iff_ (Nat.blt (Nat.log2 i.natAbs) 1000000) (fI (Int.mul i (.ofNat (Nat.pow 2 j))) fun k => .ok (.int k) L) .bad) .bad) from po)
        obtain ⟨c2, po2⟩ := iff_t po1
        rw [fI_eq] at po2
        have h1 := Nat.le_of_ble_eq_true c1
        have h2 := blt_t c2
        have hb : Builtin.Int.intBits i ≤ i.natAbs.log2 + 1 := by unfold Builtin.Int.intBits; split <;> omega
        have e : i * 2 ^ ((j : Int)).toNat = Int.mul i (.ofNat (Nat.pow 2 j)) := by
          rw [Int.toNat_natCast, two_pow_cast]; rfl
        refine ⟨i, (j : Int), rfl, rfl, ⟨by omega, ?_⟩, ?_⟩
        · have : (2 : Int) ^ 27 = 134217728 := by decide
          omega
        · show Q (.int (i * 2 ^ ((j : Int)).toNat)) H
          rw [e]; exact po_ok po2 r (.int _)
      | negSucc j => exact po.elim
    | _ => exact po.elim
  | _ => exact po.elim
theorem b_shl {a b : Expr} {ma mb : EM} (ha : EE X p Z W a ma) (hb : EE X p Z W b mb) : EE X p Z W (.BinOp a .LShift b pos) (m2 oShl ma mb) := ee_bin op_shlW op2_shl ha hb
noncomputable def oShr (d e : D) (L : Sto) : Out := match d, e with
  | .int i, .int (.ofNat j) => iff_ (Nat.ble j 100000) (fI (Int.ediv i (.ofNat (Nat.pow 2 j))) fun k => .ok (.int k) L) .bad
  | _, _ => .bad
theorem op2_shr : Op2 p (rI (fun _ j => 0 ≤ j) fun i j => .int (i / 2 ^ j.toNat)) oShr := by
  intro W σ ρ L H d e x y Q r hd he po
  cases hd with
  | int i =>
    cases he with
    | int j =>
      cases j with
      | ofNat j =>
        obtain ⟨c1, po1⟩ := iff_t (show Po p W σ (fun _ _ _ v H' => Q v H') ρ H (iff_ (Nat.ble j 100000) (fI (i / (Int.ofNat (Nat.pow 2 j))) fun k => .ok (.int k) L) .bad) from po)
        rw [fI_eq] at po1
        have e : i / 2 ^ ((j : Int)).toNat = i / (Int.ofNat (Nat.pow 2 j)) := by
          rw [Int.toNat_natCast, two_pow_cast]; rfl
        refine ⟨i, (j : Int), rfl, rfl, by omega, ?_⟩
        show Q (.int (i / 2 ^ ((j : Int)).toNat)) H
        rw [e]; exact po_ok po1 r (.int _)
      | negSucc j => exact po.elim
    | _ => exact po.elim
  | _ => exact po.elim
theorem b_shr {a b : Expr} {ma mb : EM} (ha : EE X p Z W a ma) (hb : EE X p Z W b mb) : EE X p Z W (.BinOp a .RShift b pos) (m2 oShr ma mb) := ee_bin op_shr op2_shr ha hb
noncomputable def oAnd (d e : D) (L : Sto) : Out := match d, e with
  | .int i, .int (.ofNat j) => @Bool.casesOn (fun _ => Out) (Nat.beq j 1) (iff_ (Nat.beq j 3) (fI (Int.emod i 4) fun k => .ok (.int k) L) .bad) (fI (Int.emod i 2) fun k => .ok (.int k) L)
  | _, _ => .bad
theorem op2_and : Op2 p (fun x y H Q => ∃ (i : Int) (k : Nat), x = .int i ∧ y = .int (2 ^ k - 1) ∧ Q (.int (i % 2 ^ k)) H) oAnd := by
  intro W σ ρ L H d e x y Q r hd he po
  cases hd with
  | int i =>
    cases he with
    | int j =>
      cases j with
      | ofNat j =>
        have po0 : Po p W σ (fun _ _ _ v H' => Q v H') ρ H (@Bool.casesOn (fun _ => Out) (Nat.beq j 1) (iff_ (Nat.beq j 3) (fI (i % 4) fun k => .ok (.int k) L) .bad) (fI (i % 2) fun k => .ok (.int k) L)) := po
        cases h1 : Nat.beq j 1 with
        | true =>
          rw [h1] at po0
          have e := Nat.eq_of_beq_eq_true h1
          subst e
          simp only [fI_eq] at po0
          exact ⟨i, 1, rfl, rfl, po_ok po0 r (.int _)⟩
        | false =>
          rw [h1] at po0
          obtain ⟨c, po1⟩ := iff_t po0
          have e := Nat.eq_of_beq_eq_true c
          subst e
          rw [fI_eq] at po1
          exact ⟨i, 2, rfl, rfl, po_ok po1 r (.int _)⟩
      | negSucc j => exact po.elim
    | _ => exact po.elim
  | _ => exact po.elim
theorem b_and {a b : Expr} {ma mb : EM} (ha : EE X p Z W a ma) (hb : EE X p Z W b mb) : EE X p Z W (.BinOp a .BitAnd b pos) (m2 oAnd ma mb) := ee_bin op_andM op2_and ha hb
noncomputable def oBits (d : D) (L : Sto) : Out := match d with
  | .int i => @Bool.casesOn (fun _ => Out) (Nat.beq i.natAbs 0) (fN (Nat.succ (Nat.log2 i.natAbs)) fun k => .ok (.int (.ofNat k)) L) (.ok (.int 0) L)
  | _ => .bad
theorem ee_bits {o : Expr} {mo : EM} {apos : Pos} (ho : EE X p Z W o mo) (hbase : attributeBase o "bit_length" X.env (eval o X.env) = eval o X.env := by rfl) (hline : (apos.endLine == pos.line) = true := by rfl) : EE X p Z W (.Call (.Attribute o "bit_length" apos) [] [] pos) (m1 oBits mo) :=
  ⟨PE.imp (pe_bits ho.pe hbase hline) fun σ H Q h => by
    obtain ⟨ρ, S, L, a, po⟩ := h
    refine ⟨ρ, S, L, a, (Po.bd po).imp fun ρ1 L1 d v H1 e1 r1 d1 q => ?_⟩
    cases d1 with
    | int i =>
      refine ⟨i, rfl, ?_⟩
      have q0 : Po p W σ (fun _ _ _ v H' => Q v H') ρ1 H1 (@Bool.casesOn (fun _ => Out) (Nat.beq i.natAbs 0) (fN (Nat.succ (Nat.log2 i.natAbs)) fun k => .ok (.int (.ofNat k)) L1) (.ok (.int 0) L1)) := q
      cases hb : Nat.beq i.natAbs 0 with
      | true =>
        rw [hb] at q0
        have e := Nat.eq_of_beq_eq_true hb
        have : Builtin.Int.intBits i = 0 := by
          have z : i = 0 := by omega
          rw [z]; rfl
        rw [this]; exact po_ok q0 r1 (.int _)
      | false =>
        rw [hb] at q0
        have e := Nat.ne_of_beq_eq_false hb
        have : Builtin.Int.intBits i = Nat.succ (Nat.log2 i.natAbs) := by
          unfold Builtin.Int.intBits
          rw [if_neg (by simp; omega)]
        simp only [fN_eq] at q0
        rw [this]; exact po_ok q0 r1 (.int _)
    | _ => exact q.elim⟩
/-! ### max of a list -/
noncomputable def maxZ (a : Int) (zs : List Int) : Int := @List.rec Int (fun _ => Int → Int) (fun a => a) (fun z _ ih a => @Bool.casesOn (fun _ => Int) (PySem.W.Z.ltB a z) (ih a) (ih z)) zs a
theorem maxZ_ok (zs : List Int) : ∀ a : Int, a ≤ maxZ a zs ∧ (∀ z ∈ zs, z ≤ maxZ a zs) ∧ (maxZ a zs = a ∨ maxZ a zs ∈ zs) := by
  induction zs with
  | nil => exact fun a => ⟨Int.le_refl _, (fun z h => nomatch h), Or.inl rfl⟩
  | cons z zs ih =>
    intro a
    have e : maxZ a (z :: zs) = @Bool.casesOn (fun _ => Int) (PySem.W.Z.ltB a z) (maxZ a zs) (maxZ z zs) := rfl
    cases c : PySem.W.Z.ltB a z with
    | true =>
      rw [c] at e
      have h := (PySem.W.Z.ltB_iff _ _).mp c
      obtain ⟨h1, h2, h3⟩ := ih z
      have e' : maxZ a (z :: zs) = maxZ z zs := e
      rw [e']
      refine ⟨by omega, fun y hy => ?_, ?_⟩
      · rcases List.mem_cons.mp hy with q | q
        · rw [q]; exact h1
        · exact h2 y q
      · rcases h3 with q | q
        · right; rw [q]; exact List.mem_cons_self
        · right; exact List.mem_cons_of_mem _ q
    | false =>
      rw [c] at e
      have h : ¬ a < z := fun w => by rw [(PySem.W.Z.ltB_iff _ _).mpr w] at c; cases c
      obtain ⟨h1, h2, h3⟩ := ih a
      have e' : maxZ a (z :: zs) = maxZ a zs := e
      rw [e']
      refine ⟨h1, fun y hy => ?_, ?_⟩
      · rcases List.mem_cons.mp hy with q | q
        · rw [q]; omega
        · exact h2 y q
      · rcases h3 with q | q
        · left; exact q
        · right; exact List.mem_cons_of_mem _ q
noncomputable def oMaxL (ds : List D) (L : Sto) : Out := match ds with
  | [.ref i] => match L.get i with
    | some xs => match intsD xs with
      | some (z :: zs) => fI (maxZ z zs) fun k => .ok (.int k) L
      | _ => .bad
    | none => .bad
  | _ => .bad
theorem opn_maxL : OpN p (rMax p.K) oMaxL := by
  intro W σ ρ L H ds vs Q r hd po
  unfold oMaxL at po
  split at po
  · rename_i i
    obtain ⟨v, rfl, h⟩ := dvs1 hd
    cases h with
    | @ref i a h =>
      obtain ⟨es, xs, e1, e2, e3⟩ := r.at_ i a h
      rw [e1] at po
      simp only at po
      split at po
      · rename_i z zs eb
        rw [fI_eq] at po
        have ex := intsD_ok e3 eb
        obtain ⟨h1, h2, h3⟩ := maxZ_ok zs z
        refine ⟨a, z :: zs, rfl, SqL.of (by rw [← ex]; exact e2), by simp, fun m hm hmax => ?_⟩
        have e : m = maxZ z zs := by
          have g1 : maxZ z zs ≤ m := hmax _ (by rcases h3 with q | q; rw [q]; exact List.mem_cons_self; exact List.mem_cons_of_mem _ q)
          have g2 : m ≤ maxZ z zs := by
            rcases List.mem_cons.mp hm with q | q
            · rw [q]; exact h1
            · exact h2 m q
          omega
        rw [e]; exact po_ok po r (.int _)
      · exact po.elim
  · exact po.elim
section
variable {pn : Pos} {a b : Expr} {ms : EM}
theorem f_maxL (hK : p.K = X.K) (hc : X.calm = true) (hm : X.mg "max" = none) (ha : EA X p Z W [a] ms) (hg : Gl X "max" := by rfl) (he : starEach [a] X.env = (false, eval a X.env) :: starEach [] X.env := by rfl) : EE X p Z W (.Call (.Name "max" pn) [a] [] pos) (mN oMaxL ms) := ee_blt (by rw [hK]; exact cr_max hc) opn_maxL hm (by rfl) ha hg (by decide) (by decide) he rfl
noncomputable def oInt1 (ds : List D) (L : Sto) : Out := match ds with
  | [.int i] => .ok (.int i) L
  | [.bl true] => .ok (.int 1) L
  | [.bl false] => .ok (.int 0) L
  | _ => .bad
theorem opn_int1 : OpN p (fun xs H Q => (∃ i, xs = [.int i] ∧ Q (.int i) H) ∨ ∃ k, xs = [.bl k] ∧ Q (.int (if k then 1 else 0)) H) oInt1 := by
  intro W σ ρ L H ds vs Q r hd po
  unfold oInt1 at po
  split at po
  · obtain ⟨v, rfl, h⟩ := dvs1 hd
    cases h
    exact .inl ⟨_, rfl, po_ok po r (.int _)⟩
  · obtain ⟨v, rfl, h⟩ := dvs1 hd
    cases h
    exact .inr ⟨true, rfl, po_ok po r (.int _)⟩
  · obtain ⟨v, rfl, h⟩ := dvs1 hd
    cases h
    exact .inr ⟨false, rfl, po_ok po r (.int _)⟩
  · exact po.elim
theorem f_int1 (hm : X.mg "int" = none) (ha : EA X p Z W [a] ms) (hg : Gl X "int" := by rfl) (he : starEach [a] X.env = (false, eval a X.env) :: starEach [] X.env := by rfl) : EE X p Z W (.Call (.Name "int" pn) [a] [] pos) (mN oInt1 ms) := ee_bty call_int1 opn_int1 hm (by rfl) ha hg (by decide) (by decide) he rfl
/-! ### a range as a value -/
theorem cr_range1 : CallR X (.type "range") (fun vs H Q => ∃ j, vs = [V.int j] ∧ ∀ q, H q = none → Q (.ref q) (upd H q (.rng 0 j))) := by
  intro pins0 s0 σ0 H0 vs0 us0 Q0 I0 r0 h0
  obtain ⟨j, rfl, q0⟩ := h0
  cases r0 with
  | cons r1 r2 =>
    cases r2
    obtain ⟨t, rfl⟩ := r1
    refine call_range_1 ⟨.ref s0.heap.objs.size, upd H0 s0.heap.objs.size (.rng 0 j), I0.laid (t' := _) (fun b o e => Heap.get?_push_of_some _ e) (Nat.le_refl _) ?_, rfl, q0 _ (I0.hok.fresh (Nat.le_refl _))⟩
    exact ⟨_, _, _, Heap.get?_push_size _ rfl⟩
noncomputable def oRng1 (ds : List D) (L : Sto) : Out := match ds with
  | [.int j] => iff_ (PySem.W.Z.ltB j lim) (iff_ (PySem.W.Z.ltB (-lim) j) (.ok (.rng 0 j) L) .bad) .bad
  | _ => .bad
theorem opn_rng1 : OpN p (fun vs H Q => ∃ j, vs = [V.int j] ∧ ∀ q, H q = none → Q (.ref q) (upd H q (.rng 0 j))) oRng1 := by
  intro W σ ρ L H ds vs Q r hd po
  unfold oRng1 at po
  split at po
  · rename_i j
    obtain ⟨v, rfl, h⟩ := dvs1 hd
    cases h
    obtain ⟨c1, po1⟩ := iff_t po
    obtain ⟨c2, po2⟩ := iff_t po1
    exact ⟨j, rfl, fun q hq => po2 ρ _ (.ref q) (Ext.fresh _ hq) (r.fresh _ hq) (.rng upd_same)⟩
  · exact po.elim
theorem f_range1 (hm : X.mg "range" = none) (ha : EA X p Z W [a] ms) (hg : Gl X "range" := by rfl) (he : starEach [a] X.env = (false, eval a X.env) :: starEach [] X.env := by rfl) : EE X p Z W (.Call (.Name "range" pn) [a] [] pos) (mN oRng1 ms) := ee_bty cr_range1 opn_rng1 hm (by rfl) ha hg (by decide) (by decide) he rfl
end
def iRngV (tl : TE) : TI := fun σ H R => tl σ H fun x H1 => ∃ q lo hi, x = .ref q ∧ H1 q = some (.rng lo hi) ∧ (-(2 ^ 62) ≤ lo ∧ lo < 2 ^ 62 ∧ -(2 ^ 62) ≤ hi ∧ hi < 2 ^ 62) ∧ R (Itr lo (hi - lo).toNat) H1
theorem pi_rngV {l : Expr} {tl : TE} (hl : PE X l tl) : PI X tg l (iRngV tl) := by
  constructor
  intro pins0 s0 σ0 H0 R0 I0 h0
  refine thn (hl.run pins0 s0 σ0 H0 _ I0 h0) fun v0 s1 ⟨x0, H1, I1, r1, q1⟩ => ?_
  obtain ⟨q0, lo, hi, rfl, hq, ⟨b1, b2, b3, b4⟩, q2⟩ := q1
  cases r1
  obtain ⟨t, u, w0, hget⟩ := I1.hok q0 _ hq
  refine wpAny_pyIter_range (a := lo) (b := hi) (c := 1) (t := t) (u := u) (v := w0) hget (small_one b1 b2 b3 b4) ?_
  refine ⟨s1.heap.objs.size, [s1.heap.objs.size], _, _, H1, rfl, I1.kept (t' := s1.toks) fun b o e => Heap.get?_push_of_some _ e, turn_range _ lo (hi - lo).toNat, ?_, fun b hb => ?_, q2⟩
  · have e1 : lo + ((0 : Nat) : Int) * 1 = lo := by simp
    have e2 : (((hi - lo).toNat : Nat) : Int) - ((0 : Nat) : Int) = Builtin.Range.rangeSize lo hi 1 := by rw [rangeSize_one]; split <;> omega
    show IsRangeIter _ _ (lo + ((0 : Nat) : Int) * 1) ((((hi - lo).toNat : Nat) : Int) - ((0 : Nat) : Int)) 1
    rw [e1, e2]; exact Heap.get?_push_size _ rfl
  · have e : b = s1.heap.objs.size := by simpa using hb
    subst e; exact I1.fpOk (Nat.le_refl _) (I1.hok.fresh (Nat.le_refl _))
noncomputable def onlyR (m : EM) : EM := fun S L => (m S L).bd fun d L1 => match d with
  | .rng lo hi => iff_ (PySem.W.Z.ltB lo lim) (iff_ (PySem.W.Z.ltB (-lim) lo) (iff_ (PySem.W.Z.ltB hi lim) (iff_ (PySem.W.Z.ltB (-lim) hi) (.ok (.rng lo hi) L1) .bad) .bad) .bad) .bad
  | _ => .bad
theorem iffI2 {σ : L2.St} {ρ : List Addr} {H : Hp} {Q : List Addr → Sto → D → Hp → Prop} {b : Bool} {t : Out} (h : PoI p W σ Q ρ H (iff_ b t .bad)) : b = true ∧ PoI p W σ Q ρ H t := by
  cases b with
  | true => exact ⟨rfl, h⟩
  | false => exact h.elim
theorem ei_rngV {e : Expr} {m : EM} (h : EE X p Z W e m) : EI X p Z W tg e (onlyR m) nfR := ⟨PI.imp (pi_rngV h.pe) fun σ H R h => by
  obtain ⟨ρ, S, L, a, po⟩ := h
  refine ⟨ρ, S, L, a, (poi_bd po).imp fun ρ1 L1 d x H1 e1 r1 d1 q => ?_⟩
  cases d1 with
  | @rng q0 lo hi hq =>
    obtain ⟨c1, q1⟩ := iffI2 q
    obtain ⟨c2, q2⟩ := iffI2 q1
    obtain ⟨c3, q3⟩ := iffI2 q2
    obtain ⟨c4, q4⟩ := iffI2 q3
    have g1 := (PySem.W.Z.ltB_iff _ _).mp c1
    have g2 := (PySem.W.Z.ltB_iff _ _).mp c2
    have g3 := (PySem.W.Z.ltB_iff _ _).mp c3
    have g4 := (PySem.W.Z.ltB_iff _ _).mp c4
    have e : lim = 1000000000000 := rfl
    exact ⟨q0, lo, hi, rfl, hq, ⟨by omega, by omega, by omega, by omega⟩, q4 ρ1 H1 (Ext.refl _ _) r1 _ ij_rng⟩
  | _ => exact q.elim⟩
/-- a list, a tuple or a range -/
noncomputable def nfA (d : D) (L : Sto) (i : Nat) : Option (Option D) := match d with
  | .ref _ => nfL d L i
  | .tup _ => nfT d L i
  | .rng _ _ => nfR d L i
  | _ => none
noncomputable def onlyA (m : EM) : EM := fun S L => (m S L).bd fun d L1 => match d with
  | .ref i => .ok (.ref i) L1
  | .tup xs => .ok (.tup xs) L1
  | .rng lo hi => iff_ (PySem.W.Z.ltB lo lim) (iff_ (PySem.W.Z.ltB (-lim) lo) (iff_ (PySem.W.Z.ltB hi lim) (iff_ (PySem.W.Z.ltB (-lim) hi) (.ok (.rng lo hi) L1) .bad) .bad) .bad) .bad
  | _ => .bad
theorem iff_ok {b : Bool} {d : D} {L : Sto} {W' : Wx} {σ : L2.St} {ρ : List Addr} {H : Hp} {Q : List Addr → Sto → D → Hp → Prop} : True := trivial
theorem ei_any {e : Expr} {m : EM} (hK : p.K = X.K) (h : EE X p Z W e m) : EI X p Z W tg e (onlyA m) nfA := ⟨PI.imp (PI.either (ei_list hK h).pi (PI.either (ei_tup hK h).pi (ei_rngV h).pi)) fun σ H R q => by
  obtain ⟨ρ, S, L, a, po⟩ := q
  unfold onlyA at po
  cases hm : m S L with
  | ok d L1 =>
    rw [hm] at po
    cases d with
    | ref i => exact .inl ⟨ρ, S, L, a, by unfold onlyL; rw [hm]; exact po⟩
    | tup xs => exact .inr (.inl ⟨ρ, S, L, a, by unfold onlyT; rw [hm]; exact po⟩)
    | rng lo hi =>
      refine .inr (.inr ⟨ρ, S, L, a, ?_⟩)
      unfold onlyR; rw [hm]
      obtain ⟨c1, q1⟩ := iffI2 po
      obtain ⟨c2, q2⟩ := iffI2 q1
      obtain ⟨c3, q3⟩ := iffI2 q2
      obtain ⟨c4, q4⟩ := iffI2 q3
      show PoI p W σ _ ρ H (iff_ _ (iff_ _ (iff_ _ (iff_ _ (.ok (.rng lo hi) L1) .bad) .bad) .bad) .bad)
      rw [c1, c2, c3, c4]
      exact q4
    | _ => exact po.elim
  | err c L1 => rw [hm] at po; exact .inl ⟨ρ, S, L, a, by unfold onlyL; rw [hm]; exact po⟩
  | bad => rw [hm] at po; exact po.elim⟩
/-! ### a op b op' c -/
noncomputable def mChain (o o' : D → D → Sto → Out) (ma mb mc : EM) : EM := fun S L => (ma S L).bd fun d L1 => (mb S L1).bd fun e L2 => (o d e L2).bd fun z L3 => match z with
  | .bl true => (mc S L3).bd fun f L4 => o' e f L4
  | .bl false => .ok (.bl false) L3
  | _ => .bad
theorem tr_chain {r r' : R2} {o o' : D → D → Sto → Out} {ma mb mc : EM} (h1 : Op2 p r o) (h2 : Op2 p r' o') {σ : L2.St} {H : Hp} {Q : VK} (h : TrE p Z W (mChain o o' ma mb mc) σ H Q) : tChain r r' (TrE p Z W ma) (TrE p Z W mb) (TrE p Z W mc) σ H Q := by
  obtain ⟨ρ, S, L, a, po⟩ := h
  refine ⟨ρ, S, L, a, (Po.imp fun ρ1 L1 d v H1 e1 r1 d1 q => ?_) (Po.bd po)⟩
  have a1 := a.ext e1 r1
  refine ⟨ρ1, S, L1, a1, (Po.imp fun ρ2 L2 e w H2 e2 r2 d2 q2 => ?_) (Po.bd q)⟩
  have a2 := a1.ext e2 r2
  refine h1 (W := W) (σ := σ) r2 (d1.mono r1 e2) d2 ((Po.imp fun ρ3 L3 z u H3 e3 r3 d3 q3 => ?_) (Po.bd q2))
  cases d3 with
  | bl b =>
    refine ⟨b, rfl, ?_⟩
    cases b with
    | true =>
      rw [if_pos rfl]
      have a3 := a2.ext e3 r3
      exact ⟨ρ3, S, L3, a3, (Po.imp fun ρ4 L4 f y H4 e4 r4 d4 q4 => h2 r4 (d2.mono r2 (e3.trans e4)) d4 q4) (Po.bd q3)⟩
    | false => rw [if_neg Bool.false_ne_true]; exact po_ok q3 r3 (.bl false)
  | _ => exact q3.elim
theorem c_chain {op op' : CmpOp} {r r' : R2} {o o' : D → D → Sto → Out} {a b c : Expr} {ma mb mc : EM} (hr : OpR X (compareOp op) r) (ho : Op2 p r o) (hr' : OpR X (compareOp op') r') (ho' : Op2 p r' o') (ha : EE X p Z W a ma) (hb : EE X p Z W b mb) (hc : EE X p Z W c mc)
    (hm : lastMarks [op, op'] [b, c] = false := by with_unfolding_all rfl) : EE X p Z W (.Compare a [op, op'] [b, c] pos) (mChain o o' ma mb mc) := ⟨PE.imp (pe_chain hr hr' ha.pe hb.pe hc.pe hm) fun σ H Q h => tr_chain ho ho' h⟩
theorem t_chain {op op' : CmpOp} {r r' : R2} {o o' : D → D → Sto → Out} {a b c : Expr} {ma mb mc : EM} (hr : OpR X (compareOp op) r) (ho : Op2 p r o) (hr' : OpR X (compareOp op') r') (ho' : Op2 p r' o') (ha : EE X p Z W a ma) (hb : EE X p Z W b mb) (hc : EE X p Z W c mc)
    (hm : lastMarks [op, op'] [b, c] = false := by with_unfolding_all rfl) : ET X p Z W (.Compare a [op, op'] [b, c] pos) (mChain o o' ma mb mc) := ⟨PT.imp (pt_chain hr hr' ha.pe hb.pe hc.pe hm) fun σ H Q h => tr_test (t := tChain r r' (TrE p Z W ma) (TrE p Z W mb) (TrE p Z W mc)) (fun σ H Q h => tr_chain ho ho' h) h⟩
/-! ### xs.pop(), xs.extend(ys) -/
noncomputable def lastD (xs : List D) : Option D := @List.rec D (fun _ => Option D) none (fun x _ ih => @Option.casesOn _ (fun _ => Option D) ih (some x) fun y => some y) xs
theorem lastD_ok (xs : List D) : lastD xs = xs.getLast? := by
  induction xs with
  | nil => rfl
  | cons x xs ih =>
    have e : lastD (x :: xs) = @Option.casesOn _ (fun _ => Option D) (lastD xs) (some x) fun y => some y := rfl
    rw [e, ih, List.getLast?_cons]
    cases xs.getLast? <;> rfl
noncomputable def cutLast (xs : List D) (k : List D → Out) : Out := @List.rec D (fun _ => (List D → Out) → Out) (fun k => k []) (fun x xs ih k => @List.casesOn D (fun _ => Out) xs (k []) fun _ _ => ih fun ys => k (x :: ys)) xs k
theorem cutLast_eq (xs : List D) (k : List D → Out) : cutLast xs k = k xs.dropLast := by
  induction xs generalizing k with
  | nil => rfl
  | cons x xs ih =>
    cases xs with
    | nil => rfl
    | cons y ys =>
      show cutLast (y :: ys) (fun zs => k (x :: zs)) = _
      rw [ih, List.dropLast_cons₂]
noncomputable def oPop (d : D) (L : Sto) : Out := match d with
  | .ref i => match L.get i with
    | some xs => match lastD xs with
      | some y => cutLast xs fun ys => L.setK i ys fun L' => .ok y L'
      | none => .bad
    | none => .bad
  | _ => .bad
theorem ee_pop {o : Expr} {apos : Pos} {mo : EM} (ho : EE X p Z W o mo) (hbase : attributeBase o "pop" X.env (eval o X.env) = eval o X.env := by rfl) (hline : (apos.endLine == pos.line) = true := by rfl) : EE X p Z W (.Call (.Attribute o "pop" apos) [] [] pos) (m1 oPop mo) :=
  ⟨PE.imp (pe_bm0 PySem.F.plainAttrs_list PySem.F.slot_list_pop PySem.F.type_list_pop mt_pop ho.pe hbase hline) fun σ H Q h => by
    obtain ⟨ρ, S, L, a, po⟩ := h
    refine ⟨ρ, S, L, a, (Po.imp fun ρ1 L1 d v H1 e1 r1 d1 q => ?_) (Po.bd po)⟩
    cases d1 with
    | @ref i b hi =>
      obtain ⟨es, xs, f1, f2, f3⟩ := r1.at_ i b hi
      refine ⟨.inl ⟨rfl, xs, SqL.of f2⟩, ?_⟩
      unfold oPop at q
      simp only [f1] at q
      split at q
      · rename_i y hy
        rw [lastD_ok, List.getLast?_eq_getElem?] at hy
        rw [cutLast_eq] at q
        obtain ⟨w, g1, g2⟩ := f3.get hy
        refine ⟨b, xs, w, rfl, rfl, f2, by rw [← f3.length]; exact g1, ?_⟩
        rcases setK_or L1 i es.dropLast (fun L' => .ok y L') with e | ⟨L', e, h2, h3⟩
        · rw [e] at q; exact q.elim
        · rw [e] at q
          obtain ⟨x1, r2⟩ := r1.set hi f3.dropLast h2 h3
          exact q ρ1 _ w x1 r2 (g2.mono r1 x1)
      · exact q.elim
    | _ => exact q.elim⟩
noncomputable def oExt (d : D) (ds : List D) (L : Sto) : Out := match d, ds with
  | .ref i, [.ref j] => match L.get i, L.get j with
    | some xs, some ys => iff_ (short xs most) (iff_ (short ys most) (catO xs ys fun zs => L.setK i zs fun L' => .ok .non L') .bad) .bad
    | _, _ => .bad
  | _, _ => .bad
theorem ext_ho {σ : L2.St} {ρ : List Addr} {L : Sto} {H : Hp} {d : D} {ds : List D} {x : V} {xs : List V} {Q : VK} (r : Rl p ρ L H) (hd : Dv p H ρ d x) (hs : Dvs p H ρ ds xs) (po : Po p W σ (fun _ _ _ v H' => Q v H') ρ H (oExt d ds L)) : rExtend x xs H Q := by
  unfold oExt at po
  split at po
  · rename_i i j
    cases hd with
    | @ref _ b hi =>
      obtain ⟨v, rfl, h1⟩ := dvs1 hs
      cases h1 with
      | @ref _ c hj =>
        obtain ⟨es, ys, f1, f2, f3⟩ := r.at_ i b hi
        obtain ⟨fs, zs, g1, g2, g3⟩ := r.at_ j c hj
        rw [f1, g1] at po
        simp only at po
        obtain ⟨c1, po1⟩ := iff_t po
        obtain ⟨c2, po2⟩ := iff_t po1
        rw [catO_eq] at po2
        have hl := short_le c1
        have hl2 := short_le c2
        rw [f3.length] at hl
        rw [g3.length] at hl2
        have hm : most = 100000 := rfl
        refine ⟨b, c, ys, zs, rfl, rfl, f2, g2, by rw [sizeLine_eq]; omega, ?_⟩
        rcases setK_or L i (es ++ fs) (fun L' => .ok .non L') with e | ⟨L', e, h2, h3⟩
        · rw [e] at po2; exact po2.elim
        · rw [e] at po2
          obtain ⟨x1, r1⟩ := r.set hi (f3.append g3) h2 h3
          exact po2 ρ _ .non x1 r1 .non
  · exact po.elim
theorem ee_extend {o e : Expr} {apos : Pos} {mo ma : EM} (ho : EE X p Z W o mo) (ha : EA X p Z W [e] ma)
    (hbase : attributeBase o "extend" X.env (eval o X.env) = eval o X.env := by rfl)
    (hfew : ((backTo pos (starEach [e] X.env)).all (fun x => !x.1) && (backToKw pos (keywordEach [] X.env)).all (fun x => x.1.isSome)
      && decide ([e].length + ([] : List Keyword).length + (if ([] : List Keyword).isEmpty then 0 else 1) < 30)) = true := by rfl)
    (hline : (apos.endLine == pos.line) = true := by rfl) (hs : starEach [e] X.env = (false, eval e X.env) :: starEach [] X.env := by rfl) (hplain : (backTo pos (starEach [] X.env)).any (·.1) = false := by rfl) :
    EE X p Z W (.Call (.Attribute o "extend" apos) [e] [] pos) (mMethL mo ma oExt) :=
  ⟨PE.imp (pe_bm PySem.F.plainAttrs_list PySem.F.slot_list_extend PySem.F.type_list_extend mt_extend ho.pe ha.pa hbase hfew hline hs hplain) fun σ H Q h => tr_meth (X := X) (fun r hd hs po => ext_ho r hd hs po) h⟩
end
end Mr

namespace Mr
open PySem PySem.Spec PyProof.Rows L2
/-! ### comprehensions of two clauses -/
theorem Ex2.trans {ρ ρ1 ρ2 : List Addr} {H H1 H2 : Hp} (a : Ex2 ρ H ρ1 H1) (b : Ex2 ρ1 H1 ρ2 H2) : Ex2 ρ H ρ2 H2 := by
  obtain ⟨t, rfl⟩ := a.pre
  obtain ⟨u, rfl⟩ := b.pre
  exact ⟨⟨t ++ u, by rw [List.append_assoc]⟩, fun x o h n => b.keep x o (a.keep x o h n) n⟩
theorem Ex2.refl (ρ : List Addr) (H : Hp) : Ex2 ρ H ρ H := ⟨⟨[], by simp⟩, fun _ _ h _ => h⟩
theorem EnvR.mono2 {p : Pm} {ρ ρ' : List Addr} {H H' : Hp} {S : List (Option D)} {σ : L2.St} (e : EnvR p H ρ S σ) (x : Ex2 ρ H ρ' H') : EnvR p H' ρ' S σ :=
  ⟨e.len, fun i d h => by obtain ⟨v, e1, e2⟩ := e.at_ i d h; exact ⟨v, e1, e2.mono2 x⟩⟩
structure IJ2 (p : Pm) (J : It) (nf : Sto → Nat → Option (Option D)) (ρ : List Addr) (H : Hp) : Prop where
  go : ∀ (i : Nat) (ρ' : List Addr) (L' : Sto) (H' : Hp) (x : D), Ex2 ρ H ρ' H' → Rl p ρ' L' H' → nf L' i = some (some x) → J.go i H' ∧ ∀ v H'', J.yld i H' v H'' → Ext ρ' H' ρ' H'' ∧ Rl p ρ' L' H'' ∧ Dv p H'' ρ' x v
  stop : ∀ (i : Nat) (ρ' : List Addr) (L' : Sto) (H' : Hp), Ex2 ρ H ρ' H' → Rl p ρ' L' H' → nf L' i = some none → J.stop i H'
theorem ij2_rng {p : Pm} {ρ : List Addr} {H : Hp} {lo hi : Int} : IJ2 p (Itr lo (hi - lo).toNat) (nfR (.rng lo hi)) ρ H :=
  ⟨fun i ρ' L' H' x e r q => (ij_rng (p := p) (ρ := ρ') (H := H')).go i ρ' L' H' x (Ext.refl _ _) r q, fun i ρ' L' H' e r q => (ij_rng (p := p) (ρ := ρ') (H := H')).stop i ρ' L' H' (Ext.refl _ _) r q⟩
def TrI2 (p : Pm) (Z : L2.St → Prop) (W : Wx) (m : EM) (nf : D → Sto → Nat → Option (Option D)) : TI := fun σ H R => ∃ ρ S L, At p Z ρ S L σ H ∧ PoI p W σ (fun ρ' L' d H' => ∀ J, IJ2 p J (nf d) ρ' H' → R J H') ρ H (m S L)
structure EI2 (X : Cx) (p : Pm) (Z : L2.St → Prop) (W : Wx) (tg e : Expr) (m : EM) (nf : D → Sto → Nat → Option (Option D)) : Prop where
  pi : PI X tg e (TrI2 p Z W m nf)
section
variable {X : Cx} {p : Pm} {Z : L2.St → Prop} {W : Wx} {pos : Pos} {tg : Expr}
theorem ei2_rng1 {a : Expr} {m : EM} {pn : Pos} (hm : X.mg "range" = none) (ha : EA X p Z W [a] m) (hg : Gl X "range" := by rfl) (hs : starEach [a] X.env = [(false, eval a X.env)] := by rfl) : EI2 X p Z W tg (.Call (.Name "range" pn) [a] [] pos) (rng1 m) nfR := ⟨PI.imp (pi_range1 hg hm ha.pa hs) fun σ H R h => by
  obtain ⟨ρ, S, L, a, po⟩ := h
  refine ⟨ρ, S, L, a, (Pa.imp fun ρ1 L1 ds vs H1 e1 r1 d1 q => ?_) (poi_row po)⟩
  split at q
  · rename_i j
    obtain ⟨v, rfl, h1⟩ := dvs1 d1
    cases h1
    obtain ⟨c, q1⟩ := iffI q
    have hl := blt_t c
    have e : lim = 1000000000000 := rfl
    refine ⟨j, rfl, by omega, by omega, ?_⟩
    have := q1 ρ1 H1 (Ext.refl _ _) r1 _ ij2_rng
    rw [Int.sub_zero] at this
    exact this
  · exact q.elim⟩
end
noncomputable def lcI (nf : NF) (g : GM) (mt me : EM) (d : D) (S0 : List (Option D)) (k : List D → Sto → Out) (fuel : Nat) : Nat → List D → Sto → Out := @Nat.rec (fun _ => Nat → List D → Sto → Out) (fun _ _ _ => .bad) (fun _ ih i acc L => match nf d L i with
  | none => .bad
  | some none => k acc L
  | some (some x) => match g x S0 L with
    | .nx S1 _ => match mt S1 L with
      | .ok (.bl true) L2 => match me S1 L2 with
        | .ok y L3 => iff_ (short acc most) (ih (Nat.succ i) (y :: acc) L3) .bad
        | _ => .bad
      | .ok (.bl false) L2 => ih (Nat.succ i) acc L2
      | _ => .bad
    | _ => .bad) fuel
noncomputable def lcK2 (nf : NF) (g : GM) (mt mi1 : EM) (nf1 : NF) (g1 : GM) (mt1 me : EM) (vs1 : List Nat) (d : D) (S0 : List (Option D)) (fuel : Nat) : Nat → List D → Sto → Out := @Nat.rec (fun _ => Nat → List D → Sto → Out) (fun _ _ _ => .bad) (fun _ ih i acc L => match nf d L i with
  | none => .bad
  | some none => revO acc [] fun ys => L.newK ys fun j L' => .ok (.ref j) L'
  | some (some x) => match g x S0 L with
    | .nx S1 _ => match mt S1 L with
      | .ok (.bl true) L2 => match mi1 S1 L2 with
        | .ok d1 L3 => wipeO S1 vs1 fun S2 => lcI nf1 g1 mt1 me d1 S2 (ih (Nat.succ i)) 100000 0 acc L3
        | _ => .bad
      | .ok (.bl false) L2 => ih (Nat.succ i) acc L2
      | _ => .bad
    | _ => .bad) fuel
noncomputable def mLc2 (mi : EM) (nf : NF) (g : GM) (mt mi1 : EM) (nf1 : NF) (g1 : GM) (mt1 me : EM) (vs vs1 : List Nat) : EM := fun S L => (mi S L).bd fun d L1 => wipeO S vs fun S0 => lcK2 nf g mt mi1 nf1 g1 mt1 me vs1 d S0 100000 0 [] L1
section
variable {X : Cx} {p : Pm} {Z : L2.St → Prop} {W : Wx} {pos : Pos}
theorem not_in_ext {ρ ρ' : List Addr} {H H' : Hp} {q : Addr} {o : HO} (e : Ext ρ H ρ' H') (h : H q = some o) (hn : q ∉ ρ) : q ∉ ρ' := fun hm => by
  obtain ⟨t, ht, ht2⟩ := e.pre
  rw [ht] at hm
  rcases List.mem_append.mp hm with hm | hm
  · exact hn hm
  · have := ht2 q hm; rw [h] at this; cases this
theorem tr_lc2 {mi mt mi1 mt1 me : EM} {nf nf1 : NF} {g g1 : GM} {vs vs1 : List Nat} {σ : L2.St} {H : Hp} {Q : VK} (h : TrE p Z W (mLc2 mi nf g mt mi1 nf1 g1 mt1 me vs vs1) σ H Q) :
    tLc2 (TrI p Z W mi nf) (TrC p g vs) (TrT p ZT WF mt) (TrI2 p ZT WF mi1 nf1) (TrC p g1 vs1) (TrT p ZT WF mt1) (TrE p ZT WF me) vs vs1 σ H Q := by
  obtain ⟨ρ0, S, L0, a0, po0⟩ := h
  have hI : PoI p W σ (fun ρ1 L1 d H1 => Ext ρ0 H ρ1 H1 ∧ Rl p ρ1 L1 H1 ∧ Po p W σ (fun _ _ _ v H' => Q v H') ρ1 H1 (wipeO S vs fun S0 => lcK2 nf g mt mi1 nf1 g1 mt1 me vs1 d S0 100000 0 [] L1)) ρ0 H (mi S L0) := by
    unfold mLc2 at po0
    cases hm : mi S L0 with
    | ok d L1 => rw [hm] at po0; exact fun ρ1 H1 x r => ⟨x, r, Po.ext x po0⟩
    | err c L1 => rw [hm] at po0; exact po0
    | bad => rw [hm] at po0; exact po0
  refine ⟨ρ0, S, L0, a0, hI.imp fun ρ1 L1 d H1 ⟨e1, r1, po1⟩ J hj => ?_⟩
  intro D0 hD
  rw [wipeO_eq] at po1
  have en1 : EnvR p H1 ρ1 (wipeL S vs) (wipe σ vs) := (a0.env.mono a0.rl e1).wipe vs
  have hD1 : D0 ∉ ρ1 := fun hm => by obtain ⟨ys, e⟩ := r1.lst hm; rw [hD] at e; cases e
  have eu : Ext ρ1 H1 ρ1 (upd H1 D0 (.lst [])) := Ext.fresh _ hD
  -- what a turn starts from
  refine ⟨fun i m H' => ∃ ρ L acc ys, Ext ρ1 H1 ρ H' ∧ Rl p ρ L H' ∧ D0 ∉ ρ ∧ H' D0 = some (.lst ys) ∧ Dvs p H' ρ acc.reverse ys ∧ Po p W σ (fun _ _ _ v H' => Q v H') ρ1 H1 (lcK2 nf g mt mi1 nf1 g1 mt1 me vs1 d (wipeL S vs) m i acc L), ⟨100000, ρ1, L1, [], [], eu, r1.fresh _ hD, hD1, upd_same, .nil, po1⟩, ?_⟩
  rintro i m H2 ⟨ρ2, L2, acc, ys, e2, r2, hn2, hD2, dv2, po2⟩
  cases m with
  | zero => exact po2.elim
  | succ m =>
    have po3 : Po p W σ (fun _ _ _ v H' => Q v H') ρ1 H1 (match nf d L2 i with
      | none => .bad
      | some none => revO acc [] fun ys => L2.newK ys fun j L' => .ok (.ref j) L'
      | some (some x) => match g x (wipeL S vs) L2 with
        | .nx S1 _ => match mt S1 L2 with
          | .ok (.bl true) L2 => match mi1 S1 L2 with
            | .ok d1 L3 => wipeO S1 vs1 fun S2 => lcI nf1 g1 mt1 me d1 S2 (lcK2 nf g mt mi1 nf1 g1 mt1 me vs1 d (wipeL S vs) m (Nat.succ i)) 100000 0 acc L3
            | _ => .bad
          | .ok (.bl false) L2 => lcK2 nf g mt mi1 nf1 g1 mt1 me vs1 d (wipeL S vs) m (Nat.succ i) acc L2
          | _ => .bad
        | _ => .bad) := po2
    cases hn : nf d L2 i with
    | none => rw [hn] at po3; exact po3.elim
    | some y =>
      cases y with
      | none =>
        rw [hn] at po3
        simp only at po3
        rw [revO_eq, List.append_nil] at po3
        refine .inl ⟨hj.stop i ρ2 L2 H2 e2 r2 hn, ?_⟩
        rcases newK_or L2 acc.reverse (fun j L' => .ok (.ref j) L') with e | ⟨L', e, h1, h2⟩
        · rw [e] at po3; exact po3.elim
        · rw [e] at po3
          obtain ⟨q1, q2⟩ := r2.adopt hD2 hn2 dv2 h1 h2
          obtain ⟨t, ht, ht2⟩ := e2.pre
          have e3 : Ext ρ1 H1 (ρ2 ++ [D0]) H2 := ⟨⟨t ++ [D0], by rw [ht, List.append_assoc], fun a ha => by
            rcases List.mem_append.mp ha with z | z
            · exact ht2 a z
            · have e : a = D0 := by simpa using z
              subst e; exact hD⟩, e2.keep, e2.free⟩
          exact po3 (ρ2 ++ [D0]) H2 (.ref D0) e3 q1 (.ref q2)
      | some x =>
        rw [hn] at po3
        simp only at po3
        obtain ⟨j1, j2⟩ := hj.go i ρ2 L2 H2 x e2 r2 hn
        refine .inr ⟨j1, fun H' => ∃ ρ L acc ys, Ext ρ1 H1 ρ H' ∧ Rl p ρ L H' ∧ D0 ∉ ρ ∧ H' D0 = some (.lst ys) ∧ Dvs p H' ρ acc.reverse ys ∧ Po p W σ (fun _ _ _ v H' => Q v H') ρ1 H1 (lcK2 nf g mt mi1 nf1 g1 mt1 me vs1 d (wipeL S vs) m (i + 1) acc L), fun H' q => ⟨m, Nat.lt_succ_self m, q⟩, fun v H3 hy => ?_⟩
        obtain ⟨e3, r3, d3⟩ := j2 v H3 hy
        have e13 := e2.trans e3
        have hD3 : H3 D0 = some (.lst ys) := e3.keep D0 _ hD2 hn2
        refine ⟨ρ2, wipeL S vs, L2, x, ⟨trivial, en1.mono r1 e13, r3⟩, d3, ?_⟩
        split
        · rename_i S1 Lx hg1
          rw [hg1] at po3
          simp only at po3
          intro σ' en4 hw
          refine ⟨hw.trans (wipe_wipe σ vs), ?_⟩
          refine ⟨ρ2, S1, L2, ⟨trivial, en4, r3⟩, ?_⟩
          cases ht : mt S1 L2 with
          | ok dt L4 =>
            rw [ht] at po3
            intro ρ4 H4 v4 e4 r4 d4
            have hD4 : H4 D0 = some (.lst ys) := e4.keep D0 _ hD3 hn2
            have hn4 : D0 ∉ ρ4 := not_in_ext e4 hD3 hn2
            have dv4 : Dvs p H4 ρ4 acc.reverse ys := (dv2.mono r2 e3).mono r3 e4
            cases d4 with
            | bl b =>
              refine ⟨b, rfl, ?_⟩
              cases b with
              | false =>
                rw [if_neg Bool.false_ne_true]
                exact ⟨ρ4, L4, acc, ys, e13.trans e4, r4, hn4, hD4, dv4, po3⟩
              | true =>
                rw [if_pos rfl]
                refine ⟨ρ4, S1, L4, ⟨trivial, en4.mono r3 e4, r4⟩, ?_⟩
                simp only at po3
                cases hm : mi1 S1 L4 with
                | ok d1 L5 =>
                  rw [hm] at po3
                  simp only at po3
                  rw [wipeO_eq] at po3
                  intro ρ5 H5 e5 r5 J1 hj1
                  have hD5 : H5 D0 = some (.lst ys) := e5.keep D0 _ hD4 hn4
                  have hn5 : D0 ∉ ρ5 := not_in_ext e5 hD4 hn4
                  have en5 : EnvR p H5 ρ5 (wipeL S1 vs1) (wipe σ' vs1) := ((en4.mono r3 e4).mono r4 e5).wipe vs1
                  have e15 := (e13.trans e4).trans e5
                  refine ⟨fun j k H' => ∃ ρ L acc ys, Ext ρ1 H1 ρ H' ∧ Ex2 ρ5 H5 ρ H' ∧ Rl p ρ L H' ∧ D0 ∉ ρ ∧ H' D0 = some (.lst ys) ∧ Dvs p H' ρ acc.reverse ys ∧ Po p W σ (fun _ _ _ v H' => Q v H') ρ1 H1 (lcI nf1 g1 mt1 me d1 (wipeL S1 vs1) (lcK2 nf g mt mi1 nf1 g1 mt1 me vs1 d (wipeL S vs) m (Nat.succ i)) k j acc L), ⟨100000, ρ5, L5, acc, ys, e15, Ex2.refl _ _, r5, hn5, hD5, dv4.mono r4 e5, po3⟩, ?_⟩
                  rintro j k H6 ⟨ρ6, L6, ac6, ys6, e6, x6, r6, hn6, hD6, dv6, po6⟩
                  cases k with
                  | zero => exact po6.elim
                  | succ k =>
                    have po7 : Po p W σ (fun _ _ _ v H' => Q v H') ρ1 H1 (match nf1 d1 L6 j with
                      | none => .bad
                      | some none => lcK2 nf g mt mi1 nf1 g1 mt1 me vs1 d (wipeL S vs) m (Nat.succ i) ac6 L6
                      | some (some x) => match g1 x (wipeL S1 vs1) L6 with
                        | .nx S1' _ => match mt1 S1' L6 with
                          | .ok (.bl true) L2 => match me S1' L2 with
                            | .ok y L3 => iff_ (short ac6 most) (lcI nf1 g1 mt1 me d1 (wipeL S1 vs1) (lcK2 nf g mt mi1 nf1 g1 mt1 me vs1 d (wipeL S vs) m (Nat.succ i)) k (Nat.succ j) (y :: ac6) L3) .bad
                            | _ => .bad
                          | .ok (.bl false) L2 => lcI nf1 g1 mt1 me d1 (wipeL S1 vs1) (lcK2 nf g mt mi1 nf1 g1 mt1 me vs1 d (wipeL S vs) m (Nat.succ i)) k (Nat.succ j) ac6 L2
                          | _ => .bad
                        | _ => .bad) := po6
                    cases hn1 : nf1 d1 L6 j with
                    | none => rw [hn1] at po7; exact po7.elim
                    | some y1 =>
                      cases y1 with
                      | none =>
                        rw [hn1] at po7
                        exact .inl ⟨hj1.stop j ρ6 L6 H6 x6 r6 hn1, ρ6, L6, ac6, ys6, e6, r6, hn6, hD6, dv6, po7⟩
                      | some z1 =>
                        rw [hn1] at po7
                        simp only at po7
                        obtain ⟨k1, k2⟩ := hj1.go j ρ6 L6 H6 z1 x6 r6 hn1
                        refine .inr ⟨k1, fun H' => ∃ ρ L acc ys, Ext ρ1 H1 ρ H' ∧ Ex2 ρ5 H5 ρ H' ∧ Rl p ρ L H' ∧ D0 ∉ ρ ∧ H' D0 = some (.lst ys) ∧ Dvs p H' ρ acc.reverse ys ∧ Po p W σ (fun _ _ _ v H' => Q v H') ρ1 H1 (lcI nf1 g1 mt1 me d1 (wipeL S1 vs1) (lcK2 nf g mt mi1 nf1 g1 mt1 me vs1 d (wipeL S vs) m (Nat.succ i)) k (j + 1) acc L), fun H' q => ⟨k, Nat.lt_succ_self k, q⟩, fun v7 H7 hy7 => ?_⟩
                        obtain ⟨e7, r7, d7⟩ := k2 v7 H7 hy7
                        have x57 := x6.trans (e7.ex2 r6)
                        have hD7 : H7 D0 = some (.lst ys6) := e7.keep D0 _ hD6 hn6
                        refine ⟨ρ6, wipeL S1 vs1, L6, z1, ⟨trivial, en5.mono2 x57, r7⟩, d7, ?_⟩
                        split
                        · rename_i S8 Ly hg8
                          rw [hg8] at po7
                          simp only at po7
                          intro σ8 en8 hw8
                          refine ⟨hw8.trans (wipe_wipe σ' vs1), ρ6, S8, L6, ⟨trivial, en8, r7⟩, ?_⟩
                          cases ht8 : mt1 S8 L6 with
                          | ok dt8 L8 =>
                            rw [ht8] at po7
                            intro ρ8 H8 v8 e8 r8 d8
                            have hD8 : H8 D0 = some (.lst ys6) := e8.keep D0 _ hD7 hn6
                            have hn8 : D0 ∉ ρ8 := not_in_ext e8 hD7 hn6
                            have dv8 : Dvs p H8 ρ8 ac6.reverse ys6 := (dv6.mono r6 e7).mono r7 e8
                            have e18 := (e6.trans e7).trans e8
                            have x58 := x57.trans (e8.ex2 r7)
                            cases d8 with
                            | bl b8 =>
                              refine ⟨b8, rfl, ?_⟩
                              cases b8 with
                              | false =>
                                rw [if_neg Bool.false_ne_true]
                                exact ⟨ρ8, L8, ac6, ys6, e18, x58, r8, hn8, hD8, dv8, po7⟩
                              | true =>
                                rw [if_pos rfl]
                                refine ⟨ρ8, S8, L8, ⟨trivial, en8.mono r7 e8, r8⟩, ?_⟩
                                simp only at po7
                                cases hm9 : me S8 L8 with
                                | ok y9 L9 =>
                                  rw [hm9] at po7
                                  obtain ⟨c9, po9⟩ := iff_t po7
                                  intro ρ9 H9 v9 e9 r9 d9
                                  have hD9 : H9 D0 = some (.lst ys6) := e9.keep D0 _ hD8 hn8
                                  have hn9 : D0 ∉ ρ9 := not_in_ext e9 hD8 hn8
                                  have hs := short_le c9
                                  have hl : ys6.length ≤ most := by
                                    have := dv8.length
                                    rw [List.length_reverse] at this
                                    omega
                                  have x2 := ex2_upd (ρ := ρ9) (ys := ys6 ++ [v9]) hD9
                                  have dv9 : Dvs p H9 ρ9 ac6.reverse ys6 := dv8.mono r8 e9
                                  have e19 := e18.trans e9
                                  refine ⟨ys6, hD9, Nat.lt_of_le_of_lt hl most_lt, ρ9, L9, y9 :: ac6, ys6 ++ [v9], ⟨e19.pre, fun a o ha hna => ?_, fun a ha => ?_⟩, (x58.trans (e9.ex2 r8)).trans x2, r9.beside hD9 hn9, hn9, upd_same, ?_, po9⟩
                                  · have hne : a ≠ D0 := fun e => by rw [e, hD] at ha; cases ha
                                    rw [upd_ne hne]; exact e19.keep a o ha hna
                                  · by_cases e : a = D0
                                    · subst e; exact hD
                                    · rw [upd_ne e] at ha; exact e19.free a ha
                                  · rw [List.reverse_cons]; exact (dv9.mono2 x2).append (.cons (d9.mono2 x2) .nil)
                                | err c L9 => rw [hm9] at po7; exact po7.elim
                                | bad => rw [hm9] at po7; exact po7.elim
                            | _ => exact po7.elim
                          | err c L8 => rw [ht8] at po7; exact po7.elim
                          | bad => rw [ht8] at po7; exact po7.elim
                        · rename_i hno
                          cases hg8 : g1 z1 (wipeL S1 vs1) L6 with
                          | nx S8 Ly => exact absurd hg8 (hno S8 Ly)
                          | _ => rw [hg8] at po7; exact po7.elim
                | err c L5 => rw [hm] at po3; exact po3.elim
                | bad => rw [hm] at po3; exact po3.elim
            | _ => exact po3.elim
          | err c L4 => rw [ht] at po3; exact po3.elim
          | bad => rw [ht] at po3; exact po3.elim
        · rename_i hno
          cases hg1 : g x (wipeL S vs) L2 with
          | nx S1 Lx => exact absurd hg1 (hno S1 Lx)
          | _ => rw [hg1] at po3; exact po3.elim
theorem ee_lc2 {elt tg iter tg1 iter1 : Expr} {ifs ifs1 : List Expr} {scope : Scope} {own : List (Str × Nat)} {vs1 : List Nat} {mi mt mi1 mt1 me : EM} {nf nf1 : NF} {g g1 : GM} (hc : X.calm = true) (hN : X.N.Nodup) (hi : EI X p Z W tg iter mi nf) (ok : BlkOk X.N X.env.scope scope own) (hv : ∀ i ∈ vs1, i ∈ own.map (·.2))
    (hg : ∀ (s : Shared) (H : Hp) (C : Addr) (cl : List (Str × Addr)) (fp : List Addr), CT (X.blk s H scope (compEnvC scope cl C X.env) fp) p tg g (own.map (·.2))) (ht : ∀ (s : Shared) (H : Hp) (C : Addr) (cl : List (Str × Addr)) (fp : List Addr), ETs (X.blk s H scope (compEnvC scope cl C X.env) fp) p ZT WF ifs mt)
    (hi1 : ∀ (s : Shared) (H : Hp) (C : Addr) (cl : List (Str × Addr)) (fp : List Addr), EI2 (X.blk s H scope (compEnvC scope cl C X.env) fp) p ZT WF tg1 iter1 mi1 nf1)
    (hg1 : ∀ (s : Shared) (H : Hp) (C : Addr) (cl : List (Str × Addr)) (fp : List Addr), CT (X.blk s H scope (compEnvC scope cl C X.env) fp) p tg1 g1 vs1) (ht1 : ∀ (s : Shared) (H : Hp) (C : Addr) (cl : List (Str × Addr)) (fp : List Addr), ETs (X.blk s H scope (compEnvC scope cl C X.env) fp) p ZT WF ifs1 mt1)
    (he : ∀ (s : Shared) (H : Hp) (C : Addr) (cl : List (Str × Addr)) (fp : List Addr), EE (X.blk s H scope (compEnvC scope cl C X.env) fp) p ZT WF elt me) (hs : ∀ x, foldedSetIterable iter X.env x = pure x := by intro _; rfl) (hs1 : ∀ env x, foldedSetIterable iter1 env x = pure x := by intro _ _; rfl) :
    EE X p Z W (.ListComp elt [⟨tg, iter, ifs, 0⟩, ⟨tg1, iter1, ifs1, 0⟩] scope pos) (mLc2 mi nf g mt mi1 nf1 g1 mt1 me (own.map (·.2)) vs1) :=
  ⟨PE.imp (pe_lc2 hc hN hi.pi ok hv (fun s H C cl fp => (hg s H C cl fp).pg) (fun s H C cl fp => (ht s H C cl fp).pt) (fun s H C cl fp => (hi1 s H C cl fp).pi) (fun s H C cl fp => (hg1 s H C cl fp).pg) (fun s H C cl fp => (ht1 s H C cl fp).pt) (fun s H C cl fp => (he s H C cl fp).pe) hs hs1) fun σ H Q h => tr_lc2 h⟩
end
end Mr

namespace Mr
open PySem PySem.Spec PyProof.Rows L2
/-! ### zip of a list and a tuple -/
def SqB (t : Bool) (K : PySem.W.Frag) (H : Hp) (a : Addr) (xs : List V) : Prop := match t with
  | true => SqT K H a xs
  | false => SqL K H a xs
def ItB (t : Bool) (h : Heap) (it l : Addr) (i : Nat) : Prop := match t with
  | true => h.IsTupleIter it l i
  | false => h.IsListIter it l i
def HqB (t : Bool) (h : Heap) (l : Addr) (its : Array Value) : Prop := match t with
  | true => h.IsTuple l its
  | false => h.IsList l its
theorem itB_at {t : Bool} {h h' : Heap} {a l : Addr} {i : Nat} (x : ItB t h a l i) (e : ∀ o, h.get? a = some o → h'.get? a = some o) : ItB t h' a l i := by
  cases t with
  | true => exact Heap.IsTupleIter.at x e
  | false => exact Heap.IsListIter.at x e
theorem itB_ob {t : Bool} {h : Heap} {a l : Addr} {i : Nat} (x : ItB t h a l i) : ∃ o, h.get? a = some o ∧ ∀ v, o.data ≠ .cell v := by
  cases t with
  | true =>
    obtain ⟨o, e, _, d⟩ := (show h.IsTupleIter a l i from x)
    exact ⟨o, e, fun v q => by rw [d] at q; cases q⟩
  | false =>
    obtain ⟨o, e, _, d⟩ := (show h.IsListIter a l i from x)
    exact ⟨o, e, fun v q => by rw [d] at q; cases q⟩
theorem invB {t : Bool} {X : Cx} {pins : List (Addr × Obj)} {σ : L2.St} {H : Hp} {s : Shared} {a : Addr} {xs : List V} (I : Inv X pins σ H s) (h : SqB t X.K H a xs) : ∃ its : List Value, Vals xs its ∧ HqB t s.heap a its.toArray ∧ a < s.heap.objs.size := by
  cases t with
  | true =>
    obtain ⟨its, rv, pl, _⟩ := I.tuple h
    obtain ⟨o, ho, _⟩ := id pl
    exact ⟨its, rv, pl, Heap.lt_size ho⟩
  | false =>
    obtain ⟨its, rv, pl, _⟩ := I.list h
    exact ⟨its, rv, pl.isList, pl.lt⟩
theorem injB {t : Bool} {X : Cx} {pins : List (Addr × Obj)} {σ : L2.St} {H : Hp} {s : Shared} {a : Addr} {xs ys : List V} (I : Inv X pins σ H s) (h : SqB t X.K H a xs) (h' : SqB t X.K H a ys) : xs = ys := by
  cases t with
  | true => exact I.tuple_inj h h'
  | false => exact I.list_inj h h'
theorem drawB {t : Bool} {prog : Program} {w : World} {A : Around} (hh : A.handled = none) (it l : Addr) (hne : l ≠ it) (items : Array Value) : Draws prog w A it [it, l] items.size (fun i v => items[i]? = some v) (fun i h => ItB t h it l i ∧ HqB t h l items) := by
  cases t with
  | true => exact Draws.tuple hh it l hne items
  | false => exact Draws.list hh it l hne items
def itO (t : Bool) (l : Addr) : Obj := match t with
  | true => { cls := .type "tuple_iterator", data := .fields #[.ref l, .int 0 0] }
  | false => { cls := .type "list_iterator", data := .fields #[.ref l, .int 0 0] }
theorem begB (t : Bool) (l : Addr) (items : Array Value) : Begins (.ref l) (itO t l) fun h => HqB t h l items := by
  cases t with
  | true => exact begins_tuple l items
  | false => exact begins_list l items
theorem itB_new {t : Bool} {h : Heap} {a l : Addr} (e : h.get? a = some (itO t l)) : ItB t h a l 0 := by
  cases t with
  | true => exact ⟨_, e, rfl, rfl⟩
  | false => exact ⟨_, e, rfl, rfl⟩
/-- a and b as they stand at each turn, the items in new pairs -/
def ItzB (t1 t2 : Bool) (K : PySem.W.Frag) (a b : Addr) : It where
  go := fun i H => ∃ (xs ys : List V) (x y : V), SqB t1 K H a xs ∧ SqB t2 K H b ys ∧ xs[i]? = some x ∧ ys[i]? = some y
  yld := fun i H v H' => ∃ T x y, v = .ref T ∧ H T = none ∧ H' = upd H T (.tup [x, y]) ∧ (∀ xs, SqB t1 K H a xs → xs[i]? = some x) ∧ ∀ ys, SqB t2 K H b ys → ys[i]? = some y
  stop := fun i H => ∃ xs ys : List V, SqB t1 K H a xs ∧ SqB t2 K H b ys ∧ i ≤ xs.length ∧ i ≤ ys.length ∧ (xs.length ≤ i ∨ ys.length ≤ i)
structure ApB (z TI TO i1 i2 a b : Addr) : Prop where
  s : ZipSep2 z TI TO i1 i2 [i1, a] [i2, b]
  a1 : a ≠ i1
  b2 : b ≠ i2
theorem turnB {P : Program} {w : World} {K : PySem.W.Frag} {elts : List Expr} {kk : Nat} {tpos : Pos} {t1 t2 : Bool} {a b z TI TO i1 i2 : Addr} (D : ApB z TI TO i1 i2 a b) :
    Turn P w K (.Tuple elts kk tpos) (ItzB t1 t2 K a b) [z, TI, TO, i1, i2] z (fun i h => IsZip h z TI TO .none ∧ IsTupOf2 h TI (.ref i1) (.ref i2) ∧ (∃ x y, IsTupOf2 h TO x y) ∧ ItB t1 h i1 a i ∧ ItB t2 h i2 b i) := by
  have five : ∀ {c : Addr}, c ∈ [z, TI, TO, i1, i2] → c = z ∨ c = TI ∨ c = TO ∨ c = i1 ∨ c = i2 := fun hc => by simpa using hc
  refine ⟨by simp, fun i h ⟨hz, hT, ⟨x, y, hO⟩, g1, g2⟩ c hc => ?_, fun i h h' ⟨hz, hT, ⟨x, y, hO⟩, g1, g2⟩ k => ⟨k z (by simp) _ hz, k TI (by simp) _ hT, ⟨x, y, k TO (by simp) _ hO⟩, itB_at g1 fun o q => k i1 (by simp) o q, itB_at g2 fun o q => k i2 (by simp) o q⟩, ?_, ?_, fun A i s Q E st q => wpAny_pyIter_zip st.1 q⟩
  · rcases five hc with rfl | rfl | rfl | rfl | rfl
    · exact ⟨_, hz, fun v q => nomatch q⟩
    · exact ⟨_, hT, fun v q => nomatch q⟩
    · exact ⟨_, hO, fun v q => nomatch q⟩
    · exact itB_ob g1
    · exact itB_ob g2
  · rintro X rfl rfl rfl hc i pins s0 σ H E I hf ⟨hz, hT, ⟨x0, y0, hO⟩, g1, g2⟩ ⟨xs, ys, x, y, qx, qy, ex, ey⟩
    obtain ⟨us, ru, hu, _⟩ := invB I qx
    obtain ⟨vs, rv, hv, _⟩ := invB I qy
    obtain ⟨u, eu, rxu⟩ := ru.get ex
    obtain ⟨v, ev, ryv⟩ := rv.get ey
    have hA : X.A.in1.handled = none := I.ok.hd hc
    have lu : i < us.toArray.size := by simpa using (List.getElem?_eq_some_iff.mp eu).1
    have lv : i < vs.toArray.size := by simpa using (List.getElem?_eq_some_iff.mp ev).1
    have zlt : z < s0.heap.objs.size := Heap.lt_size hz
    refine wpAny_pyNext_zipD2_item D.s (drawB (t := t1) hA i1 a D.a1 us.toArray) (drawB (t := t2) hA i2 b D.b2 vs.toArray) hz hT hO ⟨g1, hu⟩ ⟨g2, hv⟩ lu lv fun u' v' h1 tk p1 p2 hz1 hO1 st1 st2 hP hsz hk => ?_
    have eu' : u' = u := by
      have : us[i]? = some u' := by simpa using p1
      rw [eu] at this; exact (Option.some.inj this).symm
    have ev' : v' = v := by
      have : vs[i]? = some v' := by simpa using p2
      rw [ev] at this; exact (Option.some.inj this).symm
    subst eu' ev'
    refine ⟨_, rfl, wpAny_letOwnedTupleGo_zip (s := { s0 with heap := h1, toks := tk }) hz1 fun h2 hz2 sb => ?_⟩
    have hP2 : h2.get? s0.heap.objs.size = some { cls := .type "tuple", data := .seq #[u', v'] } := (sb.2 _ (Nat.ne_of_gt zlt)).trans hP
    have nw : ObjOk X.prog X.w (upd H s0.heap.objs.size (.tup [x, y])) h2 s0.heap.objs.size (.tup [x, y]) :=
      ⟨by show 2 ≤ sizeLine; decide, [u', v'], .cons rxu (.cons ryv .nil), ⟨_, hP2, rfl, _, rfl⟩⟩
    have I1 : Inv X pins σ (upd H s0.heap.objs.size (.tup [x, y])) { s0 with heap := h2, toks := tk } :=
      I.turnedNew (t' := tk) (ch := [z, TI, TO, i1, i2]) (fun c o hb q => (sb.2 c (fun e => hb (by simp [e]))).trans (hk c o (fun e => hb (by simp [e])) (fun e => hb (by simp [e])) (fun e => hb (by simp [e])) (fun e => hb (by simp [e])) q)) hf (Nat.le_refl _) nw
    refine ⟨.ref s0.heap.objs.size, _, I1, rfl, ⟨_, x, y, rfl, I.hok.fresh (Nat.le_refl _), rfl, fun l hl => by rw [injB I hl qx]; exact ex, fun l hl => by rw [injB I hl qy]; exact ey⟩, ⟨hz2, ?_, ⟨u', v', ?_⟩, ?_, ?_⟩, fun c hcm => ?_⟩
    · exact (sb.2 _ D.s.TIz).trans (hk _ _ D.s.TIz D.s.TITO D.s.TIi1 D.s.TIi2 hT)
    · exact (sb.2 _ D.s.TOz).trans hO1
    · exact itB_at st1.1 fun o q => (sb.2 _ D.s.zi1.symm).trans q
    · exact itB_at st2.1 fun o q => (sb.2 _ D.s.zi2.symm).trans q
    · have hlt : c < s0.heap.objs.size := by
        rcases five hcm with rfl | rfl | rfl | rfl | rfl
        · exact zlt
        · exact Heap.lt_size hT
        · exact Heap.lt_size hO
        · obtain ⟨_, e, _⟩ := itB_ob g1; exact Heap.lt_size e
        · obtain ⟨_, e, _⟩ := itB_ob g2; exact Heap.lt_size e
      rw [upd_ne (Nat.ne_of_lt hlt)]
      exact (hf c hcm).1
  · rintro X rfl rfl rfl hc i pins s0 σ H E I hf ⟨hz, hT, ⟨x0, y0, hO⟩, g1, g2⟩ ⟨xs, ys, qx, qy, l1, l2, en⟩
    obtain ⟨us, ru, hu, _⟩ := invB I qx
    obtain ⟨vs, rv, hv, _⟩ := invB I qy
    have hA : X.A.in1.handled = none := I.ok.hd hc
    have m1 := ru.length
    have m2 := rv.length
    have s1 : us.toArray.size = us.length := by simp
    have s2 : vs.toArray.size = vs.length := by simp
    exact wpAny_pyNext_zipD2_end D.s (drawB (t := t1) hA i1 a D.a1 us.toArray) (drawB (t := t2) hA i2 b D.b2 vs.toArray) hz hT hO ⟨g1, hu⟩ ⟨g2, hv⟩ (by omega) (by omega) (by omega) fun h1 tk hk => ⟨rfl, I.turnedL (t' := tk) (ch := [z, TI, TO, i1, i2]) (fun c o hb q =>
      hk c o (fun e => hb (by simp [e])) (fun e => hb (by simp [e])) (fun e => hb (by simp [e])) (fun e => hb (by simp [e])) q) hf⟩
def iZipB (t1 t2 : Bool) (K : PySem.W.Frag) (ta : TA) : TI := fun σ H R => ta σ H fun vs H1 => ∃ a b xs ys, vs = [.ref a, .ref b] ∧ SqB t1 K H1 a xs ∧ SqB t2 K H1 b ys ∧ R (ItzB t1 t2 K a b) H1
theorem pi_zipB {t1 t2 : Bool} {X : Cx} {e e2 : Expr} {ta : TA} {p pos tpos : Pos} {elts : List Expr} {kk : Nat} (hg : Gl X "zip") (hm : X.mg "zip" = none) (ha : PA X [e, e2] ta)
    (hs : starEach [e, e2] X.env = (false, eval e X.env) :: starEach [e2] X.env) (hpl : (backTo pos (starEach [e2] X.env)).any (·.1) = false) : PI X (.Tuple elts kk tpos) (.Call (.Name "zip" p) [e, e2] [] pos) (iZipB t1 t2 X.K ta) := by
  constructor
  intro pins0 s0 σ0 H0 R0 I0 h0
  refine Call_ (ld_blt I0 hg hm PyProof.Rows.boot_zip (PyProof.Rows.callWith_type1 (thn (ha.run pos pins0 s0 σ0 H0 _ I0 h0) fun us s1 ⟨vs, H1, I1, r1, q1⟩ => ?_) hs hpl))
  obtain ⟨a, b, xs, ys, rfl, qx, qy, q⟩ := q1
  obtain ⟨u1, u2, rfl, ra, rb⟩ := vals2 r1
  cases ra
  cases rb
  obtain ⟨as, _, pa, la⟩ := invB I1 qx
  obtain ⟨bs, _, pb, lb⟩ := invB I1 qy
  have new5 : ∀ c, c ∈ [s1.heap.objs.size + 4, s1.heap.objs.size + 2, s1.heap.objs.size + 3, s1.heap.objs.size, s1.heap.objs.size + 1] → FpOk X pins0 H1 c := fun c hc => by
    have hle : s1.heap.objs.size ≤ c := by
      rcases (show c = s1.heap.objs.size + 4 ∨ c = s1.heap.objs.size + 2 ∨ c = s1.heap.objs.size + 3 ∨ c = s1.heap.objs.size ∨ c = s1.heap.objs.size + 1 by simpa using hc) with e | e | e | e | e <;> omega
    exact I1.fpOk hle (I1.hok.fresh hle)
  refine zip_begins2 (begB t1 a as.toArray) (begB t2 b bs.toArray) pa pb fun h1 hz hT hO e1 e2 hsz hk => wpAny_pyIter_zip hz ?_
  have I2 : Inv X pins0 σ0 H1 { s1 with heap := h1 } := I1.kept (t' := s1.toks) hk
  have A := PySem.W.ktu_apart s1.heap.objs.size a b la lb
  have nin : ∀ {x y z : Addr}, x ≠ y → x ≠ z → x ∉ [y, z] := fun h1 h2 => by simp [h1, h2]
  have ap : ApB (s1.heap.objs.size + 4) (s1.heap.objs.size + 2) (s1.heap.objs.size + 3) s1.heap.objs.size (s1.heap.objs.size + 1) a b :=
    ⟨⟨A.TIz, A.TOz, A.TITO, A.TIi1, by simp, nin A.i1z.symm A.l1z.symm, nin A.TOi1 A.l1TO.symm, A.TIi2, by simp, nin A.i2z.symm A.l2z.symm, nin A.TOi2 A.l2TO.symm, nin A.i12 A.l2i1.symm, nin A.i12.symm A.l1i2.symm⟩, A.l1i1, A.l2i2⟩
  exact ⟨s1.heap.objs.size + 4, [s1.heap.objs.size + 4, s1.heap.objs.size + 2, s1.heap.objs.size + 3, s1.heap.objs.size, s1.heap.objs.size + 1], _, _, H1, rfl, I2, turnB (t1 := t1) (t2 := t2) ap, ⟨hz, hT, ⟨_, _, hO⟩, itB_new e1, itB_new e2⟩, new5, q⟩
/-! ### .. of the mirror -/
noncomputable def nfM (d : D) (L : Sto) (i : Nat) : Option (Option D) := match d with
  | .tup [.tup xs, .ref j] => match L.get j with
    | some ys => match nth xs i, nth ys i with
      | some x, some y => some (some (.tup [x, y]))
      | _, _ => @Bool.casesOn (fun _ => Option (Option D)) (Nat.ble i (lenN xs)) none (@Bool.casesOn (fun _ => Option (Option D)) (Nat.ble i (lenN ys)) none (some none))
    | none => none
  | .tup [.ref j, .tup xs] => match L.get j with
    | some ys => match nth ys i, nth xs i with
      | some y, some x => some (some (.tup [y, x]))
      | _, _ => @Bool.casesOn (fun _ => Option (Option D)) (Nat.ble i (lenN xs)) none (@Bool.casesOn (fun _ => Option (Option D)) (Nat.ble i (lenN ys)) none (some none))
    | none => none
  | _ => none
section
variable {p : Pm} {ρ : List Addr} {L : Sto} {H : Hp}
/-- a side of the pair: its items in each later store -/
def Side (p : Pm) (t : Bool) (ρ : List Addr) (H : Hp) (a : Addr) (f : Sto → Option (List D)) : Prop := ∀ ρ' L' H', Ext ρ H ρ' H' → Rl p ρ' L' H' → ∃ ds xs, f L' = some ds ∧ SqB t p.K H' a xs ∧ Dvs p H' ρ' ds xs
theorem side_ref {k : Nat} {a : Addr} (h : ρ[k]? = some a) : Side p false ρ H a fun L => L.get k := fun ρ' L' H' e r => by
  obtain ⟨ds, xs, e1, e2, e3⟩ := r.at_ k a (e.get h)
  exact ⟨ds, xs, e1, SqL.of e2, e3⟩
theorem side_tup {a : Addr} {ds : List D} {xs : List V} (r0 : Rl p ρ L H) (h : SqT p.K H a xs) (hs : Dvs p H ρ ds xs) : Side p true ρ H a fun _ => some ds := fun ρ' L' H' e r => ⟨ds, xs, rfl, sqT_mono r0 e h, hs.mono r0 e⟩
theorem ijB {t1 t2 : Bool} {a b : Addr} {f g : Sto → Option (List D)} {nf : Sto → Nat → Option (Option D)} (h1 : Side p t1 ρ H a f) (h2 : Side p t2 ρ H b g)
    (n1 : ∀ L i z, nf L i = some (some z) → ∃ ds es x y, f L = some ds ∧ g L = some es ∧ ds[i]? = some x ∧ es[i]? = some y ∧ z = .tup [x, y])
    (n2 : ∀ L i, nf L i = some none → ∃ ds es, f L = some ds ∧ g L = some es ∧ i ≤ ds.length ∧ i ≤ es.length ∧ (ds.length ≤ i ∨ es.length ≤ i)) : IJ p (ItzB t1 t2 p.K a b) nf ρ H := by
  refine ⟨fun i ρ' L' H' z e r q => ?_, fun i ρ' L' H' e r q => ?_⟩
  · obtain ⟨ds, es, x, y, f1, g1, ex, ey, rfl⟩ := n1 L' i z q
    obtain ⟨ds', xs, e1, e2, e3⟩ := h1 ρ' L' H' e r
    obtain ⟨es', ys, k1, k2, k3⟩ := h2 ρ' L' H' e r
    rw [f1] at e1; cases e1
    rw [g1] at k1; cases k1
    obtain ⟨v, v1, v2⟩ := e3.get ex
    obtain ⟨u, u1, u2⟩ := k3.get ey
    refine ⟨⟨xs, ys, v, u, e2, k2, v1, u1⟩, fun c H'' ⟨T, s1, s2, y1, y2, y3, y4, y5⟩ => ?_⟩
    have t1 := y4 xs e2
    have t2 := y5 ys k2
    rw [v1] at t1; cases t1
    rw [u1] at t2; cases t2
    subst y1 y3
    exact ⟨Ext.fresh _ y2, r.fresh _ y2, .tup (SqT.of upd_same) (.cons (v2.mono r (Ext.fresh _ y2)) (.cons (u2.mono r (Ext.fresh _ y2)) .nil))⟩
  · obtain ⟨ds, es, f1, g1, l1, l2, l3⟩ := n2 L' i q
    obtain ⟨ds', xs, e1, e2, e3⟩ := h1 ρ' L' H' e r
    obtain ⟨es', ys, k1, k2, k3⟩ := h2 ρ' L' H' e r
    rw [f1] at e1; cases e1
    rw [g1] at k1; cases k1
    have m1 := e3.length
    have m2 := k3.length
    exact ⟨xs, ys, e2, k2, by omega, by omega, by omega⟩
theorem ble_t {a b : Nat} (h : Nat.ble a b = true) : a ≤ b := Nat.le_of_ble_eq_true h
theorem ij_tl {a b : Addr} {ds : List D} {xs : List V} {k : Nat} (r0 : Rl p ρ L H) (h : SqT p.K H a xs) (hs : Dvs p H ρ ds xs) (hk : ρ[k]? = some b) : IJ p (ItzB true false p.K a b) (nfM (.tup [.tup ds, .ref k])) ρ H := by
  refine ijB (side_tup r0 h hs) (side_ref hk) (fun L i z q => ?_) fun L i q => ?_
  · unfold nfM at q
    simp only at q
    cases e : L.get k with
    | none => rw [e] at q; cases q
    | some ys =>
      rw [e] at q
      simp only [nth_eq] at q
      cases q1 : ds[i]? with
      | none => rw [q1] at q; simp only at q; cases c1 : Nat.ble i (lenN ds) <;> rw [c1] at q <;> first | (cases q; done) | (cases c2 : Nat.ble i (lenN ys) <;> rw [c2] at q <;> cases q)
      | some x =>
        cases q2 : ys[i]? with
        | none => rw [q1, q2] at q; simp only at q; cases c1 : Nat.ble i (lenN ds) <;> rw [c1] at q <;> first | (cases q; done) | (cases c2 : Nat.ble i (lenN ys) <;> rw [c2] at q <;> cases q)
        | some y => rw [q1, q2] at q; cases q; exact ⟨ds, ys, x, y, rfl, rfl, q1, q2, rfl⟩
  · unfold nfM at q
    simp only at q
    cases e : L.get k with
    | none => rw [e] at q; cases q
    | some ys =>
      rw [e] at q
      simp only [nth_eq] at q
      have key : (ds[i]? = none ∨ ys[i]? = none) ∧ i ≤ ds.length ∧ i ≤ ys.length := by
        cases q1 : ds[i]? with
        | none =>
          rw [q1] at q; simp only at q
          cases c1 : Nat.ble i (lenN ds) with
          | false => rw [c1] at q; cases q
          | true =>
            rw [c1] at q
            cases c2 : Nat.ble i (lenN ys) with
            | false => rw [c2] at q; cases q
            | true => exact ⟨.inl rfl, by have := ble_t c1; rw [lenN_eq] at this; exact this, by have := ble_t c2; rw [lenN_eq] at this; exact this⟩
        | some x =>
          cases q2 : ys[i]? with
          | some y => rw [q1, q2] at q; cases q
          | none =>
            rw [q1, q2] at q; simp only at q
            cases c1 : Nat.ble i (lenN ds) with
            | false => rw [c1] at q; cases q
            | true =>
              rw [c1] at q
              cases c2 : Nat.ble i (lenN ys) with
              | false => rw [c2] at q; cases q
              | true => exact ⟨.inr rfl, by have := ble_t c1; rw [lenN_eq] at this; exact this, by have := ble_t c2; rw [lenN_eq] at this; exact this⟩
      obtain ⟨k1, k2, k3⟩ := key
      exact ⟨ds, ys, rfl, rfl, k2, k3, by rcases k1 with z | z; exact .inl (List.getElem?_eq_none_iff.mp z); exact .inr (List.getElem?_eq_none_iff.mp z)⟩
theorem ij_lt {a b : Addr} {ds : List D} {xs : List V} {k : Nat} (r0 : Rl p ρ L H) (h : SqT p.K H b xs) (hs : Dvs p H ρ ds xs) (hk : ρ[k]? = some a) : IJ p (ItzB false true p.K a b) (nfM (.tup [.ref k, .tup ds])) ρ H := by
  refine ijB (side_ref hk) (side_tup r0 h hs) (fun L i z q => ?_) fun L i q => ?_
  · unfold nfM at q
    simp only at q
    cases e : L.get k with
    | none => rw [e] at q; cases q
    | some ys =>
      rw [e] at q
      simp only [nth_eq] at q
      cases q1 : ys[i]? with
      | none => rw [q1] at q; simp only at q; cases c1 : Nat.ble i (lenN ds) <;> rw [c1] at q <;> first | (cases q; done) | (cases c2 : Nat.ble i (lenN ys) <;> rw [c2] at q <;> cases q)
      | some x =>
        cases q2 : ds[i]? with
        | none => rw [q1, q2] at q; simp only at q; cases c1 : Nat.ble i (lenN ds) <;> rw [c1] at q <;> first | (cases q; done) | (cases c2 : Nat.ble i (lenN ys) <;> rw [c2] at q <;> cases q)
        | some y => rw [q1, q2] at q; cases q; exact ⟨ys, ds, x, y, rfl, rfl, q1, q2, rfl⟩
  · unfold nfM at q
    simp only at q
    cases e : L.get k with
    | none => rw [e] at q; cases q
    | some ys =>
      rw [e] at q
      simp only [nth_eq] at q
      have key : (ys[i]? = none ∨ ds[i]? = none) ∧ i ≤ ds.length ∧ i ≤ ys.length := by
        cases q1 : ys[i]? with
        | none =>
          rw [q1] at q; simp only at q
          cases c1 : Nat.ble i (lenN ds) with
          | false => rw [c1] at q; cases q
          | true =>
            rw [c1] at q
            cases c2 : Nat.ble i (lenN ys) with
            | false => rw [c2] at q; cases q
            | true => exact ⟨.inl rfl, by have := ble_t c1; rw [lenN_eq] at this; exact this, by have := ble_t c2; rw [lenN_eq] at this; exact this⟩
        | some x =>
          cases q2 : ds[i]? with
          | some y => rw [q1, q2] at q; cases q
          | none =>
            rw [q1, q2] at q; simp only at q
            cases c1 : Nat.ble i (lenN ds) with
            | false => rw [c1] at q; cases q
            | true =>
              rw [c1] at q
              cases c2 : Nat.ble i (lenN ys) with
              | false => rw [c2] at q; cases q
              | true => exact ⟨.inr rfl, by have := ble_t c1; rw [lenN_eq] at this; exact this, by have := ble_t c2; rw [lenN_eq] at this; exact this⟩
      obtain ⟨k1, k2, k3⟩ := key
      exact ⟨ys, ds, rfl, rfl, k3, k2, by rcases k1 with z | z; exact .inl (List.getElem?_eq_none_iff.mp z); exact .inr (List.getElem?_eq_none_iff.mp z)⟩
end
section
variable {X : Cx} {p : Pm} {Z : L2.St → Prop} {W : Wx} {pos : Pos}
noncomputable def zipTL (m : EM) : EM := fun S L => (m S L).row fun ds L1 => match ds with
  | [.tup xs, .ref j] => .ok (.tup [.tup xs, .ref j]) L1
  | _ => .bad
noncomputable def zipLT (m : EM) : EM := fun S L => (m S L).row fun ds L1 => match ds with
  | [.ref j, .tup xs] => .ok (.tup [.ref j, .tup xs]) L1
  | _ => .bad
section
variable {a b : Expr} {m : EM} {pn tpos : Pos} {elts : List Expr} {kk : Nat}
theorem ei_zipTL (hK : p.K = X.K) (hm : X.mg "zip" = none) (ha : EA X p Z W [a, b] m) (hg : Gl X "zip") (hs : starEach [a, b] X.env = (false, eval a X.env) :: starEach [b] X.env) (hpl : (backTo pos (starEach [b] X.env)).any (·.1) = false) : EI X p Z W (.Tuple elts kk tpos) (.Call (.Name "zip" pn) [a, b] [] pos) (zipTL m) nfM := ⟨PI.imp (pi_zipB (t1 := true) (t2 := false) hg hm ha.pa hs hpl) fun σ H R h => by
  obtain ⟨ρ, S, L, at0, po⟩ := h
  refine ⟨ρ, S, L, at0, (Pa.imp fun ρ1 L1 ds vs H1 e1 r1 d1 q => ?_) (poi_row po)⟩
  split at q
  · rename_i xs j
    obtain ⟨v, w, rfl, h1, h2⟩ := dvs2 d1
    cases h1 with
    | @tup c ds us hq hs' =>
      cases h2 with
      | @ref _ b hk =>
        obtain ⟨ds, ys, f1, f2, f3⟩ := r1.at_ j b hk
        exact ⟨c, b, us, ys, rfl, (by rw [← hK]; exact hq), SqL.of f2, q ρ1 H1 (Ext.refl _ _) r1 _ (by rw [← hK]; exact ij_tl r1 hq hs' hk)⟩
  · exact q.elim⟩
theorem ei_zipLT (hK : p.K = X.K) (hm : X.mg "zip" = none) (ha : EA X p Z W [a, b] m) (hg : Gl X "zip") (hs : starEach [a, b] X.env = (false, eval a X.env) :: starEach [b] X.env) (hpl : (backTo pos (starEach [b] X.env)).any (·.1) = false) : EI X p Z W (.Tuple elts kk tpos) (.Call (.Name "zip" pn) [a, b] [] pos) (zipLT m) nfM := ⟨PI.imp (pi_zipB (t1 := false) (t2 := true) hg hm ha.pa hs hpl) fun σ H R h => by
  obtain ⟨ρ, S, L, at0, po⟩ := h
  refine ⟨ρ, S, L, at0, (Pa.imp fun ρ1 L1 ds vs H1 e1 r1 d1 q => ?_) (poi_row po)⟩
  split at q
  · rename_i j xs
    obtain ⟨v, w, rfl, h1, h2⟩ := dvs2 d1
    cases h2 with
    | @tup c ds us hq hs' =>
      cases h1 with
      | @ref _ b hk =>
        obtain ⟨ds, ys, f1, f2, f3⟩ := r1.at_ j b hk
        exact ⟨b, c, ys, us, rfl, SqL.of f2, (by rw [← hK]; exact hq), q ρ1 H1 (Ext.refl _ _) r1 _ (by rw [← hK]; exact ij_lt r1 hq hs' hk)⟩
  · exact q.elim⟩
noncomputable def zipW (m : EM) : EM := fun S L => (m S L).row fun ds L1 => match ds with
  | [.ref k, .ref j] => .ok (.tup [.ref k, .ref j]) L1
  | [.tup xs, .tup ys] => .ok (.tup [.tup xs, .tup ys]) L1
  | [.tup xs, .ref j] => .ok (.tup [.tup xs, .ref j]) L1
  | [.ref j, .tup xs] => .ok (.tup [.ref j, .tup xs]) L1
  | _ => .bad
noncomputable def nfW (d : D) (L : Sto) (i : Nat) : Option (Option D) := match d with
  | .tup [.ref _, .ref _] => nfZ d L i
  | .tup [.tup _, .tup _] => nfZ d L i
  | .tup [.tup _, .ref _] => nfM d L i
  | .tup [.ref _, .tup _] => nfM d L i
  | _ => none
theorem ei_zipW (hK : p.K = X.K) (hm : X.mg "zip" = none) (ha : EA X p Z W [a, b] m) (hg : Gl X "zip" := by rfl)
    (hs : starEach [a, b] X.env = (false, eval a X.env) :: starEach [b] X.env := by rfl) (hpl : (backTo pos (starEach [b] X.env)).any (·.1) = false := by rfl) : EI X p Z W (.Tuple elts kk tpos) (.Call (.Name "zip" pn) [a, b] [] pos) (zipW m) nfW :=
  ⟨PI.imp (PI.either (ei_zip hK hm ha hg hs hpl).pi (PI.either (ei_zipTL hK hm ha hg hs hpl).pi (ei_zipLT hK hm ha hg hs hpl).pi)) fun σ H R q => by
    obtain ⟨ρ, S, L, at0, po⟩ := q
    unfold zipW at po
    cases hm0 : m S L with
    | ok d L1 =>
      rw [hm0] at po
      cases d with
      | tup ds =>
        have po1 : PoI p W σ (fun ρ' L' d H' => ∀ J, IJ p J (nfW d) ρ' H' → R J H') ρ H (match (generalizing := false) ds with
          | [.ref k, .ref j] => .ok (.tup [.ref k, .ref j]) L1
          | [.tup xs, .tup ys] => .ok (.tup [.tup xs, .tup ys]) L1
          | [.tup xs, .ref j] => .ok (.tup [.tup xs, .ref j]) L1
          | [.ref j, .tup xs] => .ok (.tup [.ref j, .tup xs]) L1
          | _ => .bad) := po
        split at po1
        · exact .inl ⟨ρ, S, L, at0, by unfold zip2; rw [hm0]; exact po1⟩
        · exact .inl ⟨ρ, S, L, at0, by unfold zip2; rw [hm0]; exact po1⟩
        · exact .inr (.inl ⟨ρ, S, L, at0, by unfold zipTL; rw [hm0]; exact po1⟩)
        · exact .inr (.inr ⟨ρ, S, L, at0, by unfold zipLT; rw [hm0]; exact po1⟩)
        · exact po1.elim
      | _ => exact po.elim
    | err c L1 => rw [hm0] at po; exact .inl ⟨ρ, S, L, at0, by unfold zip2; rw [hm0]; exact po⟩
    | bad => rw [hm0] at po; exact po.elim⟩
end
/-! ### a call without arguments whose answer is known -/
theorem Rl.kept {ρ ρ' : List Addr} {L : Sto} {H H' : Hp} (r : Rl p ρ L H) (e : Ext [] H ρ' H') : Ext ρ H ρ H' ∧ Rl p ρ L H' := by
  have x : Ext ρ H ρ H' := ⟨⟨[], by simp, fun _ h => nomatch h⟩, fun a o h _ => e.keep a o h (by simp), e.free⟩
  refine ⟨x, r.nd, r.len, fun i a hi => ?_⟩
  obtain ⟨ds, xs, e1, e2, e3⟩ := r.at_ i a hi
  exact ⟨ds, xs, e1, e.keep a _ e2 (by simp), e3.mono r x⟩
theorem ee_call0T {x : Str} {pn : Pos} {k j : Nat} {F : Fn'} (ev : isT (F [] L0) = true) (h : Kn X.prog X.w X.K X.mg X.base p k x 0 F) (hr : Room j X.A) (hkj : k ≤ j) (tk : Takes X W) (hg : Gl X x := by rfl)
    (hdb : (x == ("__debug__" : Str)) = false := by decide) : EE X p Z W (.Call (.Name x pn) [] [] pos) (mC (.bl true)) := by
  obtain ⟨f, fd, ps, hF, hm, hk, hb⟩ := h.ex
  constructor
  constructor
  rintro pins0 s0 σ0 H0 Q0 I0 ⟨ρ, S, L, a, po⟩
  refine wpAny_Call_Name_kw (ld_glob I0 hg hm (PySem.W.callWith_K0 I0.kIn hk (run_fnS (us := []) (E := WE W) (hF.mono hkj) hr hb (passAt tk σ0) I0 .nil ⟨rfl, [], [], L0, rl_L0, .nil, ?_⟩)) hdb)
  unfold isT at ev
  split at ev
  · rename_i L' e
    rw [e]
    intro ρ' H' v x' _ d
    cases d
    obtain ⟨x1, r1⟩ := a.rl.kept x'
    exact po ρ H' (.bl true) x1 r1 (.bl true)
  · cases ev
/-! ### equality of lists -/
noncomputable def toPyN (fuel : Nat) (L : Sto) : D → Option PyData := @Nat.rec (fun _ => D → Option PyData) toPy (fun _ ih d => match d with
  | .ref k => match L.get k with
    | some xs => @Option.casesOn _ (fun _ => Option PyData) (@List.rec D (fun _ => Option (List PyData)) (some []) (fun x _ ihs => @Option.casesOn _ (fun _ => Option (List PyData)) (ih x) none fun y => @Option.casesOn _ (fun _ => Option (List PyData)) ihs none fun l => some (y :: l)) xs) none fun l => some (.list l)
    | none => none
  | .tup xs => @Option.casesOn _ (fun _ => Option PyData) (@List.rec D (fun _ => Option (List PyData)) (some []) (fun x _ ihs => @Option.casesOn _ (fun _ => Option (List PyData)) (ih x) none fun y => @Option.casesOn _ (fun _ => Option (List PyData)) ihs none fun l => some (y :: l)) xs) none fun l => some (.tuple l)
  | d => toPy d) fuel
noncomputable def allPy (f : D → Option PyData) (xs : List D) : Option (List PyData) := @List.rec D (fun _ => Option (List PyData)) (some []) (fun x _ ihs => @Option.casesOn _ (fun _ => Option (List PyData)) (f x) none fun y => @Option.casesOn _ (fun _ => Option (List PyData)) ihs none fun l => some (y :: l)) xs
theorem allPy_ok {ρ : List Addr} {H : Hp} {f : D → Option PyData} (hf : ∀ {d x e}, Dv p H ρ d x → f d = some e → Dp p.K H x e) : ∀ {ds : List D} {xs : List V} {es : List PyData}, Dvs p H ρ ds xs → allPy f ds = some es → DpAll p.K H xs es
  | _, _, _, .nil, h => by cases h; exact .nil
  | _, _, _, .cons (d := d) (ds := ds) hd hs, h => by
    have h' : @Option.casesOn _ (fun _ => Option (List PyData)) (f d) none (fun y => @Option.casesOn _ (fun _ => Option (List PyData)) (allPy f ds) none fun l => some (y :: l)) = some _ := h
    cases q : f d with
    | none => rw [q] at h'; cases h'
    | some e =>
      rw [q] at h'
      cases q2 : allPy f ds with
      | none => rw [q2] at h'; cases h'
      | some l =>
        rw [q2] at h'
        cases h'
        exact .cons (hf hd q) (allPy_ok hf hs q2)
theorem toPyN_ok {ρ : List Addr} {H : Hp} {L : Sto} (r : Rl p ρ L H) : ∀ (n : Nat) {d : D} {x : V} {e : PyData}, Dv p H ρ d x → toPyN n L d = some e → Dp p.K H x e
  | 0, _, _, _, hd, h => dp_of hd h
  | n + 1, d, x, e, hd, h => by
    cases hd with
    | @ref k a hk =>
      obtain ⟨ds, xs, e1, e2, e3⟩ := r.at_ k a hk
      have h' : (match L.get k with
        | some xs => @Option.casesOn _ (fun _ => Option PyData) (allPy (toPyN n L) xs) none fun l => some (.list l)
        | none => none) = some e := h
      rw [e1] at h'
      simp only at h'
      cases q : allPy (toPyN n L) ds with
      | none => rw [q] at h'; cases h'
      | some l =>
        rw [q] at h'
        cases h'
        exact .lst (SqL.of e2) (allPy_ok (fun hd h => toPyN_ok r n hd h) e3 q)
    | @tup a ds xs hq hs =>
      have h' : (@Option.casesOn _ (fun _ => Option PyData) (allPy (toPyN n L) ds) none fun l => some (.tuple l)) = some e := h
      cases q : allPy (toPyN n L) ds with
      | none => rw [q] at h'; cases h'
      | some l =>
        rw [q] at h'
        cases h'
        exact .tup hq (allPy_ok (fun hd h => toPyN_ok r n hd h) hs q)
    | non => exact dp_of (ρ := ρ) .non h
    | bl b => exact dp_of (ρ := ρ) (.bl b) h
    | int i => exact dp_of (ρ := ρ) (.int i) h
    | str l => exact dp_of (ρ := ρ) (.str l) h
    | ty n => exact dp_of (ρ := ρ) (.ty n) h
    | fn k => exact dp_of (ρ := ρ) (.fn k) h
    | rng hq => exact dp_of (ρ := ρ) (.rng hq) h
    | frl hq hs => exact dp_of (ρ := ρ) (.frl hq hs) h
    | frk hq hs => exact dp_of (ρ := ρ) (.frk hq hs) h
    | any => exact dp_of (ρ := ρ) (.any x) h
noncomputable def oEqN (neg : Bool) (d e : D) (L : Sto) : Out := match toPyN 6 L d, toPyN 6 L e with
  | some a, some b => iff_ (SeqAt.shaped a) (iff_ (SeqAt.shaped b) (@Bool.casesOn (fun _ => Out) (PyData.eqv a b) (.ok (.bl neg) L) (.ok (.bl (!neg)) L)) .bad) .bad
  | _, _ => .bad
theorem eqN {neg : Bool} {σ : L2.St} {ρ : List Addr} {L : Sto} {H : Hp} {d e : D} {x y : V} {Q : VK} (r : Rl p ρ L H) (hd : Dv p H ρ d x) (he : Dv p H ρ e y) (po : Po p W σ (fun _ _ _ v H' => Q v H') ρ H (oEqN neg d e L)) :
    ∃ a b, Dp p.K H x a ∧ Dp p.K H y b ∧ SeqAt.shaped a = true ∧ SeqAt.shaped b = true ∧ Q (.bl (if neg then !PyData.eqv a b else PyData.eqv a b)) H := by
  unfold oEqN at po
  split at po
  · rename_i a b ea eb
    obtain ⟨c1, po1⟩ := iff_t po
    obtain ⟨c2, po2⟩ := iff_t po1
    refine ⟨a, b, toPyN_ok r 6 hd ea, toPyN_ok r 6 he eb, c1, c2, ?_⟩
    cases c : PyData.eqv a b with
    | true =>
      rw [c] at po2
      have := po_ok po2 r (.bl _)
      cases neg <;> exact this
    | false =>
      rw [c] at po2
      have := po_ok po2 r (.bl _)
      cases neg <;> exact this
  · exact po.elim
noncomputable def oEqL (d e : D) (L : Sto) : Out := match d with
  | .ref _ => oEqN false d e L
  | _ => match e with
    | .ref _ => oEqN false d e L
    | _ => oEq d e L
noncomputable def oNeL (d e : D) (L : Sto) : Out := match d with
  | .ref _ => oEqN true d e L
  | _ => match e with
    | .ref _ => oEqN true d e L
    | _ => oNe d e L
theorem op2_eqL : Op2 p (rEqD p.K) oEqL := by
  intro W σ ρ L H d e x y Q r hd he po
  unfold oEqL at po
  split at po
  · obtain ⟨a, b, h1, h2, h3, h4, q⟩ := eqN r hd he po
    exact ⟨a, b, h1, h2, h3, h4, q⟩
  · split at po
    · obtain ⟨a, b, h1, h2, h3, h4, q⟩ := eqN r hd he po
      exact ⟨a, b, h1, h2, h3, h4, q⟩
    · exact op2_eq r hd he po
theorem op2_neL : Op2 p (rNeD p.K) oNeL := by
  intro W σ ρ L H d e x y Q r hd he po
  unfold oNeL at po
  split at po
  · obtain ⟨a, b, h1, h2, h3, h4, q⟩ := eqN r hd he po
    exact ⟨a, b, h1, h2, h3, h4, q⟩
  · split at po
    · obtain ⟨a, b, h1, h2, h3, h4, q⟩ := eqN r hd he po
      exact ⟨a, b, h1, h2, h3, h4, q⟩
    · exact op2_ne r hd he po
section
variable {a b : Expr} {ma mb : EM}
theorem c_eqL (hK : p.K = X.K) (hu : X.A.units + 64 < cLine) (ha : EE X p Z W a ma) (hb : EE X p Z W b mb) (hm : behindInMarks .Eq b = false := by rfl) : EE X p Z W (.Compare a [.Eq] [b] pos) (m2 oEqL ma mb) := ee_cmp (by rw [hK]; exact op_eqD hu) op2_eqL ha hb hm
theorem c_neL (hK : p.K = X.K) (hu : X.A.units + 64 < cLine) (ha : EE X p Z W a ma) (hb : EE X p Z W b mb) (hm : behindInMarks .NotEq b = false := by rfl) : EE X p Z W (.Compare a [.NotEq] [b] pos) (m2 oNeL ma mb) := ee_cmp (by rw [hK]; exact op_neD hu) op2_neL ha hb hm
theorem t_eqL (hK : p.K = X.K) (hu : X.A.units + 64 < cLine) (ha : EE X p Z W a ma) (hb : EE X p Z W b mb) (hm : behindInMarks .Eq b = false := by rfl) : ET X p Z W (.Compare a [.Eq] [b] pos) (m2 oEqL ma mb) := et_cmp (by rw [hK]; exact op_eqD hu) op2_eqL ha hb hm
theorem t_neL (hK : p.K = X.K) (hu : X.A.units + 64 < cLine) (ha : EE X p Z W a ma) (hb : EE X p Z W b mb) (hm : behindInMarks .NotEq b = false := by rfl) : ET X p Z W (.Compare a [.NotEq] [b] pos) (m2 oNeL ma mb) := et_cmp (by rw [hK]; exact op_neD hu) op2_neL ha hb hm
end
end
end Mr

namespace Mr
open PySem PySem.Spec PyProof.Rows L2
/-! ### a call of an expression that yields a def -/
section
variable {X : Cx} {p : Pm} {Z : L2.St → Prop} {W : Wx} {pos : Pos}
noncomputable def mCallX (n : Nat) (tb : Nat → Option Fn') (mf ms : EM) : EM := fun S L => (mf S L).bd fun d L1 => match d with
  | .fn k => match tb k with
    | some F => mCall n F ms S L1
    | none => .bad
  | _ => .bad
theorem ee_callX {fe e : Expr} {es : List Expr} {n j : Nat} {tb : Nat → Option Fn'} {mf ms : EM} (hT : ∀ k F, tb k = some F → Fnd X.prog X.w X.K X.mg X.base p j k n F) (hr : Room j X.A) (tk : Takes X W) (hf : EE X p Z W fe mf) (ha : EA X p Z W (e :: es) ms)
    (hc : eval (.Call fe (e :: es) [] pos) X.env = (do callWith pos (← eval fe X.env) [] (backTo pos (starEach (e :: es) X.env)) (backToKw pos (keywordEach [] X.env))) := by rfl)
    (he : starEach (e :: es) X.env = (false, eval e X.env) :: starEach es X.env := by rfl) (hpl : (backTo pos (starEach es X.env)).any (·.1) = false := by rfl) : EE X p Z W (.Call fe (e :: es) [] pos) (mCallX n tb mf ms) := by
  constructor
  constructor
  rintro pins0 s0 σ0 H0 Q0 I0 ⟨ρ, S, L, a, po⟩
  refine Call_ (thn (hf.pe.run pins0 s0 σ0 H0 (fun v H1 => ∃ k F, v = .ref (p.A k) ∧ tb k = some F ∧ tCallS (spM p n F) (WE W) (TrA p Z W ms) σ0 H1 Q0) I0 ⟨ρ, S, L, a, (Po.imp fun ρ1 L1 d v H1 e1 r1 d1 q => ?_) (Po.bd po)⟩) fun u s1 ⟨v, H1, I1, r1, q1⟩ => ?_) hc
  · cases d1 with
    | fn k =>
      simp only at q
      split at q
      · rename_i F hF
        exact ⟨k, F, rfl, hF, tr_call ⟨ρ1, S, L1, a.ext e1 r1, q⟩⟩
      · exact q.elim
    | _ => exact q.elim
  · obtain ⟨k, F, rfl, hF, q⟩ := q1
    cases r1
    obtain ⟨fd, ps, f1, f2, f3⟩ := (hT k F hF).ex
    refine PySem.W.callWith_K (h₀ := X.base) I1.ok.mod.kin f2 (thn (ha.pa.run pos pins0 s1 σ0 _ _ I1 q) fun us s2 ⟨vs, H2, I2, r, q⟩ => ⟨I2.kIn, ?_⟩) he hpl
    exact run_fnS f1 hr f3 (passAt tk σ0) I2 r q
/-! ### isqrt -/
def rIsqrt : List V → Hp → VK → Prop := fun vs H Q => ∃ a : Int, vs = [.int a] ∧ (0 ≤ a ∧ a.toNat.log2 < 13000) ∧ Q (.int ((Float64.isqrt a.toNat : Nat) : Int)) H
theorem cr_isqrt : CallR X (.builtin "math.isqrt") rIsqrt := by
  rintro pins0 s0 σ0 H0 vs us Q0 I0 r0 ⟨a, rfl, ⟨h1, h2⟩, q0⟩
  cases r0 with
  | cons r1 r2 =>
    cases r2
    obtain ⟨t, rfl⟩ := r1
    exact call_function_meets PySem.W.MGF.kind_isqrt PySem.W.MGF.plain_isqrt PySem.W.MGF.entry_isqrt (PySem.W.MGF.args_isqrt _) (PySem.W.mg_run_isqrt a t (by omega) (by omega) (by omega)).meets ⟨.int _, H0, I0.tok _, ⟨_, rfl⟩, q0⟩
noncomputable def oIsqrt (ds : List D) (L : Sto) : Out := match ds with
  | [.int (.ofNat n)] => iff_ (Nat.blt (Nat.log2 n) 13000) (fN (Float64.isqrt n) fun k => .ok (.int (.ofNat k)) L) .bad
  | _ => .bad
theorem opn_isqrt : OpN p rIsqrt oIsqrt := by
  intro W σ ρ L H ds vs Q r hd po
  unfold oIsqrt at po
  split at po
  · rename_i n
    obtain ⟨v, rfl, h⟩ := dvs1 hd
    cases h
    obtain ⟨c, po1⟩ := iff_t po
    rw [fN_eq] at po1
    exact ⟨(n : Int), rfl, ⟨by omega, by rw [Int.toNat_natCast]; exact blt_t c⟩, by rw [Int.toNat_natCast]; exact po_ok po1 r (.int _)⟩
  · exact po.elim
theorem f_isqrt {pn : Pos} {a : Expr} {ms : EM} (hm : X.mg "isqrt" = some (.builtin "math.isqrt")) (ha : EA X p Z W [a] ms) (hg : Gl X "isqrt" := by rfl) (he : starEach [a] X.env = (false, eval a X.env) :: starEach [] X.env := by rfl) : EE X p Z W (.Call (.Name "isqrt" pn) [a] [] pos) (mN oIsqrt ms) := ee_bfun cr_isqrt opn_isqrt hm ha hg (by decide) he rfl
end
/-! ### a list is unpacked -/
section
variable {prog : Program} {w : World} {A : Around} {E : Value → Shared → Prop}
theorem drawsL {it l : Addr} {items : Array Value} (hne : l ≠ it) : ∀ (n i : Nat) (s : Shared) (Q : List Value → Shared → Prop), s.heap.IsListIter it l i → s.heap.IsList l items → i + n ≤ items.size →
    (∀ h', h'.IsListIter it l (i + n) → Heap.SameBut it s.heap h' → Q ((items.toList.drop i).take n) { s with heap := h' }) → wpAny (model prog w) A (draw (.ref it) n) Q E s := by
  intro n
  induction n with
  | zero => exact fun i s Q g _ _ q => wpAny_pure (by simpa using q s.heap g (Heap.SameBut.refl ..))
  | succ n ih =>
    intro i s Q g hl le q
    have lt : i < items.size := by omega
    show wpAny _ _ (pyNext (.ref it) >>= _) Q E s
    refine wpAny_bind (wpAny_pyNext_list_item g hl (x := items[i]) (by simp [lt]) fun h1 g1 b1 => wpAny_bind (wpAny_holding (ih (i + 1) _ _ g1 (hl.extBut b1.extBut hne) (by omega) fun h2 g2 b2 => wpAny_pure ?_)))
    have e : items.toList.drop i = items[i] :: items.toList.drop (i + 1) := by simp [List.drop_eq_getElem_cons, lt]
    have z := q h2 (by rw [show i + (n + 1) = i + 1 + n by omega]; exact g2) (b1.trans b2)
    rw [e, List.take_succ_cons] at z
    exact z
theorem unpackL {s : Shared} {l : Addr} {items : Array Value} {Q : List Value → Shared → Prop} (hh : A.handled = none) (hl : s.heap.IsList l items)
    (hQ : ∀ h', Heap.ExtBut s.heap.objs.size s.heap h' → Q items.toList { s with heap := h' }) : wpAny (model prog w) A (unpackItems (.ref l) items.size none) Q E s := by
  have lt : l ≠ s.heap.objs.size := by obtain ⟨o, ho, _⟩ := id hl; exact Nat.ne_of_lt (Heap.lt_size ho)
  unfold unpackItems notIterableAtAll
  refine wpAny_bind (wpAny_bind (wpAny_specialOf hl.typeIs slot_list_iter.lookup (wpAny_pure ?_)))
  simp only [Bool.false_eq_true, if_false]
  refine wpAny_bind (wpAny_holding (wpAny_pyIter_list hl (wpAny_bind (wpAny_holding (drawsL lt items.size 0 _ _ ⟨_, Heap.get?_push_size _ rfl, rfl, rfl⟩ (hl.push _) (by omega) fun h1 g1 b1 => ?_)))))
  have all : List.take items.size (List.drop 0 items.toList) = items.toList := by rw [List.drop_zero]; exact List.take_of_length_le (by simp)
  rw [all, if_neg (by simp)]
  refine wpAny_bind (wpAny_holding (wpAny_pyNext_list_end hh g1 ((hl.push _).extBut b1.extBut lt) (by simp) fun h2 e2 => ?_))
  simp only [Option.isSome_none, Bool.false_eq_true, if_false]
  exact wpAny_pure (hQ h2 fun b o hb e => e2 b o hb (b1.extBut b o hb (Heap.get?_push_of_some _ e)))
end
section
variable {X : Cx} {p : Pm} {W : Wx} {pos : Pos}
def gLst (K : PySem.W.Frag) (n : Nat) (t : TGs) : TG := fun v σ H Q => ∃ a xs, v = .ref a ∧ SqL K H a xs ∧ xs.length = n ∧ t xs σ H Q
theorem pg_lst {es : List Expr} {k : Nat} {t : TGs} {n : Nat} (hc : X.calm = true) (h : PGs X es t) (hn : (assignEach es X.env).length = n) (hst : (assignEach es X.env).findIdx? (·.1) = none) : PG X (.Tuple es k pos) (gLst X.K n t) := by
  constructor
  rintro pins0 s0 σ0 H0 v0 u0 Q0 I0 r0 ⟨a, xs, rfl, hq, hl, hw⟩
  cases r0
  obtain ⟨its, rv, pl, hz⟩ := I0.list hq
  have e : (assignEach es X.env).length = its.toArray.size := by simp [hn, ← hl, rv.length]
  rw [assign_Tuple]
  refine wpAny_bind (wpAny_standAt ?_)
  unfold unpack
  rw [e, hst]
  refine wpAny_bind (wpAny_holding (unpackL (I0.ok.hd hc) pl.isList fun h1 hx => ?_))
  exact h.run pins0 _ σ0 H0 xs _ Q0 (I0.kept (t' := s0.toks) fun b o q => hx b o (Nat.ne_of_lt (Heap.lt_size q)) q) (by simpa using rv) hw
/-- a tuple or a list is unpacked -/
noncomputable def gTL (n : Nat) (gs : GM) : GM := fun d S L => match d with
  | .tup xs => @Bool.casesOn (fun _ => SO) (Nat.beq (lenN xs) n) .bad (gs (.tup xs) S L)
  | .ref i => match L.get i with
    | some xs => @Bool.casesOn (fun _ => SO) (Nat.beq (lenN xs) n) .bad (gs (.tup xs) S L)
    | none => .bad
  | _ => .bad
theorem PG.either {tg : Expr} {t u : TG} (h : PG X tg t) (h' : PG X tg u) : PG X tg (fun v σ H Q => t v σ H Q ∨ u v σ H Q) := ⟨fun pins s σ H v x Q I r hq => hq.elim (h.run pins s σ H v x Q I r) (h'.run pins s σ H v x Q I r)⟩
theorem eg_tl {es : List Expr} {k : Nat} {gs : GM} {n : Nat} (hK : p.K = X.K) (hc : X.calm = true) (h : EGs X p W es gs) (hn : (assignEach es X.env).length = n := by rfl) (hst : (assignEach es X.env).findIdx? (·.1) = none := by rfl) : EG X p W (.Tuple es k pos) (gTL n gs) := ⟨PG.imp (PG.either (pg_tup hc h.pg hn hst) (pg_lst hc h.pg hn hst)) fun v σ H Q h => by
  obtain ⟨ρ, S, L, d, a, dv, po⟩ := h
  cases dv with
  | @tup b ds xs hq hs =>
    have po1 : PoS p W ⟨Q, fun _ _ => False, fun _ _ => False, fun _ _ => False⟩ ρ H (@Bool.casesOn (fun _ => SO) (Nat.beq (lenN ds) n) .bad (gs (.tup ds) S L)) := po
    cases hb : Nat.beq (lenN ds) n with
    | true =>
      rw [hb] at po1
      exact .inl ⟨b, xs, rfl, by rw [← hK]; exact hq, by rw [← hs.length, ← lenN_eq]; exact Nat.eq_of_beq_eq_true hb, ρ, S, L, ds, a, hs, po1⟩
    | false => rw [hb] at po1; exact po1.elim
  | @ref i b hi =>
    obtain ⟨ds, xs, e1, e2, e3⟩ := a.rl.at_ i b hi
    have po1 : PoS p W ⟨Q, fun _ _ => False, fun _ _ => False, fun _ _ => False⟩ ρ H (match L.get i with
      | some xs => @Bool.casesOn (fun _ => SO) (Nat.beq (lenN xs) n) .bad (gs (.tup xs) S L)
      | none => .bad) := po
    rw [e1] at po1
    simp only at po1
    cases hb : Nat.beq (lenN ds) n with
    | true =>
      rw [hb] at po1
      exact .inr ⟨b, xs, rfl, SqL.of e2, by rw [← e3.length, ← lenN_eq]; exact Nat.eq_of_beq_eq_true hb, ρ, S, L, ds, a, e3, po1⟩
    | false => rw [hb] at po1; exact po1.elim
  | _ => exact po.elim⟩
end
end Mr

namespace Mr
open PySem PySem.Spec PyProof.Rows L2
/-! ### enumerate of a tuple -/
theorem enumNew (t : Addr) (its : Array Value) : Meets (Builtin.«enumerate.__new__» ⟨[.type "enumerate", .ref t], []⟩) (fun _ R s => s.heap.IsTuple t its ∧
    R (.ok (.ret (.ref (s.heap.push (itO true t)).objs.size))) { s with heap := (s.heap.push (itO true t)).push { cls := .type "enumerate", data := .fields #[.none, .bool false, .ref s.heap.objs.size, rawInt 0, .none, .none] } }) :=
  .of_wp fun prog w A R s0 h0 => by
    obtain ⟨hp0, g0, d0, tk0, os0⟩ := s0
    obtain ⟨ht, hR⟩ := h0
    have hT : Heap.IsTuple (Shared.heap ⟨hp0, g0, d0, tk0, os0⟩) t its := ht
    have sub0 := sub_enumerate
    obtain ⟨oT, eT, cT, nT, dT⟩ := id ht
    wp_walk using wpAny_pyIter_tuple hT, wpAny_loadPart' eT
    refine wpAny_stack_any fun st => wpAny_pure ?_
    split
    · rename_i c _ _ _ _ _
      cases (c == Value.type "enumerate") <;> (wp_walk using wpAny_pyIter_tuple hT, wpAny_loadPart' eT; exact ⟨_, rfl, hR⟩)
    · wp_walk using wpAny_pyIter_tuple hT, wpAny_loadPart' eT
      exact ⟨_, rfl, hR⟩
theorem enumCall {prog : Program} {w : World} {A : Around} {E : Value → Shared → Prop} {s : Shared} {t : Addr} {its : Array Value} {Q : Value → Shared → Prop} (ht : s.heap.IsTuple t its)
    (h : ∀ h', IsEnum h' (s.heap.objs.size + 1) s.heap.objs.size 0 .none → h'.get? s.heap.objs.size = some (itO true t) → (∀ b o, s.heap.get? b = some o → h'.get? b = some o) → Q (.ref (s.heap.objs.size + 1)) { s with heap := h' }) :
    wpAny (model prog w) A (call (.type "enumerate") [.ref t]) Q E s := by
  refine callType_new F.called_enumerate (by decide) (F.typeCall_enumerate_1 _) (F.newCall_enumerate_1 _) (fun obj => F.args_object_init_2 obj _) F.entry_enumerate_new (enumNew t its) ⟨ht, ?_⟩
  have sz : (s.heap.push (itO true t)).objs.size = s.heap.objs.size + 1 := Heap.size_push ..
  have ge : IsEnum ((s.heap.push (itO true t)).push { cls := .type "enumerate", data := .fields #[.none, .bool false, .ref s.heap.objs.size, rawInt 0, .none, .none] }) (s.heap.objs.size + 1) s.heap.objs.size 0 .none := by
    have z := Heap.get?_push_size (s.heap.push (itO true t)) (o := { cls := .type "enumerate", data := .fields #[.none, .bool false, .ref s.heap.objs.size, rawInt 0, .none, .none] }) rfl
    rw [sz] at z; exact z
  show _ ∧ _
  rw [sz]
  exact ⟨⟨_, ge, rfl⟩, h _ ge (Heap.get?_push_of_some _ (Heap.get?_push_size _ rfl)) fun b o x => Heap.get?_push_of_some _ (Heap.get?_push_of_some _ x)⟩
def IteT (K : PySem.W.Frag) (a : Addr) : It where
  go := fun i H => ∃ (xs : List V) (x : V), SqT K H a xs ∧ xs[i]? = some x
  yld := fun i H v H' => ∃ T x, v = .ref T ∧ H T = none ∧ H' = upd H T (.tup [.int (i : Nat), x]) ∧ ∀ xs, SqT K H a xs → xs[i]? = some x
  stop := fun i H => ∃ xs : List V, SqT K H a xs ∧ xs.length = i
theorem turnE {P : Program} {w : World} {K : PySem.W.Frag} {elts : List Expr} {kk : Nat} {tpos : Pos} {a e it : Addr} (h1 : e ≠ it) (h2 : e ≠ a) (h3 : a ≠ it) :
    Turn P w K (.Tuple elts kk tpos) (IteT K a) [e, it] e (fun i h => (∃ old, IsEnum h e it ((i : Nat) : Int) old) ∧ ItB true h it a i) := by
  have two : ∀ {c : Addr}, c ∈ [e, it] → c = e ∨ c = it := fun hc => by simpa using hc
  have nf : e ∉ [it, a] := by simp [h1, h2]
  refine ⟨by simp, fun i h ⟨⟨old, he⟩, g⟩ c hc => ?_, fun i h h' ⟨⟨old, he⟩, g⟩ k => ⟨⟨old, k e (by simp) _ he⟩, itB_at g fun o q => k it (by simp) o q⟩, ?_, ?_, fun A i s Q E st q => by obtain ⟨⟨_, he⟩, _⟩ := st; exact wpAny_pyIter_enum he q⟩
  · rcases two hc with rfl | rfl
    · exact ⟨_, he, fun v q => nomatch q⟩
    · exact itB_ob g
  · rintro X rfl rfl rfl hc i pins s0 σ H E I hf ⟨⟨old, he⟩, g⟩ ⟨xs, x, qx, ex⟩
    obtain ⟨us, ru, hu, _⟩ := invB (t := true) I qx
    obtain ⟨u, eu, rxu⟩ := ru.get ex
    have hA : X.A.in1.handled = none := I.ok.hd hc
    have lu : i < us.toArray.size := by simpa using (List.getElem?_eq_some_iff.mp eu).1
    have elt : e < s0.heap.objs.size := Heap.lt_size he
    refine wpAny_pyNext_enum_itemD (drawB (t := true) hA it a h3 us.toArray) he ⟨g, hu⟩ lu h1 nf fun u' hh tk p1 ho st hP hsz hk => ?_
    have eu' : u' = u := by
      have : us[i]? = some u' := by simpa using p1
      rw [eu] at this; exact (Option.some.inj this).symm
    subst eu'
    refine ⟨_, rfl, wpAny_letOwnedTupleGo_enum (s := { s0 with heap := hh, toks := tk + 1 }) ho fun h4 he4 sb => ?_⟩
    have hP2 : h4.get? s0.heap.objs.size = some { cls := .type "tuple", data := .seq #[.int i tk, u'] } := (sb.2 _ (Nat.ne_of_gt elt)).trans hP
    have nw : ObjOk X.prog X.w (upd H s0.heap.objs.size (.tup [.int (i : Nat), x])) h4 s0.heap.objs.size (.tup [.int (i : Nat), x]) :=
      ⟨by show 2 ≤ sizeLine; decide, [.int i tk, u'], .cons ⟨_, rfl⟩ (.cons rxu .nil), ⟨_, hP2, rfl, _, rfl⟩⟩
    have I1 : Inv X pins σ (upd H s0.heap.objs.size (.tup [.int (i : Nat), x])) { s0 with heap := h4, toks := tk + 1 } :=
      I.turnedNew (t' := tk + 1) (ch := [e, it]) (fun c o hb q => (sb.2 c (fun z => hb (by simp [z]))).trans (hk c o (fun z => hb (by simp [z])) (fun z => hb (by simp [z])) q)) hf (Nat.le_refl _) nw
    refine ⟨.ref s0.heap.objs.size, _, I1, rfl, ⟨_, x, rfl, I.hok.fresh (Nat.le_refl _), rfl, fun l hl => by rw [I.tuple_inj hl qx]; exact ex⟩, ⟨⟨u', ?_⟩, itB_at st.1 fun o q => (sb.2 it h1.symm).trans q⟩, fun c hcm => ?_⟩
    · have e1 : ((i + 1 : Nat) : Int) = (i : Int) + 1 := by omega
      rw [e1]; exact he4
    · have hlt : c < s0.heap.objs.size := by
        rcases two hcm with rfl | rfl
        · exact elt
        · obtain ⟨_, q, _⟩ := itB_ob g; exact Heap.lt_size q
      rw [upd_ne (Nat.ne_of_lt hlt)]
      exact (hf c hcm).1
  · rintro X rfl rfl rfl hc i pins s0 σ H E I hf ⟨⟨old, he⟩, g⟩ ⟨xs, qx, en⟩
    obtain ⟨us, ru, hu, _⟩ := invB (t := true) I qx
    have hA : X.A.in1.handled = none := I.ok.hd hc
    have m1 := ru.length
    have s1 : us.toArray.size = i := by simp; omega
    refine wpAny_pyNext_enum_endD (drawB (t := true) hA it a h3 us.toArray) he (by rw [s1]; exact ⟨g, hu⟩) fun h5 hx => ⟨rfl, ?_⟩
    obtain ⟨f0, f1, f2, f3, f4, f5⟩ := hf it (by simp)
    exact I.turned (t' := s0.toks) (fun b o hb q => hx b o hb q) f0 f1 f3 f4 f5
def iEnT (K : PySem.W.Frag) (ta : TA) : TI := fun σ H R => ta σ H fun vs H1 => ∃ a xs, vs = [.ref a] ∧ SqT K H1 a xs ∧ R (IteT K a) H1
theorem pi_enT {X : Cx} {e : Expr} {ta : TA} {p pos tpos : Pos} {elts : List Expr} {kk : Nat} (hg : Gl X "enumerate") (hm : X.mg "enumerate" = none) (ha : PA X [e] ta) (hs : starEach [e] X.env = [(false, eval e X.env)]) : PI X (.Tuple elts kk tpos) (.Call (.Name "enumerate" p) [e] [] pos) (iEnT X.K ta) := by
  constructor
  intro pins0 s0 σ0 H0 R0 I0 h0
  refine Call_ (ld_blt I0 hg hm boot_enumerate (PyProof.Rows.callWith_type1 (thn (ha.run pos pins0 s0 σ0 H0 _ I0 h0) fun us s1 ⟨vs, H1, I1, r1, q1⟩ => ?_) hs rfl))
  obtain ⟨a, xs, rfl, qx, q⟩ := q1
  cases r1 with
  | cons ra rr =>
    cases rr
    cases ra
    obtain ⟨as, _, pa, la⟩ := invB (t := true) I1 qx
    refine enumCall pa fun h1 he e1 hk => wpAny_pyIter_enum he ?_
    have I2 : Inv X pins0 σ0 H1 { s1 with heap := h1 } := I1.kept (t' := s1.toks) hk
    refine ⟨s1.heap.objs.size + 1, [s1.heap.objs.size + 1, s1.heap.objs.size], _, _, H1, rfl, I2, turnE (Nat.succ_ne_self _) (Nat.ne_of_gt (Nat.lt_succ_of_lt la)) (Nat.ne_of_lt la), ⟨⟨.none, he⟩, itB_new (t := true) e1⟩, fun b hb => ?_, q⟩
    have hle : s1.heap.objs.size ≤ b := by
      rcases (show b = s1.heap.objs.size + 1 ∨ b = s1.heap.objs.size by simpa using hb) with z | z
      · rw [z]; exact Nat.le_add_right _ _
      · rw [z]; exact Nat.le_refl _
    exact I1.fpOk hle (I1.hok.fresh hle)
/-- of a list or of a tuple -/
noncomputable def nfX (d : D) (L : Sto) (i : Nat) : Option (Option D) := match d with
  | .ref _ => nfE d L i
  | .tup xs => match nth xs i with
    | some x => some (some (.tup [.int (.ofNat i), x]))
    | none => @Bool.casesOn (fun _ => Option (Option D)) (Nat.beq (lenN xs) i) none (some none)
  | _ => none
section
variable {p : Pm} {ρ : List Addr} {L : Sto} {H : Hp}
theorem ij_enT {a : Addr} {ds : List D} {xs : List V} (r0 : Rl p ρ L H) (h : SqT p.K H a xs) (hs : Dvs p H ρ ds xs) : IJ p (IteT p.K a) (nfX (.tup ds)) ρ H := by
  refine ⟨fun i ρ' L' H' z e r q => ?_, fun i ρ' L' H' e r q => ?_⟩
  · have q' : (match nth ds i with
        | some x => some (some (D.tup [.int (.ofNat i), x]))
        | none => @Bool.casesOn (fun _ => Option (Option D)) (Nat.beq (lenN ds) i) none (some none)) = some (some z) := q
    rw [nth_eq] at q'
    cases q2 : ds[i]? with
    | none => rw [q2] at q'; simp only at q'; cases c : Nat.beq (lenN ds) i <;> rw [c] at q' <;> cases q'
    | some y =>
      rw [q2] at q'
      cases q'
      obtain ⟨v, f1, f2⟩ := hs.get q2
      have k1 := sqT_mono r0 e h
      refine ⟨⟨xs, v, k1, f1⟩, fun c H'' ⟨T, s1, y1, y2, y3, y4⟩ => ?_⟩
      have t1 := y4 xs k1
      rw [f1] at t1; cases t1
      subst y1 y3
      exact ⟨Ext.fresh _ y2, r.fresh _ y2, .tup (SqT.of upd_same) (.cons (.int _) (.cons ((f2.mono r0 e).mono r (Ext.fresh _ y2)) .nil))⟩
  · have q' : (match nth ds i with
        | some x => some (some (D.tup [.int (.ofNat i), x]))
        | none => @Bool.casesOn (fun _ => Option (Option D)) (Nat.beq (lenN ds) i) none (some none)) = some none := q
    rw [nth_eq] at q'
    cases q2 : ds[i]? with
    | some y => rw [q2] at q'; cases q'
    | none =>
      rw [q2] at q'
      simp only at q'
      cases c : Nat.beq (lenN ds) i with
      | false => rw [c] at q'; cases q'
      | true =>
        have := Nat.eq_of_beq_eq_true c
        rw [lenN_eq] at this
        exact ⟨xs, sqT_mono r0 e h, by rw [← hs.length]; exact this⟩
end
section
variable {X : Cx} {p : Pm} {Z : L2.St → Prop} {W : Wx} {pos : Pos} {a : Expr} {m : EM} {pn tpos : Pos} {elts : List Expr} {kk : Nat}
noncomputable def enmT (m : EM) : EM := fun S L => (m S L).row fun ds L1 => match ds with
  | [.tup xs] => .ok (.tup xs) L1
  | _ => .bad
noncomputable def enmX (m : EM) : EM := fun S L => (m S L).row fun ds L1 => match ds with
  | [.ref k] => .ok (.ref k) L1
  | [.tup xs] => .ok (.tup xs) L1
  | _ => .bad
theorem ei_enT (hK : p.K = X.K) (hm : X.mg "enumerate" = none) (ha : EA X p Z W [a] m) (hg : Gl X "enumerate") (hs : starEach [a] X.env = [(false, eval a X.env)]) : EI X p Z W (.Tuple elts kk tpos) (.Call (.Name "enumerate" pn) [a] [] pos) (enmT m) nfX := ⟨PI.imp (pi_enT hg hm ha.pa hs) fun σ H R h => by
  obtain ⟨ρ, S, L, at0, po⟩ := h
  refine ⟨ρ, S, L, at0, (Pa.imp fun ρ1 L1 ds vs H1 e1 r1 d1 q => ?_) (poi_row po)⟩
  split at q
  · rename_i xs
    obtain ⟨v, rfl, h1⟩ := dvs1 d1
    cases h1 with
    | @tup c ds us hq hs' => exact ⟨c, us, rfl, (by rw [← hK]; exact hq), q ρ1 H1 (Ext.refl _ _) r1 _ (by rw [← hK]; exact ij_enT r1 hq hs')⟩
  · exact q.elim⟩
theorem ei_enumX (hK : p.K = X.K) (hm : X.mg "enumerate" = none) (ha : EA X p Z W [a] m) (hg : Gl X "enumerate" := by rfl) (hs : starEach [a] X.env = [(false, eval a X.env)] := by rfl) : EI X p Z W (.Tuple elts kk tpos) (.Call (.Name "enumerate" pn) [a] [] pos) (enmX m) nfX :=
  ⟨PI.imp (PI.either (ei_enum hK hm ha hg hs).pi (ei_enT hK hm ha hg hs).pi) fun σ H R q => by
    obtain ⟨ρ, S, L, at0, po⟩ := q
    unfold enmX at po
    cases hm0 : m S L with
    | ok d L1 =>
      rw [hm0] at po
      cases d with
      | tup ds =>
        have po1 : PoI p W σ (fun ρ' L' d H' => ∀ J, IJ p J (nfX d) ρ' H' → R J H') ρ H (match (generalizing := false) ds with
          | [.ref k] => .ok (.ref k) L1
          | [.tup xs] => .ok (.tup xs) L1
          | _ => .bad) := po
        split at po1
        · exact .inl ⟨ρ, S, L, at0, by unfold enm; rw [hm0]; exact po1⟩
        · exact .inr ⟨ρ, S, L, at0, by unfold enmT; rw [hm0]; exact po1⟩
        · exact po1.elim
      | _ => exact po.elim
    | err c L1 => rw [hm0] at po; exact .inl ⟨ρ, S, L, at0, by unfold enm; rw [hm0]; exact po⟩
    | bad => rw [hm0] at po; exact po.elim⟩
end
end Mr

namespace Mr
open PySem PySem.Spec PyProof.Rows L2
/-! ### sum of a tuple -/
theorem sumT {prog : Program} {w : World} {A : Around} {E : Value → Shared → Prop} {s : Shared} {t : Addr} {its : List Value} {ns : List Int} {Q : Value → Shared → Prop} (hh : A.handled = none) (ht : s.heap.IsTuple t its.toArray) (hi : IntsAre its ns)
    (h : ∀ h' tk t', (∀ b o, s.heap.get? b = some o → h'.get? b = some o) → Q (.int ns.sum t') { s with heap := h', toks := tk }) : wpAny (model prog w) A (call (.builtin "sum") [.ref t]) Q E s := by
  obtain ⟨xs, e⟩ := hi.allInts.items
  have hn : numsOf (intItems xs).toList = ns := by rw [← e]; exact hi.numsOf
  rw [nums_intItems] at hn
  rw [e] at ht
  have tlt : t < s.heap.objs.size := by obtain ⟨_, q, _⟩ := id ht; exact Heap.lt_size q
  refine call_sum_walkG (wpAny_pyIter_tuple ht ?_)
  refine ⟨s.heap.objs.size, _, _, _, _, _, numAt xs, rfl, Walks.tuple (A := A.in1) hh _ t (Nat.ne_of_lt tlt) (intItems xs), ⟨⟨_, Heap.get?_push_size _ rfl, rfl, rfl⟩, ht.push _⟩, fun b hb => ?_, fun _ _ => intItems_at, fun h' tk t' hk => ?_⟩
  · show b < (s.heap.push _).objs.size
    rw [Heap.size_push]
    rcases List.mem_cons.mp hb with rfl | hb
    · exact Nat.lt_succ_self _
    · rw [List.mem_singleton.mp hb]; exact Nat.lt_succ_of_lt tlt
  · have z := h h' tk t' fun b o q => hk b o (fun m => by
      have e := List.mem_singleton.mp m
      exact absurd (Heap.lt_size q) (by rw [e]; exact Nat.lt_irrefl _)) (Heap.get?_push_of_some _ q)
    have e2 : preSum (numAt xs) (intItems xs).size = ns.sum := by
      have : (intItems xs).size = xs.size := by simp [intItems]
      rw [this, preSum_eq, List.take_of_length_le (by simp), hn]
    rw [e2]; exact z
def rSumT (K : PySem.W.Frag) : List V → Hp → VK → Prop := fun vs H Q => ∃ (a : Addr) (ns : List Int), vs = [V.ref a] ∧ SqT K H a (ns.map V.int) ∧ Q (.int ns.sum) H
section
variable {X : Cx} {p : Pm} {Z : L2.St → Prop} {W : Wx} {pos : Pos}
theorem cr_sumT (hc : X.calm = true) : CallR X (.builtin "sum") (rSumT X.K) := by
  rintro pins0 s0 σ0 H0 vs us Q0 I0 r0 ⟨a, ns, rfl, hs, q0⟩
  obtain ⟨its, rv, pl, _⟩ := I0.tuple hs
  rw [Vals.ref1 r0]
  exact sumT (I0.ok.hd hc) (show s0.heap.IsTuple a its.toArray from pl) rv.ints fun h' tk t' hk => ⟨.int _, H0, I0.kept hk, ⟨_, rfl⟩, q0⟩
noncomputable def sumZ (zs : List Int) (k : Int → Out) : Out := fI (@List.rec Int (fun _ => Int) 0 (fun z _ ih => Int.add z ih) zs) k
theorem sumZ_eq (zs : List Int) (k : Int → Out) : sumZ zs k = k zs.sum := by
  unfold sumZ
  rw [fI_eq]
  have : ∀ l : List Int, @List.rec Int (fun _ => Int) 0 (fun z _ ih => Int.add z ih) l = l.sum := by
    intro l
    induction l with
    | nil => rfl
    | cons z l ih =>
      show Int.add z (@List.rec Int (fun _ => Int) 0 (fun z _ ih => Int.add z ih) l) = _
      rw [ih, List.sum_cons]; rfl
  rw [this]
noncomputable def oSumX (ds : List D) (L : Sto) : Out := match ds with
  | [.tup xs] => match intsD xs with
    | some zs => sumZ zs fun z => .ok (.int z) L
    | none => .bad
  | _ => oSum ds L
theorem opn_sumX : OpN p (fun vs H Q => rSum p.K vs H Q ∨ rSumT p.K vs H Q) oSumX := by
  intro W σ ρ L H ds vs Q r hd po
  unfold oSumX at po
  split at po
  · rename_i xs
    obtain ⟨v, rfl, h⟩ := dvs1 hd
    cases h with
    | @tup a _ us hq hs =>
      split at po
      · rename_i zs eb
        rw [sumZ_eq] at po
        have ex := intsD_ok hs eb
        exact .inr ⟨a, zs, rfl, by rw [← ex]; exact hq, po_ok po r (.int _)⟩
      · exact po.elim
  · exact .inl (opn_sum r hd po)
theorem f_sumX {pn : Pos} {a : Expr} {ms : EM} (hK : p.K = X.K) (hc : X.calm = true) (hm : X.mg "sum" = none) (ha : EA X p Z W [a] ms) (hg : Gl X "sum" := by rfl) (he : starEach [a] X.env = (false, eval a X.env) :: starEach [] X.env := by rfl) : EE X p Z W (.Call (.Name "sum" pn) [a] [] pos) (mN oSumX ms) := ee_blt (by rw [hK]; exact CallR.or (cr_sum hc) (cr_sumT hc)) opn_sumX hm (by rfl) ha hg (by decide) (by decide) he rfl
end
end Mr

namespace Mr
open PySem PySem.Spec PyProof.Rows L2 RZ
/-! ### what an inner clause walks -/
theorem ij2_of {p : Pm} {J : It} {nf : Sto → Nat → Option (Option D)} {ρ : List Addr} {H : Hp} (h : ∀ ρ' L' H', Ex2 ρ H ρ' H' → Rl p ρ' L' H' → IJ p J nf ρ' H') : IJ2 p J nf ρ H :=
  ⟨fun i ρ' L' H' x e r q => (h ρ' L' H' e r).go i ρ' L' H' x (Ext.refl _ _) r q, fun i ρ' L' H' e r q => (h ρ' L' H' e r).stop i ρ' L' H' (Ext.refl _ _) r q⟩
section
variable {X : Cx} {p : Pm} {Z : L2.St → Prop} {W : Wx} {tg : Expr} {pos : Pos}
theorem ei2_list {e : Expr} {m : EM} (hK : p.K = X.K) (h : EE X p Z W e m) : EI2 X p Z W tg e (onlyL m) nfL := ⟨PI.imp (pi_list h.pe) fun σ H R h => by
  obtain ⟨ρ, S, L, a, po⟩ := h
  refine ⟨ρ, S, L, a, (poi_bd po).imp fun ρ1 L1 d x H1 e1 r1 d1 q => ?_⟩
  cases d1 with
  | @ref k b hk =>
    obtain ⟨ds, xs, f1, f2, f3⟩ := r1.at_ k b hk
    exact ⟨b, rfl, ⟨xs, SqL.of f2⟩, q ρ1 H1 (Ext.refl _ _) r1 _ (by rw [← hK]; exact ij2_of fun _ _ _ e r => ij_list (e.get hk))⟩
  | _ => exact q.elim⟩
theorem ei2_tup {e : Expr} {m : EM} (hK : p.K = X.K) (h : EE X p Z W e m) : EI2 X p Z W tg e (onlyT m) nfT := ⟨PI.imp (pi_tup h.pe) fun σ H R h => by
  obtain ⟨ρ, S, L, a, po⟩ := h
  refine ⟨ρ, S, L, a, (poi_bd po).imp fun ρ1 L1 d x H1 e1 r1 d1 q => ?_⟩
  cases d1 with
  | @tup b ds xs hq hs => exact ⟨b, rfl, ⟨xs, by rw [← hK]; exact hq⟩, q ρ1 H1 (Ext.refl _ _) r1 _ (by rw [← hK]; exact ij2_of fun _ _ _ e r => ij_tup r (sqT_mono2 e hq) (hs.mono2 e))⟩
  | _ => exact q.elim⟩
theorem ei2_rng2 {a b : Expr} {m : EM} {pn : Pos} (hm : X.mg "range" = none) (ha : EA X p Z W [a, b] m) (hg : Gl X "range" := by rfl) (hs : starEach [a, b] X.env = [(false, eval a X.env), (false, eval b X.env)] := by rfl) (hs2 : starEach [b] X.env = [(false, eval b X.env)] := by rfl) : EI2 X p Z W tg (.Call (.Name "range" pn) [a, b] [] pos) (rng2 m) nfR := ⟨PI.imp (pi_range2 hg hm ha.pa hs hs2) fun σ H R h => by
  obtain ⟨ρ, S, L, a, po⟩ := h
  refine ⟨ρ, S, L, a, (Pa.imp fun ρ1 L1 ds vs H1 e1 r1 d1 q => ?_) (poi_row po)⟩
  split at q
  · rename_i i j
    obtain ⟨v, w, rfl, h1, h2⟩ := dvs2 d1
    cases h1
    cases h2
    obtain ⟨c, q1⟩ := iffI q
    obtain ⟨c2, q2⟩ := iffI q1
    have hl := blt_t c
    have hl2 := blt_t c2
    have e : lim = 1000000000000 := rfl
    exact ⟨i, j, rfl, ⟨by omega, by omega, by omega, by omega⟩, q2 ρ1 H1 (Ext.refl _ _) r1 _ ij2_rng⟩
  · exact q.elim⟩
theorem ei2_rngV {e : Expr} {m : EM} (h : EE X p Z W e m) : EI2 X p Z W tg e (onlyR m) nfR := ⟨PI.imp (pi_rngV h.pe) fun σ H R h => by
  obtain ⟨ρ, S, L, a, po⟩ := h
  refine ⟨ρ, S, L, a, (poi_bd po).imp fun ρ1 L1 d x H1 e1 r1 d1 q => ?_⟩
  cases d1 with
  | @rng q0 lo hi hq =>
    obtain ⟨c1, q1⟩ := iffI2 q
    obtain ⟨c2, q2⟩ := iffI2 q1
    obtain ⟨c3, q3⟩ := iffI2 q2
    obtain ⟨c4, q4⟩ := iffI2 q3
    have g1 := (PySem.W.Z.ltB_iff _ _).mp c1
    have g2 := (PySem.W.Z.ltB_iff _ _).mp c2
    have g3 := (PySem.W.Z.ltB_iff _ _).mp c3
    have g4 := (PySem.W.Z.ltB_iff _ _).mp c4
    have e : lim = 1000000000000 := rfl
    exact ⟨q0, lo, hi, rfl, hq, ⟨by omega, by omega, by omega, by omega⟩, q4 ρ1 H1 (Ext.refl _ _) r1 _ ij2_rng⟩
  | _ => exact q.elim⟩
theorem ei2_any {e : Expr} {m : EM} (hK : p.K = X.K) (h : EE X p Z W e m) : EI2 X p Z W tg e (onlyA m) nfA := ⟨PI.imp (PI.either (ei2_list hK h).pi (PI.either (ei2_tup hK h).pi (ei2_rngV h).pi)) fun σ H R q => by
  obtain ⟨ρ, S, L, a, po⟩ := q
  unfold onlyA at po
  cases hm : m S L with
  | ok d L1 =>
    rw [hm] at po
    cases d with
    | ref i => exact .inl ⟨ρ, S, L, a, by unfold onlyL; rw [hm]; exact po⟩
    | tup xs => exact .inr (.inl ⟨ρ, S, L, a, by unfold onlyT; rw [hm]; exact po⟩)
    | rng lo hi =>
      refine .inr (.inr ⟨ρ, S, L, a, ?_⟩)
      unfold onlyR; rw [hm]
      obtain ⟨c1, q1⟩ := iffI2 po
      obtain ⟨c2, q2⟩ := iffI2 q1
      obtain ⟨c3, q3⟩ := iffI2 q2
      obtain ⟨c4, q4⟩ := iffI2 q3
      show PoI p W σ _ ρ H (iff_ _ (iff_ _ (iff_ _ (iff_ _ (.ok (.rng lo hi) L1) .bad) .bad) .bad) .bad)
      rw [c1, c2, c3, c4]
      exact q4
    | _ => exact po.elim
  | err c L1 => rw [hm] at po; exact .inl ⟨ρ, S, L, a, by unfold onlyL; rw [hm]; exact po⟩
  | bad => rw [hm] at po; exact po.elim⟩
theorem ei2_enum {a : Expr} {m : EM} {pn tpos : Pos} {elts : List Expr} {kk : Nat} (hK : p.K = X.K) (hm : X.mg "enumerate" = none) (ha : EA X p Z W [a] m) (hg : Gl X "enumerate" := by rfl) (hs : starEach [a] X.env = [(false, eval a X.env)] := by rfl) : EI2 X p Z W (.Tuple elts kk tpos) (.Call (.Name "enumerate" pn) [a] [] pos) (enm m) nfE := ⟨PI.imp (pi_enum hg hm ha.pa hs) fun σ H R h => by
  obtain ⟨ρ, S, L, a, po⟩ := h
  refine ⟨ρ, S, L, a, (Pa.imp fun ρ1 L1 ds vs H1 e1 r1 d1 q => ?_) (poi_row po)⟩
  split at q
  · rename_i k
    obtain ⟨v, rfl, h1⟩ := dvs1 d1
    cases h1 with
    | @ref k b hk =>
      obtain ⟨ds, xs, f1, f2, f3⟩ := r1.at_ k b hk
      exact ⟨b, xs, rfl, SqL.of f2, q ρ1 H1 (Ext.refl _ _) r1 _ (by rw [← hK]; exact ij2_of fun _ _ _ e r => ij_enum (e.get hk))⟩
  · exact q.elim⟩
theorem ei2_zip {a b : Expr} {m : EM} {pn tpos : Pos} {elts : List Expr} {kk : Nat} (hK : p.K = X.K) (hm : X.mg "zip" = none) (ha : EA X p Z W [a, b] m) (hg : Gl X "zip" := by rfl)
    (hs : starEach [a, b] X.env = (false, eval a X.env) :: starEach [b] X.env := by rfl) (hpl : (backTo pos (starEach [b] X.env)).any (·.1) = false := by rfl) : EI2 X p Z W (.Tuple elts kk tpos) (.Call (.Name "zip" pn) [a, b] [] pos) (zip2 m) nfZ := ⟨PI.imp (pi_zipA hg hm ha.pa hs hpl) fun σ H R h => by
  obtain ⟨ρ, S, L, a, po⟩ := h
  refine ⟨ρ, S, L, a, (Pa.imp fun ρ1 L1 ds vs H1 e1 r1 d1 q => ?_) (poi_row po)⟩
  split at q
  · rename_i k j
    obtain ⟨v, w, rfl, h1, h2⟩ := dvs2 d1
    cases h1 with
    | @ref _ b hk =>
      cases h2 with
      | @ref _ c hj =>
        obtain ⟨ds, xs, f1, f2, f3⟩ := r1.at_ k b hk
        obtain ⟨es, ys, g1, g2, g3⟩ := r1.at_ j c hj
        exact ⟨b, c, xs, ys, rfl, .inl ⟨SqL.of f2, SqL.of g2, q ρ1 H1 (Ext.refl _ _) r1 _ (by rw [← hK]; exact ij2_of fun _ _ _ e r => ij_zipL (e.get hk) (e.get hj))⟩⟩
  · rename_i xs ys
    obtain ⟨v, w, rfl, h1, h2⟩ := dvs2 d1
    cases h1 with
    | @tup b ds us hq hs =>
      cases h2 with
      | @tup c es ws hq' hs' => exact ⟨b, c, us, ws, rfl, .inr ⟨by rw [← hK]; exact hq, by rw [← hK]; exact hq', q ρ1 H1 (Ext.refl _ _) r1 _ (by rw [← hK]; exact ij2_of fun _ _ _ e r => ij_zipT r (sqT_mono2 e hq) (hs.mono2 e) (sqT_mono2 e hq') (hs'.mono2 e))⟩⟩
  · exact q.elim⟩
section
variable {a b : Expr} {m : EM} {pn tpos : Pos} {elts : List Expr} {kk : Nat}
theorem ei2_zipTL (hK : p.K = X.K) (hm : X.mg "zip" = none) (ha : EA X p Z W [a, b] m) (hg : Gl X "zip") (hs : starEach [a, b] X.env = (false, eval a X.env) :: starEach [b] X.env) (hpl : (backTo pos (starEach [b] X.env)).any (·.1) = false) : EI2 X p Z W (.Tuple elts kk tpos) (.Call (.Name "zip" pn) [a, b] [] pos) (zipTL m) nfM := ⟨PI.imp (pi_zipB (t1 := true) (t2 := false) hg hm ha.pa hs hpl) fun σ H R h => by
  obtain ⟨ρ, S, L, at0, po⟩ := h
  refine ⟨ρ, S, L, at0, (Pa.imp fun ρ1 L1 ds vs H1 e1 r1 d1 q => ?_) (poi_row po)⟩
  split at q
  · rename_i xs j
    obtain ⟨v, w, rfl, h1, h2⟩ := dvs2 d1
    cases h1 with
    | @tup c ds us hq hs' =>
      cases h2 with
      | @ref _ b hk =>
        obtain ⟨ds, ys, f1, f2, f3⟩ := r1.at_ j b hk
        exact ⟨c, b, us, ys, rfl, (by rw [← hK]; exact hq), SqL.of f2, q ρ1 H1 (Ext.refl _ _) r1 _ (by rw [← hK]; exact ij2_of fun _ _ _ e r => ij_tl r (sqT_mono2 e hq) (hs'.mono2 e) (e.get hk))⟩
  · exact q.elim⟩
theorem ei2_zipLT (hK : p.K = X.K) (hm : X.mg "zip" = none) (ha : EA X p Z W [a, b] m) (hg : Gl X "zip") (hs : starEach [a, b] X.env = (false, eval a X.env) :: starEach [b] X.env) (hpl : (backTo pos (starEach [b] X.env)).any (·.1) = false) : EI2 X p Z W (.Tuple elts kk tpos) (.Call (.Name "zip" pn) [a, b] [] pos) (zipLT m) nfM := ⟨PI.imp (pi_zipB (t1 := false) (t2 := true) hg hm ha.pa hs hpl) fun σ H R h => by
  obtain ⟨ρ, S, L, at0, po⟩ := h
  refine ⟨ρ, S, L, at0, (Pa.imp fun ρ1 L1 ds vs H1 e1 r1 d1 q => ?_) (poi_row po)⟩
  split at q
  · rename_i j xs
    obtain ⟨v, w, rfl, h1, h2⟩ := dvs2 d1
    cases h2 with
    | @tup c ds us hq hs' =>
      cases h1 with
      | @ref _ b hk =>
        obtain ⟨ds, ys, f1, f2, f3⟩ := r1.at_ j b hk
        exact ⟨b, c, ys, us, rfl, SqL.of f2, (by rw [← hK]; exact hq), q ρ1 H1 (Ext.refl _ _) r1 _ (by rw [← hK]; exact ij2_of fun _ _ _ e r => ij_lt r (sqT_mono2 e hq) (hs'.mono2 e) (e.get hk))⟩
  · exact q.elim⟩
theorem ei2_zipW (hK : p.K = X.K) (hm : X.mg "zip" = none) (ha : EA X p Z W [a, b] m) (hg : Gl X "zip" := by rfl)
    (hs : starEach [a, b] X.env = (false, eval a X.env) :: starEach [b] X.env := by rfl) (hpl : (backTo pos (starEach [b] X.env)).any (·.1) = false := by rfl) : EI2 X p Z W (.Tuple elts kk tpos) (.Call (.Name "zip" pn) [a, b] [] pos) (zipW m) nfW :=
  ⟨PI.imp (PI.either (ei2_zip hK hm ha hg hs hpl).pi (PI.either (ei2_zipTL hK hm ha hg hs hpl).pi (ei2_zipLT hK hm ha hg hs hpl).pi)) fun σ H R q => by
    obtain ⟨ρ, S, L, at0, po⟩ := q
    unfold zipW at po
    cases hm0 : m S L with
    | ok d L1 =>
      rw [hm0] at po
      cases d with
      | tup ds =>
        have po1 : PoI p W σ (fun ρ' L' d H' => ∀ J, IJ2 p J (nfW d) ρ' H' → R J H') ρ H (match (generalizing := false) ds with
          | [.ref k, .ref j] => .ok (.tup [.ref k, .ref j]) L1
          | [.tup xs, .tup ys] => .ok (.tup [.tup xs, .tup ys]) L1
          | [.tup xs, .ref j] => .ok (.tup [.tup xs, .ref j]) L1
          | [.ref j, .tup xs] => .ok (.tup [.ref j, .tup xs]) L1
          | _ => .bad) := po
        split at po1
        · exact .inl ⟨ρ, S, L, at0, by unfold zip2; rw [hm0]; exact po1⟩
        · exact .inl ⟨ρ, S, L, at0, by unfold zip2; rw [hm0]; exact po1⟩
        · exact .inr (.inl ⟨ρ, S, L, at0, by unfold zipTL; rw [hm0]; exact po1⟩)
        · exact .inr (.inr ⟨ρ, S, L, at0, by unfold zipLT; rw [hm0]; exact po1⟩)
        · exact po1.elim
      | _ => exact po.elim
    | err c L1 => rw [hm0] at po; exact .inl ⟨ρ, S, L, at0, by unfold zip2; rw [hm0]; exact po⟩
    | bad => rw [hm0] at po; exact po.elim⟩
theorem ei2_enT (hK : p.K = X.K) (hm : X.mg "enumerate" = none) (ha : EA X p Z W [a] m) (hg : Gl X "enumerate") (hs : starEach [a] X.env = [(false, eval a X.env)]) : EI2 X p Z W (.Tuple elts kk tpos) (.Call (.Name "enumerate" pn) [a] [] pos) (enmT m) nfX := ⟨PI.imp (pi_enT hg hm ha.pa hs) fun σ H R h => by
  obtain ⟨ρ, S, L, at0, po⟩ := h
  refine ⟨ρ, S, L, at0, (Pa.imp fun ρ1 L1 ds vs H1 e1 r1 d1 q => ?_) (poi_row po)⟩
  split at q
  · rename_i xs
    obtain ⟨v, rfl, h1⟩ := dvs1 d1
    cases h1 with
    | @tup c ds us hq hs' => exact ⟨c, us, rfl, (by rw [← hK]; exact hq), q ρ1 H1 (Ext.refl _ _) r1 _ (by rw [← hK]; exact ij2_of fun _ _ _ e r => ij_enT r (sqT_mono2 e hq) (hs'.mono2 e))⟩
  · exact q.elim⟩
theorem ei2_enumX (hK : p.K = X.K) (hm : X.mg "enumerate" = none) (ha : EA X p Z W [a] m) (hg : Gl X "enumerate" := by rfl) (hs : starEach [a] X.env = [(false, eval a X.env)] := by rfl) : EI2 X p Z W (.Tuple elts kk tpos) (.Call (.Name "enumerate" pn) [a] [] pos) (enmX m) nfX :=
  ⟨PI.imp (PI.either (ei2_enum hK hm ha hg hs).pi (ei2_enT hK hm ha hg hs).pi) fun σ H R q => by
    obtain ⟨ρ, S, L, at0, po⟩ := q
    unfold enmX at po
    cases hm0 : m S L with
    | ok d L1 =>
      rw [hm0] at po
      cases d with
      | tup ds =>
        have po1 : PoI p W σ (fun ρ' L' d H' => ∀ J, IJ2 p J (nfX d) ρ' H' → R J H') ρ H (match (generalizing := false) ds with
          | [.ref k] => .ok (.ref k) L1
          | [.tup xs] => .ok (.tup xs) L1
          | _ => .bad) := po
        split at po1
        · exact .inl ⟨ρ, S, L, at0, by unfold enm; rw [hm0]; exact po1⟩
        · exact .inr ⟨ρ, S, L, at0, by unfold enmT; rw [hm0]; exact po1⟩
        · exact po1.elim
      | _ => exact po.elim
    | err c L1 => rw [hm0] at po; exact .inl ⟨ρ, S, L, at0, by unfold enm; rw [hm0]; exact po⟩
    | bad => rw [hm0] at po; exact po.elim⟩
end
end
/-! ### in, not in -/
noncomputable def pyItems (f : D → Option PyData) (e : D) (L : Sto) : Option (List PyData) := match e with
  | .ref i => match L.get i with
    | some xs => allPy f xs
    | none => none
  | .tup xs => allPy f xs
  | _ => none
noncomputable def anyPy (x : PyData) (ys : List PyData) : Bool := @List.rec PyData (fun _ => Bool) false (fun y _ ih => @Bool.casesOn (fun _ => Bool) (PyData.eqv y x) ih true) ys
theorem anyPy_eq (x : PyData) (ys : List PyData) : anyPy x ys = ys.any fun y => PyData.eqv y x := by
  induction ys with
  | nil => rfl
  | cons y ys ih =>
    show @Bool.casesOn (fun _ => Bool) (PyData.eqv y x) (anyPy x ys) true = _
    rw [List.any_cons, ← ih]
    cases PyData.eqv y x <;> rfl
noncomputable def oInX (neg : Bool) (d e : D) (L : Sto) : Out := match toPyN 6 L d, pyItems (toPyN 6 L) e L with
  | some a, some bs => iff_ (SeqAt.shaped a) (iff_ (SeqAt.shaped (.list bs)) (@Bool.casesOn (fun _ => Out) (anyPy a bs) (.ok (.bl neg) L) (.ok (.bl (!neg)) L)) .bad) .bad
  | _, _ => .bad
def rInX (K : PySem.W.Frag) (neg : Bool) : R2 := fun x y H Q => ∃ d ds, Dp K H x d ∧ (Dp K H y (.list ds) ∨ Dp K H y (.tuple ds)) ∧ SeqAt.shaped d = true ∧ SeqAt.shaped (.list ds) = true ∧ Q (.bl (if neg then !(ds.any fun z => PyData.eqv z d) else ds.any fun z => PyData.eqv z d)) H
section
variable {X : Cx}
theorem op_inX (hu : X.A.units + 65 < cLine) : OpR X (compareOp .In) (rInX X.K false) := by
  intro pins s σ H x y v u Q I rx ry h
  obtain ⟨d, ds, hd, he, sd, se, q⟩ := h
  obtain ⟨as, r1⟩ := Dp.reads I d x v hd rx
  rcases he with he | he
  · obtain ⟨bs, r2⟩ := Dp.reads I (.list ds) y u he ry
    exact SeqAt.in_list_reads r2 r1 (SeqAt.canLay_of_shaped se) (SeqAt.canLay_of_shaped sd) (room_in_shaped sd hu) ⟨.bl _, H, I, rfl, q⟩
  · obtain ⟨bs, r2⟩ := Dp.reads I (.tuple ds) y u he ry
    exact SeqAt.in_tuple_reads r2 r1 (SeqAt.canLay_of_shaped se) (SeqAt.canLay_of_shaped sd) (room_in_shaped sd hu) ⟨.bl _, H, I, rfl, q⟩
theorem op_notInX (hu : X.A.units + 65 < cLine) : OpR X (compareOp .NotIn) (rInX X.K true) := by
  intro pins s σ H x y v u Q I rx ry h
  obtain ⟨d, ds, hd, he, sd, se, q⟩ := h
  obtain ⟨as, r1⟩ := Dp.reads I d x v hd rx
  rcases he with he | he
  · obtain ⟨bs, r2⟩ := Dp.reads I (.list ds) y u he ry
    exact SeqAt.notIn_list_reads r2 r1 (SeqAt.canLay_of_shaped se) (SeqAt.canLay_of_shaped sd) (room_in_shaped sd hu) ⟨.bl _, H, I, rfl, q⟩
  · obtain ⟨bs, r2⟩ := Dp.reads I (.tuple ds) y u he ry
    exact SeqAt.notIn_tuple_reads r2 r1 (SeqAt.canLay_of_shaped se) (SeqAt.canLay_of_shaped sd) (room_in_shaped sd hu) ⟨.bl _, H, I, rfl, q⟩
end
theorem op2_inX {p : Pm} {neg : Bool} : Op2 p (rInX p.K neg) (oInX neg) := by
  intro W σ ρ L H d e x y Q r hd he po
  unfold oInX at po
  split at po
  · rename_i a bs ea eb
    obtain ⟨c1, po1⟩ := iff_t po
    obtain ⟨c2, po2⟩ := iff_t po1
    refine ⟨a, bs, toPyN_ok r 6 hd ea, ?_, c1, c2, ?_⟩
    · cases he with
      | @ref k b hk =>
        obtain ⟨ds, xs, e1, e2, e3⟩ := r.at_ k b hk
        have eb' : (match L.get k with
          | some xs => allPy (toPyN 6 L) xs
          | none => none) = some bs := eb
        rw [e1] at eb'
        exact .inl (.lst (SqL.of e2) (allPy_ok (fun hd h => toPyN_ok r 6 hd h) e3 eb'))
      | @tup b ds xs hq hs => exact .inr (.tup hq (allPy_ok (fun hd h => toPyN_ok r 6 hd h) hs eb))
      | _ => cases eb
    · rw [anyPy_eq] at po2
      cases hb : bs.any fun z => PyData.eqv z a with
      | true => rw [hb] at po2; cases neg <;> exact po_ok po2 r (.bl _)
      | false => rw [hb] at po2; cases neg <;> exact po_ok po2 r (.bl _)
  · exact po.elim
section
variable {X : Cx} {p : Pm} {Z : L2.St → Prop} {W : Wx} {pos : Pos} {a b : Expr} {ma mb : EM}
theorem units65 {k : Nat} {A : Around} (r : Room k A) : A.units + 65 < cLine := by have := r.un; omega
theorem c_in (hK : p.K = X.K) (hu : X.A.units + 65 < cLine) (ha : EE X p Z W a ma) (hb : EE X p Z W b mb) (hm : behindInMarks .In b = false := by rfl) : EE X p Z W (.Compare a [.In] [b] pos) (m2 (oInX false) ma mb) := ee_cmp (by rw [hK]; exact op_inX hu) op2_inX ha hb hm
theorem c_nin (hK : p.K = X.K) (hu : X.A.units + 65 < cLine) (ha : EE X p Z W a ma) (hb : EE X p Z W b mb) (hm : behindInMarks .NotIn b = false := by rfl) : EE X p Z W (.Compare a [.NotIn] [b] pos) (m2 (oInX true) ma mb) := ee_cmp (by rw [hK]; exact op_notInX hu) op2_inX ha hb hm
theorem t_in (hK : p.K = X.K) (hu : X.A.units + 65 < cLine) (ha : EE X p Z W a ma) (hb : EE X p Z W b mb) (hm : behindInMarks .In b = false := by rfl) : ET X p Z W (.Compare a [.In] [b] pos) (m2 (oInX false) ma mb) := et_cmp (by rw [hK]; exact op_inX hu) op2_inX ha hb hm
theorem t_nin (hK : p.K = X.K) (hu : X.A.units + 65 < cLine) (ha : EE X p Z W a ma) (hb : EE X p Z W b mb) (hm : behindInMarks .NotIn b = false := by rfl) : ET X p Z W (.Compare a [.NotIn] [b] pos) (m2 (oInX true) ma mb) := et_cmp (by rw [hK]; exact op_notInX hu) op2_inX ha hb hm
end
end Mr

namespace Mr
open PySem PySem.Spec PyProof.Rows L2
/-! ### except (A, B, C, D, E) -/
section
variable {M : Model} {K : PySem.W.Frag}
open PySem.W
theorem exm_tup5 {c1 c2 c3 c4 c5 cls : Value} {tp e : Addr} {b : Bool} {h : Heap} (X : K.In h) (LT : Looks M h (typeOf (.ref e)) cls) (hp : h.get? tp = some { cls := .type "tuple", data := .seq [c1, c2, c3, c4, c5].toArray }) (hx : exmAny K cls [c1, c2, c3, c4, c5] = some b) :
    Looks M h (excMatches (.ref e) (.ref tp)) b := by
  intro A Q E s k₀ q
  obtain ⟨hh, g, d, tk, os⟩ := s
  have k : ∀ b o, h.get? b = some o → hh.get? b = some o := k₀
  have LT0 : Looks M h (isInstance (.ref tp) (.type "tuple")) true := ((Looks.ld hp).andThen .now).andThen (Looks.of_pure isSubtype_tuple_tuple)
  obtain ⟨b1, d1, x1, y1, z1⟩ := exmAny_cons hx
  obtain ⟨e1, S1⟩ := exm_cls (M := M) X x1
  have e1 := e1.keeps k
  have S1 := S1.keeps k
  obtain ⟨b2, d2, x2, y2, z2⟩ := exmAny_cons y1
  obtain ⟨e2, S2⟩ := exm_cls (M := M) X x2
  have e2 := e2.keeps k
  have S2 := S2.keeps k
  obtain ⟨b3, d3, x3, y3, z3⟩ := exmAny_cons y2
  obtain ⟨e3, S3⟩ := exm_cls (M := M) X x3
  have e3 := e3.keeps k
  have S3 := S3.keeps k
  obtain ⟨b4, d4, x4, y4, z4⟩ := exmAny_cons y3
  obtain ⟨e4, S4⟩ := exm_cls (M := M) X x4
  have e4 := e4.keeps k
  have S4 := S4.keeps k
  obtain ⟨b5, d5, x5, y5, z5⟩ := exmAny_cons y4
  obtain ⟨e5, S5⟩ := exm_cls (M := M) X x5
  have e5 := e5.keeps k
  have S5 := S5.keeps k
  have w5 : some false = some d5 := y5
  cases w5
  have LT := LT.keeps k
  have LT0 := LT0.keeps k
  have hp' := k _ _ hp
  subst z1 z2 z3 z4 z5
  unfold excMatches
  refine wpAny_bind (LT0.at ?_)
  dsimp only
  rw [if_pos rfl]
  first
    | refine wpAny_bind (wpAny_seqItems hp' rfl ?_)
    | refine wpAny_bind (wpAny_bind (wpAny_seqItems hp' rfl (wpAny_pure ?_)))
  dsimp only [Option.getD_some, Option.getD]
  (repeat (first | simp only [List.forIn_cons, List.forIn_nil, Bool.not_true, Bool.false_eq_true, if_false, if_true] | lk))
  cases b1 with
  | true => (repeat (first | simp only [List.forIn_cons, List.forIn_nil, Bool.not_true, Bool.false_eq_true, if_false, if_true] | lk)); exact q
  | false =>
  (repeat (first | simp only [List.forIn_cons, List.forIn_nil, Bool.not_true, Bool.false_eq_true, if_false, if_true] | lk))
  cases b2 with
  | true => (repeat (first | simp only [List.forIn_cons, List.forIn_nil, Bool.not_true, Bool.false_eq_true, if_false, if_true] | lk)); exact q
  | false =>
  (repeat (first | simp only [List.forIn_cons, List.forIn_nil, Bool.not_true, Bool.false_eq_true, if_false, if_true] | lk))
  cases b3 with
  | true => (repeat (first | simp only [List.forIn_cons, List.forIn_nil, Bool.not_true, Bool.false_eq_true, if_false, if_true] | lk)); exact q
  | false =>
  (repeat (first | simp only [List.forIn_cons, List.forIn_nil, Bool.not_true, Bool.false_eq_true, if_false, if_true] | lk))
  cases b4 with
  | true => (repeat (first | simp only [List.forIn_cons, List.forIn_nil, Bool.not_true, Bool.false_eq_true, if_false, if_true] | lk)); exact q
  | false =>
  (repeat (first | simp only [List.forIn_cons, List.forIn_nil, Bool.not_true, Bool.false_eq_true, if_false, if_true] | lk))
  cases b5 with
  | true => (repeat (first | simp only [List.forIn_cons, List.forIn_nil, Bool.not_true, Bool.false_eq_true, if_false, if_true] | lk)); exact q
  | false =>
  (repeat (first | simp only [List.forIn_cons, List.forIn_nil, Bool.not_true, Bool.false_eq_true, if_false, if_true] | lk))
  exact q
end
theorem flyZ_keeps {B : Heap} {l : List Env} {e : Addr} {Z : Obj → Prop} {h h' : Heap} (R : HandSPX.FlyingZ B l e Z h) (k : ∀ b o, h.get? b = some o → h'.get? b = some o) : HandSPX.FlyingZ B l e Z h' := by
  obtain ⟨f1, f2, f3, oe, vs, T, oT, ts, he, hz, hd, h1, hn, hne, hT, hdT, h3⟩ := R
  exact ⟨fun b o q => k b o (f1 b o q), f2, f3.of_keeps fun b o q _ => ⟨o, k b o q, rfl⟩, oe, vs, T, oT, ts, k _ _ he, hz, hd, h1, hn, hne, k _ _ hT, hdT, h3⟩
def wTup (K : PySem.W.Frag) (cs : List Value) (ts : Addr → Value → Option Addr → TS) (Wout : WX) (D : Ends) : WX := fun cls d σ H =>
  ∃ b, PySem.W.exmAny K cls cs = some b ∧ (b = true → ∀ a, H a = none → ts a cls d D σ H) ∧ (b = false → Wout cls d σ H)
section
variable {X : Cx} {x1 x2 x3 x4 x5 : Str} {c1 c2 c3 c4 c5 : Value} {p1 p2 p3 p4 p5 tpos pos pos' : Pos} {kk : Nat} {body suite : List Stmt} {b₀ : Stmt} {tb : WX → TS} {ts : Addr → Value → Option Addr → TS} {Wout : WX}
theorem ps_try_t5 (hs : X.stack = X.env :: X.outer) (hf : X.env.frame = some X.env.locals) (n1 : Names X x1 c1) (n2 : Names X x2 c2) (n3 : Names X x3 c3) (n4 : Names X x4 c4) (n5 : Names X x5 c5) (tk : Takes X Wout)
    (hb : ∀ (W : WX) (pn : List (Addr × Obj)) (xe : Value → Shared → Prop), Takes (X.tr pn xe) W → PassesOwn (model X.prog X.w) X.A X.env xe → PSs (X.tr pn xe) body (tb W))
    (hsu : ∀ (a : Addr) (oe : Obj) (cls : Value) (d : Option Addr) (pn : List (Addr × Obj)), Zc cls d oe → (∃ vs, oe.data = .fields vs) → PSs (X.suite a ((a, oe) :: pn)) (b₀ :: suite) (ts a cls d)) :
    PS X (.Try body [.ExceptHandler (some (.Tuple [.Name x1 p1, .Name x2 p2, .Name x3 p3, .Name x4 p4, .Name x5 p5] kk tpos)) none (b₀ :: suite) pos'] [] [] pos) (fun D σ H => tb (wTup X.K [c1, c2, c3, c4, c5] ts Wout D) D σ H) := by
  refine ⟨fun pins s σ H D I h => ?_⟩
  have ok := I.ok
  have hfr : X.A.frames = some (X.env :: X.outer) := by rw [ok.frames, hs]
  refine wpAny_Try_except ?_
  refine wpAny_mono ((hb (wTup X.K [c1, c2, c3, c4, c5] ts Wout D) (X.pn ++ pins) (fun e s₁ => wpAny (model X.prog X.w) X.A (noteFrame e X.env) (fun _ s₂ => wpAny (model X.prog X.w) X.A (setFlight e none) (fun _ s₃ =>
    wpAny (model X.prog X.w) X.A (handleBy e X.env [.ExceptHandler (some (.Tuple [.Name x1 p1, .Name x2 p2, .Name x3 p3, .Name x4 p4, .Name x5 p5] kk tpos)) none (b₀ :: suite) pos']) (SP X pins D) X.xe s₃) X.xe s₂) X.xe s₁) (fun u s' xx => ?_) PassesOwn.looking).run [] s σ H D (I.toTry _) h) (fun f s1 hsp => ?_) (fun e s1 he => he)
  · -- the catch
    obtain ⟨a, B, sI, pins', σ', H', cls, d, rfl, J', nb, up, sky, na, os, ag, b, hb1, hyes, hno⟩ := xx
    have J : Inv X pins σ' H' sI := J'.ofTry ok
    have sky' : Sky B (X.env :: X.outer) a (Zc cls d) X.env.locals s'.heap := by rw [← hs]; exact sky
    show wpAny (model X.prog X.w) X.A (noteFrame (.ref a) X.env) _ _ _
    refine Sky.land Zc.steady hfr hf sky' fun h3 fl3 up3 => ?_
    have J3 : Inv X pins σ' H' { s' with heap := h3 } := J.landed nb fl3.1 (up.trans up3) os ag
    obtain ⟨oe3, vs3, he3, hz3, hd3⟩ := fl3.there
    have notFr : ∀ {h : Heap} {o : Obj} {vs : Array Value}, h.FunFrames B (X.env :: X.outer) → h.get? a = some o → o.data = .fields vs → a ∉ frs (X.env :: X.outer) := fun {h o vs} ff e dd hm => by
      obtain ⟨_, o', e', hnf⟩ := ff.mem hm
      rw [e] at e'; cases e'
      exact hnf _ dd
    have nfr := notFr fl3.2.2.1 he3 hd3
    have nL : a ≠ X.env.locals := fun z => nfr (List.mem_filterMap.mpr ⟨X.env, List.mem_cons_self, by rw [hf, z]⟩)
    have nF : a ∉ X.fs := fun hm => by
      obtain ⟨e, he, q⟩ := List.mem_filterMap.mp hm
      exact nfr (List.mem_filterMap.mpr ⟨e, List.mem_cons_of_mem _ he, q⟩)
    have S3 := J3.suite he3 hd3 na nL nF
    refine wpAny_handleBy_cons (codeAny_handlers_test ?_) (by intro q; cases q)
    have LT : PySem.W.Looks (model X.prog X.w) h3 (typeOf (.ref a)) cls := fun A Q E s k q => wpAny_typeOf_ref (k _ _ he3) (by rw [hz3.1]; exact q)
    have test : ∀ {x : Str} {c : Value} {np : Pos} {Q : Value → Shared → Prop} {E : Value → Shared → Prop}, Names X x c → Q c { s' with heap := h3 } → wpAny (model X.prog X.w) (X.A.mark (some (.ref a))) (eval (.Name x np) X.env) Q E { s' with heap := h3 } := fun {x c np Q E} hc q => by
      obtain ⟨hg, hdbg, hm | ⟨hm, hv, hnn⟩⟩ := hc
      · exact ld_glob (X := X.suite a ((a, oe3) :: (X.pn ++ pins))) S3 hg hm q hdbg
      · exact ld_blt (X := X.suite a ((a, oe3) :: (X.pn ++ pins))) S3 hg hm hv q hnn hdbg
    refine wpAny_Tuple ?_
    refine wpAny_items_cons (test n1 ?_)
    refine wpAny_items_cons (test n2 ?_)
    refine wpAny_items_cons (test n3 ?_)
    refine wpAny_items_cons (test n4 ?_)
    refine wpAny_items_cons (test n5 ?_)
    refine wpAny_items_nil ⟨by show 5 ≤ sizeLine; rw [sizeLine_eq]; decide, ?_⟩
    have kp : ∀ q o, h3.get? q = some o → (h3.push { cls := .type "tuple", data := .seq [c1, c2, c3, c4, c5].toArray }).get? q = some o := fun _ _ z => Heap.get?_push_of_some _ z
    have LM := exm_tup5 (M := model X.prog X.w) ((J3.kIn).keeps kp) (LT.keeps kp) (Heap.get?_push_size h3 rfl) hb1
    have flp := flyZ_keeps fl3 kp
    have upp : s'.heap.UpToSlots (h3.push { cls := .type "tuple", data := .seq [c1, c2, c3, c4, c5].toArray }) := up3.trans (Heap.UpToSlots.of_keeps kp)
    refine LM.here ?_
    cases b with
    | true =>
      refine codeAny_handlers_suite ?_
      refine HandSPX.lands_againZ flp fun h4 fl4 up4 => ?_
      have J4 : Inv X pins σ' H' { s' with heap := h4 } := J.landed nb fl4.1 ((up.trans upp).trans up4) os ag
      obtain ⟨oe4, vs4, he4, hz4, hd4⟩ := fl4.there
      have S4 := J4.suite he4 hd4 na nL nF
      refine wpAny_mono ((hsu a oe4 cls d (X.pn ++ pins) hz4 ⟨_, hd4⟩).run [] _ _ H' _ S4 (hyes rfl a na)) (fun f s6 hsp => ?_) (fun _ _ z => False.elim z)
      cases f with
      | next =>
        obtain ⟨σ6, H6, S6, q6⟩ := hsp
        exact ⟨_, _, S6.unsuite ok, q6⟩
      | brk =>
        obtain ⟨σ6, H6, S6, q6⟩ := hsp
        exact ⟨_, _, S6.unsuite ok, q6⟩
      | cont =>
        obtain ⟨σ6, H6, S6, q6⟩ := hsp
        exact ⟨_, _, S6.unsuite ok, q6⟩
      | ret u =>
        obtain ⟨v6, σ6, H6, S6, r6, q6⟩ := hsp
        exact ⟨_, _, _, S6.unsuite ok, r6, q6⟩
    | false =>
      show wpAny _ X.A (handleBy (.ref a) X.env []) _ _ _
      refine wpAny_handleBy_nil ?_
      obtain ⟨k1, k2, k3, oe, vs, T, oT, ts', he, hz, hd, h1, hr⟩ := id flp
      unfold PySem.passOn
      refine wpAny_bind (wpAny_field he hd h1 ?_)
      rw [if_neg (show ¬ ((Value.ref T == Value.none) = true) from by simp)]
      have fin : wpAny (model X.prog X.w) X.A (setFlight (.ref a) X.env.frame) (fun _ s4 => wpAny (model X.prog X.w) X.A (throw (.ref a) : Sem Flow) (SP X pins D) X.xe s4) X.xe { s' with heap := h3.push { cls := .type "tuple", data := .seq [c1, c2, c3, c4, c5].toArray } } := by
        rw [hf]
        refine HandSPX.setFlight_upZ flp fun h4 hh4 up4 => wpAny_throw (tk _ _ ?_)
        exact ⟨a, B, sI, pins, σ', H', cls, d, rfl, J, nb, (up.trans upp).trans up4, .inr (.inr (by rw [hs]; exact hh4)), na, os, ag, hno rfl⟩
      first
        | exact wpAny_bind (wpAny_pure (wpAny_bind fin))
        | exact wpAny_bind fin
  · cases f with
    | next =>
      obtain ⟨σ', H', J', q⟩ := hsp
      exact wpAny_execs_nil ⟨σ', H', J'.ofTry ok, q⟩
    | brk =>
      obtain ⟨σ', H', J', q⟩ := hsp
      exact ⟨σ', H', J'.ofTry ok, q⟩
    | cont =>
      obtain ⟨σ', H', J', q⟩ := hsp
      exact ⟨σ', H', J'.ofTry ok, q⟩
    | ret u =>
      obtain ⟨v, σ', H', J', r, q⟩ := hsp
      exact ⟨v, σ', H', J'.ofTry ok, r, q⟩
end
/-! ### .. of the mirror -/
noncomputable def memN (c : Nat) (ks : List Nat) : Bool := @List.rec Nat (fun _ => Bool) false (fun k _ ih => @Bool.casesOn (fun _ => Bool) (Nat.beq c k) ih true) ks
noncomputable def sTryT (n : Nat) (b : SM) (ks : List Nat) (m : SM) : SM := fun S L => match b S L with
  | .err c S1 L1 => @Bool.casesOn (fun _ => SO) (Nat.blt c n) .bad (@Bool.casesOn (fun _ => SO) (memN c ks) (.err c S1 L1) (m S1 L1))
  | .nx S1 L1 => .nx S1 L1
  | .ret d L1 => .ret d L1
  | .brk S1 L1 => .brk S1 L1
  | .cnt S1 L1 => .cnt S1 L1
  | .bad => .bad
theorem exmAny_of {K : PySem.W.Frag} {p : Pm} {n c : Nat} (hx : ExM K p n) (hc : c < n) : ∀ ks : List Nat, (∀ k ∈ ks, k < n) → PySem.W.exmAny K (.ref (p.C c)) (ks.map fun k => (.ref (p.C k) : Value)) = some (memN c ks)
  | [], _ => rfl
  | k :: ks, h => by
    have e1 := hx c k hc (h k List.mem_cons_self)
    have e2 := exmAny_of hx hc ks fun z hz => h z (List.mem_cons_of_mem _ hz)
    show (match PySem.W.exmOne K (.ref (p.C c)) (.ref (p.C k)), PySem.W.exmAny K (.ref (p.C c)) (ks.map fun k => (.ref (p.C k) : Value)) with
      | some b, some d => some (b || d)
      | _, _ => none) = some (@Bool.casesOn (fun _ => Bool) (Nat.beq c k) (memN c ks) true)
    rw [e1, e2]
    cases Nat.beq c k <;> rfl
section
variable {X : Cx} {p : Pm} {W : Wx} {pos : Pos}
theorem es_tryT {x1 x2 x3 x4 x5 : Str} {k1 k2 k3 k4 k5 : Nat} {p1 p2 p3 p4 p5 tpos pos' : Pos} {kk : Nat} {body suite : List Stmt} {b₀ : Stmt} {b m : SM} {n : Nat} (hst : X.stack = X.env :: X.outer) (hf : X.env.frame = some X.env.locals) (tk : Takes X W) (hx : ExM X.K p n) (hh : ∀ q ∈ [k1, k2, k3, k4, k5], q < n)
    (n1 : Names X x1 (.ref (p.C k1))) (n2 : Names X x2 (.ref (p.C k2))) (n3 : Names X x3 (.ref (p.C k3))) (n4 : Names X x4 (.ref (p.C k4))) (n5 : Names X x5 (.ref (p.C k5)))
    (hb : ∀ (W : WX) (pn : List (Addr × Obj)) (xe : Value → Shared → Prop), Takes (X.tr pn xe) W → PassesOwn (model X.prog X.w) X.A X.env xe → ESs (X.tr pn xe) p ZT W body b)
    (hsu : ∀ (a : Addr) (oe : Obj) (cls : Value) (d : Option Addr) (pn : List (Addr × Obj)), ESs (X.suite a ((a, oe) :: pn)) p ZT W (b₀ :: suite) m) :
    ES X p ZT W (.Try body [.ExceptHandler (some (.Tuple [.Name x1 p1, .Name x2 p2, .Name x3 p3, .Name x4 p4, .Name x5 p5] kk tpos)) none (b₀ :: suite) pos'] [] [] pos) (sTryT n b [k1, k2, k3, k4, k5] m) := ⟨PS.imp (ps_try_t5 (tb := fun W => TrS p ZT W b) (ts := fun _ _ _ => TrS p ZT W m) hst hf n1 n2 n3 n4 n5 tk (fun W pn xe t q => (hb W pn xe t q).ps) (fun a oe cls d pn _ _ => (hsu a oe cls d pn).ps)) fun T σ H h => by
  obtain ⟨ρ, S, L, a, po⟩ := h
  refine ⟨ρ, S, L, a, ?_⟩
  unfold sTryT at po
  cases hm : b S L with
  | err c S1 L1 =>
    rw [hm] at po
    intro ρ1 H1 σ1 e1 r1 n1
    simp only at po
    cases hc : Nat.blt c n with
    | false => rw [hc] at po; exact po.elim
    | true =>
      rw [hc] at po
      have po1 : PoS p W T ρ H (@Bool.casesOn (fun _ => SO) (memN c [k1, k2, k3, k4, k5]) (.err c S1 L1) (m S1 L1)) := po
      refine ⟨memN c [k1, k2, k3, k4, k5], exmAny_of hx (blt_t hc) [k1, k2, k3, k4, k5] hh, fun hb a _ => ?_, fun hb => ?_⟩
      · rw [hb] at po1
        exact ⟨ρ1, S1, L1, ⟨trivial, n1, r1⟩, PoS.ext e1 po1⟩
      · rw [hb] at po1
        exact po1 ρ1 H1 σ1 e1 r1 n1
  | nx S1 L1 => rw [hm] at po; exact po
  | ret d L1 => rw [hm] at po; exact po
  | brk S1 L1 => rw [hm] at po; exact po
  | cnt S1 L1 => rw [hm] at po; exact po
  | bad => rw [hm] at po; exact po⟩
end
end Mr

namespace Mr
open PySem PySem.Spec PyProof.Rows L2
/-! ### data that the text's top holds, of any depth -/
def strV (s : Str) (l : List Nat) : Bool := decide (s = (⟨l.toArray⟩ : Str))
def dataV (K : PySem.W.Frag) : Nat → Value → D → Bool
  | 0, _, _ => false
  | n + 1, .int i _, .int z => decide (i = z)
  | n + 1, .str s _, .str l => strV s l
  | n + 1, .ref a, .tup ds => match K.lookup a with
    | some o => decide (o.cls = .type "tuple") && (match o.data with
      | .seq its _ => Nat.ble its.size 1000 && datasV K n its.toList ds
      | _ => false)
    | none => false
  | _, _, _ => false
where datasV (K : PySem.W.Frag) (n : Nat) : List Value → List D → Bool
  | [], [] => true
  | u :: us, d :: ds => dataV K n u d && datasV K n us ds
  | _, _ => false
theorem datasV_ok {p : Pm} {K : PySem.W.Frag} {n : Nat} (ih : ∀ {u : Value} {d : D}, dataV K n u d = true → ∃ v, RelV v u ∧ ∀ H ρ, Dv p H ρ d v) : ∀ {us : List Value} {ds : List D}, dataV.datasV K n us ds = true → ∃ vs, Vals vs us ∧ ∀ H ρ, Dvs p H ρ ds vs
  | [], [], _ => ⟨[], .nil, fun _ _ => .nil⟩
  | u :: us, d :: ds, h => by
    obtain ⟨h1, h2⟩ := Bool.and_eq_true_iff.mp (show (dataV K n u d && dataV.datasV K n us ds) = true from h)
    obtain ⟨v, r, e⟩ := ih h1
    obtain ⟨vs, rs, es⟩ := datasV_ok ih h2
    exact ⟨v :: vs, .cons r rs, fun H ρ => .cons (e H ρ) (es H ρ)⟩
theorem dataT_ok {p : Pm} {K : PySem.W.Frag} (hK : p.K = K) {n : Nat} (ih : ∀ {u : Value} {d : D}, dataV K n u d = true → ∃ v, RelV v u ∧ ∀ H ρ, Dv p H ρ d v) {a : Addr} {ds : List D} (h : dataV K (n + 1) (.ref a) (.tup ds) = true) : ∀ H ρ, Dv p H ρ (.tup ds) (.ref a) := by
  unfold dataV at h
  split at h
  · rename_i o ho
    obtain ⟨h1, h2⟩ := Bool.and_eq_true_iff.mp h
    split at h2
    · rename_i its n2 hd
      obtain ⟨h3, h4⟩ := Bool.and_eq_true_iff.mp h2
      obtain ⟨vs, rs, es⟩ := datasV_ok ih h4
      intro H ρ
      have hs : its.size ≤ sizeLine := by
        have := Nat.le_of_ble_eq_true h3
        rw [sizeLine_eq]; omega
      exact .tup (.inr ⟨o, its, n2, by rw [hK]; exact ho, of_decide_eq_true h1, hd, hs, rs⟩) (es H ρ)
    · cases h2
  · cases h
theorem dataV_ok {p : Pm} {K : PySem.W.Frag} (hK : p.K = K) : ∀ {n : Nat} {u : Value} {d : D}, dataV K n u d = true → ∃ v, RelV v u ∧ ∀ H ρ, Dv p H ρ d v := by
  intro n
  induction n with
  | zero => intro u d h; unfold dataV at h; cases h
  | succ n ih =>
    intro u d h
    cases u with
    | int i t =>
      cases d with
      | int z =>
        have e : i = z := of_decide_eq_true (by unfold dataV at h; exact h)
        subst e
        exact ⟨.int i, ⟨t, rfl⟩, fun _ _ => .int i⟩
      | _ => unfold dataV at h; cases h
    | str s t =>
      cases d with
      | str l =>
        have e : s = (⟨l.toArray⟩ : Str) := of_decide_eq_true (by unfold dataV at h; exact h)
        subst e
        exact ⟨.str _, ⟨t, rfl⟩, fun _ _ => .str l⟩
      | _ => unfold dataV at h; cases h
    | ref a =>
      cases d with
      | tup ds => exact ⟨.ref a, rfl, dataT_ok hK ih h⟩
      | _ => unfold dataV at h; cases h
    | _ => cases d <;> (unfold dataV at h; cases h)
def tupD (K : PySem.W.Frag) (x : Str) (ds : List D) : Bool := dataV K 9 (.ref (He.ga K x)) (.tup ds)
theorem tupD_ok {p : Pm} {K : PySem.W.Frag} {x : Str} {ds : List D} (hK : p.K = K) (h : tupD K x ds = true) : ∀ H ρ, Dv p H ρ (.tup ds) (.ref (He.ga K x)) := dataT_ok hK (fun h => dataV_ok hK h) h
/-! ### a = b = e -/
section
variable {X : Cx} {p : Pm} {Z : L2.St → Prop} {W : Wx} {pos : Pos}
noncomputable def sSet2 (i j : Nat) (m : EM) : SM := fun S L => (m S L).sd S fun d L1 => setS S i (some d) fun S1 => setS S1 j (some d) fun S2 => .nx S2 L1
theorem es_set2 {i j : Nat} {st : Stmt} {m : EM} (h : PS X st (tAsg2 (TrE p Z W m) (gName i) (gName j))) : ES X p Z W st (sSet2 i j m) := ⟨PS.imp h fun T σ H h => by
  obtain ⟨ρ, S, L, a, po⟩ := h
  refine ⟨ρ, S, L, a, (PoS.sd a po).imp fun ρ1 L1 d v H1 e1 r1 d1 q => ?_⟩
  rw [setS_eq, setS_eq] at q
  exact q ρ1 H1 ((σ.set i (some v)).set j (some v)) (Ext.refl _ _) r1 (((a.env.mono a.rl e1).set d1).set d1)⟩
theorem es_setLc2 {i : Nat} {y : Str} {py : Pos} {elt tg iter tg1 iter1 : Expr} {ifs ifs1 : List Expr} {scope : Scope} {own : List (Str × Nat)} {vs1 : List Nat} {spos : Pos} {mi mt mi1 mt1 me : EM} {nf nf1 : NF} {g g1 : GM} (hc : X.calm = true) (hN : X.N.Nodup) (hy : X.N[i]? = some y) (hyl : X.env.scope.names.lookup y = some .local)
    (hsw : swapsWith (.ListComp elt [⟨tg, iter, ifs, 0⟩, ⟨tg1, iter1, ifs1, 0⟩] scope pos) (some (.Name y py)) spos.line X.env = pure true) (hi : EI X p ZT W tg iter mi nf) (ok : BlkOk X.N X.env.scope scope own) (hv : ∀ i ∈ vs1, i ∈ own.map (·.2))
    (hg : ∀ (s : Shared) (H : Hp) (C : Addr) (cl : List (Str × Addr)) (fp : List Addr), CT (X.blk s H scope (compEnvC scope cl C X.env) fp) p tg g (own.map (·.2))) (ht : ∀ (s : Shared) (H : Hp) (C : Addr) (cl : List (Str × Addr)) (fp : List Addr), ETs (X.blk s H scope (compEnvC scope cl C X.env) fp) p ZT WF ifs mt)
    (hi1 : ∀ (s : Shared) (H : Hp) (C : Addr) (cl : List (Str × Addr)) (fp : List Addr), EI2 (X.blk s H scope (compEnvC scope cl C X.env) fp) p ZT WF tg1 iter1 mi1 nf1)
    (hg1 : ∀ (s : Shared) (H : Hp) (C : Addr) (cl : List (Str × Addr)) (fp : List Addr), CT (X.blk s H scope (compEnvC scope cl C X.env) fp) p tg1 g1 vs1) (ht1 : ∀ (s : Shared) (H : Hp) (C : Addr) (cl : List (Str × Addr)) (fp : List Addr), ETs (X.blk s H scope (compEnvC scope cl C X.env) fp) p ZT WF ifs1 mt1)
    (he : ∀ (s : Shared) (H : Hp) (C : Addr) (cl : List (Str × Addr)) (fp : List Addr), EE (X.blk s H scope (compEnvC scope cl C X.env) fp) p ZT WF elt me) (hs : ∀ x, foldedSetIterable iter X.env x = pure x := by intro _; rfl) (hs1 : ∀ env x, foldedSetIterable iter1 env x = pure x := by intro _ _; rfl) :
    ES X p ZT W (.Assign [.Name y py] (.ListComp elt [⟨tg, iter, ifs, 0⟩, ⟨tg1, iter1, ifs1, 0⟩] scope pos) spos) (sSet i (mLc2 mi nf g mt mi1 nf1 g1 mt1 me (own.map (·.2)) vs1)) :=
  es_set (PS.imp (ps_setLc2 hc hN hy hyl hsw hi.pi ok hv (fun s H C cl fp => (hg s H C cl fp).pg) (fun s H C cl fp => (ht s H C cl fp).pt) (fun s H C cl fp => (hi1 s H C cl fp).pi) (fun s H C cl fp => (hg1 s H C cl fp).pg) (fun s H C cl fp => (ht1 s H C cl fp).pt) (fun s H C cl fp => (he s H C cl fp).pe) hs hs1) fun T σ H h => tr_lc2 (show TrE p ZT W (mLc2 mi nf g mt mi1 nf1 g1 mt1 me (own.map (·.2)) vs1) σ H (fun v H1 => gName i v σ H1 T.nx) from h))
end
end Mr
namespace Mr
open PySem PySem.Spec PyProof.Rows L2
/-! ### a law that hangs on how long its script is -/
noncomputable def anyN (n : Nat) : List D := @Nat.rec (fun _ => List D) [] (fun _ ih => .any :: ih) n
theorem dvs_any {p : Pm} {H : Hp} {ρ : List Addr} : ∀ vs : List V, Dvs p H ρ (anyN vs.length) vs
  | [] => .nil
  | v :: vs => .cons (.any v) (dvs_any vs)
/-- for each length below n -/
noncomputable def lensT (F : Fn') (n : Nat) : Bool := @Nat.rec (fun _ => Bool) true (fun k ih => @Bool.casesOn (fun _ => Bool) (isT (F [.frl (anyN k)] L0)) false ih) n
theorem lensT_ok {F : Fn'} : ∀ {n : Nat}, lensT F n = true → ∀ k, k < n → isT (F [.frl (anyN k)] L0) = true
  | 0, _, k, hk => absurd hk (Nat.not_lt_zero _)
  | n + 1, h, k, hk => by
    have h' : @Bool.casesOn (fun _ => Bool) (isT (F [.frl (anyN n)] L0)) false (lensT F n) = true := h
    cases e : isT (F [.frl (anyN n)] L0) with
    | false => rw [e] at h'; cases h'
    | true =>
      rw [e] at h'
      by_cases q : k = n
      · rw [q]; exact e
      · exact lensT_ok (n := n) h' k (by omega)
theorem law_len {p : Pm} {F : Fn'} (h : lensT F 64 = true) {K : PySem.W.Frag} (hK : p.K = K) {H : Hp} {a : Addr} {ns : List Int} (hl : ns.length ≤ 63) (hO : Only H) (hS : SqL K H a (ns.map V.int)) : spM p 1 F [.ref a] H (fun v _ => v = .bl true) fun _ _ _ => False := by
  have ev := lensT_ok h ns.length (by omega)
  have e1 : (ns.map V.int).length = ns.length := List.length_map ..
  have dv : Dv p H [] (.frl (anyN ns.length)) (.ref a) := by
    have ds := dvs_any (p := p) (H := H) (ρ := []) (ns.map V.int)
    rw [e1] at ds
    rcases hS with (hS | ⟨o, hS⟩) | hS
    · rcases hO a with z | ⟨o, xs, z⟩
      · rw [hS] at z; cases z
      · rw [hS] at z; cases z
    · exact .frl hS ds
    · exact .frk (by rw [hK]; exact hS) ds
  refine ⟨rfl, [], [.frl (anyN ns.length)], L0, rl_L0, .cons dv .nil, ?_⟩
  unfold isT at ev
  split at ev
  · rename_i L e
    rw [e]
    intro ρ' H' v' _ _ d
    cases d; rfl
  · cases ev
end Mr
namespace Mr
open PySem PySem.Spec PyProof.Rows L2
/-! ### name += e, also of lists -/
noncomputable def oAddX (d e : D) (L : Sto) : Out := match d, e with
  | .int i, .int j => fI (Int.add i j) fun k => .ok (.int k) L
  | .ref i, .ref j => match L.get i, L.get j with
    | some xs, some ys => iff_ (short xs most) (iff_ (short ys most) (catO xs ys fun zs => L.setK i zs fun L' => .ok (.ref i) L') .bad) .bad
    | _, _ => .bad
  | _, _ => .bad
section
variable {X : Cx} {p : Pm} {W : Wx} {pos : Pos}
theorem op2_addX : Op2 p (fun x y H Q => rI0 (fun i j => .int (i + j)) x y H Q ∨ rExt2 x y H Q) oAddX := by
  intro W σ ρ L H d e x y Q r hd he po
  unfold oAddX at po
  split at po
  · rename_i i j
    cases hd; cases he
    have po1 : Po p W σ (fun _ _ _ v H' => Q v H') ρ H (fI (i + j) fun k => .ok (.int k) L) := po
    rw [fI_eq] at po1
    exact .inl ⟨i, j, rfl, rfl, po_ok po1 r (.int _)⟩
  · rename_i i j
    cases hd with
    | @ref _ b hi =>
      cases he with
      | @ref _ c hj =>
        obtain ⟨es, ys, f1, f2, f3⟩ := r.at_ i b hi
        obtain ⟨fs, zs, g1, g2, g3⟩ := r.at_ j c hj
        rw [f1, g1] at po
        simp only at po
        obtain ⟨c1, po1⟩ := iff_t po
        obtain ⟨c2, po2⟩ := iff_t po1
        rw [catO_eq] at po2
        have hl := short_le c1
        have hl2 := short_le c2
        rw [f3.length] at hl
        rw [g3.length] at hl2
        have hm : most = 100000 := rfl
        refine .inr ⟨b, c, ys, zs, rfl, rfl, f2, g2, by rw [sizeLine_eq]; omega, ?_⟩
        rcases setK_or L i (es ++ fs) (fun L' => .ok (.ref i) L') with e | ⟨L', e, h2, h3⟩
        · rw [e] at po2; exact po2.elim
        · rw [e] at po2
          obtain ⟨x1, r1⟩ := r.set hi (f3.append g3) h2 h3
          exact po2 ρ _ (.ref b) x1 r1 (.ref hi)
  · exact po.elim
variable {i : Nat} {x : Str} {e : Expr} {m : EM} {p' : Pos}
theorem s_augAddX (hN : X.N.Nodup) (he : EE X p ZT W e m) (hi : X.N[i]? = some x := by rfl) (hx : Loc X.env.scope x := by first | exact Or.inl rfl | exact Or.inr rfl) (hf : X.fn x = true ∨ X.env.scope.names.lookup x = some .local := by first | exact .inl rfl | exact .inr rfl) : ES X p ZT W (.AugAssign (.Name x p') .Add e pos) (sAug i oAddX m) := es_aug (ps_aug hN hi hx he.pe (iop_add.or iop_ext) hf) op2_addX
end
end Mr

namespace Mr
open PySem PySem.Spec PyProof.Rows L2
/-! ### calls whose answers are known -/
noncomputable def eqNs (l : List Nat) : List Nat → Bool := @List.rec Nat (fun _ => List Nat → Bool) (fun m => match m with
  | [] => true
  | _ :: _ => false) (fun a _ ih m => match m with
  | [] => false
  | b :: m => @Bool.casesOn (fun _ => Bool) (Nat.beq a b) false (ih m)) l
theorem eqNs_ok : ∀ {l m : List Nat}, eqNs l m = true → l = m
  | [], [], _ => rfl
  | [], _ :: _, h => by cases h
  | _ :: _, [], h => by cases h
  | a :: l, b :: m, h => by
    have h' : @Bool.casesOn (fun _ => Bool) (Nat.beq a b) false (eqNs l m) = true := h
    cases e : Nat.beq a b with
    | false => rw [e] at h'; cases h'
    | true =>
      rw [e] at h'
      rw [Nat.eq_of_beq_eq_true e, eqNs_ok h']
noncomputable def eqLs (f : D → D → Bool) (l : List D) : List D → Bool := @List.rec D (fun _ => List D → Bool) (fun m => match m with
  | [] => true
  | _ :: _ => false) (fun a _ ih m => match m with
  | [] => false
  | b :: m => @Bool.casesOn (fun _ => Bool) (f a b) false (ih m)) l
theorem eqLs_ok {f : D → D → Bool} (hf : ∀ {a b}, f a b = true → a = b) : ∀ {l m : List D}, eqLs f l m = true → l = m
  | [], [], _ => rfl
  | [], _ :: _, h => by cases h
  | _ :: _, [], h => by cases h
  | a :: l, b :: m, h => by
    have h' : @Bool.casesOn (fun _ => Bool) (f a b) false (eqLs f l m) = true := h
    cases e : f a b with
    | false => rw [e] at h'; cases h'
    | true =>
      rw [e] at h'
      rw [hf e, eqLs_ok hf h']
noncomputable def asBl (d : D) : Option Bool := match d with
  | .bl b => some b
  | _ => none
noncomputable def asInt (d : D) : Option Int := match d with
  | .int b => some b
  | _ => none
noncomputable def asStr (d : D) : Option (List Nat) := match d with
  | .str b => some b
  | _ => none
noncomputable def asTy (d : D) : Option Nat := match d with
  | .ty b => some b
  | _ => none
noncomputable def asFn (d : D) : Option Nat := match d with
  | .fn b => some b
  | _ => none
noncomputable def asTup (d : D) : Option (List D) := match d with
  | .tup b => some b
  | _ => none
noncomputable def asNon (d : D) : Bool := match d with
  | .non => true
  | _ => false
theorem asBl_ok {d : D} {b : Bool} (h : asBl d = some b) : d = .bl b := by cases d <;> first | (cases h; rfl) | cases h
theorem asInt_ok {d : D} {b : Int} (h : asInt d = some b) : d = .int b := by cases d <;> first | (cases h; rfl) | cases h
theorem asStr_ok {d : D} {b : List Nat} (h : asStr d = some b) : d = .str b := by cases d <;> first | (cases h; rfl) | cases h
theorem asTy_ok {d : D} {b : Nat} (h : asTy d = some b) : d = .ty b := by cases d <;> first | (cases h; rfl) | cases h
theorem asFn_ok {d : D} {b : Nat} (h : asFn d = some b) : d = .fn b := by cases d <;> first | (cases h; rfl) | cases h
theorem asTup_ok {d : D} {b : List D} (h : asTup d = some b) : d = .tup b := by cases d <;> first | (cases h; rfl) | cases h
theorem asNon_ok {d : D} (h : asNon d = true) : d = .non := by cases d <;> first | rfl | cases h
noncomputable def opB {α : Type} (o : Option α) (f : α → Bool) : Bool := @Option.casesOn α (fun _ => Bool) o false f
theorem opB_ok {α : Type} {o : Option α} {f : α → Bool} (h : opB o f = true) : ∃ a, o = some a ∧ f a = true := by
  cases o with
  | none => cases h
  | some a => exact ⟨a, rfl, h⟩
noncomputable def eqBl (a b : Bool) : Bool := @Bool.casesOn (fun _ => Bool) a (!b) b
theorem eqBl_ok {a b : Bool} (h : eqBl a b = true) : a = b := by cases a <;> cases b <;> first | rfl | cases h
/-- the same data, without lists of the store, at most so deep -/
noncomputable def eqD (n : Nat) : D → D → Bool := @Nat.rec (fun _ => D → D → Bool) (fun _ _ => false) (fun _ ih d e => match d with
  | .non => asNon e
  | .bl a => opB (asBl e) fun b => eqBl a b
  | .int i => opB (asInt e) fun j => PySem.W.Z.eqB i j
  | .str l => opB (asStr e) fun m => eqNs l m
  | .ty a => opB (asTy e) fun b => Nat.beq a b
  | .fn a => opB (asFn e) fun b => Nat.beq a b
  | .tup xs => opB (asTup e) fun ys => eqLs ih xs ys
  | _ => false) n
theorem eqD_ok : ∀ (n : Nat) {d e : D}, eqD n d e = true → d = e
  | 0, _, _, h => by cases h
  | n + 1, d, e, h => by
    cases d with
    | non => exact (asNon_ok h).symm
    | bl a => obtain ⟨b, h1, h2⟩ := opB_ok (show opB (asBl e) (fun b => eqBl a b) = true from h); rw [asBl_ok h1, eqBl_ok h2]
    | int a => obtain ⟨b, h1, h2⟩ := opB_ok (show opB (asInt e) (fun j => PySem.W.Z.eqB a j) = true from h); rw [asInt_ok h1, (PySem.W.Z.eqB_iff _ _).mp h2]
    | str a => obtain ⟨b, h1, h2⟩ := opB_ok (show opB (asStr e) (fun m => eqNs a m) = true from h); rw [asStr_ok h1, eqNs_ok h2]
    | ty a => obtain ⟨b, h1, h2⟩ := opB_ok (show opB (asTy e) (fun b => Nat.beq a b) = true from h); rw [asTy_ok h1, Nat.eq_of_beq_eq_true h2]
    | fn a => obtain ⟨b, h1, h2⟩ := opB_ok (show opB (asFn e) (fun b => Nat.beq a b) = true from h); rw [asFn_ok h1, Nat.eq_of_beq_eq_true h2]
    | tup a => obtain ⟨b, h1, h2⟩ := opB_ok (show opB (asTup e) (fun ys => eqLs (eqD n) a ys) = true from h); rw [asTup_ok h1, eqLs_ok (fun q => eqD_ok n q) h2]
    | ref _ => cases h
    | rng _ _ => cases h
    | frl _ => cases h
    | any => cases h
/-- without lists of the store -/
inductive Pu : D → Prop where
  | non : Pu .non
  | bl (b : Bool) : Pu (.bl b)
  | int (i : Int) : Pu (.int i)
  | str (l : List Nat) : Pu (.str l)
  | ty (n : Nat) : Pu (.ty n)
  | fn (n : Nat) : Pu (.fn n)
  | tup {xs : List D} : (∀ x ∈ xs, Pu x) → Pu (.tup xs)
theorem eqLs_pu {f : D → D → Bool} (hf : ∀ {a b}, f a b = true → Pu a) : ∀ {l m : List D}, eqLs f l m = true → ∀ x ∈ l, Pu x
  | [], [], _ => fun x hx => by cases hx
  | [], _ :: _, h => by cases h
  | _ :: _, [], h => by cases h
  | a :: l, b :: m, h => by
    have h' : @Bool.casesOn (fun _ => Bool) (f a b) false (eqLs f l m) = true := h
    cases e : f a b with
    | false => rw [e] at h'; cases h'
    | true =>
      rw [e] at h'
      intro x hx
      rcases List.mem_cons.mp hx with q | q
      · rw [q]; exact hf e
      · exact eqLs_pu hf h' x q
theorem eqD_pu : ∀ (n : Nat) {d e : D}, eqD n d e = true → Pu d
  | 0, _, _, h => by cases h
  | n + 1, d, e, h => by
    cases d with
    | non => exact .non
    | bl a => exact .bl _
    | int a => exact .int _
    | str a => exact .str _
    | ty a => exact .ty _
    | fn a => exact .fn _
    | tup a => obtain ⟨b, h1, h2⟩ := opB_ok (show opB (asTup e) (fun ys => eqLs (eqD n) a ys) = true from h); exact .tup (eqLs_pu (fun q => eqD_pu n q) h2)
    | ref _ => cases h
    | rng _ _ => cases h
    | frl _ => cases h
    | any => cases h
theorem pu_tup {xs : List D} (q : Pu (.tup xs)) : ∀ x ∈ xs, Pu x := by cases q with | tup z => exact z
section
variable {p : Pm} {H : Hp} {ρ ρ' : List Addr}
mutual
theorem Dv.pu : ∀ {d : D} {v : V}, Dv p H ρ d v → Pu d → Dv p H ρ' d v
  | _, _, .non, _ => .non
  | _, _, .bl b, _ => .bl b
  | _, _, .int i, _ => .int i
  | _, _, .str l, _ => .str l
  | _, _, .ty n, _ => .ty n
  | _, _, .fn n, _ => .fn n
  | _, _, .ref _, q => by cases q
  | _, _, .tup h hs, q => .tup h (Dvs.pu hs (pu_tup q))
  | _, _, .rng _, q => by cases q
  | _, _, .frl _ _, q => by cases q
  | _, _, .frk _ _, q => by cases q
  | _, _, .any _, q => by cases q
theorem Dvs.pu : ∀ {ds : List D} {vs : List V}, Dvs p H ρ ds vs → (∀ x ∈ ds, Pu x) → Dvs p H ρ' ds vs
  | _, _, .nil, _ => .nil
  | _, _, .cons h hs, q => .cons (Dv.pu h (q _ List.mem_cons_self)) (Dvs.pu hs fun x hx => q x (List.mem_cons_of_mem _ hx))
end
end
section
variable {p : Pm} {H : Hp} {ρ : List Addr}
mutual
theorem Dv.more (t : List Addr) : ∀ {d : D} {v : V}, Dv p H ρ d v → Dv p H (ρ ++ t) d v
  | _, _, .non => .non
  | _, _, .bl b => .bl b
  | _, _, .int i => .int i
  | _, _, .str l => .str l
  | _, _, .ty n => .ty n
  | _, _, .fn n => .fn n
  | _, _, .ref h => .ref (by rw [List.getElem?_append_left (List.getElem?_eq_some_iff.mp h).1]; exact h)
  | _, _, .tup h hs => .tup h (Dvs.more t hs)
  | _, _, .rng h => .rng h
  | _, _, .frl h hs => .frl h (Dvs.more t hs)
  | _, _, .frk h hs => .frk h (Dvs.more t hs)
  | _, _, .any v => .any v
theorem Dvs.more (t : List Addr) : ∀ {ds : List D} {vs : List V}, Dvs p H ρ ds vs → Dvs p H (ρ ++ t) ds vs
  | _, _, .nil => .nil
  | _, _, .cons h hs => .cons (Dv.more t h) (Dvs.more t hs)
end
end
/-- what a call is known to come to: an answer, or an error -/
inductive Kw where
  | ans (d : D)
  | err (c : Nat)
  | new (ds : List D)
noncomputable def getRef (d : D) (L : Sto) (f : List D → Bool) : Bool := match d with
  | .ref i => opB (L.get i) f
  | _ => false
noncomputable def okIs (o : Out) (r : Kw) : Bool := match o, r with
  | .ok d _, .ans e => eqD 12 e d
  | .err c _, .err k => Nat.beq c k
  | .ok d L, .new es => getRef d L fun xs => eqLs (eqD 12) es xs
  | _, _ => false
/-- each row of the table is so -/
def KT (F : Fn') : List (List D × Kw) → Prop
  | [] => True
  | e :: t => okIs (F e.1 L0) e.2 = true ∧ KT F t
noncomputable def lookT (ds : List D) (tb : List (List D × Kw)) : Option Kw := @List.rec (List D × Kw) (fun _ => Option Kw) none (fun e _ ih => @Bool.casesOn (fun _ => Option Kw) (eqLs (eqD 12) e.1 ds) ih (some e.2)) tb
theorem lookT_ok {F : Fn'} {ds : List D} {r : Kw} : ∀ {tb : List (List D × Kw)}, KT F tb → lookT ds tb = some r → okIs (F ds L0) r = true ∧ ∀ x ∈ ds, Pu x
  | [], _, h => by cases h
  | e :: t, k, h => by
    have h' : @Bool.casesOn (fun _ => Option Kw) (eqLs (eqD 12) e.1 ds) (lookT ds t) (some e.2) = some r := h
    cases q : eqLs (eqD 12) e.1 ds with
    | false => rw [q] at h'; exact lookT_ok k.2 h'
    | true =>
      rw [q] at h'
      cases h'
      have e1 := eqLs_ok (fun z => eqD_ok 12 z) q
      refine ⟨by rw [← e1]; exact k.1, ?_⟩
      rw [← e1]; exact eqLs_pu (fun z => eqD_pu 12 z) q
noncomputable def mCallT (n : Nat) (F : Fn') (tb : List (List D × Kw)) (ms : EM) : EM := fun S L => (ms S L).row fun ds L1 => @Bool.casesOn (fun _ => Out) (Nat.beq (lenN ds) n) .bad (match lookT ds tb with
  | some (.ans d) => .ok d L1
  | some (.err c) => .err c L1
  | some (.new es) => L1.newK es fun k L' => .ok (.ref k) L'
  | none => F ds L1)
section
variable {X : Cx} {p : Pm} {Z : L2.St → Prop} {W : Wx} {pos : Pos}
theorem tr_callT {n : Nat} {F : Fn'} {tb : List (List D × Kw)} {ms : EM} (kt : KT F tb) {σ : L2.St} {H : Hp} {Q : VK} (h : TrE p Z W (mCallT n F tb ms) σ H Q) : tCallS (spM p n F) (WE W) (TrA p Z W ms) σ H Q := by
  obtain ⟨ρ, S, L, a, po⟩ := h
  refine ⟨ρ, S, L, a, (Pa.imp fun ρ1 L1 ds vs H1 e1 r1 d1 q => ?_) (Pa.row po)⟩
  cases hb : Nat.beq (lenN ds) n with
  | false => rw [hb] at q; exact q.elim
  | true =>
    rw [hb] at q
    have hl : vs.length = n := by rw [← d1.length, ← lenN_eq]; exact Nat.eq_of_beq_eq_true hb
    simp only at q
    cases hk : lookT ds tb with
    | none =>
      rw [hk] at q
      exact ⟨hl, ρ1, ds, L1, r1, d1, Po.sw (fun _ _ h => h) q⟩
    | some r =>
      rw [hk] at q
      obtain ⟨ok, hp⟩ := lookT_ok kt hk
      refine ⟨hl, [], ds, L0, rl_L0, d1.pu hp, ?_⟩
      unfold okIs at ok
      split at ok
      · rename_i o0 r0 d L' e eo
        have ed := eqD_ok 12 ok
        have ep := eqD_pu 12 ok
        subst ed
        rw [eo]
        intro ρ2 H2 v x2 _ dv
        obtain ⟨x, r'⟩ := r1.kept x2
        exact q ρ1 H2 v x r' (dv.pu ep)
      · rename_i o0 r0 c L' k eo
        have ec := Nat.eq_of_beq_eq_true ok
        subst ec
        rw [eo]
        intro ρ2 H2 x2 _
        obtain ⟨x, r'⟩ := r1.kept x2
        exact q ρ1 H2 x r'
      · rename_i o0 r0 d L' es eo
        rw [eo]
        intro ρ2 H2 v x2 rx dv
        cases dv with
        | @ref i b hi =>
          obtain ⟨xs, g1, g2⟩ := opB_ok (show opB (L'.get i) (fun xs => eqLs (eqD 12) es xs) = true from ok)
          have ed := eqLs_ok (fun z => eqD_ok 12 z) g2
          have ep := eqLs_pu (fun z => eqD_pu 12 z) g2
          subst ed
          obtain ⟨ds', ys, f1, f2, f3⟩ := rx.at_ i b hi
          rw [g1] at f1
          cases f1
          obtain ⟨x, r'⟩ := r1.kept x2
          have hb1 : H1 b = none := by
            obtain ⟨t, ht, hf⟩ := x2.pre
            refine hf b ?_
            have := List.mem_of_getElem? hi
            rw [ht] at this
            simpa using this
          have hbρ : b ∉ ρ1 := fun hm => by obtain ⟨zs, z⟩ := r1.lst hm; rw [hb1] at z; cases z
          simp only at q
          rcases newK_or L1 es (fun k L' => .ok (.ref k) L') with q1 | ⟨L3, q1, q2, q3⟩
          · rw [q1] at q; exact q.elim
          · rw [q1] at q
            have hl2 : (ρ1 ++ [b])[L1.n]? = some b := by rw [← r1.len]; simp
            refine q (ρ1 ++ [b]) H2 (.ref b) ⟨⟨[b], rfl, fun a ha => ?_⟩, x.keep, x.free⟩ ⟨?_, ?_, fun j c hj => ?_⟩ (.ref hl2)
            · have e : a = b := by simpa using ha
              rw [e]; exact hb1
            · rw [List.nodup_append]
              refine ⟨r1.nd, by simp, fun a ha c hc => ?_⟩
              have e : c = b := by simpa using hc
              rw [e]; intro z; rw [z] at ha; exact hbρ ha
            · rw [List.length_append, r1.len, q2]; rfl
            · by_cases hj' : j < ρ1.length
              · rw [List.getElem?_append_left hj'] at hj
                obtain ⟨es', ys', u1, u2, u3⟩ := r'.at_ j c hj
                refine ⟨es', ys', ?_, u2, u3.more _⟩
                rw [q3, if_neg (by have := r1.len; omega)]; exact u1
              · have hj2 : j < (ρ1 ++ [b]).length := (List.getElem?_eq_some_iff.mp hj).1
                have e : j = ρ1.length := by rw [List.length_append] at hj2; simp at hj2; omega
                subst e
                rw [List.getElem?_append_right (Nat.le_refl _)] at hj
                simp at hj
                subst hj
                exact ⟨es, ys, by rw [q3, if_pos r1.len], f2, f3.pu ep⟩
        | _ => cases ok
      · cases ok
theorem ee_callT {x : Str} {pn : Pos} {e : Expr} {es : List Expr} {n k j : Nat} {F : Fn'} {tb : List (List D × Kw)} {ms : EM} (kt : KT F tb) (h : Kn X.prog X.w X.K X.mg X.base p k x n F) (hr : Room j X.A) (hkj : k ≤ j) (tk : Takes X W) (ha : EA X p Z W (e :: es) ms) (hg : Gl X x := by rfl)
    (hdb : (x == ("__debug__" : Str)) = false := by decide) (he : starEach (e :: es) X.env = (false, eval e X.env) :: starEach es X.env := by rfl) (hpl : (backTo pos (starEach es X.env)).any (·.1) = false := by rfl) : EE X p Z W (.Call (.Name x pn) (e :: es) [] pos) (mCallT n F tb ms) := by
  obtain ⟨f, fd, ps, hF, hm, hk, hb⟩ := h.ex
  exact ⟨PE.imp (pe_callS (hF.mono hkj) hr hg hm hk hb (passAt tk) ha.pa hdb he hpl) fun σ H Q q => tr_callT kt q⟩
end
end Mr
namespace Mr
open PySem PySem.Spec PyProof.Rows L2
/-! ### list of a range -/
def rLstRg : List V → Hp → VK → Prop := fun vs H Q => ∃ q0 a b, vs = [V.ref q0] ∧ H q0 = some (.rng a b) ∧ RgOk a b ∧ ∀ q, H q = none → Q (.ref q) (upd H q (.lst (rgV a b)))
theorem cr_listRg {X : Cx} (hc : X.calm = true) : CallR X (.type "list") rLstRg := by
  rintro pins0 s0 σ0 H0 vs us Q0 I0 r0 ⟨q0, a, b, rfl, hq, ⟨b1, b2, b3, b4, b5⟩, qq⟩
  rw [Vals.ref1 r0]
  obtain ⟨t, u, w0, hget⟩ := I0.hok q0 _ hq
  refine call_list_range (n := (b - a).toNat) (I0.ok.hd hc) hget (small_one b1 b2 b3 b4) (rangeSize_nat a b) b5 fun h' tk acc c' hk e' hi => ?_
  refine ⟨.ref s0.heap.objs.size, upd H0 s0.heap.objs.size (.lst (rgV a b)), I0.laid hk (Nat.le_refl _) (show ObjOk X.prog X.w _ _ _ (.lst (rgV a b)) from ⟨?_, acc.toList, c', vals_rg hi, ?_⟩), rfl, qq _ (I0.hok.fresh (Nat.le_refl _))⟩
  · rw [rgV_length, sizeLine_eq]; omega
  · rw [Array.toArray_toList]; exact e'
noncomputable def rngL (n : Nat) : Int → List D := @Nat.rec (fun _ => Int → List D) (fun _ => []) (fun _ ih i => .int i :: ih (Int.add i 1)) n
theorem rngL_ok {p : Pm} {H : Hp} {ρ : List Addr} : ∀ (n : Nat) (a : Int), Dvs p H ρ (rngL n a) ((List.range n).map fun i => V.int (a + (i : Nat)))
  | 0, _ => .nil
  | n + 1, a => by
    have e : ((List.range (n + 1)).map fun i => V.int (a + (i : Nat))) = V.int a :: (List.range n).map fun i => V.int ((a + 1) + (i : Nat)) := by
      rw [List.range_succ_eq_map, List.map_cons, List.map_map]
      congr 1
      · show V.int (a + 0) = V.int a
        rw [Int.add_zero]
      · refine List.map_congr_left fun i _ => ?_
        show V.int (a + ((i + 1 : Nat) : Int)) = V.int ((a + 1) + (i : Nat))
        congr 1
        omega
    rw [e]
    exact .cons (.int a) (rngL_ok n (a + 1))
noncomputable def oListX (ds : List D) (L : Sto) : Out := match ds with
  | [.rng lo hi] => iff_ (PySem.W.Z.ltB lo lim) (iff_ (PySem.W.Z.ltB (-lim) lo) (iff_ (PySem.W.Z.ltB hi lim) (iff_ (PySem.W.Z.ltB (-lim) hi) (iff_ (Nat.ble (Int.toNat (Int.sub hi lo)) 100000) (fL (rngL (Int.toNat (Int.sub hi lo)) lo) fun xs => L.newK xs fun k L' => .ok (.ref k) L') .bad) .bad) .bad) .bad) .bad
  | _ => oList ds L
theorem opn_listX {p : Pm} : OpN p (fun vs H Q => (∃ a ys, vs = [.ref a] ∧ (SqL p.K H a ys ∨ SqT p.K H a ys) ∧ ∀ l, H l = none → Q (.ref l) (upd H l (.lst ys))) ∨ rLstRg vs H Q) oListX := by
  intro W σ ρ L H ds vs Q r hd po
  unfold oListX at po
  split at po
  · rename_i lo hi
    obtain ⟨v, rfl, h⟩ := dvs1 hd
    cases h with
    | @rng q0 lo hi hq =>
      obtain ⟨c1, q1⟩ := iff_t po
      obtain ⟨c2, q2⟩ := iff_t q1
      obtain ⟨c3, q3⟩ := iff_t q2
      obtain ⟨c4, q4⟩ := iff_t q3
      obtain ⟨c5, q5⟩ := iff_t q4
      rw [fL_eq] at q5
      have g1 := (PySem.W.Z.ltB_iff _ _).mp c1
      have g2 := (PySem.W.Z.ltB_iff _ _).mp c2
      have g3 := (PySem.W.Z.ltB_iff _ _).mp c3
      have g4 := (PySem.W.Z.ltB_iff _ _).mp c4
      have g5 : (hi - lo).toNat ≤ 100000 := Nat.le_of_ble_eq_true c5
      have e : lim = 1000000000000 := rfl
      exact .inr ⟨q0, lo, hi, rfl, hq, ⟨by omega, by omega, by omega, by omega, by omega⟩, po_lst r (rngL_ok _ _) q5⟩
  · exact .inl (opn_list r hd po)
section
variable {X : Cx} {p : Pm} {Z : L2.St → Prop} {W : Wx} {pos : Pos}
theorem f_listX {pn : Pos} {a : Expr} {ms : EM} (hK : p.K = X.K) (hc : X.calm = true) (hm : X.mg "list" = none) (ha : EA X p Z W [a] ms) (hg : Gl X "list" := by rfl) (he : starEach [a] X.env = (false, eval a X.env) :: starEach [] X.env := by rfl) : EE X p Z W (.Call (.Name "list" pn) [a] [] pos) (mN oListX ms) := ee_bty (by rw [hK]; exact CallR.or call_list_of (cr_listRg hc)) opn_listX hm (by rfl) ha hg (by decide) (by decide) he rfl
end
end Mr
namespace Mr
open PySem PySem.Spec PyProof.Rows L2
theorem law_lens {p : Pm} {F : Fn'} (h : ∀ k, k < 64 → isT (F [.frl (anyN k)] L0) = true) {K : PySem.W.Frag} (hK : p.K = K) {H : Hp} {a : Addr} {ns : List Int} (hl : ns.length ≤ 63) (hO : Only H) (hS : SqL K H a (ns.map V.int)) : spM p 1 F [.ref a] H (fun v _ => v = .bl true) fun _ _ _ => False := by
  have go : ∀ n, n ≤ 64 → lensT F n = true := by
    intro n
    induction n with
    | zero => intro _; rfl
    | succ n ih =>
      intro hn
      show @Bool.casesOn (fun _ => Bool) (isT (F [.frl (anyN n)] L0)) false (lensT F n) = true
      rw [h n (by omega)]
      exact ih (by omega)
  exact law_len (go 64 (Nat.le_refl _)) hK hl hO hS
end Mr
namespace Mr
open PySem PySem.Spec PyProof.Rows L2
/-! ### the head's run in parts -/
theorem map3_app {S A B C0 C1 C : Type} {X : Option S} {f : S → A} {g : S → B} {o0 : S → C0} {o1 : S → C1} {o : S → C} {a : A} {b : B} {c0 : C0} {c1 : C1} {c : C} (h0 : X.map (fun x => (f x, g x, o0 x)) = some (a, b, c0)) (h1 : X.map o1 = some c1) (h : ∀ s, o0 s = c0 → o1 s = c1 → o s = c) : X.map (fun x => (f x, g x, o x)) = some (a, b, c) := by
  cases X with
  | none => cases h1
  | some s =>
    have e0 := Option.some.inj h0
    have e1 : o1 s = c1 := Option.some.inj h1
    have ea : f s = a := congrArg (fun z => z.1) e0
    have eb : g s = b := congrArg (fun z => z.2.1) e0
    have ec : o0 s = c0 := congrArg (fun z => z.2.2) e0
    show some (f s, g s, o s) = _
    rw [ea, eb, h s ec e1]
theorem obsX_app {n : Nat} {fa0 fa1 : List He.Fa} {fn0 fn1 : List He.DefD} {tf : List He.Defn} {ex : PySem.W.Frag → Bool} {g : Addr → Option Obj} {w : World} (h0 : He.obsX n fa0 fn0 [] [] (fun _ => true) g = He.valX fn0 [] w) (h1 : He.obsX n fa1 fn1 [] tf ex g = He.valX fn1 [] w) :
    He.obsX n (fa0 ++ fa1) (fn0 ++ fn1) [] tf ex g = He.valX (fn0 ++ fn1) [] w := by
  unfold He.obsX He.valX He.obsT He.valT He.obsD He.valD at *
  have a0 := congrArg (fun z => z.1.1.1) h0
  have a1 := congrArg (fun z => z.1.1.1) h1
  have b0 := congrArg (fun z => z.1.1.2) h0
  have b1 := congrArg (fun z => z.1.1.2) h1
  have c1 := congrArg (fun z => z.2) h1
  simp only at a0 a1 b0 b1 c1
  simp only [Bool.and_eq_true] at a0 a1 c1
  simp only [List.all_append, List.map_append, b0, b1, a0.1, a0.2, a1.1, a1.2, c1.1, c1.2, Bool.and_self, Bool.and_true]
  rfl
end Mr

namespace Mr.K05
open PySem PySem.Spec PyProof.Rows L2 Mr
def top (i : Nat) : Stmt := PySem.Challenge.pw_keepcompany_k05_works_by_hand_and_refuse.main.body.getD i (.Pass ⟨0, 0, 0, 0⟩)
def d_law_boxes : He.DefD := ⟨("_law_boxes", none), "_law_boxes", "_law_boxes", defArgs (top 80), defBody (top 80), defScope (top 80), [], []⟩
def d_law_same : He.DefD := ⟨("_law_same", none), "_law_same", "_law_same", defArgs (top 77), defBody (top 77), defScope (top 77), [], []⟩
def d_tupled : He.DefD := ⟨("tupled", none), "tupled", "tupled", defArgs (top 22), defBody (top 22), defScope (top 22), [], []⟩
def d_is_number : He.DefD := ⟨("is_number", none), "is_number", "is_number", defArgs (top 19), defBody (top 19), defScope (top 19), [], []⟩
def d_is_fraction : He.DefD := ⟨("is_fraction", none), "is_fraction", "is_fraction", defArgs (top 20), defBody (top 20), defScope (top 20), [], []⟩
def d_is_row : He.DefD := ⟨("is_row", none), "is_row", "is_row", defArgs (top 21), defBody (top 21), defScope (top 21), [], []⟩
def d_box_shaped : He.DefD := ⟨("box_shaped", none), "box_shaped", "box_shaped", defArgs (top 49), defBody (top 49), defScope (top 49), [], []⟩
def d_trimmed : He.DefD := ⟨("trimmed", none), "trimmed", "trimmed", defArgs (top 41), defBody (top 41), defScope (top 41), [], []⟩
def d_polys_of : He.DefD := ⟨("polys_of", none), "polys_of", "polys_of", defArgs (top 50), defBody (top 50), defScope (top 50), [], []⟩
def d_bare : He.DefD := ⟨("bare", none), "bare", "bare", defArgs (top 37), defBody (top 37), defScope (top 37), [], []⟩
def d_cut : He.DefD := ⟨("cut", none), "cut", "cut", defArgs (top 36), defBody (top 36), defScope (top 36), [], []⟩
def d_remainder : He.DefD := ⟨("remainder", none), "remainder", "remainder", defArgs (top 38), defBody (top 38), defScope (top 38), [], []⟩
def d_divisor : He.DefD := ⟨("divisor", none), "divisor", "divisor", defArgs (top 39), defBody (top 39), defScope (top 39), [], []⟩
def d_wholes : He.DefD := ⟨("wholes", none), "wholes", "wholes", defArgs (top 13), defBody (top 13), defScope (top 13), [], []⟩
def d_shared_of : He.DefD := ⟨("shared_of", none), "shared_of", "shared_of", defArgs (top 51), defBody (top 51), defScope (top 51), [], []⟩
def d_small_shaped : He.DefD := ⟨("small_shaped", none), "small_shaped", "small_shaped", defArgs (top 52), defBody (top 52), defScope (top 52), [], []⟩
def d_taken : He.DefD := ⟨("taken", none), "taken", "taken", defArgs (top 23), defBody (top 23), defScope (top 23), [], []⟩
def d_taken_small : He.DefD := ⟨("taken_small", none), "taken_small", "taken_small", defArgs (top 54), defBody (top 54), defScope (top 54), [], []⟩
def d_reduced : He.DefD := ⟨("reduced", none), "reduced", "reduced", defArgs (top 9), defBody (top 9), defScope (top 9), [], []⟩
def d_dot : He.DefD := ⟨("dot", none), "dot", "dot", defArgs (top 15), defBody (top 15), defScope (top 15), [], []⟩
def d_taken_row : He.DefD := ⟨("taken_row", none), "taken_row", "taken_row", defArgs (top 25), defBody (top 25), defScope (top 25), [], []⟩
def d_taken_row_of : He.DefD := ⟨("taken_row_of", none), "taken_row_of", "taken_row_of", defArgs (top 26), defBody (top 26), defScope (top 26), [], []⟩
def d_cells_of : He.DefD := ⟨("cells_of", none), "cells_of", "cells_of", defArgs (top 53), defBody (top 53), defScope (top 53), [], []⟩
def d_taken_cells : He.DefD := ⟨("taken_cells", none), "taken_cells", "taken_cells", defArgs (top 55), defBody (top 55), defScope (top 55), [], []⟩
def d_fractions : He.DefD := ⟨("fractions", none), "fractions", "fractions", defArgs (top 14), defBody (top 14), defScope (top 14), [], []⟩
def d_rolled : He.DefD := ⟨("rolled", none), "rolled", "rolled", defArgs (top 47), defBody (top 47), defScope (top 47), [], []⟩
def d_mult : He.DefD := ⟨("mult", none), "mult", "mult", defArgs (top 12), defBody (top 12), defScope (top 12), [], []⟩
def d_times_row : He.DefD := ⟨("times_row", none), "times_row", "times_row", defArgs (top 16), defBody (top 16), defScope (top 16), [], []⟩
def d_minus : He.DefD := ⟨("minus", none), "minus", "minus", defArgs (top 11), defBody (top 11), defScope (top 11), [], []⟩
def d_held_row : He.DefD := ⟨("held_row", none), "held_row", "held_row", defArgs (top 44), defBody (top 44), defScope (top 44), [], []⟩
def d_unit_at : He.DefD := ⟨("unit_at", none), "unit_at", "unit_at", defArgs (top 43), defBody (top 43), defScope (top 43), [], []⟩
def d_kept_rows : He.DefD := ⟨("kept_rows", none), "kept_rows", "kept_rows", defArgs (top 45), defBody (top 45), defScope (top 45), [], []⟩
def d_machine_of : He.DefD := ⟨("machine_of", none), "machine_of", "machine_of", defArgs (top 46), defBody (top 46), defScope (top 46), [], []⟩
def d_moved : He.DefD := ⟨("moved", none), "moved", "moved", defArgs (top 58), defBody (top 58), defScope (top 58), [], []⟩
def d_work_of : He.DefD := ⟨("work_of", none), "work_of", "work_of", defArgs (top 63), defBody (top 63), defScope (top 63), [], []⟩
def d_plus : He.DefD := ⟨("plus", none), "plus", "plus", defArgs (top 10), defBody (top 10), defScope (top 10), [], []⟩
def d_work_sums : He.DefD := ⟨("work_sums", none), "work_sums", "work_sums", defArgs (top 64), defBody (top 64), defScope (top 64), [], []⟩
def d_taken_heard : He.DefD := ⟨("taken_heard", none), "taken_heard", "taken_heard", defArgs (top 56), defBody (top 56), defScope (top 56), [], []⟩
def d_work_by_table : He.DefD := ⟨("work_by_table", none), "work_by_table", "work_by_table", defArgs (top 68), defBody (top 68), defScope (top 68), [], []⟩
def d_table_of_echoes : He.DefD := ⟨("table_of_echoes", none), "table_of_echoes", "table_of_echoes", defArgs (top 65), defBody (top 65), defScope (top 65), [], []⟩
def d_even_table : He.DefD := ⟨("even_table", none), "even_table", "even_table", defArgs (top 67), defBody (top 67), defScope (top 67), [], []⟩
def d_freed : He.DefD := ⟨("freed", none), "freed", "freed", defArgs (top 31), defBody (top 31), defScope (top 31), [], []⟩
def d_first_fall : He.DefD := ⟨("first_fall", none), "first_fall", "first_fall", defArgs (top 30), defBody (top 30), defScope (top 30), [], []⟩
def d_table_sum : He.DefD := ⟨("table_sum", none), "table_sum", "table_sum", defArgs (top 17), defBody (top 17), defScope (top 17), [], []⟩
def d_rounded_below : He.DefD := ⟨("rounded_below", none), "rounded_below", "rounded_below", defArgs (top 34), defBody (top 34), defScope (top 34), [], []⟩
def d_swept : He.DefD := ⟨("swept", none), "swept", "swept", defArgs (top 29), defBody (top 29), defScope (top 29), [], []⟩
def d_whole_solved : He.DefD := ⟨("whole_solved", none), "whole_solved", "whole_solved", defArgs (top 28), defBody (top 28), defScope (top 28), [], []⟩
def d_completed : He.DefD := ⟨("completed", none), "completed", "completed", defArgs (top 33), defBody (top 33), defScope (top 33), [], []⟩
def d_below_row : He.DefD := ⟨("below_row", none), "below_row", "below_row", defArgs (top 32), defBody (top 32), defScope (top 32), [], []⟩
def d_rest_of : He.DefD := ⟨("rest_of", none), "rest_of", "rest_of", defArgs (top 57), defBody (top 57), defScope (top 57), [], []⟩
def d_answers_of : He.DefD := ⟨("answers_of", none), "answers_of", "answers_of", defArgs (top 59), defBody (top 59), defScope (top 59), [], []⟩
def d_first_echoes : He.DefD := ⟨("first_echoes", none), "first_echoes", "first_echoes", defArgs (top 60), defBody (top 60), defScope (top 60), [], []⟩
def d_table_up_to : He.DefD := ⟨("table_up_to", none), "table_up_to", "table_up_to", defArgs (top 66), defBody (top 66), defScope (top 66), [], []⟩
def d_taken_number : He.DefD := ⟨("taken_number", none), "taken_number", "taken_number", defArgs (top 24), defBody (top 24), defScope (top 24), [], []⟩
def d_giving_row : He.DefD := ⟨("giving_row", none), "giving_row", "giving_row", defArgs (top 70), defBody (top 70), defScope (top 70), [], []⟩
def d_gives_within : He.DefD := ⟨("gives_within", none), "gives_within", "gives_within", defArgs (top 69), defBody (top 69), defScope (top 69), [], []⟩
def d_first_gift : He.DefD := ⟨("first_gift", none), "first_gift", "first_gift", defArgs (top 72), defBody (top 72), defScope (top 72), [], []⟩
def d_turned_row : He.DefD := ⟨("turned_row", none), "turned_row", "turned_row", defArgs (top 73), defBody (top 73), defScope (top 73), [], []⟩
def d_is_giving_row : He.DefD := ⟨("is_giving_row", none), "is_giving_row", "is_giving_row", defArgs (top 71), defBody (top 71), defScope (top 71), [], []⟩
def d_law_one_of : He.DefD := ⟨("_law_one_of", none), "_law_one_of", "_law_one_of", defArgs (top 78), defBody (top 78), defScope (top 78), [], []⟩
def d_work_of_sum : He.DefD := ⟨("work_of_sum", none), "work_of_sum", "work_of_sum", defArgs (top 74), defBody (top 74), defScope (top 74), [], []⟩
def d_law_heard : He.DefD := ⟨("_law_heard", none), "_law_heard", "_law_heard", defArgs (top 79), defBody (top 79), defScope (top 79), [], []⟩
def d_law_refused_right : He.DefD := ⟨("_law_refused_right", none), "_law_refused_right", "_law_refused_right", defArgs (top 85), defBody (top 85), defScope (top 85), [], []⟩
def d_law_lists : He.DefD := ⟨("_law_lists", none), "_law_lists", "_law_lists", defArgs (top 76), defBody (top 76), defScope (top 76), [], []⟩
def d_law_names_right : He.DefD := ⟨("_law_names_right", none), "_law_names_right", "_law_names_right", defArgs (top 86), defBody (top 86), defScope (top 86), [], []⟩
def d_law_works_right : He.DefD := ⟨("_law_works_right", none), "_law_works_right", "_law_works_right", defArgs (top 81), defBody (top 81), defScope (top 81), [], []⟩
def d_law_gifts_right : He.DefD := ⟨("_law_gifts_right", none), "_law_gifts_right", "_law_gifts_right", defArgs (top 82), defBody (top 82), defScope (top 82), [], []⟩
def d_law_far_right : He.DefD := ⟨("_law_far_right", none), "_law_far_right", "_law_far_right", defArgs (top 83), defBody (top 83), defScope (top 83), [], []⟩
def d_law_turned_right : He.DefD := ⟨("_law_turned_right", none), "_law_turned_right", "_law_turned_right", defArgs (top 84), defBody (top 84), defScope (top 84), [], []⟩
def d_law_whole : He.DefD := ⟨("_law_whole", none), "_law_whole", "_law_whole", defArgs (top 87), defBody (top 87), defScope (top 87), [], []⟩
def d_law : He.DefD := ⟨("law", none), "law", "law", defArgs (top 88), defBody (top 88), defScope (top 88), [], []⟩
def fn0 : List He.DefD := [d_law_boxes, d_law_same, d_tupled, d_is_number, d_is_fraction, d_is_row, d_box_shaped, d_trimmed, d_polys_of, d_bare, d_cut, d_remainder, d_divisor, d_wholes, d_shared_of, d_small_shaped, d_taken, d_taken_small, d_reduced, d_dot, d_taken_row, d_taken_row_of, d_cells_of, d_taken_cells, d_fractions, d_rolled, d_mult, d_times_row, d_minus, d_held_row, d_unit_at, d_kept_rows, d_machine_of, d_moved, d_work_of, d_plus, d_work_sums, d_taken_heard, d_work_by_table, d_table_of_echoes, d_even_table, d_freed, d_first_fall, d_table_sum, d_rounded_below, d_swept, d_whole_solved, d_completed, d_below_row, d_rest_of, d_answers_of, d_first_echoes, d_table_up_to, d_taken_number, d_giving_row, d_gives_within, d_first_gift, d_turned_row, d_is_giving_row, d_law_one_of, d_work_of_sum, d_law_heard, d_law_refused_right, d_law_lists, d_law_names_right, d_law_works_right, d_law_gifts_right, d_law_far_right, d_law_turned_right, d_law_whole, d_law]
def fn : List He.DefD := fn0
def fa0 : List He.Fa := [.free "ValueError", .free "abs", .free "all", .free "any", .free "bool", .free "enumerate", .free "int", .free "isinstance", .free "len", .free "list", .free "max", .free "range", .free "str", .free "sum", .free "tuple", .free "zip", .glo "_law_boxes", .glo "_law_same", .glo "tupled", .glo "is_number", .glo "is_fraction", .glo "is_row", .glo "box_shaped", .glo "trimmed", .glo "polys_of", .glo "bare", .glo "cut", .glo "remainder", .glo "divisor", .glo "wholes", .glo "shared_of", .glo "small_shaped", .glo "taken", .glo "taken_small", .glo "reduced", .glo "dot", .glo "taken_row", .glo "taken_row_of", .glo "cells_of", .glo "taken_cells", .glo "fractions", .glo "rolled", .glo "mult", .glo "times_row", .glo "minus", .glo "held_row", .glo "unit_at", .glo "kept_rows", .glo "machine_of", .glo "moved", .glo "work_of", .glo "plus", .glo "work_sums", .glo "taken_heard", .glo "work_by_table", .glo "table_of_echoes", .glo "even_table", .glo "freed", .glo "first_fall", .glo "table_sum", .glo "rounded_below", .glo "swept", .glo "whole_solved", .glo "completed", .glo "below_row", .glo "rest_of", .glo "answers_of", .glo "first_echoes", .glo "table_up_to", .glo "taken_number", .glo "giving_row", .glo "gives_within", .glo "first_gift", .glo "turned_row", .glo "is_giving_row", .glo "_law_one_of", .glo "work_of_sum", .glo "_law_heard", .glo "_law_refused_right", .glo "_law_lists", .glo "_law_names_right", .glo "_law_works_right", .glo "_law_gifts_right", .glo "_law_far_right", .glo "_law_turned_right", .glo "_law_whole", .glo "law", .glo "Unfit", .exc "Unfit", .glo "CanNot", .exc "CanNot", .glo "NoPaper", .exc "NoPaper", .glo "TooMany", .exc "TooMany", .exm "Unfit" "Unfit" true, .exm "Unfit" "CanNot" false, .exm "Unfit" "NoPaper" false, .exm "Unfit" "TooMany" false, .exm "CanNot" "Unfit" false, .exm "CanNot" "CanNot" true, .exm "CanNot" "NoPaper" false, .exm "CanNot" "TooMany" false, .exm "NoPaper" "Unfit" false, .exm "NoPaper" "CanNot" false, .exm "NoPaper" "NoPaper" true, .exm "NoPaper" "TooMany" false, .exm "TooMany" "Unfit" false, .exm "TooMany" "CanNot" false, .exm "TooMany" "NoPaper" false, .exm "TooMany" "TooMany" true, .int "MOST_PUSHES" 12, .glo "ONE", .glo "ZERO"]
def fa : List He.Fa := fa0
def ex (K : PySem.W.Frag) : Bool := (He.eqO (PySem.W.nsIn K mainGlobals "gcd") (some (some (.builtin "math.gcd"))) && (He.eqO (PySem.W.nsIn K mainGlobals "lcm") (some (some (.builtin "math.lcm"))) && (excB K "CanNot" && (excB K "NoPaper" && (excB K "Unfit" && (tupD K "ONE" [.int (1), .int (1)] && (tupD K "ZERO" [.int (0), .int (1)] && true)))))))
abbrev R : PySem.W.OpenRow := PySem.W.OpenLaw.row PySem.Challenge.rw_keepcompany_k05_works_by_hand_and_refuse
abbrev hk : PySem.W.Hook := He.hookX 2 fa fn [] [] ex
def ob (s : PySem.W.SharedT) : He.AlX := He.obsX 2 fa fn [] [] ex (HandSHeadRun.getT s)
theorem ob_eq (s : PySem.W.SharedT) : ob s = hk.obs s.abs := He.obsX_eq (HandSHeadRun.getT_eq s)
def loose0 : List PySem.Str := ["__name__", "Unfit", "CanNot", "NoPaper", "TooMany", "ZERO", "ONE", "MOST_PUSHES", "reduced", "plus", "minus", "mult", "wholes", "fractions", "dot", "times_row", "table_sum", "is_number", "is_fraction", "is_row", "tupled", "taken", "taken_number", "taken_row", "taken_row_of", "whole_solved", "swept", "first_fall", "freed", "below_row"]
def loose1 : List PySem.Str := ["completed", "rounded_below", "cut", "bare", "remainder", "divisor", "trimmed", "unit_at", "held_row", "kept_rows", "machine_of", "rolled", "box_shaped", "polys_of", "shared_of", "small_shaped", "cells_of", "taken_small", "taken_cells", "taken_heard", "rest_of", "moved", "answers_of", "first_echoes", "work_of", "work_sums", "table_of_echoes", "table_up_to", "even_table", "work_by_table"]
def loose2 : List PySem.Str := ["gives_within", "giving_row", "is_giving_row", "first_gift", "turned_row", "work_of_sum", "_law_lists", "_law_same", "_law_one_of", "_law_heard", "_law_boxes", "_law_works_right", "_law_gifts_right", "_law_far_right", "_law_turned_right", "_law_refused_right", "_law_names_right", "_law_whole"]
def loose : List PySem.Str := loose0 ++ loose1 ++ loose2
theorem run (w : World) : HandSHeadRun.RunEqI R (PySem.W.view R.prog [0, 88]) hk ob 6000 loose w := by
  unfold HandSHeadRun.RunEqI
  kernel_rfl
end Mr.K05
/-! ### the text of k05 -/
namespace Mr.K05
open PySem PySem.Spec PyProof.Rows L2 Mr
def pm (K : PySem.W.Frag) : Pm := ⟨K, fun k => match k with | 0 => He.ga K "is_row" | 1 => He.ga K "small_shaped" | _ => 0, fun c => match c with | 0 => He.ga K "Unfit" | 1 => He.ga K "CanNot" | 2 => He.ga K "NoPaper" | 3 => He.ga K "TooMany" | _ => 0⟩
structure Gf (K : PySem.W.Frag) (mg : Str → Option Value) : Prop where
  b_ValueError : mg "ValueError" = none
  b_abs : mg "abs" = none
  b_all : mg "all" = none
  b_any : mg "any" = none
  b_bool : mg "bool" = none
  b_enumerate : mg "enumerate" = none
  b_int : mg "int" = none
  b_isinstance : mg "isinstance" = none
  b_len : mg "len" = none
  b_list : mg "list" = none
  b_max : mg "max" = none
  b_range : mg "range" = none
  b_str : mg "str" = none
  b_sum : mg "sum" = none
  b_tuple : mg "tuple" = none
  b_zip : mg "zip" = none
  bf_gcd : mg "gcd" = some (.builtin "math.gcd")
  bf_lcm : mg "lcm" = some (.builtin "math.lcm")
  a__law_boxes : mg "_law_boxes" = some (.ref (He.ga K "_law_boxes"))
  d__law_boxes : ∃ fd, FunD K "_law_boxes" "_law_boxes" (defArgs (top 80)) (defBody (top 80)) (defScope (top 80)) [] [] (He.ga K "_law_boxes") fd
  a__law_same : mg "_law_same" = some (.ref (He.ga K "_law_same"))
  d__law_same : ∃ fd, FunD K "_law_same" "_law_same" (defArgs (top 77)) (defBody (top 77)) (defScope (top 77)) [] [] (He.ga K "_law_same") fd
  a_tupled : mg "tupled" = some (.ref (He.ga K "tupled"))
  d_tupled : ∃ fd, FunD K "tupled" "tupled" (defArgs (top 22)) (defBody (top 22)) (defScope (top 22)) [] [] (He.ga K "tupled") fd
  a_is_number : mg "is_number" = some (.ref (He.ga K "is_number"))
  d_is_number : ∃ fd, FunD K "is_number" "is_number" (defArgs (top 19)) (defBody (top 19)) (defScope (top 19)) [] [] (He.ga K "is_number") fd
  a_is_fraction : mg "is_fraction" = some (.ref (He.ga K "is_fraction"))
  d_is_fraction : ∃ fd, FunD K "is_fraction" "is_fraction" (defArgs (top 20)) (defBody (top 20)) (defScope (top 20)) [] [] (He.ga K "is_fraction") fd
  a_is_row : mg "is_row" = some (.ref (He.ga K "is_row"))
  d_is_row : ∃ fd, FunD K "is_row" "is_row" (defArgs (top 21)) (defBody (top 21)) (defScope (top 21)) [] [] (He.ga K "is_row") fd
  a_box_shaped : mg "box_shaped" = some (.ref (He.ga K "box_shaped"))
  d_box_shaped : ∃ fd, FunD K "box_shaped" "box_shaped" (defArgs (top 49)) (defBody (top 49)) (defScope (top 49)) [] [] (He.ga K "box_shaped") fd
  a_trimmed : mg "trimmed" = some (.ref (He.ga K "trimmed"))
  d_trimmed : ∃ fd, FunD K "trimmed" "trimmed" (defArgs (top 41)) (defBody (top 41)) (defScope (top 41)) [] [] (He.ga K "trimmed") fd
  a_polys_of : mg "polys_of" = some (.ref (He.ga K "polys_of"))
  d_polys_of : ∃ fd, FunD K "polys_of" "polys_of" (defArgs (top 50)) (defBody (top 50)) (defScope (top 50)) [] [] (He.ga K "polys_of") fd
  a_bare : mg "bare" = some (.ref (He.ga K "bare"))
  d_bare : ∃ fd, FunD K "bare" "bare" (defArgs (top 37)) (defBody (top 37)) (defScope (top 37)) [] [] (He.ga K "bare") fd
  a_cut : mg "cut" = some (.ref (He.ga K "cut"))
  d_cut : ∃ fd, FunD K "cut" "cut" (defArgs (top 36)) (defBody (top 36)) (defScope (top 36)) [] [] (He.ga K "cut") fd
  a_remainder : mg "remainder" = some (.ref (He.ga K "remainder"))
  d_remainder : ∃ fd, FunD K "remainder" "remainder" (defArgs (top 38)) (defBody (top 38)) (defScope (top 38)) [] [] (He.ga K "remainder") fd
  a_divisor : mg "divisor" = some (.ref (He.ga K "divisor"))
  d_divisor : ∃ fd, FunD K "divisor" "divisor" (defArgs (top 39)) (defBody (top 39)) (defScope (top 39)) [] [] (He.ga K "divisor") fd
  a_wholes : mg "wholes" = some (.ref (He.ga K "wholes"))
  d_wholes : ∃ fd, FunD K "wholes" "wholes" (defArgs (top 13)) (defBody (top 13)) (defScope (top 13)) [] [] (He.ga K "wholes") fd
  a_shared_of : mg "shared_of" = some (.ref (He.ga K "shared_of"))
  d_shared_of : ∃ fd, FunD K "shared_of" "shared_of" (defArgs (top 51)) (defBody (top 51)) (defScope (top 51)) [] [] (He.ga K "shared_of") fd
  a_small_shaped : mg "small_shaped" = some (.ref (He.ga K "small_shaped"))
  d_small_shaped : ∃ fd, FunD K "small_shaped" "small_shaped" (defArgs (top 52)) (defBody (top 52)) (defScope (top 52)) [] [] (He.ga K "small_shaped") fd
  a_taken : mg "taken" = some (.ref (He.ga K "taken"))
  d_taken : ∃ fd, FunD K "taken" "taken" (defArgs (top 23)) (defBody (top 23)) (defScope (top 23)) [] [] (He.ga K "taken") fd
  a_taken_small : mg "taken_small" = some (.ref (He.ga K "taken_small"))
  d_taken_small : ∃ fd, FunD K "taken_small" "taken_small" (defArgs (top 54)) (defBody (top 54)) (defScope (top 54)) [] [] (He.ga K "taken_small") fd
  a_reduced : mg "reduced" = some (.ref (He.ga K "reduced"))
  d_reduced : ∃ fd, FunD K "reduced" "reduced" (defArgs (top 9)) (defBody (top 9)) (defScope (top 9)) [] [] (He.ga K "reduced") fd
  a_dot : mg "dot" = some (.ref (He.ga K "dot"))
  d_dot : ∃ fd, FunD K "dot" "dot" (defArgs (top 15)) (defBody (top 15)) (defScope (top 15)) [] [] (He.ga K "dot") fd
  a_taken_row : mg "taken_row" = some (.ref (He.ga K "taken_row"))
  d_taken_row : ∃ fd, FunD K "taken_row" "taken_row" (defArgs (top 25)) (defBody (top 25)) (defScope (top 25)) [] [] (He.ga K "taken_row") fd
  a_taken_row_of : mg "taken_row_of" = some (.ref (He.ga K "taken_row_of"))
  d_taken_row_of : ∃ fd, FunD K "taken_row_of" "taken_row_of" (defArgs (top 26)) (defBody (top 26)) (defScope (top 26)) [] [] (He.ga K "taken_row_of") fd
  a_cells_of : mg "cells_of" = some (.ref (He.ga K "cells_of"))
  d_cells_of : ∃ fd, FunD K "cells_of" "cells_of" (defArgs (top 53)) (defBody (top 53)) (defScope (top 53)) [] [] (He.ga K "cells_of") fd
  a_taken_cells : mg "taken_cells" = some (.ref (He.ga K "taken_cells"))
  d_taken_cells : ∃ fd, FunD K "taken_cells" "taken_cells" (defArgs (top 55)) (defBody (top 55)) (defScope (top 55)) [] [] (He.ga K "taken_cells") fd
  a_fractions : mg "fractions" = some (.ref (He.ga K "fractions"))
  d_fractions : ∃ fd, FunD K "fractions" "fractions" (defArgs (top 14)) (defBody (top 14)) (defScope (top 14)) [] [] (He.ga K "fractions") fd
  a_rolled : mg "rolled" = some (.ref (He.ga K "rolled"))
  d_rolled : ∃ fd, FunD K "rolled" "rolled" (defArgs (top 47)) (defBody (top 47)) (defScope (top 47)) [] [] (He.ga K "rolled") fd
  a_mult : mg "mult" = some (.ref (He.ga K "mult"))
  d_mult : ∃ fd, FunD K "mult" "mult" (defArgs (top 12)) (defBody (top 12)) (defScope (top 12)) [] [] (He.ga K "mult") fd
  a_times_row : mg "times_row" = some (.ref (He.ga K "times_row"))
  d_times_row : ∃ fd, FunD K "times_row" "times_row" (defArgs (top 16)) (defBody (top 16)) (defScope (top 16)) [] [] (He.ga K "times_row") fd
  a_minus : mg "minus" = some (.ref (He.ga K "minus"))
  d_minus : ∃ fd, FunD K "minus" "minus" (defArgs (top 11)) (defBody (top 11)) (defScope (top 11)) [] [] (He.ga K "minus") fd
  a_held_row : mg "held_row" = some (.ref (He.ga K "held_row"))
  d_held_row : ∃ fd, FunD K "held_row" "held_row" (defArgs (top 44)) (defBody (top 44)) (defScope (top 44)) [] [] (He.ga K "held_row") fd
  a_unit_at : mg "unit_at" = some (.ref (He.ga K "unit_at"))
  d_unit_at : ∃ fd, FunD K "unit_at" "unit_at" (defArgs (top 43)) (defBody (top 43)) (defScope (top 43)) [] [] (He.ga K "unit_at") fd
  a_kept_rows : mg "kept_rows" = some (.ref (He.ga K "kept_rows"))
  d_kept_rows : ∃ fd, FunD K "kept_rows" "kept_rows" (defArgs (top 45)) (defBody (top 45)) (defScope (top 45)) [] [] (He.ga K "kept_rows") fd
  a_machine_of : mg "machine_of" = some (.ref (He.ga K "machine_of"))
  d_machine_of : ∃ fd, FunD K "machine_of" "machine_of" (defArgs (top 46)) (defBody (top 46)) (defScope (top 46)) [] [] (He.ga K "machine_of") fd
  a_moved : mg "moved" = some (.ref (He.ga K "moved"))
  d_moved : ∃ fd, FunD K "moved" "moved" (defArgs (top 58)) (defBody (top 58)) (defScope (top 58)) [] [] (He.ga K "moved") fd
  a_work_of : mg "work_of" = some (.ref (He.ga K "work_of"))
  d_work_of : ∃ fd, FunD K "work_of" "work_of" (defArgs (top 63)) (defBody (top 63)) (defScope (top 63)) [] [] (He.ga K "work_of") fd
  a_plus : mg "plus" = some (.ref (He.ga K "plus"))
  d_plus : ∃ fd, FunD K "plus" "plus" (defArgs (top 10)) (defBody (top 10)) (defScope (top 10)) [] [] (He.ga K "plus") fd
  a_work_sums : mg "work_sums" = some (.ref (He.ga K "work_sums"))
  d_work_sums : ∃ fd, FunD K "work_sums" "work_sums" (defArgs (top 64)) (defBody (top 64)) (defScope (top 64)) [] [] (He.ga K "work_sums") fd
  a_taken_heard : mg "taken_heard" = some (.ref (He.ga K "taken_heard"))
  d_taken_heard : ∃ fd, FunD K "taken_heard" "taken_heard" (defArgs (top 56)) (defBody (top 56)) (defScope (top 56)) [] [] (He.ga K "taken_heard") fd
  a_work_by_table : mg "work_by_table" = some (.ref (He.ga K "work_by_table"))
  d_work_by_table : ∃ fd, FunD K "work_by_table" "work_by_table" (defArgs (top 68)) (defBody (top 68)) (defScope (top 68)) [] [] (He.ga K "work_by_table") fd
  a_table_of_echoes : mg "table_of_echoes" = some (.ref (He.ga K "table_of_echoes"))
  d_table_of_echoes : ∃ fd, FunD K "table_of_echoes" "table_of_echoes" (defArgs (top 65)) (defBody (top 65)) (defScope (top 65)) [] [] (He.ga K "table_of_echoes") fd
  a_even_table : mg "even_table" = some (.ref (He.ga K "even_table"))
  d_even_table : ∃ fd, FunD K "even_table" "even_table" (defArgs (top 67)) (defBody (top 67)) (defScope (top 67)) [] [] (He.ga K "even_table") fd
  a_freed : mg "freed" = some (.ref (He.ga K "freed"))
  d_freed : ∃ fd, FunD K "freed" "freed" (defArgs (top 31)) (defBody (top 31)) (defScope (top 31)) [] [] (He.ga K "freed") fd
  a_first_fall : mg "first_fall" = some (.ref (He.ga K "first_fall"))
  d_first_fall : ∃ fd, FunD K "first_fall" "first_fall" (defArgs (top 30)) (defBody (top 30)) (defScope (top 30)) [] [] (He.ga K "first_fall") fd
  a_table_sum : mg "table_sum" = some (.ref (He.ga K "table_sum"))
  d_table_sum : ∃ fd, FunD K "table_sum" "table_sum" (defArgs (top 17)) (defBody (top 17)) (defScope (top 17)) [] [] (He.ga K "table_sum") fd
  a_rounded_below : mg "rounded_below" = some (.ref (He.ga K "rounded_below"))
  d_rounded_below : ∃ fd, FunD K "rounded_below" "rounded_below" (defArgs (top 34)) (defBody (top 34)) (defScope (top 34)) [] [] (He.ga K "rounded_below") fd
  a_swept : mg "swept" = some (.ref (He.ga K "swept"))
  d_swept : ∃ fd, FunD K "swept" "swept" (defArgs (top 29)) (defBody (top 29)) (defScope (top 29)) [] [] (He.ga K "swept") fd
  a_whole_solved : mg "whole_solved" = some (.ref (He.ga K "whole_solved"))
  d_whole_solved : ∃ fd, FunD K "whole_solved" "whole_solved" (defArgs (top 28)) (defBody (top 28)) (defScope (top 28)) [] [] (He.ga K "whole_solved") fd
  a_completed : mg "completed" = some (.ref (He.ga K "completed"))
  d_completed : ∃ fd, FunD K "completed" "completed" (defArgs (top 33)) (defBody (top 33)) (defScope (top 33)) [] [] (He.ga K "completed") fd
  a_below_row : mg "below_row" = some (.ref (He.ga K "below_row"))
  d_below_row : ∃ fd, FunD K "below_row" "below_row" (defArgs (top 32)) (defBody (top 32)) (defScope (top 32)) [] [] (He.ga K "below_row") fd
  a_rest_of : mg "rest_of" = some (.ref (He.ga K "rest_of"))
  d_rest_of : ∃ fd, FunD K "rest_of" "rest_of" (defArgs (top 57)) (defBody (top 57)) (defScope (top 57)) [] [] (He.ga K "rest_of") fd
  a_answers_of : mg "answers_of" = some (.ref (He.ga K "answers_of"))
  d_answers_of : ∃ fd, FunD K "answers_of" "answers_of" (defArgs (top 59)) (defBody (top 59)) (defScope (top 59)) [] [] (He.ga K "answers_of") fd
  a_first_echoes : mg "first_echoes" = some (.ref (He.ga K "first_echoes"))
  d_first_echoes : ∃ fd, FunD K "first_echoes" "first_echoes" (defArgs (top 60)) (defBody (top 60)) (defScope (top 60)) [] [] (He.ga K "first_echoes") fd
  a_table_up_to : mg "table_up_to" = some (.ref (He.ga K "table_up_to"))
  d_table_up_to : ∃ fd, FunD K "table_up_to" "table_up_to" (defArgs (top 66)) (defBody (top 66)) (defScope (top 66)) [] [] (He.ga K "table_up_to") fd
  a_taken_number : mg "taken_number" = some (.ref (He.ga K "taken_number"))
  d_taken_number : ∃ fd, FunD K "taken_number" "taken_number" (defArgs (top 24)) (defBody (top 24)) (defScope (top 24)) [] [] (He.ga K "taken_number") fd
  a_giving_row : mg "giving_row" = some (.ref (He.ga K "giving_row"))
  d_giving_row : ∃ fd, FunD K "giving_row" "giving_row" (defArgs (top 70)) (defBody (top 70)) (defScope (top 70)) [] [] (He.ga K "giving_row") fd
  a_gives_within : mg "gives_within" = some (.ref (He.ga K "gives_within"))
  d_gives_within : ∃ fd, FunD K "gives_within" "gives_within" (defArgs (top 69)) (defBody (top 69)) (defScope (top 69)) [] [] (He.ga K "gives_within") fd
  a_first_gift : mg "first_gift" = some (.ref (He.ga K "first_gift"))
  d_first_gift : ∃ fd, FunD K "first_gift" "first_gift" (defArgs (top 72)) (defBody (top 72)) (defScope (top 72)) [] [] (He.ga K "first_gift") fd
  a_turned_row : mg "turned_row" = some (.ref (He.ga K "turned_row"))
  d_turned_row : ∃ fd, FunD K "turned_row" "turned_row" (defArgs (top 73)) (defBody (top 73)) (defScope (top 73)) [] [] (He.ga K "turned_row") fd
  a_is_giving_row : mg "is_giving_row" = some (.ref (He.ga K "is_giving_row"))
  d_is_giving_row : ∃ fd, FunD K "is_giving_row" "is_giving_row" (defArgs (top 71)) (defBody (top 71)) (defScope (top 71)) [] [] (He.ga K "is_giving_row") fd
  a__law_one_of : mg "_law_one_of" = some (.ref (He.ga K "_law_one_of"))
  d__law_one_of : ∃ fd, FunD K "_law_one_of" "_law_one_of" (defArgs (top 78)) (defBody (top 78)) (defScope (top 78)) [] [] (He.ga K "_law_one_of") fd
  a_work_of_sum : mg "work_of_sum" = some (.ref (He.ga K "work_of_sum"))
  d_work_of_sum : ∃ fd, FunD K "work_of_sum" "work_of_sum" (defArgs (top 74)) (defBody (top 74)) (defScope (top 74)) [] [] (He.ga K "work_of_sum") fd
  a__law_heard : mg "_law_heard" = some (.ref (He.ga K "_law_heard"))
  d__law_heard : ∃ fd, FunD K "_law_heard" "_law_heard" (defArgs (top 79)) (defBody (top 79)) (defScope (top 79)) [] [] (He.ga K "_law_heard") fd
  a__law_refused_right : mg "_law_refused_right" = some (.ref (He.ga K "_law_refused_right"))
  d__law_refused_right : ∃ fd, FunD K "_law_refused_right" "_law_refused_right" (defArgs (top 85)) (defBody (top 85)) (defScope (top 85)) [] [] (He.ga K "_law_refused_right") fd
  a__law_lists : mg "_law_lists" = some (.ref (He.ga K "_law_lists"))
  d__law_lists : ∃ fd, FunD K "_law_lists" "_law_lists" (defArgs (top 76)) (defBody (top 76)) (defScope (top 76)) [] [] (He.ga K "_law_lists") fd
  a__law_names_right : mg "_law_names_right" = some (.ref (He.ga K "_law_names_right"))
  d__law_names_right : ∃ fd, FunD K "_law_names_right" "_law_names_right" (defArgs (top 86)) (defBody (top 86)) (defScope (top 86)) [] [] (He.ga K "_law_names_right") fd
  a__law_works_right : mg "_law_works_right" = some (.ref (He.ga K "_law_works_right"))
  d__law_works_right : ∃ fd, FunD K "_law_works_right" "_law_works_right" (defArgs (top 81)) (defBody (top 81)) (defScope (top 81)) [] [] (He.ga K "_law_works_right") fd
  a__law_gifts_right : mg "_law_gifts_right" = some (.ref (He.ga K "_law_gifts_right"))
  d__law_gifts_right : ∃ fd, FunD K "_law_gifts_right" "_law_gifts_right" (defArgs (top 82)) (defBody (top 82)) (defScope (top 82)) [] [] (He.ga K "_law_gifts_right") fd
  a__law_far_right : mg "_law_far_right" = some (.ref (He.ga K "_law_far_right"))
  d__law_far_right : ∃ fd, FunD K "_law_far_right" "_law_far_right" (defArgs (top 83)) (defBody (top 83)) (defScope (top 83)) [] [] (He.ga K "_law_far_right") fd
  a__law_turned_right : mg "_law_turned_right" = some (.ref (He.ga K "_law_turned_right"))
  d__law_turned_right : ∃ fd, FunD K "_law_turned_right" "_law_turned_right" (defArgs (top 84)) (defBody (top 84)) (defScope (top 84)) [] [] (He.ga K "_law_turned_right") fd
  a__law_whole : mg "_law_whole" = some (.ref (He.ga K "_law_whole"))
  d__law_whole : ∃ fd, FunD K "_law_whole" "_law_whole" (defArgs (top 87)) (defBody (top 87)) (defScope (top 87)) [] [] (He.ga K "_law_whole") fd
  a_law : mg "law" = some (.ref (He.ga K "law"))
  d_law : ∃ fd, FunD K "law" "law" (defArgs (top 88)) (defBody (top 88)) (defScope (top 88)) [] [] (He.ga K "law") fd
  x_Unfit : ExK K mg (pm K) 0 "Unfit"
  x_CanNot : ExK K mg (pm K) 1 "CanNot"
  x_NoPaper : ExK K mg (pm K) 2 "NoPaper"
  x_TooMany : ExK K mg (pm K) 3 "TooMany"
  xm : ExM K (pm K) 4
  e_CanNot : ExcC K ((pm K).C 1)
  k_CanNot : PySem.W.kitOne K (.ref ((pm K).C 1)) (.type "ValueError") = some true
  e_NoPaper : ExcC K ((pm K).C 2)
  k_NoPaper : PySem.W.kitOne K (.ref ((pm K).C 2)) (.type "ValueError") = some true
  e_Unfit : ExcC K ((pm K).C 0)
  k_Unfit : PySem.W.kitOne K (.ref ((pm K).C 0)) (.type "ValueError") = some true
  i_MOST_PUSHES : ∃ t, mg "MOST_PUSHES" = some (.int 12 t)
  m_ONE : mg "ONE" = some (.ref (He.ga K "ONE"))
  z_ONE : ∀ H ρ, Dv (pm K) H ρ (.tup [.int (1), .int (1)]) (.ref (He.ga K "ONE"))
  m_ZERO : mg "ZERO" = some (.ref (He.ga K "ZERO"))
  z_ZERO : ∀ H ρ, Dv (pm K) H ρ (.tup [.int (0), .int (1)]) (.ref (He.ga K "ZERO"))
abbrev N_law_boxes : List Str := ["none", "one", "less"]
theorem sc_law_boxes : FnScope N_law_boxes [] (defScope (top 80)) := ⟨rfl, rfl, rfl, by decide +kernel, rfl, by decide +kernel, by decide +kernel⟩
noncomputable def M_law_boxes : Fn' := fnM [none, none, none] (sSeq (sAs (mN oTup (mCons (mN oTup (mCons (mC (.int 0)) (mCons (mC (.int 1)) (mNil)))) (mCons (mN oTup (mCons (mC (.int 1)) (mCons (mC (.int 1)) (mNil)))) (mCons (mN oTup (mCons (m1 oNeg (mC (.int 1))) (mCons (mC (.int 1)) (mNil)))) (mNil))))) (gEnd (gTL 3 (gCn (gNm 0) (gCn (gNm 1) (gCn (gNm 2) (gNl))))))) (sRet (mN oTup (mCons (mN oTup (mCons (mN oTup (mCons (mV 1) (mCons (mV 1) (mNil)))) (mCons (mN oTup (mCons (mV 1) (mCons (mV 2) (mNil)))) (mNil)))) (mCons (mN oTup (mCons (mN oTup (mCons (mV 0) (mCons (mV 1) (mNil)))) (mCons (mN oTup (mCons (mV 1) (mCons (mV 0) (mNil)))) (mNil)))) (mCons (mN oTup (mCons (mN oTup (mCons (mN oTup (mCons (mC (.int 1)) (mCons (mC (.int 2)) (mNil)))) (mNil))) (mCons (mN oTup (mCons (mV 1) (mNil))) (mNil)))) (mCons (mN oTup (mCons (mN oTup (mCons (mN oTup (mCons (mC (.int 3)) (mCons (mC (.int 2)) (mNil)))) (mCons (mN oTup (mCons (m1 oNeg (mC (.int 1))) (mCons (mC (.int 2)) (mNil)))) (mNil)))) (mCons (mN oTup (mCons (mV 1) (mCons (mV 1) (mNil)))) (mNil)))) (mNil))))))))
theorem fo_law_boxes {P : Program} {w : World} {K : PySem.W.Frag} {mg : Str → Option Value} {base : Heap} (G : Gf K mg) {fd : FuncData} (F : FunD K "_law_boxes" "_law_boxes" (defArgs (top 80)) (defBody (top 80)) (defScope (top 80)) [] [] (He.ga K "_law_boxes") fd) : FnOk P w K mg base (L2.CX P w) 1 (He.ga K "_law_boxes") fd [] (spM (pm K) 0 M_law_boxes) := by
  refine fn_ok (k := 0) (N := N_law_boxes) (tl := [none, none, none]) (b := sSeq (sAs (mN oTup (mCons (mN oTup (mCons (mC (.int 0)) (mCons (mC (.int 1)) (mNil)))) (mCons (mN oTup (mCons (mC (.int 1)) (mCons (mC (.int 1)) (mNil)))) (mCons (mN oTup (mCons (m1 oNeg (mC (.int 1))) (mCons (mC (.int 1)) (mNil)))) (mNil))))) (gEnd (gTL 3 (gCn (gNm 0) (gCn (gNm 1) (gCn (gNm 2) (gNl))))))) (sRet (mN oTup (mCons (mN oTup (mCons (mN oTup (mCons (mV 1) (mCons (mV 1) (mNil)))) (mCons (mN oTup (mCons (mV 1) (mCons (mV 2) (mNil)))) (mNil)))) (mCons (mN oTup (mCons (mN oTup (mCons (mV 0) (mCons (mV 1) (mNil)))) (mCons (mN oTup (mCons (mV 1) (mCons (mV 0) (mNil)))) (mNil)))) (mCons (mN oTup (mCons (mN oTup (mCons (mN oTup (mCons (mC (.int 1)) (mCons (mC (.int 2)) (mNil)))) (mNil))) (mCons (mN oTup (mCons (mV 1) (mNil))) (mNil)))) (mCons (mN oTup (mCons (mN oTup (mCons (mN oTup (mCons (mC (.int 3)) (mCons (mC (.int 2)) (mNil)))) (mCons (mN oTup (mCons (m1 oNeg (mC (.int 1))) (mCons (mC (.int 2)) (mNil)))) (mNil)))) (mCons (mN oTup (mCons (mV 1) (mCons (mV 1) (mNil)))) (mNil)))) (mNil)))))))) F sc_law_boxes rfl rfl (fun cdv A outer s H E hr => ?_)
  have nd : N_law_boxes.Nodup := sc_law_boxes.nd
  have tk : Takes (cxOf (L2.CX P w) P w K mg base N_law_boxes "_law_boxes" (defScope (top 80)) (He.ga K "_law_boxes") cdv A outer s H E) (fun cls d _ H' => E cls d H') := takes_of rfl rfl rfl rfl
  have po : PassesOwn (model P w) (cxOf (L2.CX P w) P w K mg base N_law_boxes "_law_boxes" (defScope (top 80)) (He.ga K "_law_boxes") cdv A outer s H E).A (cxOf (L2.CX P w) P w K mg base N_law_boxes "_law_boxes" (defScope (top 80)) (He.ga K "_law_boxes") cdv A outer s H E).env (cxOf (L2.CX P w) P w K mg base N_law_boxes "_law_boxes" (defScope (top 80)) (He.ga K "_law_boxes") cdv A outer s H E).xe := passes_of (X := cxOf (L2.CX P w) P w K mg base N_law_boxes "_law_boxes" (defScope (top 80)) (He.ga K "_law_boxes") cdv A outer s H E) rfl
  exact (es_cons (es_asg (ee_tup (ea_cons (ee_tup (ea_cons ee_int (ea_cons ee_int ea_nil))) (ea_cons (ee_tup (ea_cons ee_int (ea_cons ee_int ea_nil))) (ea_cons (ee_tup (ea_cons (b_neg ee_int) (ea_cons ee_int ea_nil))) ea_nil)))) (eg_tl rfl rfl (egs_cons (eg_name (g_name nd)) (egs_cons (eg_name (g_name nd)) (egs_cons (eg_name (g_name nd)) egs_nil)))))
    (es_one (es_ret (ee_tup (ea_cons (ee_tup (ea_cons (ee_tup (ea_cons (ee_var 1 (pv 1)) (ea_cons (ee_var 1 (pv 1)) ea_nil))) (ea_cons (ee_tup (ea_cons (ee_var 1 (pv 1)) (ea_cons (ee_var 2 (pv 2)) ea_nil))) ea_nil))) (ea_cons (ee_tup (ea_cons (ee_tup (ea_cons (ee_var 0 (pv 0)) (ea_cons (ee_var 1 (pv 1)) ea_nil))) (ea_cons (ee_tup (ea_cons (ee_var 1 (pv 1)) (ea_cons (ee_var 0 (pv 0)) ea_nil))) ea_nil))) (ea_cons (ee_tup (ea_cons (ee_tup (ea_cons (ee_tup (ea_cons ee_int (ea_cons ee_int ea_nil))) ea_nil)) (ea_cons (ee_tup (ea_cons (ee_var 1 (pv 1)) ea_nil)) ea_nil))) (ea_cons (ee_tup (ea_cons (ee_tup (ea_cons (ee_tup (ea_cons ee_int (ea_cons ee_int ea_nil))) (ea_cons (ee_tup (ea_cons (b_neg ee_int) (ea_cons ee_int ea_nil))) ea_nil))) (ea_cons (ee_tup (ea_cons (ee_var 1 (pv 1)) (ea_cons (ee_var 1 (pv 1)) ea_nil))) ea_nil))) ea_nil))))))))
theorem ok_law_boxes {P : Program} {w : World} {K : PySem.W.Frag} {mg : Str → Option Value} {base : Heap} (G : Gf K mg) : Kn P w K mg base (pm K) 1 "_law_boxes" 0 M_law_boxes := by
  obtain ⟨fd, F⟩ := G.d__law_boxes
  exact ⟨_, fd, _, fo_law_boxes G   F, G.a__law_boxes, F.kp, (F.bindsN fun _ _ _ _ _ _ us hl => match us, hl with | [], _ => rfl)⟩
abbrev N_law_same : List Str := ["got", "due", "mine", "its"]
theorem sc_law_same : FnScope N_law_same ["got", "due"] (defScope (top 77)) := ⟨rfl, rfl, rfl, by decide +kernel, rfl, by decide +kernel, by decide +kernel⟩
noncomputable def R_law_same (m : Nat) : Fn' := @Nat.rec (fun _ => Fn') badF (fun _ ih => fnM [none, none] (sSeq (sIf (mTru (mIsi2 5 4 (mV 1))) (sSeq (sIf (mOrB (m2 oNeL (mN oIsi (mCons (mV 0) (mCons (mC (.ty 5)) (mNil)))) (mN oIsi (mCons (mV 1) (mCons (mC (.ty 5)) (mNil))))) (m2 oNeL (mN oIsi (mCons (mV 0) (mCons (mC (.ty 4)) (mNil)))) (mN oIsi (mCons (mV 1) (mCons (mC (.ty 4)) (mNil)))))) (sRet (mC (.bl false))) (sNil)) (sRet (mAndV (m2 oEqL (mN oLen (mCons (mV 0) (mNil))) (mN oLen (mCons (mV 1) (mNil)))) (mN oAll (mCons (mLc (zipW (mCons (mV 0) (mCons (mV 1) (mNil)))) nfW (gPr 2 3) (mYes) (mCall 2 ih (mCons (mV 2) (mCons (mV 3) (mNil)))) [2, 3]) (mNil)))))) (sNil)) (sSeq (sIf (mOrB (m2 (oIsN false) (mV 1) (mC .non)) (mTru (mIsi2 1 3 (mV 1)))) (sRet (mAndV (m2 oEqL (mV 0) (mV 1)) (mAndV (m2 oEqL (mN oIsi (mCons (mV 0) (mCons (mC (.ty 1)) (mNil)))) (mN oIsi (mCons (mV 1) (mCons (mC (.ty 1)) (mNil))))) (m2 oEqL (m2 (oIsN false) (mV 0) (mC .non)) (m2 (oIsN false) (mV 1) (mC .non)))))) (sNil)) (sRet (mAndV (mN oIsi (mCons (mV 0) (mCons (mC (.ty 2)) (mNil)))) (mAndV (mNotV (mN oIsi (mCons (mV 0) (mCons (mC (.ty 1)) (mNil))))) (m2 oEqL (mV 0) (mV 1)))))))) m
noncomputable def M_law_same : Fn' := R_law_same 12
theorem fo_law_same {P : Program} {w : World} {K : PySem.W.Frag} {mg : Str → Option Value} {base : Heap} (G : Gf K mg) {fd : FuncData} (F : FunD K "_law_same" "_law_same" (defArgs (top 77)) (defBody (top 77)) (defScope (top 77)) [] [] (He.ga K "_law_same") fd) (m : Nat) (ih : Kn P w K mg base (pm K) (0 + m) "_law_same" 2 (R_law_same m)) : FnOk P w K mg base (L2.CX P w) (0 + m + 1) (He.ga K "_law_same") fd ["got", "due"] (spM (pm K) 2 (R_law_same (m + 1))) := by
  refine fn_ok (k := 0 + m) (N := N_law_same) (tl := [none, none]) (b := sSeq (sIf (mTru (mIsi2 5 4 (mV 1))) (sSeq (sIf (mOrB (m2 oNeL (mN oIsi (mCons (mV 0) (mCons (mC (.ty 5)) (mNil)))) (mN oIsi (mCons (mV 1) (mCons (mC (.ty 5)) (mNil))))) (m2 oNeL (mN oIsi (mCons (mV 0) (mCons (mC (.ty 4)) (mNil)))) (mN oIsi (mCons (mV 1) (mCons (mC (.ty 4)) (mNil)))))) (sRet (mC (.bl false))) (sNil)) (sRet (mAndV (m2 oEqL (mN oLen (mCons (mV 0) (mNil))) (mN oLen (mCons (mV 1) (mNil)))) (mN oAll (mCons (mLc (zipW (mCons (mV 0) (mCons (mV 1) (mNil)))) nfW (gPr 2 3) (mYes) (mCall 2 (R_law_same m) (mCons (mV 2) (mCons (mV 3) (mNil)))) [2, 3]) (mNil)))))) (sNil)) (sSeq (sIf (mOrB (m2 (oIsN false) (mV 1) (mC .non)) (mTru (mIsi2 1 3 (mV 1)))) (sRet (mAndV (m2 oEqL (mV 0) (mV 1)) (mAndV (m2 oEqL (mN oIsi (mCons (mV 0) (mCons (mC (.ty 1)) (mNil)))) (mN oIsi (mCons (mV 1) (mCons (mC (.ty 1)) (mNil))))) (m2 oEqL (m2 (oIsN false) (mV 0) (mC .non)) (m2 (oIsN false) (mV 1) (mC .non)))))) (sNil)) (sRet (mAndV (mN oIsi (mCons (mV 0) (mCons (mC (.ty 2)) (mNil)))) (mAndV (mNotV (mN oIsi (mCons (mV 0) (mCons (mC (.ty 1)) (mNil))))) (m2 oEqL (mV 0) (mV 1))))))) F sc_law_same rfl rfl (fun cdv A outer s H E hr => ?_)
  have nd : N_law_same.Nodup := sc_law_same.nd
  have tk : Takes (cxOf (L2.CX P w) P w K mg base N_law_same "_law_same" (defScope (top 77)) (He.ga K "_law_same") cdv A outer s H E) (fun cls d _ H' => E cls d H') := takes_of rfl rfl rfl rfl
  have po : PassesOwn (model P w) (cxOf (L2.CX P w) P w K mg base N_law_same "_law_same" (defScope (top 77)) (He.ga K "_law_same") cdv A outer s H E).A (cxOf (L2.CX P w) P w K mg base N_law_same "_law_same" (defScope (top 77)) (He.ga K "_law_same") cdv A outer s H E).env (cxOf (L2.CX P w) P w K mg base N_law_same "_law_same" (defScope (top 77)) (He.ga K "_law_same") cdv A outer s H E).xe := passes_of (X := cxOf (L2.CX P w) P w K mg base N_law_same "_law_same" (defScope (top 77)) (He.ga K "_law_same") cdv A outer s H E) rfl
  exact (es_cons (es_if (et_tru rfl (ee_isi2 (a := 5) (b := 4) rfl (ee_var 1 (pv 1)) G.b_isinstance G.b_list G.b_tuple rfl rfl)) (es_cons (es_if (et_w (ew_or (t_neL rfl hr.units (f_isi rfl G.b_isinstance (ea_cons (ee_var 0 (pv 0)) (ea_cons (ee_type (n := 5) G.b_list rfl) ea_nil))) (f_isi rfl G.b_isinstance (ea_cons (ee_var 1 (pv 1)) (ea_cons (ee_type (n := 5) G.b_list rfl) ea_nil)))) (ew_or1 (t_neL rfl hr.units (f_isi rfl G.b_isinstance (ea_cons (ee_var 0 (pv 0)) (ea_cons (ee_type (n := 4) G.b_tuple rfl) ea_nil))) (f_isi rfl G.b_isinstance (ea_cons (ee_var 1 (pv 1)) (ea_cons (ee_type (n := 4) G.b_tuple rfl) ea_nil))))))) (es_one (es_ret ee_bl)) es_nil)
    (es_one (es_ret (ee_and rfl (c_eqL rfl hr.units (f_len rfl G.b_len (ea_cons (ee_var 0 (pv 0)) ea_nil)) (f_len rfl G.b_len (ea_cons (ee_var 1 (pv 1)) ea_nil))) (ee_one (f_all rfl rfl G.b_all (ea_cons (ee_lc rfl nd (own := [("mine", 2), ("its", 3)]) (ei_zipW rfl G.b_zip (ea_cons (ee_var 0 (pv 0)) (ea_cons (ee_var 1 (pv 1)) ea_nil))) (blkOk_by (N := N_law_same) (sc := defScope (top 77)) (by decide +kernel)) (fun _ _ _ _ _ => (ct_pair rfl rfl (g_name nd) (g_name nd) (by decide) (by decide))) (fun _ _ _ _ _ => ets_nil) (fun _ _ _ _ _ => (ee_call ih hr (Nat.le_refl _) takes_blk (ea_cons (ee_var 2 (pv 2)) (ea_cons (ee_var 3 (pv 3)) ea_nil))))) ea_nil))))))) es_nil)
    (es_cons (es_if (et_w (ew_or (t_is rfl (ee_var 1 (pv 1)) ee_non) (ew_or1 (et_tru rfl (ee_isi2 (a := 1) (b := 3) rfl (ee_var 1 (pv 1)) G.b_isinstance G.b_bool G.b_str rfl rfl))))) (es_one (es_ret (ee_and rfl (c_eqL rfl hr.units (ee_var 0 (pv 0)) (ee_var 1 (pv 1))) (ee_and rfl (c_eqL rfl hr.units (f_isi rfl G.b_isinstance (ea_cons (ee_var 0 (pv 0)) (ea_cons (ee_type (n := 1) G.b_bool rfl) ea_nil))) (f_isi rfl G.b_isinstance (ea_cons (ee_var 1 (pv 1)) (ea_cons (ee_type (n := 1) G.b_bool rfl) ea_nil)))) (ee_one (c_eqL rfl hr.units (c_is rfl (ee_var 0 (pv 0)) ee_non) (c_is rfl (ee_var 1 (pv 1)) ee_non))))))) es_nil)
    (es_one (es_ret (ee_and rfl (f_isi rfl G.b_isinstance (ea_cons (ee_var 0 (pv 0)) (ea_cons (ee_type (n := 2) G.b_int rfl) ea_nil))) (ee_and rfl (ee_not rfl (f_isi rfl G.b_isinstance (ea_cons (ee_var 0 (pv 0)) (ea_cons (ee_type (n := 1) G.b_bool rfl) ea_nil)))) (ee_one (c_eqL rfl hr.units (ee_var 0 (pv 0)) (ee_var 1 (pv 1))))))))))
theorem ok_law_same {P : Program} {w : World} {K : PySem.W.Frag} {mg : Str → Option Value} {base : Heap} (G : Gf K mg) (m : Nat) : Kn P w K mg base (pm K) (0 + m) "_law_same" 2 (R_law_same m) := by
  obtain ⟨fd, F⟩ := G.d__law_same
  have b : Binds K fd ["got", "due"] [] := (F.bindsN fun _ _ _ _ _ _ us hl => match us, hl with | [_, _], _ => rfl)
  induction m with
  | zero => exact ⟨_, fd, _, (fn_bad (n := 2) rfl).mono (Nat.zero_le _), G.a__law_same, F.kp, b⟩
  | succ m ih => exact ⟨_, fd, _, fo_law_same G   F m ih, G.a__law_same, F.kp, b⟩
abbrev N_tupled : List Str := ["value", "deep", "own"]
theorem sc_tupled : FnScope N_tupled ["value", "deep"] (defScope (top 22)) := ⟨rfl, rfl, rfl, by decide +kernel, rfl, by decide +kernel, by decide +kernel⟩
noncomputable def R_tupled (m : Nat) : Fn' := @Nat.rec (fun _ => Fn') badF (fun _ ih => fnM [none] (sSeq (sIf (mAndB (m2 oGt (mV 1) (mC (.int 0))) (mTru (mIsi2 5 4 (mV 0)))) (sRet (mN oTuple (mCons (mLc (onlyA (mV 0)) nfA (gNm 2) (mYes) (mCall 2 ih (mCons (mV 2) (mCons (m2 oSub (mV 1) (mC (.int 1))) (mNil)))) [2]) (mNil)))) (sNil)) (sRet (mV 0)))) m
noncomputable def M_tupled : Fn' := R_tupled 6
theorem fo_tupled {P : Program} {w : World} {K : PySem.W.Frag} {mg : Str → Option Value} {base : Heap} (G : Gf K mg) {fd : FuncData} (F : FunD K "tupled" "tupled" (defArgs (top 22)) (defBody (top 22)) (defScope (top 22)) [] [] (He.ga K "tupled") fd) (m : Nat) (ih : Kn P w K mg base (pm K) (0 + m) "tupled" 2 (R_tupled m)) : FnOk P w K mg base (L2.CX P w) (0 + m + 1) (He.ga K "tupled") fd ["value", "deep"] (spM (pm K) 2 (R_tupled (m + 1))) := by
  refine fn_ok (k := 0 + m) (N := N_tupled) (tl := [none]) (b := sSeq (sIf (mAndB (m2 oGt (mV 1) (mC (.int 0))) (mTru (mIsi2 5 4 (mV 0)))) (sRet (mN oTuple (mCons (mLc (onlyA (mV 0)) nfA (gNm 2) (mYes) (mCall 2 (R_tupled m) (mCons (mV 2) (mCons (m2 oSub (mV 1) (mC (.int 1))) (mNil)))) [2]) (mNil)))) (sNil)) (sRet (mV 0))) F sc_tupled rfl rfl (fun cdv A outer s H E hr => ?_)
  have nd : N_tupled.Nodup := sc_tupled.nd
  have tk : Takes (cxOf (L2.CX P w) P w K mg base N_tupled "tupled" (defScope (top 22)) (He.ga K "tupled") cdv A outer s H E) (fun cls d _ H' => E cls d H') := takes_of rfl rfl rfl rfl
  have po : PassesOwn (model P w) (cxOf (L2.CX P w) P w K mg base N_tupled "tupled" (defScope (top 22)) (He.ga K "tupled") cdv A outer s H E).A (cxOf (L2.CX P w) P w K mg base N_tupled "tupled" (defScope (top 22)) (He.ga K "tupled") cdv A outer s H E).env (cxOf (L2.CX P w) P w K mg base N_tupled "tupled" (defScope (top 22)) (He.ga K "tupled") cdv A outer s H E).xe := passes_of (X := cxOf (L2.CX P w) P w K mg base N_tupled "tupled" (defScope (top 22)) (He.ga K "tupled") cdv A outer s H E) rfl
  exact (es_cons (es_if (et_w (ew_and (t_gt rfl (ee_var 1 (pv 1)) ee_int) (ew_and1 (et_tru rfl (ee_isi2 (a := 5) (b := 4) rfl (ee_var 0 (pv 0)) G.b_isinstance G.b_list G.b_tuple rfl rfl))))) (es_one (es_ret (f_tuple rfl G.b_tuple (ea_cons (ee_lc rfl nd (own := [("own", 2)]) (ei_any rfl (ee_var 0 (pv 0))) (blkOk_by (N := N_tupled) (sc := defScope (top 22)) (by decide +kernel)) (fun _ _ _ _ _ => (ct_name (g_name nd) (by decide))) (fun _ _ _ _ _ => ets_nil) (fun _ _ _ _ _ => (ee_call ih hr (Nat.le_refl _) takes_blk (ea_cons (ee_var 2 (pv 2)) (ea_cons (b_sub rfl (ee_var 1 (pv 1)) ee_int) ea_nil))))) ea_nil)))) es_nil)
    (es_one (es_ret (ee_var 0 (pv 0)))))
theorem ok_tupled {P : Program} {w : World} {K : PySem.W.Frag} {mg : Str → Option Value} {base : Heap} (G : Gf K mg) (m : Nat) : Kn P w K mg base (pm K) (0 + m) "tupled" 2 (R_tupled m) := by
  obtain ⟨fd, F⟩ := G.d_tupled
  have b : Binds K fd ["value", "deep"] [] := (F.bindsN fun _ _ _ _ _ _ us hl => match us, hl with | [_, _], _ => rfl)
  induction m with
  | zero => exact ⟨_, fd, _, (fn_bad (n := 2) rfl).mono (Nat.zero_le _), G.a_tupled, F.kp, b⟩
  | succ m ih => exact ⟨_, fd, _, fo_tupled G   F m ih, G.a_tupled, F.kp, b⟩
abbrev N_is_number : List Str := ["thing"]
theorem sc_is_number : FnScope N_is_number ["thing"] (defScope (top 19)) := ⟨rfl, rfl, rfl, by decide +kernel, rfl, by decide +kernel, by decide +kernel⟩
noncomputable def M_is_number : Fn' := fnM [] (sRet (mAndV (mN oIsi (mCons (mV 0) (mCons (mC (.ty 2)) (mNil)))) (mNotV (mN oIsi (mCons (mV 0) (mCons (mC (.ty 1)) (mNil)))))))
theorem fo_is_number {P : Program} {w : World} {K : PySem.W.Frag} {mg : Str → Option Value} {base : Heap} (G : Gf K mg) {fd : FuncData} (F : FunD K "is_number" "is_number" (defArgs (top 19)) (defBody (top 19)) (defScope (top 19)) [] [] (He.ga K "is_number") fd) : FnOk P w K mg base (L2.CX P w) 1 (He.ga K "is_number") fd ["thing"] (spM (pm K) 1 M_is_number) := by
  refine fn_ok (k := 0) (N := N_is_number) (tl := []) (b := sRet (mAndV (mN oIsi (mCons (mV 0) (mCons (mC (.ty 2)) (mNil)))) (mNotV (mN oIsi (mCons (mV 0) (mCons (mC (.ty 1)) (mNil))))))) F sc_is_number rfl rfl (fun cdv A outer s H E hr => ?_)
  have nd : N_is_number.Nodup := sc_is_number.nd
  have tk : Takes (cxOf (L2.CX P w) P w K mg base N_is_number "is_number" (defScope (top 19)) (He.ga K "is_number") cdv A outer s H E) (fun cls d _ H' => E cls d H') := takes_of rfl rfl rfl rfl
  have po : PassesOwn (model P w) (cxOf (L2.CX P w) P w K mg base N_is_number "is_number" (defScope (top 19)) (He.ga K "is_number") cdv A outer s H E).A (cxOf (L2.CX P w) P w K mg base N_is_number "is_number" (defScope (top 19)) (He.ga K "is_number") cdv A outer s H E).env (cxOf (L2.CX P w) P w K mg base N_is_number "is_number" (defScope (top 19)) (He.ga K "is_number") cdv A outer s H E).xe := passes_of (X := cxOf (L2.CX P w) P w K mg base N_is_number "is_number" (defScope (top 19)) (He.ga K "is_number") cdv A outer s H E) rfl
  exact (es_one (es_ret (ee_and rfl (f_isi rfl G.b_isinstance (ea_cons (ee_var 0 (pv 0)) (ea_cons (ee_type (n := 2) G.b_int rfl) ea_nil))) (ee_one (ee_not rfl (f_isi rfl G.b_isinstance (ea_cons (ee_var 0 (pv 0)) (ea_cons (ee_type (n := 1) G.b_bool rfl) ea_nil))))))))
theorem ok_is_number {P : Program} {w : World} {K : PySem.W.Frag} {mg : Str → Option Value} {base : Heap} (G : Gf K mg) : Kn P w K mg base (pm K) 1 "is_number" 1 M_is_number := by
  obtain ⟨fd, F⟩ := G.d_is_number
  exact ⟨_, fd, _, fo_is_number G   F, G.a_is_number, F.kp, (F.bindsN fun _ _ _ _ _ _ us hl => match us, hl with | [_], _ => rfl)⟩
abbrev N_is_fraction : List Str := ["thing", "top", "bottom"]
theorem sc_is_fraction : FnScope N_is_fraction ["thing"] (defScope (top 20)) := ⟨rfl, rfl, rfl, by decide +kernel, rfl, by decide +kernel, by decide +kernel⟩
noncomputable def M_is_fraction : Fn' := fnM [none, none] (sSeq (sIf (mOrB (mNotB (mTru (mN oIsi (mCons (mV 0) (mCons (mC (.ty 4)) (mNil)))))) (m2 oNeL (mN oLen (mCons (mV 0) (mNil))) (mC (.int 2)))) (sRet (mC (.bl false))) (sNil)) (sSeq (sAs (mV 0) (gEnd (gTL 2 (gCn (gNm 1) (gCn (gNm 2) (gNl)))))) (sSeq (sIf (mOrB (mNotB (mTru (mCall 1 M_is_number (mCons (mV 1) (mNil))))) (mNotB (mTru (mCall 1 M_is_number (mCons (mV 2) (mNil)))))) (sRet (mC (.bl false))) (sNil)) (sRet (mAndV (m2 oGe (mV 2) (mC (.int 1))) (m2 oEqL (mN oGcd (mCons (mV 1) (mCons (mV 2) (mNil)))) (mC (.int 1))))))))
theorem fo_is_fraction {P : Program} {w : World} {K : PySem.W.Frag} {mg : Str → Option Value} {base : Heap} (G : Gf K mg) (h_is_number : Kn P w K mg base (pm K) 1 "is_number" 1 M_is_number) {fd : FuncData} (F : FunD K "is_fraction" "is_fraction" (defArgs (top 20)) (defBody (top 20)) (defScope (top 20)) [] [] (He.ga K "is_fraction") fd) : FnOk P w K mg base (L2.CX P w) 2 (He.ga K "is_fraction") fd ["thing"] (spM (pm K) 1 M_is_fraction) := by
  refine fn_ok (k := 1) (N := N_is_fraction) (tl := [none, none]) (b := sSeq (sIf (mOrB (mNotB (mTru (mN oIsi (mCons (mV 0) (mCons (mC (.ty 4)) (mNil)))))) (m2 oNeL (mN oLen (mCons (mV 0) (mNil))) (mC (.int 2)))) (sRet (mC (.bl false))) (sNil)) (sSeq (sAs (mV 0) (gEnd (gTL 2 (gCn (gNm 1) (gCn (gNm 2) (gNl)))))) (sSeq (sIf (mOrB (mNotB (mTru (mCall 1 M_is_number (mCons (mV 1) (mNil))))) (mNotB (mTru (mCall 1 M_is_number (mCons (mV 2) (mNil)))))) (sRet (mC (.bl false))) (sNil)) (sRet (mAndV (m2 oGe (mV 2) (mC (.int 1))) (m2 oEqL (mN oGcd (mCons (mV 1) (mCons (mV 2) (mNil)))) (mC (.int 1)))))))) F sc_is_fraction rfl rfl (fun cdv A outer s H E hr => ?_)
  have nd : N_is_fraction.Nodup := sc_is_fraction.nd
  have tk : Takes (cxOf (L2.CX P w) P w K mg base N_is_fraction "is_fraction" (defScope (top 20)) (He.ga K "is_fraction") cdv A outer s H E) (fun cls d _ H' => E cls d H') := takes_of rfl rfl rfl rfl
  have po : PassesOwn (model P w) (cxOf (L2.CX P w) P w K mg base N_is_fraction "is_fraction" (defScope (top 20)) (He.ga K "is_fraction") cdv A outer s H E).A (cxOf (L2.CX P w) P w K mg base N_is_fraction "is_fraction" (defScope (top 20)) (He.ga K "is_fraction") cdv A outer s H E).env (cxOf (L2.CX P w) P w K mg base N_is_fraction "is_fraction" (defScope (top 20)) (He.ga K "is_fraction") cdv A outer s H E).xe := passes_of (X := cxOf (L2.CX P w) P w K mg base N_is_fraction "is_fraction" (defScope (top 20)) (He.ga K "is_fraction") cdv A outer s H E) rfl
  exact (es_cons (es_if (et_w (ew_or (et_not (et_tru rfl (f_isi rfl G.b_isinstance (ea_cons (ee_var 0 (pv 0)) (ea_cons (ee_type (n := 4) G.b_tuple rfl) ea_nil))))) (ew_or1 (t_neL rfl hr.units (f_len rfl G.b_len (ea_cons (ee_var 0 (pv 0)) ea_nil)) ee_int)))) (es_one (es_ret ee_bl)) es_nil)
    (es_cons (es_asg (ee_var 0 (pv 0)) (eg_tl rfl rfl (egs_cons (eg_name (g_name nd)) (egs_cons (eg_name (g_name nd)) egs_nil))))
    (es_cons (es_if (et_w (ew_or (et_not (et_tru rfl (ee_call h_is_number hr (by decide) tk (ea_cons (ee_var 1 (pv 1)) ea_nil)))) (ew_or1 (et_not (et_tru rfl (ee_call h_is_number hr (by decide) tk (ea_cons (ee_var 2 (pv 2)) ea_nil))))))) (es_one (es_ret ee_bl)) es_nil)
    (es_one (es_ret (ee_and rfl (c_ge rfl (ee_var 2 (pv 2)) ee_int) (ee_one (c_eqL rfl hr.units (f_gcd G.bf_gcd (ea_cons (ee_var 1 (pv 1)) (ea_cons (ee_var 2 (pv 2)) ea_nil))) ee_int))))))))
theorem ok_is_fraction {P : Program} {w : World} {K : PySem.W.Frag} {mg : Str → Option Value} {base : Heap} (G : Gf K mg) (h_is_number : Kn P w K mg base (pm K) 1 "is_number" 1 M_is_number) : Kn P w K mg base (pm K) 2 "is_fraction" 1 M_is_fraction := by
  obtain ⟨fd, F⟩ := G.d_is_fraction
  exact ⟨_, fd, _, fo_is_fraction G h_is_number  F, G.a_is_fraction, F.kp, (F.bindsN fun _ _ _ _ _ _ us hl => match us, hl with | [_], _ => rfl)⟩
abbrev N_is_row : List Str := ["thing", "own"]
theorem sc_is_row : FnScope N_is_row ["thing"] (defScope (top 21)) := ⟨rfl, rfl, rfl, by decide +kernel, rfl, by decide +kernel, by decide +kernel⟩
noncomputable def M_is_row : Fn' := fnM [none] (sRet (mAndV (mN oIsi (mCons (mV 0) (mCons (mC (.ty 4)) (mNil)))) (mN oAll (mCons (mLc (onlyA (mV 0)) nfA (gNm 1) (mYes) (mCall 1 M_is_fraction (mCons (mV 1) (mNil))) [1]) (mNil)))))
theorem fo_is_row {P : Program} {w : World} {K : PySem.W.Frag} {mg : Str → Option Value} {base : Heap} (G : Gf K mg) (h_is_fraction : Kn P w K mg base (pm K) 2 "is_fraction" 1 M_is_fraction) {fd : FuncData} (F : FunD K "is_row" "is_row" (defArgs (top 21)) (defBody (top 21)) (defScope (top 21)) [] [] (He.ga K "is_row") fd) : FnOk P w K mg base (L2.CX P w) 3 (He.ga K "is_row") fd ["thing"] (spM (pm K) 1 M_is_row) := by
  refine fn_ok (k := 2) (N := N_is_row) (tl := [none]) (b := sRet (mAndV (mN oIsi (mCons (mV 0) (mCons (mC (.ty 4)) (mNil)))) (mN oAll (mCons (mLc (onlyA (mV 0)) nfA (gNm 1) (mYes) (mCall 1 M_is_fraction (mCons (mV 1) (mNil))) [1]) (mNil))))) F sc_is_row rfl rfl (fun cdv A outer s H E hr => ?_)
  have nd : N_is_row.Nodup := sc_is_row.nd
  have tk : Takes (cxOf (L2.CX P w) P w K mg base N_is_row "is_row" (defScope (top 21)) (He.ga K "is_row") cdv A outer s H E) (fun cls d _ H' => E cls d H') := takes_of rfl rfl rfl rfl
  have po : PassesOwn (model P w) (cxOf (L2.CX P w) P w K mg base N_is_row "is_row" (defScope (top 21)) (He.ga K "is_row") cdv A outer s H E).A (cxOf (L2.CX P w) P w K mg base N_is_row "is_row" (defScope (top 21)) (He.ga K "is_row") cdv A outer s H E).env (cxOf (L2.CX P w) P w K mg base N_is_row "is_row" (defScope (top 21)) (He.ga K "is_row") cdv A outer s H E).xe := passes_of (X := cxOf (L2.CX P w) P w K mg base N_is_row "is_row" (defScope (top 21)) (He.ga K "is_row") cdv A outer s H E) rfl
  exact (es_one (es_ret (ee_and rfl (f_isi rfl G.b_isinstance (ea_cons (ee_var 0 (pv 0)) (ea_cons (ee_type (n := 4) G.b_tuple rfl) ea_nil))) (ee_one (f_all rfl rfl G.b_all (ea_cons (ee_lc rfl nd (own := [("own", 1)]) (ei_any rfl (ee_var 0 (pv 0))) (blkOk_by (N := N_is_row) (sc := defScope (top 21)) (by decide +kernel)) (fun _ _ _ _ _ => (ct_name (g_name nd) (by decide))) (fun _ _ _ _ _ => ets_nil) (fun _ _ _ _ _ => (ee_call h_is_fraction hr (by decide) takes_blk (ea_cons (ee_var 1 (pv 1)) ea_nil)))) ea_nil))))))
theorem ok_is_row {P : Program} {w : World} {K : PySem.W.Frag} {mg : Str → Option Value} {base : Heap} (G : Gf K mg) (h_is_fraction : Kn P w K mg base (pm K) 2 "is_fraction" 1 M_is_fraction) : Kn P w K mg base (pm K) 3 "is_row" 1 M_is_row := by
  obtain ⟨fd, F⟩ := G.d_is_row
  exact ⟨_, fd, _, fo_is_row G h_is_fraction  F, G.a_is_row, F.kp, (F.bindsN fun _ _ _ _ _ _ us hl => match us, hl with | [_], _ => rfl)⟩
abbrev N_box_shaped : List Str := ["thing", "tops", "bottoms", "own"]
theorem sc_box_shaped : FnScope N_box_shaped ["thing"] (defScope (top 49)) := ⟨rfl, rfl, rfl, by decide +kernel, rfl, by decide +kernel, by decide +kernel⟩
noncomputable def M_box_shaped : Fn' := fnM [none, none, none] (sSeq (sIf (mOrB (mNotB (mTru (mN oIsi (mCons (mV 0) (mCons (mC (.ty 4)) (mNil)))))) (m2 oNeL (mN oLen (mCons (mV 0) (mNil))) (mC (.int 2)))) (sRet (mC (.bl false))) (sNil)) (sSeq (sAs (mV 0) (gEnd (gTL 2 (gCn (gNm 1) (gCn (gNm 2) (gNl)))))) (sSeq (sIf (mOrB (mNotB (mTru (mCall 1 M_is_row (mCons (mV 1) (mNil))))) (mNotB (mTru (mCall 1 M_is_row (mCons (mV 2) (mNil)))))) (sRet (mC (.bl false))) (sNil)) (sSeq (sIf (mOrB (m2 oNeL (mN oLen (mCons (mV 1) (mNil))) (mN oLen (mCons (mV 2) (mNil)))) (mOrB (m2 oEqL (mN oLen (mCons (mV 1) (mNil))) (mC (.int 0))) (m2 oNeL (m2 oIx (mV 2) (mC (.int 0))) (mC (.tup [.int (1), .int (1)]))))) (sRet (mC (.bl false))) (sNil)) (sRet (mN oAny (mCons (mLc (onlyA (mV 1)) nfA (gNm 3) (mYes) (m2 oNeL (m2 oIx (mV 3) (mC (.int 0))) (mC (.int 0))) [3]) (mNil))))))))
theorem fo_box_shaped {P : Program} {w : World} {K : PySem.W.Frag} {mg : Str → Option Value} {base : Heap} (G : Gf K mg) (h_is_row : Kn P w K mg base (pm K) 3 "is_row" 1 M_is_row) {fd : FuncData} (F : FunD K "box_shaped" "box_shaped" (defArgs (top 49)) (defBody (top 49)) (defScope (top 49)) [] [] (He.ga K "box_shaped") fd) : FnOk P w K mg base (L2.CX P w) 4 (He.ga K "box_shaped") fd ["thing"] (spM (pm K) 1 M_box_shaped) := by
  refine fn_ok (k := 3) (N := N_box_shaped) (tl := [none, none, none]) (b := sSeq (sIf (mOrB (mNotB (mTru (mN oIsi (mCons (mV 0) (mCons (mC (.ty 4)) (mNil)))))) (m2 oNeL (mN oLen (mCons (mV 0) (mNil))) (mC (.int 2)))) (sRet (mC (.bl false))) (sNil)) (sSeq (sAs (mV 0) (gEnd (gTL 2 (gCn (gNm 1) (gCn (gNm 2) (gNl)))))) (sSeq (sIf (mOrB (mNotB (mTru (mCall 1 M_is_row (mCons (mV 1) (mNil))))) (mNotB (mTru (mCall 1 M_is_row (mCons (mV 2) (mNil)))))) (sRet (mC (.bl false))) (sNil)) (sSeq (sIf (mOrB (m2 oNeL (mN oLen (mCons (mV 1) (mNil))) (mN oLen (mCons (mV 2) (mNil)))) (mOrB (m2 oEqL (mN oLen (mCons (mV 1) (mNil))) (mC (.int 0))) (m2 oNeL (m2 oIx (mV 2) (mC (.int 0))) (mC (.tup [.int (1), .int (1)]))))) (sRet (mC (.bl false))) (sNil)) (sRet (mN oAny (mCons (mLc (onlyA (mV 1)) nfA (gNm 3) (mYes) (m2 oNeL (m2 oIx (mV 3) (mC (.int 0))) (mC (.int 0))) [3]) (mNil)))))))) F sc_box_shaped rfl rfl (fun cdv A outer s H E hr => ?_)
  have nd : N_box_shaped.Nodup := sc_box_shaped.nd
  have tk : Takes (cxOf (L2.CX P w) P w K mg base N_box_shaped "box_shaped" (defScope (top 49)) (He.ga K "box_shaped") cdv A outer s H E) (fun cls d _ H' => E cls d H') := takes_of rfl rfl rfl rfl
  have po : PassesOwn (model P w) (cxOf (L2.CX P w) P w K mg base N_box_shaped "box_shaped" (defScope (top 49)) (He.ga K "box_shaped") cdv A outer s H E).A (cxOf (L2.CX P w) P w K mg base N_box_shaped "box_shaped" (defScope (top 49)) (He.ga K "box_shaped") cdv A outer s H E).env (cxOf (L2.CX P w) P w K mg base N_box_shaped "box_shaped" (defScope (top 49)) (He.ga K "box_shaped") cdv A outer s H E).xe := passes_of (X := cxOf (L2.CX P w) P w K mg base N_box_shaped "box_shaped" (defScope (top 49)) (He.ga K "box_shaped") cdv A outer s H E) rfl
  exact (es_cons (es_if (et_w (ew_or (et_not (et_tru rfl (f_isi rfl G.b_isinstance (ea_cons (ee_var 0 (pv 0)) (ea_cons (ee_type (n := 4) G.b_tuple rfl) ea_nil))))) (ew_or1 (t_neL rfl hr.units (f_len rfl G.b_len (ea_cons (ee_var 0 (pv 0)) ea_nil)) ee_int)))) (es_one (es_ret ee_bl)) es_nil)
    (es_cons (es_asg (ee_var 0 (pv 0)) (eg_tl rfl rfl (egs_cons (eg_name (g_name nd)) (egs_cons (eg_name (g_name nd)) egs_nil))))
    (es_cons (es_if (et_w (ew_or (et_not (et_tru rfl (ee_call h_is_row hr (by decide) tk (ea_cons (ee_var 1 (pv 1)) ea_nil)))) (ew_or1 (et_not (et_tru rfl (ee_call h_is_row hr (by decide) tk (ea_cons (ee_var 2 (pv 2)) ea_nil))))))) (es_one (es_ret ee_bl)) es_nil)
    (es_cons (es_if (et_w (ew_or (t_neL rfl hr.units (f_len rfl G.b_len (ea_cons (ee_var 1 (pv 1)) ea_nil)) (f_len rfl G.b_len (ea_cons (ee_var 2 (pv 2)) ea_nil))) (ew_or (t_eqL rfl hr.units (f_len rfl G.b_len (ea_cons (ee_var 1 (pv 1)) ea_nil)) ee_int) (ew_or1 (t_neL rfl hr.units (b_ix rfl (ee_var 2 (pv 2)) ee_int) (ee_const (v := .ref (He.ga K "ONE")) G.z_ONE G.m_ONE rfl)))))) (es_one (es_ret ee_bl)) es_nil)
    (es_one (es_ret (f_any rfl rfl G.b_any (ea_cons (ee_lc rfl nd (own := [("own", 3)]) (ei_any rfl (ee_var 1 (pv 1))) (blkOk_by (N := N_box_shaped) (sc := defScope (top 49)) (by decide +kernel)) (fun _ _ _ _ _ => (ct_name (g_name nd) (by decide))) (fun _ _ _ _ _ => ets_nil) (fun _ _ _ _ _ => (c_neL rfl hr.units (b_ix rfl (ee_var 3 (pv 3)) ee_int) ee_int))) ea_nil))))))))
theorem ok_box_shaped {P : Program} {w : World} {K : PySem.W.Frag} {mg : Str → Option Value} {base : Heap} (G : Gf K mg) (h_is_row : Kn P w K mg base (pm K) 3 "is_row" 1 M_is_row) : Kn P w K mg base (pm K) 4 "box_shaped" 1 M_box_shaped := by
  obtain ⟨fd, F⟩ := G.d_box_shaped
  exact ⟨_, fd, _, fo_box_shaped G h_is_row  F, G.a_box_shaped, F.kp, (F.bindsN fun _ _ _ _ _ _ us hl => match us, hl with | [_], _ => rfl)⟩
abbrev N_trimmed : List Str := ["row", "many"]
theorem sc_trimmed : FnScope N_trimmed ["row"] (defScope (top 41)) := ⟨rfl, rfl, rfl, by decide +kernel, rfl, by decide +kernel, by decide +kernel⟩
noncomputable def M_trimmed : Fn' := fnM [none] (sSeq (sSet 1 (mN oLen (mCons (mV 0) (mNil)))) (sSeq (sWh (mAndB (m2 oGt (mV 1) (mC (.int 0))) (m2 oEqL (m2 oIx (m2 oIx (mV 0) (m2 oSub (mV 1) (mC (.int 1)))) (mC (.int 0))) (mC (.int 0)))) (sAug 1 oSub (mC (.int 1)))) (sRet (mN oTuple (mCons (mSl (mV 0) (mC .non) (mPart (mV 1))) (mNil))))))
theorem fo_trimmed {P : Program} {w : World} {K : PySem.W.Frag} {mg : Str → Option Value} {base : Heap} (G : Gf K mg) {fd : FuncData} (F : FunD K "trimmed" "trimmed" (defArgs (top 41)) (defBody (top 41)) (defScope (top 41)) [] [] (He.ga K "trimmed") fd) : FnOk P w K mg base (L2.CX P w) 1 (He.ga K "trimmed") fd ["row"] (spM (pm K) 1 M_trimmed) := by
  refine fn_ok (k := 0) (N := N_trimmed) (tl := [none]) (b := sSeq (sSet 1 (mN oLen (mCons (mV 0) (mNil)))) (sSeq (sWh (mAndB (m2 oGt (mV 1) (mC (.int 0))) (m2 oEqL (m2 oIx (m2 oIx (mV 0) (m2 oSub (mV 1) (mC (.int 1)))) (mC (.int 0))) (mC (.int 0)))) (sAug 1 oSub (mC (.int 1)))) (sRet (mN oTuple (mCons (mSl (mV 0) (mC .non) (mPart (mV 1))) (mNil)))))) F sc_trimmed rfl rfl (fun cdv A outer s H E hr => ?_)
  have nd : N_trimmed.Nodup := sc_trimmed.nd
  have tk : Takes (cxOf (L2.CX P w) P w K mg base N_trimmed "trimmed" (defScope (top 41)) (He.ga K "trimmed") cdv A outer s H E) (fun cls d _ H' => E cls d H') := takes_of rfl rfl rfl rfl
  have po : PassesOwn (model P w) (cxOf (L2.CX P w) P w K mg base N_trimmed "trimmed" (defScope (top 41)) (He.ga K "trimmed") cdv A outer s H E).A (cxOf (L2.CX P w) P w K mg base N_trimmed "trimmed" (defScope (top 41)) (He.ga K "trimmed") cdv A outer s H E).env (cxOf (L2.CX P w) P w K mg base N_trimmed "trimmed" (defScope (top 41)) (He.ga K "trimmed") cdv A outer s H E).xe := passes_of (X := cxOf (L2.CX P w) P w K mg base N_trimmed "trimmed" (defScope (top 41)) (He.ga K "trimmed") cdv A outer s H E) rfl
  exact (es_cons (s_set nd (f_len rfl G.b_len (ea_cons (ee_var 0 (pv 0)) ea_nil)))
    (es_cons (es_while po (et_w (ew_and (t_gt rfl (ee_var 1 (pv 1)) ee_int) (ew_and1 (t_eqL rfl hr.units (b_ix rfl (b_ix rfl (ee_var 0 (pv 0)) (b_sub rfl (ee_var 1 (pv 1)) ee_int)) ee_int) ee_int)))) (es_one (s_augSub nd ee_int)))
    (es_one (es_ret (f_tuple rfl G.b_tuple (ea_cons (ee_sl rfl (ee_var 0 (pv 0)) eo_none (eo_some (ee_var 1 (pv 1)))) ea_nil))))))
theorem ok_trimmed {P : Program} {w : World} {K : PySem.W.Frag} {mg : Str → Option Value} {base : Heap} (G : Gf K mg) : Kn P w K mg base (pm K) 1 "trimmed" 1 M_trimmed := by
  obtain ⟨fd, F⟩ := G.d_trimmed
  exact ⟨_, fd, _, fo_trimmed G   F, G.a_trimmed, F.kp, (F.bindsN fun _ _ _ _ _ _ us hl => match us, hl with | [_], _ => rfl)⟩
abbrev N_polys_of : List Str := ["box", "tops", "bottoms"]
theorem sc_polys_of : FnScope N_polys_of ["box"] (defScope (top 50)) := ⟨rfl, rfl, rfl, by decide +kernel, rfl, by decide +kernel, by decide +kernel⟩
noncomputable def M_polys_of : Fn' := fnM [none, none] (sSeq (sAs (mV 0) (gEnd (gTL 2 (gCn (gNm 1) (gCn (gNm 2) (gNl)))))) (sRet (mN oTup (mCons (mCall 1 M_trimmed (mCons (mBack (mV 1)) (mNil))) (mCons (mCall 1 M_trimmed (mCons (mBack (mV 2)) (mNil))) (mNil))))))
theorem fo_polys_of {P : Program} {w : World} {K : PySem.W.Frag} {mg : Str → Option Value} {base : Heap} (G : Gf K mg) (h_trimmed : Kn P w K mg base (pm K) 1 "trimmed" 1 M_trimmed) {fd : FuncData} (F : FunD K "polys_of" "polys_of" (defArgs (top 50)) (defBody (top 50)) (defScope (top 50)) [] [] (He.ga K "polys_of") fd) : FnOk P w K mg base (L2.CX P w) 2 (He.ga K "polys_of") fd ["box"] (spM (pm K) 1 M_polys_of) := by
  refine fn_ok (k := 1) (N := N_polys_of) (tl := [none, none]) (b := sSeq (sAs (mV 0) (gEnd (gTL 2 (gCn (gNm 1) (gCn (gNm 2) (gNl)))))) (sRet (mN oTup (mCons (mCall 1 M_trimmed (mCons (mBack (mV 1)) (mNil))) (mCons (mCall 1 M_trimmed (mCons (mBack (mV 2)) (mNil))) (mNil)))))) F sc_polys_of rfl rfl (fun cdv A outer s H E hr => ?_)
  have nd : N_polys_of.Nodup := sc_polys_of.nd
  have tk : Takes (cxOf (L2.CX P w) P w K mg base N_polys_of "polys_of" (defScope (top 50)) (He.ga K "polys_of") cdv A outer s H E) (fun cls d _ H' => E cls d H') := takes_of rfl rfl rfl rfl
  have po : PassesOwn (model P w) (cxOf (L2.CX P w) P w K mg base N_polys_of "polys_of" (defScope (top 50)) (He.ga K "polys_of") cdv A outer s H E).A (cxOf (L2.CX P w) P w K mg base N_polys_of "polys_of" (defScope (top 50)) (He.ga K "polys_of") cdv A outer s H E).env (cxOf (L2.CX P w) P w K mg base N_polys_of "polys_of" (defScope (top 50)) (He.ga K "polys_of") cdv A outer s H E).xe := passes_of (X := cxOf (L2.CX P w) P w K mg base N_polys_of "polys_of" (defScope (top 50)) (He.ga K "polys_of") cdv A outer s H E) rfl
  exact (es_cons (es_asg (ee_var 0 (pv 0)) (eg_tl rfl rfl (egs_cons (eg_name (g_name nd)) (egs_cons (eg_name (g_name nd)) egs_nil))))
    (es_one (es_ret (ee_tup (ea_cons (ee_call h_trimmed hr (by decide) tk (ea_cons (ee_back rfl (ee_var 1 (pv 1))) ea_nil)) (ea_cons (ee_call h_trimmed hr (by decide) tk (ea_cons (ee_back rfl (ee_var 2 (pv 2))) ea_nil)) ea_nil))))))
theorem ok_polys_of {P : Program} {w : World} {K : PySem.W.Frag} {mg : Str → Option Value} {base : Heap} (G : Gf K mg) (h_trimmed : Kn P w K mg base (pm K) 1 "trimmed" 1 M_trimmed) : Kn P w K mg base (pm K) 2 "polys_of" 1 M_polys_of := by
  obtain ⟨fd, F⟩ := G.d_polys_of
  exact ⟨_, fd, _, fo_polys_of G h_trimmed  F, G.a_polys_of, F.kp, (F.bindsN fun _ _ _ _ _ _ us hl => match us, hl with | [_], _ => rfl)⟩
abbrev N_bare : List Str := ["p", "shared", "own"]
theorem sc_bare : FnScope N_bare ["p"] (defScope (top 37)) := ⟨rfl, rfl, rfl, by decide +kernel, rfl, by decide +kernel, by decide +kernel⟩
noncomputable def M_bare : Fn' := fnM [none, none] (sSeq (sSet 1 (mC (.int 0))) (sSeq (sFor (onlyA (mV 0)) nfA (gNm 2) (sSet 1 (mN oGcd (mCons (mV 1) (mCons (mV 2) (mNil)))))) (sSeq (sIf (m2 oLt (mV 1) (mC (.int 2))) (sRet (mN oListX (mCons (mV 0) (mNil)))) (sNil)) (sRet (mLc (onlyA (mV 0)) nfA (gNm 2) (mYes) (m2 oFdiv (mV 2) (mV 1)) [2])))))
theorem fo_bare {P : Program} {w : World} {K : PySem.W.Frag} {mg : Str → Option Value} {base : Heap} (G : Gf K mg) {fd : FuncData} (F : FunD K "bare" "bare" (defArgs (top 37)) (defBody (top 37)) (defScope (top 37)) [] [] (He.ga K "bare") fd) : FnOk P w K mg base (L2.CX P w) 1 (He.ga K "bare") fd ["p"] (spM (pm K) 1 M_bare) := by
  refine fn_ok (k := 0) (N := N_bare) (tl := [none, none]) (b := sSeq (sSet 1 (mC (.int 0))) (sSeq (sFor (onlyA (mV 0)) nfA (gNm 2) (sSet 1 (mN oGcd (mCons (mV 1) (mCons (mV 2) (mNil)))))) (sSeq (sIf (m2 oLt (mV 1) (mC (.int 2))) (sRet (mN oListX (mCons (mV 0) (mNil)))) (sNil)) (sRet (mLc (onlyA (mV 0)) nfA (gNm 2) (mYes) (m2 oFdiv (mV 2) (mV 1)) [2]))))) F sc_bare rfl rfl (fun cdv A outer s H E hr => ?_)
  have nd : N_bare.Nodup := sc_bare.nd
  have tk : Takes (cxOf (L2.CX P w) P w K mg base N_bare "bare" (defScope (top 37)) (He.ga K "bare") cdv A outer s H E) (fun cls d _ H' => E cls d H') := takes_of rfl rfl rfl rfl
  have po : PassesOwn (model P w) (cxOf (L2.CX P w) P w K mg base N_bare "bare" (defScope (top 37)) (He.ga K "bare") cdv A outer s H E).A (cxOf (L2.CX P w) P w K mg base N_bare "bare" (defScope (top 37)) (He.ga K "bare") cdv A outer s H E).env (cxOf (L2.CX P w) P w K mg base N_bare "bare" (defScope (top 37)) (He.ga K "bare") cdv A outer s H E).xe := passes_of (X := cxOf (L2.CX P w) P w K mg base N_bare "bare" (defScope (top 37)) (He.ga K "bare") cdv A outer s H E) rfl
  exact (es_cons (s_set nd ee_int)
    (es_cons (es_for po rfl (ei_any rfl (ee_var 0 (pv 0))) (eg_name (g_name nd)) (es_one (s_set nd (f_gcd G.bf_gcd (ea_cons (ee_var 1 (pv 1)) (ea_cons (ee_var 2 (pv 2)) ea_nil))))))
    (es_cons (es_if (t_lt rfl (ee_var 1 (pv 1)) ee_int) (es_one (es_ret (f_listX rfl rfl G.b_list (ea_cons (ee_var 0 (pv 0)) ea_nil)))) es_nil)
    (es_one (es_ret (ee_lc rfl nd (own := [("own", 2)]) (ei_any rfl (ee_var 0 (pv 0))) (blkOk_by (N := N_bare) (sc := defScope (top 37)) (by decide +kernel)) (fun _ _ _ _ _ => (ct_name (g_name nd) (by decide))) (fun _ _ _ _ _ => ets_nil) (fun _ _ _ _ _ => (b_fdiv rfl (ee_var 2 (pv 2)) (ee_var 1 (pv 1))))))))))
theorem ok_bare {P : Program} {w : World} {K : PySem.W.Frag} {mg : Str → Option Value} {base : Heap} (G : Gf K mg) : Kn P w K mg base (pm K) 1 "bare" 1 M_bare := by
  obtain ⟨fd, F⟩ := G.d_bare
  exact ⟨_, fd, _, fo_bare G   F, G.a_bare, F.kp, (F.bindsN fun _ _ _ _ _ _ us hl => match us, hl with | [_], _ => rfl)⟩
abbrev N_cut : List Str := ["numbers", "many"]
theorem sc_cut : FnScope N_cut ["numbers"] (defScope (top 36)) := ⟨rfl, rfl, rfl, by decide +kernel, rfl, by decide +kernel, by decide +kernel⟩
noncomputable def M_cut : Fn' := fnM [none] (sSeq (sSet 1 (mN oLen (mCons (mV 0) (mNil)))) (sSeq (sWh (mAndB (m2 oGt (mV 1) (mC (.int 0))) (m2 oEqL (m2 oIx (mV 0) (m2 oSub (mV 1) (mC (.int 1)))) (mC (.int 0)))) (sAug 1 oSub (mC (.int 1)))) (sRet (mN oListX (mCons (mSl (mV 0) (mC .non) (mPart (mV 1))) (mNil))))))
theorem fo_cut {P : Program} {w : World} {K : PySem.W.Frag} {mg : Str → Option Value} {base : Heap} (G : Gf K mg) {fd : FuncData} (F : FunD K "cut" "cut" (defArgs (top 36)) (defBody (top 36)) (defScope (top 36)) [] [] (He.ga K "cut") fd) : FnOk P w K mg base (L2.CX P w) 1 (He.ga K "cut") fd ["numbers"] (spM (pm K) 1 M_cut) := by
  refine fn_ok (k := 0) (N := N_cut) (tl := [none]) (b := sSeq (sSet 1 (mN oLen (mCons (mV 0) (mNil)))) (sSeq (sWh (mAndB (m2 oGt (mV 1) (mC (.int 0))) (m2 oEqL (m2 oIx (mV 0) (m2 oSub (mV 1) (mC (.int 1)))) (mC (.int 0)))) (sAug 1 oSub (mC (.int 1)))) (sRet (mN oListX (mCons (mSl (mV 0) (mC .non) (mPart (mV 1))) (mNil)))))) F sc_cut rfl rfl (fun cdv A outer s H E hr => ?_)
  have nd : N_cut.Nodup := sc_cut.nd
  have tk : Takes (cxOf (L2.CX P w) P w K mg base N_cut "cut" (defScope (top 36)) (He.ga K "cut") cdv A outer s H E) (fun cls d _ H' => E cls d H') := takes_of rfl rfl rfl rfl
  have po : PassesOwn (model P w) (cxOf (L2.CX P w) P w K mg base N_cut "cut" (defScope (top 36)) (He.ga K "cut") cdv A outer s H E).A (cxOf (L2.CX P w) P w K mg base N_cut "cut" (defScope (top 36)) (He.ga K "cut") cdv A outer s H E).env (cxOf (L2.CX P w) P w K mg base N_cut "cut" (defScope (top 36)) (He.ga K "cut") cdv A outer s H E).xe := passes_of (X := cxOf (L2.CX P w) P w K mg base N_cut "cut" (defScope (top 36)) (He.ga K "cut") cdv A outer s H E) rfl
  exact (es_cons (s_set nd (f_len rfl G.b_len (ea_cons (ee_var 0 (pv 0)) ea_nil)))
    (es_cons (es_while po (et_w (ew_and (t_gt rfl (ee_var 1 (pv 1)) ee_int) (ew_and1 (t_eqL rfl hr.units (b_ix rfl (ee_var 0 (pv 0)) (b_sub rfl (ee_var 1 (pv 1)) ee_int)) ee_int)))) (es_one (s_augSub nd ee_int)))
    (es_one (es_ret (f_listX rfl rfl G.b_list (ea_cons (ee_sl rfl (ee_var 0 (pv 0)) eo_none (eo_some (ee_var 1 (pv 1)))) ea_nil))))))
theorem ok_cut {P : Program} {w : World} {K : PySem.W.Frag} {mg : Str → Option Value} {base : Heap} (G : Gf K mg) : Kn P w K mg base (pm K) 1 "cut" 1 M_cut := by
  obtain ⟨fd, F⟩ := G.d_cut
  exact ⟨_, fd, _, fo_cut G   F, G.a_cut, F.kp, (F.bindsN fun _ _ _ _ _ _ us hl => match us, hl with | [_], _ => rfl)⟩
abbrev N_remainder : List Str := ["p", "q", "rest", "lead", "shared", "by", "less", "at", "j", "own"]
theorem sc_remainder : FnScope N_remainder ["p", "q"] (defScope (top 38)) := ⟨rfl, rfl, rfl, by decide +kernel, rfl, by decide +kernel, by decide +kernel⟩
noncomputable def M_remainder : Fn' := fnM [none, none, none, none, none, none, none, none] (sSeq (sSet 2 (mN oListX (mCons (mV 0) (mNil)))) (sSeq (sSet 3 (m2 oIx (mV 1) (m1 oNeg (mC (.int 1))))) (sSeq (sWh (m2 oGe (mN oLen (mCons (mV 2) (mNil))) (mN oLen (mCons (mV 1) (mNil)))) (sSeq (sSet 4 (mN oGcd (mCons (m2 oIx (mV 2) (m1 oNeg (mC (.int 1)))) (mCons (mV 3) (mNil))))) (sSeq (sSet 5 (m2 oFdiv (mN oAbs (mCons (mV 3) (mNil))) (mV 4))) (sSeq (sSet 6 (mIf (m2 oGt (mV 3) (mC (.int 0))) (m2 oFdiv (m2 oIx (mV 2) (m1 oNeg (mC (.int 1)))) (mV 4)) (m1 oNeg (m2 oFdiv (m2 oIx (mV 2) (m1 oNeg (mC (.int 1)))) (mV 4))))) (sSeq (sSet 7 (m2 oSub (mN oLen (mCons (mV 2) (mNil))) (mN oLen (mCons (mV 1) (mNil))))) (sSeq (sSet 2 (mLc (onlyA (mV 2)) nfA (gNm 9) (mYes) (m2 oMul (mV 5) (mV 9)) [9])) (sSeq (sFor (enmX (mCons (mV 1) (mNil))) nfX (gTL 2 (gCn (gNm 8) (gCn (gNm 9) (gNl)))) (sAugS (mV 2) (m2 oAdd (mV 7) (mV 8)) (m2 oMul (mV 6) (mV 9)) oIxL oSub)) (sSet 2 (mCall 1 M_cut (mCons (mV 2) (mNil))))))))))) (sRet (mCall 1 M_bare (mCons (mV 2) (mNil)))))))
theorem fo_remainder {P : Program} {w : World} {K : PySem.W.Frag} {mg : Str → Option Value} {base : Heap} (G : Gf K mg) (h_bare : Kn P w K mg base (pm K) 1 "bare" 1 M_bare) (h_cut : Kn P w K mg base (pm K) 1 "cut" 1 M_cut) {fd : FuncData} (F : FunD K "remainder" "remainder" (defArgs (top 38)) (defBody (top 38)) (defScope (top 38)) [] [] (He.ga K "remainder") fd) : FnOk P w K mg base (L2.CX P w) 2 (He.ga K "remainder") fd ["p", "q"] (spM (pm K) 2 M_remainder) := by
  refine fn_ok (k := 1) (N := N_remainder) (tl := [none, none, none, none, none, none, none, none]) (b := sSeq (sSet 2 (mN oListX (mCons (mV 0) (mNil)))) (sSeq (sSet 3 (m2 oIx (mV 1) (m1 oNeg (mC (.int 1))))) (sSeq (sWh (m2 oGe (mN oLen (mCons (mV 2) (mNil))) (mN oLen (mCons (mV 1) (mNil)))) (sSeq (sSet 4 (mN oGcd (mCons (m2 oIx (mV 2) (m1 oNeg (mC (.int 1)))) (mCons (mV 3) (mNil))))) (sSeq (sSet 5 (m2 oFdiv (mN oAbs (mCons (mV 3) (mNil))) (mV 4))) (sSeq (sSet 6 (mIf (m2 oGt (mV 3) (mC (.int 0))) (m2 oFdiv (m2 oIx (mV 2) (m1 oNeg (mC (.int 1)))) (mV 4)) (m1 oNeg (m2 oFdiv (m2 oIx (mV 2) (m1 oNeg (mC (.int 1)))) (mV 4))))) (sSeq (sSet 7 (m2 oSub (mN oLen (mCons (mV 2) (mNil))) (mN oLen (mCons (mV 1) (mNil))))) (sSeq (sSet 2 (mLc (onlyA (mV 2)) nfA (gNm 9) (mYes) (m2 oMul (mV 5) (mV 9)) [9])) (sSeq (sFor (enmX (mCons (mV 1) (mNil))) nfX (gTL 2 (gCn (gNm 8) (gCn (gNm 9) (gNl)))) (sAugS (mV 2) (m2 oAdd (mV 7) (mV 8)) (m2 oMul (mV 6) (mV 9)) oIxL oSub)) (sSet 2 (mCall 1 M_cut (mCons (mV 2) (mNil))))))))))) (sRet (mCall 1 M_bare (mCons (mV 2) (mNil))))))) F sc_remainder rfl rfl (fun cdv A outer s H E hr => ?_)
  have nd : N_remainder.Nodup := sc_remainder.nd
  have tk : Takes (cxOf (L2.CX P w) P w K mg base N_remainder "remainder" (defScope (top 38)) (He.ga K "remainder") cdv A outer s H E) (fun cls d _ H' => E cls d H') := takes_of rfl rfl rfl rfl
  have po : PassesOwn (model P w) (cxOf (L2.CX P w) P w K mg base N_remainder "remainder" (defScope (top 38)) (He.ga K "remainder") cdv A outer s H E).A (cxOf (L2.CX P w) P w K mg base N_remainder "remainder" (defScope (top 38)) (He.ga K "remainder") cdv A outer s H E).env (cxOf (L2.CX P w) P w K mg base N_remainder "remainder" (defScope (top 38)) (He.ga K "remainder") cdv A outer s H E).xe := passes_of (X := cxOf (L2.CX P w) P w K mg base N_remainder "remainder" (defScope (top 38)) (He.ga K "remainder") cdv A outer s H E) rfl
  exact (es_cons (s_set nd (f_listX rfl rfl G.b_list (ea_cons (ee_var 0 (pv 0)) ea_nil)))
    (es_cons (s_set nd (b_ix rfl (ee_var 1 (pv 1)) (b_neg ee_int)))
    (es_cons (es_while po (t_ge rfl (f_len rfl G.b_len (ea_cons (ee_var 2 (pv 2)) ea_nil)) (f_len rfl G.b_len (ea_cons (ee_var 1 (pv 1)) ea_nil))) (es_cons (s_set nd (f_gcd G.bf_gcd (ea_cons (b_ix rfl (ee_var 2 (pv 2)) (b_neg ee_int)) (ea_cons (ee_var 3 (pv 3)) ea_nil))))
    (es_cons (s_set nd (b_fdiv rfl (f_abs G.b_abs (ea_cons (ee_var 3 (pv 3)) ea_nil)) (ee_var 4 (pv 4))))
    (es_cons (s_set nd (ee_if (t_gt rfl (ee_var 3 (pv 3)) ee_int) (b_fdiv rfl (b_ix rfl (ee_var 2 (pv 2)) (b_neg ee_int)) (ee_var 4 (pv 4))) (b_neg (b_fdiv rfl (b_ix rfl (ee_var 2 (pv 2)) (b_neg ee_int)) (ee_var 4 (pv 4))))))
    (es_cons (s_set nd (b_sub rfl (f_len rfl G.b_len (ea_cons (ee_var 2 (pv 2)) ea_nil)) (f_len rfl G.b_len (ea_cons (ee_var 1 (pv 1)) ea_nil))))
    (es_cons (es_setLc rfl nd rfl rfl (sw_true rfl rfl rfl (by decide +kernel)) (own := [("own", 9)]) (ei_any rfl (ee_var 2 (pv 2))) (blkOk_by (N := N_remainder) (sc := defScope (top 38)) (by decide +kernel)) (fun _ _ _ _ _ => (ct_name (g_name nd) (by decide))) (fun _ _ _ _ _ => ets_nil) (fun _ _ _ _ _ => (b_mul rfl (ee_var 5 (pv 5)) (ee_var 9 (pv 9)))))
    (es_cons (es_for po rfl (ei_enumX rfl G.b_enumerate (ea_cons (ee_var 1 (pv 1)) ea_nil)) (eg_tl rfl rfl (egs_cons (eg_name (g_name nd)) (egs_cons (eg_name (g_name nd)) egs_nil))) (es_one (s_augSSub rfl (ee_var 2 (pv 2)) (b_add rfl (ee_var 7 (pv 7)) (ee_var 8 (pv 8))) (b_mul rfl (ee_var 6 (pv 6)) (ee_var 9 (pv 9))))))
    (es_one (s_set nd (ee_call h_cut hr (by decide) tk (ea_cons (ee_var 2 (pv 2)) ea_nil)))))))))))
    (es_one (es_ret (ee_call h_bare hr (by decide) tk (ea_cons (ee_var 2 (pv 2)) ea_nil)))))))
theorem ok_remainder {P : Program} {w : World} {K : PySem.W.Frag} {mg : Str → Option Value} {base : Heap} (G : Gf K mg) (h_bare : Kn P w K mg base (pm K) 1 "bare" 1 M_bare) (h_cut : Kn P w K mg base (pm K) 1 "cut" 1 M_cut) : Kn P w K mg base (pm K) 2 "remainder" 2 M_remainder := by
  obtain ⟨fd, F⟩ := G.d_remainder
  exact ⟨_, fd, _, fo_remainder G h_bare h_cut  F, G.a_remainder, F.kp, (F.bindsN fun _ _ _ _ _ _ us hl => match us, hl with | [_, _], _ => rfl)⟩
abbrev N_divisor : List Str := ["p", "q", "one", "other", "own"]
theorem sc_divisor : FnScope N_divisor ["p", "q"] (defScope (top 39)) := ⟨rfl, rfl, rfl, by decide +kernel, rfl, by decide +kernel, by decide +kernel⟩
noncomputable def M_divisor : Fn' := fnM [none, none, none] (sSeq (sPar 2 3 (mCons (mCall 1 M_bare (mCons (mV 0) (mNil))) (mCons (mCall 1 M_bare (mCons (mV 1) (mNil))) (mNil)))) (sSeq (sWh (mTru (mV 3)) (sPar 2 3 (mCons (mV 3) (mCons (mIf (m2 oGe (mN oLen (mCons (mV 2) (mNil))) (mN oLen (mCons (mV 3) (mNil)))) (mCall 2 M_remainder (mCons (mV 2) (mCons (mV 3) (mNil)))) (mV 2)) (mNil))))) (sSeq (sIf (mAndB (mTru (mV 2)) (m2 oLt (m2 oIx (mV 2) (m1 oNeg (mC (.int 1)))) (mC (.int 0)))) (sRet (mLc (onlyA (mV 2)) nfA (gNm 4) (mYes) (m1 oNeg (mV 4)) [4])) (sNil)) (sRet (mV 2)))))
theorem fo_divisor {P : Program} {w : World} {K : PySem.W.Frag} {mg : Str → Option Value} {base : Heap} (G : Gf K mg) (h_bare : Kn P w K mg base (pm K) 1 "bare" 1 M_bare) (h_remainder : Kn P w K mg base (pm K) 2 "remainder" 2 M_remainder) {fd : FuncData} (F : FunD K "divisor" "divisor" (defArgs (top 39)) (defBody (top 39)) (defScope (top 39)) [] [] (He.ga K "divisor") fd) : FnOk P w K mg base (L2.CX P w) 3 (He.ga K "divisor") fd ["p", "q"] (spM (pm K) 2 M_divisor) := by
  refine fn_ok (k := 2) (N := N_divisor) (tl := [none, none, none]) (b := sSeq (sPar 2 3 (mCons (mCall 1 M_bare (mCons (mV 0) (mNil))) (mCons (mCall 1 M_bare (mCons (mV 1) (mNil))) (mNil)))) (sSeq (sWh (mTru (mV 3)) (sPar 2 3 (mCons (mV 3) (mCons (mIf (m2 oGe (mN oLen (mCons (mV 2) (mNil))) (mN oLen (mCons (mV 3) (mNil)))) (mCall 2 M_remainder (mCons (mV 2) (mCons (mV 3) (mNil)))) (mV 2)) (mNil))))) (sSeq (sIf (mAndB (mTru (mV 2)) (m2 oLt (m2 oIx (mV 2) (m1 oNeg (mC (.int 1)))) (mC (.int 0)))) (sRet (mLc (onlyA (mV 2)) nfA (gNm 4) (mYes) (m1 oNeg (mV 4)) [4])) (sNil)) (sRet (mV 2))))) F sc_divisor rfl rfl (fun cdv A outer s H E hr => ?_)
  have nd : N_divisor.Nodup := sc_divisor.nd
  have tk : Takes (cxOf (L2.CX P w) P w K mg base N_divisor "divisor" (defScope (top 39)) (He.ga K "divisor") cdv A outer s H E) (fun cls d _ H' => E cls d H') := takes_of rfl rfl rfl rfl
  have po : PassesOwn (model P w) (cxOf (L2.CX P w) P w K mg base N_divisor "divisor" (defScope (top 39)) (He.ga K "divisor") cdv A outer s H E).A (cxOf (L2.CX P w) P w K mg base N_divisor "divisor" (defScope (top 39)) (He.ga K "divisor") cdv A outer s H E).env (cxOf (L2.CX P w) P w K mg base N_divisor "divisor" (defScope (top 39)) (He.ga K "divisor") cdv A outer s H E).xe := passes_of (X := cxOf (L2.CX P w) P w K mg base N_divisor "divisor" (defScope (top 39)) (He.ga K "divisor") cdv A outer s H E) rfl
  exact (es_cons (s_par rfl nd (ea_cons (ee_call h_bare hr (by decide) tk (ea_cons (ee_var 0 (pv 0)) ea_nil)) (ea_cons (ee_call h_bare hr (by decide) tk (ea_cons (ee_var 1 (pv 1)) ea_nil)) ea_nil)) (by decide))
    (es_cons (es_while po (et_tru rfl (ee_var 3 (pv 3))) (es_one (s_par rfl nd (ea_cons (ee_var 3 (pv 3)) (ea_cons (ee_if (t_ge rfl (f_len rfl G.b_len (ea_cons (ee_var 2 (pv 2)) ea_nil)) (f_len rfl G.b_len (ea_cons (ee_var 3 (pv 3)) ea_nil))) (ee_call h_remainder hr (by decide) tk (ea_cons (ee_var 2 (pv 2)) (ea_cons (ee_var 3 (pv 3)) ea_nil))) (ee_var 2 (pv 2))) ea_nil)) (by decide))))
    (es_cons (es_if (et_w (ew_and (et_tru rfl (ee_var 2 (pv 2))) (ew_and1 (t_lt rfl (b_ix rfl (ee_var 2 (pv 2)) (b_neg ee_int)) ee_int)))) (es_one (es_ret (ee_lc rfl nd (own := [("own", 4)]) (ei_any rfl (ee_var 2 (pv 2))) (blkOk_by (N := N_divisor) (sc := defScope (top 39)) (by decide +kernel)) (fun _ _ _ _ _ => (ct_name (g_name nd) (by decide))) (fun _ _ _ _ _ => ets_nil) (fun _ _ _ _ _ => (b_neg (ee_var 4 (pv 4))))))) es_nil)
    (es_one (es_ret (ee_var 2 (pv 2)))))))
theorem ok_divisor {P : Program} {w : World} {K : PySem.W.Frag} {mg : Str → Option Value} {base : Heap} (G : Gf K mg) (h_bare : Kn P w K mg base (pm K) 1 "bare" 1 M_bare) (h_remainder : Kn P w K mg base (pm K) 2 "remainder" 2 M_remainder) : Kn P w K mg base (pm K) 3 "divisor" 2 M_divisor := by
  obtain ⟨fd, F⟩ := G.d_divisor
  exact ⟨_, fd, _, fo_divisor G h_bare h_remainder  F, G.a_divisor, F.kp, (F.bindsN fun _ _ _ _ _ _ us hl => match us, hl with | [_, _], _ => rfl)⟩
abbrev N_wholes : List Str := ["row", "bottom", "own"]
theorem sc_wholes : FnScope N_wholes ["row"] (defScope (top 13)) := ⟨rfl, rfl, rfl, by decide +kernel, rfl, by decide +kernel, by decide +kernel⟩
noncomputable def M_wholes : Fn' := fnM [none, none] (sSeq (sSet 1 (mC (.int 1))) (sSeq (sFor (onlyA (mV 0)) nfA (gNm 2) (sSet 1 (mN oLcm (mCons (mV 1) (mCons (m2 oIx (mV 2) (mC (.int 1))) (mNil)))))) (sRet (mN oTup (mCons (mLc (onlyA (mV 0)) nfA (gNm 2) (mYes) (m2 oMul (m2 oIx (mV 2) (mC (.int 0))) (m2 oFdiv (mV 1) (m2 oIx (mV 2) (mC (.int 1))))) [2]) (mCons (mV 1) (mNil)))))))
theorem fo_wholes {P : Program} {w : World} {K : PySem.W.Frag} {mg : Str → Option Value} {base : Heap} (G : Gf K mg) {fd : FuncData} (F : FunD K "wholes" "wholes" (defArgs (top 13)) (defBody (top 13)) (defScope (top 13)) [] [] (He.ga K "wholes") fd) : FnOk P w K mg base (L2.CX P w) 1 (He.ga K "wholes") fd ["row"] (spM (pm K) 1 M_wholes) := by
  refine fn_ok (k := 0) (N := N_wholes) (tl := [none, none]) (b := sSeq (sSet 1 (mC (.int 1))) (sSeq (sFor (onlyA (mV 0)) nfA (gNm 2) (sSet 1 (mN oLcm (mCons (mV 1) (mCons (m2 oIx (mV 2) (mC (.int 1))) (mNil)))))) (sRet (mN oTup (mCons (mLc (onlyA (mV 0)) nfA (gNm 2) (mYes) (m2 oMul (m2 oIx (mV 2) (mC (.int 0))) (m2 oFdiv (mV 1) (m2 oIx (mV 2) (mC (.int 1))))) [2]) (mCons (mV 1) (mNil))))))) F sc_wholes rfl rfl (fun cdv A outer s H E hr => ?_)
  have nd : N_wholes.Nodup := sc_wholes.nd
  have tk : Takes (cxOf (L2.CX P w) P w K mg base N_wholes "wholes" (defScope (top 13)) (He.ga K "wholes") cdv A outer s H E) (fun cls d _ H' => E cls d H') := takes_of rfl rfl rfl rfl
  have po : PassesOwn (model P w) (cxOf (L2.CX P w) P w K mg base N_wholes "wholes" (defScope (top 13)) (He.ga K "wholes") cdv A outer s H E).A (cxOf (L2.CX P w) P w K mg base N_wholes "wholes" (defScope (top 13)) (He.ga K "wholes") cdv A outer s H E).env (cxOf (L2.CX P w) P w K mg base N_wholes "wholes" (defScope (top 13)) (He.ga K "wholes") cdv A outer s H E).xe := passes_of (X := cxOf (L2.CX P w) P w K mg base N_wholes "wholes" (defScope (top 13)) (He.ga K "wholes") cdv A outer s H E) rfl
  exact (es_cons (s_set nd ee_int)
    (es_cons (es_for po rfl (ei_any rfl (ee_var 0 (pv 0))) (eg_name (g_name nd)) (es_one (s_set nd (f_lcm G.bf_lcm (ea_cons (ee_var 1 (pv 1)) (ea_cons (b_ix rfl (ee_var 2 (pv 2)) ee_int) ea_nil))))))
    (es_one (es_ret (ee_tup (ea_cons (ee_lc rfl nd (own := [("own", 2)]) (ei_any rfl (ee_var 0 (pv 0))) (blkOk_by (N := N_wholes) (sc := defScope (top 13)) (by decide +kernel)) (fun _ _ _ _ _ => (ct_name (g_name nd) (by decide))) (fun _ _ _ _ _ => ets_nil) (fun _ _ _ _ _ => (b_mul rfl (b_ix rfl (ee_var 2 (pv 2)) ee_int) (b_fdiv rfl (ee_var 1 (pv 1)) (b_ix rfl (ee_var 2 (pv 2)) ee_int))))) (ea_cons (ee_var 1 (pv 1)) ea_nil)))))))
theorem ok_wholes {P : Program} {w : World} {K : PySem.W.Frag} {mg : Str → Option Value} {base : Heap} (G : Gf K mg) : Kn P w K mg base (pm K) 1 "wholes" 1 M_wholes := by
  obtain ⟨fd, F⟩ := G.d_wholes
  exact ⟨_, fd, _, fo_wholes G   F, G.a_wholes, F.kp, (F.bindsN fun _ _ _ _ _ _ us hl => match us, hl with | [_], _ => rfl)⟩
abbrev N_shared_of : List Str := ["box", "tops", "bottoms"]
theorem sc_shared_of : FnScope N_shared_of ["box"] (defScope (top 51)) := ⟨rfl, rfl, rfl, by decide +kernel, rfl, by decide +kernel, by decide +kernel⟩
noncomputable def M_shared_of : Fn' := fnM [none, none] (sSeq (sAs (mCall 1 M_polys_of (mCons (mV 0) (mNil))) (gEnd (gTL 2 (gCn (gNm 1) (gCn (gNm 2) (gNl)))))) (sRet (mCall 2 M_divisor (mCons (m2 oIx (mCall 1 M_wholes (mCons (mV 1) (mNil))) (mC (.int 0))) (mCons (m2 oIx (mCall 1 M_wholes (mCons (mV 2) (mNil))) (mC (.int 0))) (mNil))))))
theorem fo_shared_of {P : Program} {w : World} {K : PySem.W.Frag} {mg : Str → Option Value} {base : Heap} (G : Gf K mg) (h_polys_of : Kn P w K mg base (pm K) 2 "polys_of" 1 M_polys_of) (h_divisor : Kn P w K mg base (pm K) 3 "divisor" 2 M_divisor) (h_wholes : Kn P w K mg base (pm K) 1 "wholes" 1 M_wholes) {fd : FuncData} (F : FunD K "shared_of" "shared_of" (defArgs (top 51)) (defBody (top 51)) (defScope (top 51)) [] [] (He.ga K "shared_of") fd) : FnOk P w K mg base (L2.CX P w) 4 (He.ga K "shared_of") fd ["box"] (spM (pm K) 1 M_shared_of) := by
  refine fn_ok (k := 3) (N := N_shared_of) (tl := [none, none]) (b := sSeq (sAs (mCall 1 M_polys_of (mCons (mV 0) (mNil))) (gEnd (gTL 2 (gCn (gNm 1) (gCn (gNm 2) (gNl)))))) (sRet (mCall 2 M_divisor (mCons (m2 oIx (mCall 1 M_wholes (mCons (mV 1) (mNil))) (mC (.int 0))) (mCons (m2 oIx (mCall 1 M_wholes (mCons (mV 2) (mNil))) (mC (.int 0))) (mNil)))))) F sc_shared_of rfl rfl (fun cdv A outer s H E hr => ?_)
  have nd : N_shared_of.Nodup := sc_shared_of.nd
  have tk : Takes (cxOf (L2.CX P w) P w K mg base N_shared_of "shared_of" (defScope (top 51)) (He.ga K "shared_of") cdv A outer s H E) (fun cls d _ H' => E cls d H') := takes_of rfl rfl rfl rfl
  have po : PassesOwn (model P w) (cxOf (L2.CX P w) P w K mg base N_shared_of "shared_of" (defScope (top 51)) (He.ga K "shared_of") cdv A outer s H E).A (cxOf (L2.CX P w) P w K mg base N_shared_of "shared_of" (defScope (top 51)) (He.ga K "shared_of") cdv A outer s H E).env (cxOf (L2.CX P w) P w K mg base N_shared_of "shared_of" (defScope (top 51)) (He.ga K "shared_of") cdv A outer s H E).xe := passes_of (X := cxOf (L2.CX P w) P w K mg base N_shared_of "shared_of" (defScope (top 51)) (He.ga K "shared_of") cdv A outer s H E) rfl
  exact (es_cons (es_asg (ee_call h_polys_of hr (by decide) tk (ea_cons (ee_var 0 (pv 0)) ea_nil)) (eg_tl rfl rfl (egs_cons (eg_name (g_name nd)) (egs_cons (eg_name (g_name nd)) egs_nil))))
    (es_one (es_ret (ee_call h_divisor hr (by decide) tk (ea_cons (b_ix rfl (ee_call h_wholes hr (by decide) tk (ea_cons (ee_var 1 (pv 1)) ea_nil)) ee_int) (ea_cons (b_ix rfl (ee_call h_wholes hr (by decide) tk (ea_cons (ee_var 2 (pv 2)) ea_nil)) ee_int) ea_nil))))))
theorem ok_shared_of {P : Program} {w : World} {K : PySem.W.Frag} {mg : Str → Option Value} {base : Heap} (G : Gf K mg) (h_polys_of : Kn P w K mg base (pm K) 2 "polys_of" 1 M_polys_of) (h_divisor : Kn P w K mg base (pm K) 3 "divisor" 2 M_divisor) (h_wholes : Kn P w K mg base (pm K) 1 "wholes" 1 M_wholes) : Kn P w K mg base (pm K) 4 "shared_of" 1 M_shared_of := by
  obtain ⟨fd, F⟩ := G.d_shared_of
  exact ⟨_, fd, _, fo_shared_of G h_polys_of h_divisor h_wholes  F, G.a_shared_of, F.kp, (F.bindsN fun _ _ _ _ _ _ us hl => match us, hl with | [_], _ => rfl)⟩
abbrev N_small_shaped : List Str := ["thing"]
theorem sc_small_shaped : FnScope N_small_shaped ["thing"] (defScope (top 52)) := ⟨rfl, rfl, rfl, by decide +kernel, rfl, by decide +kernel, by decide +kernel⟩
noncomputable def M_small_shaped : Fn' := fnM [] (sRet (mAndV (mCall 1 M_box_shaped (mCons (mV 0) (mNil))) (m2 oEqL (mN oLen (mCons (mCall 1 M_shared_of (mCons (mV 0) (mNil))) (mNil))) (mC (.int 1)))))
theorem fo_small_shaped {P : Program} {w : World} {K : PySem.W.Frag} {mg : Str → Option Value} {base : Heap} (G : Gf K mg) (h_box_shaped : Kn P w K mg base (pm K) 4 "box_shaped" 1 M_box_shaped) (h_shared_of : Kn P w K mg base (pm K) 4 "shared_of" 1 M_shared_of) {fd : FuncData} (F : FunD K "small_shaped" "small_shaped" (defArgs (top 52)) (defBody (top 52)) (defScope (top 52)) [] [] (He.ga K "small_shaped") fd) : FnOk P w K mg base (L2.CX P w) 5 (He.ga K "small_shaped") fd ["thing"] (spM (pm K) 1 M_small_shaped) := by
  refine fn_ok (k := 4) (N := N_small_shaped) (tl := []) (b := sRet (mAndV (mCall 1 M_box_shaped (mCons (mV 0) (mNil))) (m2 oEqL (mN oLen (mCons (mCall 1 M_shared_of (mCons (mV 0) (mNil))) (mNil))) (mC (.int 1))))) F sc_small_shaped rfl rfl (fun cdv A outer s H E hr => ?_)
  have nd : N_small_shaped.Nodup := sc_small_shaped.nd
  have tk : Takes (cxOf (L2.CX P w) P w K mg base N_small_shaped "small_shaped" (defScope (top 52)) (He.ga K "small_shaped") cdv A outer s H E) (fun cls d _ H' => E cls d H') := takes_of rfl rfl rfl rfl
  have po : PassesOwn (model P w) (cxOf (L2.CX P w) P w K mg base N_small_shaped "small_shaped" (defScope (top 52)) (He.ga K "small_shaped") cdv A outer s H E).A (cxOf (L2.CX P w) P w K mg base N_small_shaped "small_shaped" (defScope (top 52)) (He.ga K "small_shaped") cdv A outer s H E).env (cxOf (L2.CX P w) P w K mg base N_small_shaped "small_shaped" (defScope (top 52)) (He.ga K "small_shaped") cdv A outer s H E).xe := passes_of (X := cxOf (L2.CX P w) P w K mg base N_small_shaped "small_shaped" (defScope (top 52)) (He.ga K "small_shaped") cdv A outer s H E) rfl
  exact (es_one (es_ret (ee_and rfl (ee_call h_box_shaped hr (by decide) tk (ea_cons (ee_var 0 (pv 0)) ea_nil)) (ee_one (c_eqL rfl hr.units (f_len rfl G.b_len (ea_cons (ee_call h_shared_of hr (by decide) tk (ea_cons (ee_var 0 (pv 0)) ea_nil)) ea_nil)) ee_int)))))
theorem ok_small_shaped {P : Program} {w : World} {K : PySem.W.Frag} {mg : Str → Option Value} {base : Heap} (G : Gf K mg) (h_box_shaped : Kn P w K mg base (pm K) 4 "box_shaped" 1 M_box_shaped) (h_shared_of : Kn P w K mg base (pm K) 4 "shared_of" 1 M_shared_of) : Kn P w K mg base (pm K) 5 "small_shaped" 1 M_small_shaped := by
  obtain ⟨fd, F⟩ := G.d_small_shaped
  exact ⟨_, fd, _, fo_small_shaped G h_box_shaped h_shared_of  F, G.a_small_shaped, F.kp, (F.bindsN fun _ _ _ _ _ _ us hl => match us, hl with | [_], _ => rfl)⟩
abbrev N_taken : List Str := ["value", "deep", "fits", "copy"]
theorem sc_taken : FnScope N_taken ["value", "deep", "fits"] (defScope (top 23)) := ⟨rfl, rfl, rfl, by decide +kernel, rfl, by decide +kernel, by decide +kernel⟩
noncomputable def tb_taken_1 (k : Nat) : Option Fn' := match k with | 0 => some M_is_row | 1 => some M_small_shaped | _ => none
theorem hT_taken_1 {P : Program} {w : World} {K : PySem.W.Frag} {mg : Str → Option Value} {base : Heap} (G : Gf K mg) {j : Nat} (h_is_row : Kn P w K mg base (pm K) 3 "is_row" 1 M_is_row) (h_small_shaped : Kn P w K mg base (pm K) 5 "small_shaped" 1 M_small_shaped) (hj : 5 ≤ j) : ∀ k F, tb_taken_1 k = some F → Fnd P w K mg base (pm K) j k 1 F := by
  intro k F e
  unfold tb_taken_1 at e
  split at e
  · cases e; exact h_is_row.fnd G.a_is_row (by omega)
  · cases e; exact h_small_shaped.fnd G.a_small_shaped (by omega)
  · cases e
noncomputable def M_taken : Fn' := fnM [none] (sSeq (sSet 3 (mCall 2 M_tupled (mCons (mV 0) (mCons (mV 1) (mNil))))) (sSeq (sIf (mNotB (mTru (mCallV 2 1 tb_taken_1 (mCons (mV 3) (mNil))))) (sRaise 0) (sNil)) (sRet (mV 3))))
theorem fo_taken {P : Program} {w : World} {K : PySem.W.Frag} {mg : Str → Option Value} {base : Heap} (G : Gf K mg) (h_tupled : Kn P w K mg base (pm K) 6 "tupled" 2 M_tupled) (h_is_row : Kn P w K mg base (pm K) 3 "is_row" 1 M_is_row) (h_small_shaped : Kn P w K mg base (pm K) 5 "small_shaped" 1 M_small_shaped) {fd : FuncData} (F : FunD K "taken" "taken" (defArgs (top 23)) (defBody (top 23)) (defScope (top 23)) [] [] (He.ga K "taken") fd) : FnOk P w K mg base (L2.CX P w) 7 (He.ga K "taken") fd ["value", "deep", "fits"] (spM (pm K) 3 M_taken) := by
  refine fn_ok (k := 6) (N := N_taken) (tl := [none]) (b := sSeq (sSet 3 (mCall 2 M_tupled (mCons (mV 0) (mCons (mV 1) (mNil))))) (sSeq (sIf (mNotB (mTru (mCallV 2 1 tb_taken_1 (mCons (mV 3) (mNil))))) (sRaise 0) (sNil)) (sRet (mV 3)))) F sc_taken rfl rfl (fun cdv A outer s H E hr => ?_)
  have nd : N_taken.Nodup := sc_taken.nd
  have tk : Takes (cxOf (L2.CX P w) P w K mg base N_taken "taken" (defScope (top 23)) (He.ga K "taken") cdv A outer s H E) (fun cls d _ H' => E cls d H') := takes_of rfl rfl rfl rfl
  have po : PassesOwn (model P w) (cxOf (L2.CX P w) P w K mg base N_taken "taken" (defScope (top 23)) (He.ga K "taken") cdv A outer s H E).A (cxOf (L2.CX P w) P w K mg base N_taken "taken" (defScope (top 23)) (He.ga K "taken") cdv A outer s H E).env (cxOf (L2.CX P w) P w K mg base N_taken "taken" (defScope (top 23)) (He.ga K "taken") cdv A outer s H E).xe := passes_of (X := cxOf (L2.CX P w) P w K mg base N_taken "taken" (defScope (top 23)) (He.ga K "taken") cdv A outer s H E) rfl
  exact (es_cons (s_set nd (ee_call h_tupled hr (by decide) tk (ea_cons (ee_var 0 (pv 0)) (ea_cons (ee_var 1 (pv 1)) ea_nil))))
    (es_cons (es_if (et_not (et_tru rfl (ee_callV (hT_taken_1 G h_is_row h_small_shaped (by decide)) hr tk (ea_cons (ee_var 3 (pv 3)) ea_nil)))) (es_one (es_raise rfl tk G.x_Unfit)) es_nil)
    (es_one (es_ret (ee_var 3 (pv 3))))))
theorem ok_taken {P : Program} {w : World} {K : PySem.W.Frag} {mg : Str → Option Value} {base : Heap} (G : Gf K mg) (h_tupled : Kn P w K mg base (pm K) 6 "tupled" 2 M_tupled) (h_is_row : Kn P w K mg base (pm K) 3 "is_row" 1 M_is_row) (h_small_shaped : Kn P w K mg base (pm K) 5 "small_shaped" 1 M_small_shaped) : Kn P w K mg base (pm K) 7 "taken" 3 M_taken := by
  obtain ⟨fd, F⟩ := G.d_taken
  exact ⟨_, fd, _, fo_taken G h_tupled h_is_row h_small_shaped  F, G.a_taken, F.kp, (F.bindsN fun _ _ _ _ _ _ us hl => match us, hl with | [_, _, _], _ => rfl)⟩
abbrev N_taken_small : List Str := ["value"]
theorem sc_taken_small : FnScope N_taken_small ["value"] (defScope (top 54)) := ⟨rfl, rfl, rfl, by decide +kernel, rfl, by decide +kernel, by decide +kernel⟩
noncomputable def M_taken_small : Fn' := fnM [] (sRet (mCall 3 M_taken (mCons (mV 0) (mCons (mC (.int 3)) (mCons (mC (.fn 1)) (mNil))))))
theorem fo_taken_small {P : Program} {w : World} {K : PySem.W.Frag} {mg : Str → Option Value} {base : Heap} (G : Gf K mg) (h_taken : Kn P w K mg base (pm K) 7 "taken" 3 M_taken) (h_small_shaped : Kn P w K mg base (pm K) 5 "small_shaped" 1 M_small_shaped) {fd : FuncData} (F : FunD K "taken_small" "taken_small" (defArgs (top 54)) (defBody (top 54)) (defScope (top 54)) [] [] (He.ga K "taken_small") fd) : FnOk P w K mg base (L2.CX P w) 8 (He.ga K "taken_small") fd ["value"] (spM (pm K) 1 M_taken_small) := by
  refine fn_ok (k := 7) (N := N_taken_small) (tl := []) (b := sRet (mCall 3 M_taken (mCons (mV 0) (mCons (mC (.int 3)) (mCons (mC (.fn 1)) (mNil)))))) F sc_taken_small rfl rfl (fun cdv A outer s H E hr => ?_)
  have nd : N_taken_small.Nodup := sc_taken_small.nd
  have tk : Takes (cxOf (L2.CX P w) P w K mg base N_taken_small "taken_small" (defScope (top 54)) (He.ga K "taken_small") cdv A outer s H E) (fun cls d _ H' => E cls d H') := takes_of rfl rfl rfl rfl
  have po : PassesOwn (model P w) (cxOf (L2.CX P w) P w K mg base N_taken_small "taken_small" (defScope (top 54)) (He.ga K "taken_small") cdv A outer s H E).A (cxOf (L2.CX P w) P w K mg base N_taken_small "taken_small" (defScope (top 54)) (He.ga K "taken_small") cdv A outer s H E).env (cxOf (L2.CX P w) P w K mg base N_taken_small "taken_small" (defScope (top 54)) (He.ga K "taken_small") cdv A outer s H E).xe := passes_of (X := cxOf (L2.CX P w) P w K mg base N_taken_small "taken_small" (defScope (top 54)) (He.ga K "taken_small") cdv A outer s H E) rfl
  exact (es_one (es_ret (ee_call h_taken hr (by decide) tk (ea_cons (ee_var 0 (pv 0)) (ea_cons ee_int (ea_cons (ee_fnv (i := 1) G.a_small_shaped) ea_nil))))))
theorem ok_taken_small {P : Program} {w : World} {K : PySem.W.Frag} {mg : Str → Option Value} {base : Heap} (G : Gf K mg) (h_taken : Kn P w K mg base (pm K) 7 "taken" 3 M_taken) (h_small_shaped : Kn P w K mg base (pm K) 5 "small_shaped" 1 M_small_shaped) : Kn P w K mg base (pm K) 8 "taken_small" 1 M_taken_small := by
  obtain ⟨fd, F⟩ := G.d_taken_small
  exact ⟨_, fd, _, fo_taken_small G h_taken h_small_shaped  F, G.a_taken_small, F.kp, (F.bindsN fun _ _ _ _ _ _ us hl => match us, hl with | [_], _ => rfl)⟩
abbrev N_reduced : List Str := ["top", "bottom", "shared"]
theorem sc_reduced : FnScope N_reduced ["top", "bottom"] (defScope (top 9)) := ⟨rfl, rfl, rfl, by decide +kernel, rfl, by decide +kernel, by decide +kernel⟩
noncomputable def M_reduced : Fn' := fnM [none] (sSeq (sSet 2 (mN oGcd (mCons (mV 0) (mCons (mV 1) (mNil))))) (sSeq (sIf (m2 oLt (mV 1) (mC (.int 0))) (sSet 2 (m1 oNeg (mV 2))) (sNil)) (sRet (mN oTup (mCons (m2 oFdiv (mV 0) (mV 2)) (mCons (m2 oFdiv (mV 1) (mV 2)) (mNil)))))))
theorem fo_reduced {P : Program} {w : World} {K : PySem.W.Frag} {mg : Str → Option Value} {base : Heap} (G : Gf K mg) {fd : FuncData} (F : FunD K "reduced" "reduced" (defArgs (top 9)) (defBody (top 9)) (defScope (top 9)) [] [] (He.ga K "reduced") fd) : FnOk P w K mg base (L2.CX P w) 1 (He.ga K "reduced") fd ["top", "bottom"] (spM (pm K) 2 M_reduced) := by
  refine fn_ok (k := 0) (N := N_reduced) (tl := [none]) (b := sSeq (sSet 2 (mN oGcd (mCons (mV 0) (mCons (mV 1) (mNil))))) (sSeq (sIf (m2 oLt (mV 1) (mC (.int 0))) (sSet 2 (m1 oNeg (mV 2))) (sNil)) (sRet (mN oTup (mCons (m2 oFdiv (mV 0) (mV 2)) (mCons (m2 oFdiv (mV 1) (mV 2)) (mNil))))))) F sc_reduced rfl rfl (fun cdv A outer s H E hr => ?_)
  have nd : N_reduced.Nodup := sc_reduced.nd
  have tk : Takes (cxOf (L2.CX P w) P w K mg base N_reduced "reduced" (defScope (top 9)) (He.ga K "reduced") cdv A outer s H E) (fun cls d _ H' => E cls d H') := takes_of rfl rfl rfl rfl
  have po : PassesOwn (model P w) (cxOf (L2.CX P w) P w K mg base N_reduced "reduced" (defScope (top 9)) (He.ga K "reduced") cdv A outer s H E).A (cxOf (L2.CX P w) P w K mg base N_reduced "reduced" (defScope (top 9)) (He.ga K "reduced") cdv A outer s H E).env (cxOf (L2.CX P w) P w K mg base N_reduced "reduced" (defScope (top 9)) (He.ga K "reduced") cdv A outer s H E).xe := passes_of (X := cxOf (L2.CX P w) P w K mg base N_reduced "reduced" (defScope (top 9)) (He.ga K "reduced") cdv A outer s H E) rfl
  exact (es_cons (s_set nd (f_gcd G.bf_gcd (ea_cons (ee_var 0 (pv 0)) (ea_cons (ee_var 1 (pv 1)) ea_nil))))
    (es_cons (es_if (t_lt rfl (ee_var 1 (pv 1)) ee_int) (es_one (s_set nd (b_neg (ee_var 2 (pv 2))))) es_nil)
    (es_one (es_ret (ee_tup (ea_cons (b_fdiv rfl (ee_var 0 (pv 0)) (ee_var 2 (pv 2))) (ea_cons (b_fdiv rfl (ee_var 1 (pv 1)) (ee_var 2 (pv 2))) ea_nil)))))))
theorem ok_reduced {P : Program} {w : World} {K : PySem.W.Frag} {mg : Str → Option Value} {base : Heap} (G : Gf K mg) : Kn P w K mg base (pm K) 1 "reduced" 2 M_reduced := by
  obtain ⟨fd, F⟩ := G.d_reduced
  exact ⟨_, fd, _, fo_reduced G   F, G.a_reduced, F.kp, (F.bindsN fun _ _ _ _ _ _ us hl => match us, hl with | [_, _], _ => rfl)⟩
abbrev N_dot : List Str := ["row", "other", "tops", "bottom", "others", "other_bottom", "a", "b"]
theorem sc_dot : FnScope N_dot ["row", "other"] (defScope (top 15)) := ⟨rfl, rfl, rfl, by decide +kernel, rfl, by decide +kernel, by decide +kernel⟩
noncomputable def M_dot : Fn' := fnM [none, none, none, none, none, none] (sSeq (sAs (mCall 1 M_wholes (mCons (mV 0) (mNil))) (gEnd (gTL 2 (gCn (gNm 2) (gCn (gNm 3) (gNl)))))) (sSeq (sAs (mCall 1 M_wholes (mCons (mV 1) (mNil))) (gEnd (gTL 2 (gCn (gNm 4) (gCn (gNm 5) (gNl)))))) (sRet (mCall 2 M_reduced (mCons (mN oSumX (mCons (mLc (zipW (mCons (mV 2) (mCons (mV 4) (mNil)))) nfW (gPr 6 7) (mYes) (m2 oMul (mV 6) (mV 7)) [6, 7]) (mNil))) (mCons (m2 oMul (mV 3) (mV 5)) (mNil)))))))
theorem fo_dot {P : Program} {w : World} {K : PySem.W.Frag} {mg : Str → Option Value} {base : Heap} (G : Gf K mg) (h_wholes : Kn P w K mg base (pm K) 1 "wholes" 1 M_wholes) (h_reduced : Kn P w K mg base (pm K) 1 "reduced" 2 M_reduced) {fd : FuncData} (F : FunD K "dot" "dot" (defArgs (top 15)) (defBody (top 15)) (defScope (top 15)) [] [] (He.ga K "dot") fd) : FnOk P w K mg base (L2.CX P w) 2 (He.ga K "dot") fd ["row", "other"] (spM (pm K) 2 M_dot) := by
  refine fn_ok (k := 1) (N := N_dot) (tl := [none, none, none, none, none, none]) (b := sSeq (sAs (mCall 1 M_wholes (mCons (mV 0) (mNil))) (gEnd (gTL 2 (gCn (gNm 2) (gCn (gNm 3) (gNl)))))) (sSeq (sAs (mCall 1 M_wholes (mCons (mV 1) (mNil))) (gEnd (gTL 2 (gCn (gNm 4) (gCn (gNm 5) (gNl)))))) (sRet (mCall 2 M_reduced (mCons (mN oSumX (mCons (mLc (zipW (mCons (mV 2) (mCons (mV 4) (mNil)))) nfW (gPr 6 7) (mYes) (m2 oMul (mV 6) (mV 7)) [6, 7]) (mNil))) (mCons (m2 oMul (mV 3) (mV 5)) (mNil))))))) F sc_dot rfl rfl (fun cdv A outer s H E hr => ?_)
  have nd : N_dot.Nodup := sc_dot.nd
  have tk : Takes (cxOf (L2.CX P w) P w K mg base N_dot "dot" (defScope (top 15)) (He.ga K "dot") cdv A outer s H E) (fun cls d _ H' => E cls d H') := takes_of rfl rfl rfl rfl
  have po : PassesOwn (model P w) (cxOf (L2.CX P w) P w K mg base N_dot "dot" (defScope (top 15)) (He.ga K "dot") cdv A outer s H E).A (cxOf (L2.CX P w) P w K mg base N_dot "dot" (defScope (top 15)) (He.ga K "dot") cdv A outer s H E).env (cxOf (L2.CX P w) P w K mg base N_dot "dot" (defScope (top 15)) (He.ga K "dot") cdv A outer s H E).xe := passes_of (X := cxOf (L2.CX P w) P w K mg base N_dot "dot" (defScope (top 15)) (He.ga K "dot") cdv A outer s H E) rfl
  exact (es_cons (es_asg (ee_call h_wholes hr (by decide) tk (ea_cons (ee_var 0 (pv 0)) ea_nil)) (eg_tl rfl rfl (egs_cons (eg_name (g_name nd)) (egs_cons (eg_name (g_name nd)) egs_nil))))
    (es_cons (es_asg (ee_call h_wholes hr (by decide) tk (ea_cons (ee_var 1 (pv 1)) ea_nil)) (eg_tl rfl rfl (egs_cons (eg_name (g_name nd)) (egs_cons (eg_name (g_name nd)) egs_nil))))
    (es_one (es_ret (ee_call h_reduced hr (by decide) tk (ea_cons (f_sumX rfl rfl G.b_sum (ea_cons (ee_lc rfl nd (own := [("a", 6), ("b", 7)]) (ei_zipW rfl G.b_zip (ea_cons (ee_var 2 (pv 2)) (ea_cons (ee_var 4 (pv 4)) ea_nil))) (blkOk_by (N := N_dot) (sc := defScope (top 15)) (by decide +kernel)) (fun _ _ _ _ _ => (ct_pair rfl rfl (g_name nd) (g_name nd) (by decide) (by decide))) (fun _ _ _ _ _ => ets_nil) (fun _ _ _ _ _ => (b_mul rfl (ee_var 6 (pv 6)) (ee_var 7 (pv 7))))) ea_nil)) (ea_cons (b_mul rfl (ee_var 3 (pv 3)) (ee_var 5 (pv 5))) ea_nil)))))))
theorem ok_dot {P : Program} {w : World} {K : PySem.W.Frag} {mg : Str → Option Value} {base : Heap} (G : Gf K mg) (h_wholes : Kn P w K mg base (pm K) 1 "wholes" 1 M_wholes) (h_reduced : Kn P w K mg base (pm K) 1 "reduced" 2 M_reduced) : Kn P w K mg base (pm K) 2 "dot" 2 M_dot := by
  obtain ⟨fd, F⟩ := G.d_dot
  exact ⟨_, fd, _, fo_dot G h_wholes h_reduced  F, G.a_dot, F.kp, (F.bindsN fun _ _ _ _ _ _ us hl => match us, hl with | [_, _], _ => rfl)⟩
abbrev N_taken_row : List Str := ["value"]
theorem sc_taken_row : FnScope N_taken_row ["value"] (defScope (top 25)) := ⟨rfl, rfl, rfl, by decide +kernel, rfl, by decide +kernel, by decide +kernel⟩
noncomputable def M_taken_row : Fn' := fnM [] (sRet (mCall 3 M_taken (mCons (mV 0) (mCons (mC (.int 2)) (mCons (mC (.fn 0)) (mNil))))))
theorem fo_taken_row {P : Program} {w : World} {K : PySem.W.Frag} {mg : Str → Option Value} {base : Heap} (G : Gf K mg) (h_taken : Kn P w K mg base (pm K) 7 "taken" 3 M_taken) (h_is_row : Kn P w K mg base (pm K) 3 "is_row" 1 M_is_row) {fd : FuncData} (F : FunD K "taken_row" "taken_row" (defArgs (top 25)) (defBody (top 25)) (defScope (top 25)) [] [] (He.ga K "taken_row") fd) : FnOk P w K mg base (L2.CX P w) 8 (He.ga K "taken_row") fd ["value"] (spM (pm K) 1 M_taken_row) := by
  refine fn_ok (k := 7) (N := N_taken_row) (tl := []) (b := sRet (mCall 3 M_taken (mCons (mV 0) (mCons (mC (.int 2)) (mCons (mC (.fn 0)) (mNil)))))) F sc_taken_row rfl rfl (fun cdv A outer s H E hr => ?_)
  have nd : N_taken_row.Nodup := sc_taken_row.nd
  have tk : Takes (cxOf (L2.CX P w) P w K mg base N_taken_row "taken_row" (defScope (top 25)) (He.ga K "taken_row") cdv A outer s H E) (fun cls d _ H' => E cls d H') := takes_of rfl rfl rfl rfl
  have po : PassesOwn (model P w) (cxOf (L2.CX P w) P w K mg base N_taken_row "taken_row" (defScope (top 25)) (He.ga K "taken_row") cdv A outer s H E).A (cxOf (L2.CX P w) P w K mg base N_taken_row "taken_row" (defScope (top 25)) (He.ga K "taken_row") cdv A outer s H E).env (cxOf (L2.CX P w) P w K mg base N_taken_row "taken_row" (defScope (top 25)) (He.ga K "taken_row") cdv A outer s H E).xe := passes_of (X := cxOf (L2.CX P w) P w K mg base N_taken_row "taken_row" (defScope (top 25)) (He.ga K "taken_row") cdv A outer s H E) rfl
  exact (es_one (es_ret (ee_call h_taken hr (by decide) tk (ea_cons (ee_var 0 (pv 0)) (ea_cons ee_int (ea_cons (ee_fnv (i := 0) G.a_is_row) ea_nil))))))
theorem ok_taken_row {P : Program} {w : World} {K : PySem.W.Frag} {mg : Str → Option Value} {base : Heap} (G : Gf K mg) (h_taken : Kn P w K mg base (pm K) 7 "taken" 3 M_taken) (h_is_row : Kn P w K mg base (pm K) 3 "is_row" 1 M_is_row) : Kn P w K mg base (pm K) 8 "taken_row" 1 M_taken_row := by
  obtain ⟨fd, F⟩ := G.d_taken_row
  exact ⟨_, fd, _, fo_taken_row G h_taken h_is_row  F, G.a_taken_row, F.kp, (F.bindsN fun _ _ _ _ _ _ us hl => match us, hl with | [_], _ => rfl)⟩
abbrev N_taken_row_of : List Str := ["value", "many", "kept"]
theorem sc_taken_row_of : FnScope N_taken_row_of ["value", "many"] (defScope (top 26)) := ⟨rfl, rfl, rfl, by decide +kernel, rfl, by decide +kernel, by decide +kernel⟩
noncomputable def M_taken_row_of : Fn' := fnM [none] (sSeq (sSet 2 (mCall 1 M_taken_row (mCons (mV 0) (mNil)))) (sSeq (sIf (m2 oNeL (mN oLen (mCons (mV 2) (mNil))) (mV 1)) (sRaise 0) (sNil)) (sRet (mV 2))))
theorem fo_taken_row_of {P : Program} {w : World} {K : PySem.W.Frag} {mg : Str → Option Value} {base : Heap} (G : Gf K mg) (h_taken_row : Kn P w K mg base (pm K) 8 "taken_row" 1 M_taken_row) {fd : FuncData} (F : FunD K "taken_row_of" "taken_row_of" (defArgs (top 26)) (defBody (top 26)) (defScope (top 26)) [] [] (He.ga K "taken_row_of") fd) : FnOk P w K mg base (L2.CX P w) 9 (He.ga K "taken_row_of") fd ["value", "many"] (spM (pm K) 2 M_taken_row_of) := by
  refine fn_ok (k := 8) (N := N_taken_row_of) (tl := [none]) (b := sSeq (sSet 2 (mCall 1 M_taken_row (mCons (mV 0) (mNil)))) (sSeq (sIf (m2 oNeL (mN oLen (mCons (mV 2) (mNil))) (mV 1)) (sRaise 0) (sNil)) (sRet (mV 2)))) F sc_taken_row_of rfl rfl (fun cdv A outer s H E hr => ?_)
  have nd : N_taken_row_of.Nodup := sc_taken_row_of.nd
  have tk : Takes (cxOf (L2.CX P w) P w K mg base N_taken_row_of "taken_row_of" (defScope (top 26)) (He.ga K "taken_row_of") cdv A outer s H E) (fun cls d _ H' => E cls d H') := takes_of rfl rfl rfl rfl
  have po : PassesOwn (model P w) (cxOf (L2.CX P w) P w K mg base N_taken_row_of "taken_row_of" (defScope (top 26)) (He.ga K "taken_row_of") cdv A outer s H E).A (cxOf (L2.CX P w) P w K mg base N_taken_row_of "taken_row_of" (defScope (top 26)) (He.ga K "taken_row_of") cdv A outer s H E).env (cxOf (L2.CX P w) P w K mg base N_taken_row_of "taken_row_of" (defScope (top 26)) (He.ga K "taken_row_of") cdv A outer s H E).xe := passes_of (X := cxOf (L2.CX P w) P w K mg base N_taken_row_of "taken_row_of" (defScope (top 26)) (He.ga K "taken_row_of") cdv A outer s H E) rfl
  exact (es_cons (s_set nd (ee_call h_taken_row hr (by decide) tk (ea_cons (ee_var 0 (pv 0)) ea_nil)))
    (es_cons (es_if (t_neL rfl hr.units (f_len rfl G.b_len (ea_cons (ee_var 2 (pv 2)) ea_nil)) (ee_var 1 (pv 1))) (es_one (es_raise rfl tk G.x_Unfit)) es_nil)
    (es_one (es_ret (ee_var 2 (pv 2))))))
theorem ok_taken_row_of {P : Program} {w : World} {K : PySem.W.Frag} {mg : Str → Option Value} {base : Heap} (G : Gf K mg) (h_taken_row : Kn P w K mg base (pm K) 8 "taken_row" 1 M_taken_row) : Kn P w K mg base (pm K) 9 "taken_row_of" 2 M_taken_row_of := by
  obtain ⟨fd, F⟩ := G.d_taken_row_of
  exact ⟨_, fd, _, fo_taken_row_of G h_taken_row  F, G.a_taken_row_of, F.kp, (F.bindsN fun _ _ _ _ _ _ us hl => match us, hl with | [_, _], _ => rfl)⟩
abbrev N_cells_of : List Str := ["box"]
theorem sc_cells_of : FnScope N_cells_of ["box"] (defScope (top 53)) := ⟨rfl, rfl, rfl, by decide +kernel, rfl, by decide +kernel, by decide +kernel⟩
noncomputable def M_cells_of : Fn' := fnM [] (sRet (m2 oSub (mN oLen (mCons (m2 oIx (mV 0) (mC (.int 1))) (mNil))) (mC (.int 1))))
theorem fo_cells_of {P : Program} {w : World} {K : PySem.W.Frag} {mg : Str → Option Value} {base : Heap} (G : Gf K mg) {fd : FuncData} (F : FunD K "cells_of" "cells_of" (defArgs (top 53)) (defBody (top 53)) (defScope (top 53)) [] [] (He.ga K "cells_of") fd) : FnOk P w K mg base (L2.CX P w) 1 (He.ga K "cells_of") fd ["box"] (spM (pm K) 1 M_cells_of) := by
  refine fn_ok (k := 0) (N := N_cells_of) (tl := []) (b := sRet (m2 oSub (mN oLen (mCons (m2 oIx (mV 0) (mC (.int 1))) (mNil))) (mC (.int 1)))) F sc_cells_of rfl rfl (fun cdv A outer s H E hr => ?_)
  have nd : N_cells_of.Nodup := sc_cells_of.nd
  have tk : Takes (cxOf (L2.CX P w) P w K mg base N_cells_of "cells_of" (defScope (top 53)) (He.ga K "cells_of") cdv A outer s H E) (fun cls d _ H' => E cls d H') := takes_of rfl rfl rfl rfl
  have po : PassesOwn (model P w) (cxOf (L2.CX P w) P w K mg base N_cells_of "cells_of" (defScope (top 53)) (He.ga K "cells_of") cdv A outer s H E).A (cxOf (L2.CX P w) P w K mg base N_cells_of "cells_of" (defScope (top 53)) (He.ga K "cells_of") cdv A outer s H E).env (cxOf (L2.CX P w) P w K mg base N_cells_of "cells_of" (defScope (top 53)) (He.ga K "cells_of") cdv A outer s H E).xe := passes_of (X := cxOf (L2.CX P w) P w K mg base N_cells_of "cells_of" (defScope (top 53)) (He.ga K "cells_of") cdv A outer s H E) rfl
  exact (es_one (es_ret (b_sub rfl (f_len rfl G.b_len (ea_cons (b_ix rfl (ee_var 0 (pv 0)) ee_int) ea_nil)) ee_int)))
theorem ok_cells_of {P : Program} {w : World} {K : PySem.W.Frag} {mg : Str → Option Value} {base : Heap} (G : Gf K mg) : Kn P w K mg base (pm K) 1 "cells_of" 1 M_cells_of := by
  obtain ⟨fd, F⟩ := G.d_cells_of
  exact ⟨_, fd, _, fo_cells_of G   F, G.a_cells_of, F.kp, (F.bindsN fun _ _ _ _ _ _ us hl => match us, hl with | [_], _ => rfl)⟩
abbrev N_taken_cells : List Str := ["value", "box"]
theorem sc_taken_cells : FnScope N_taken_cells ["value", "box"] (defScope (top 55)) := ⟨rfl, rfl, rfl, by decide +kernel, rfl, by decide +kernel, by decide +kernel⟩
noncomputable def M_taken_cells : Fn' := fnM [] (sRet (mCall 2 M_taken_row_of (mCons (mV 0) (mCons (mCall 1 M_cells_of (mCons (mV 1) (mNil))) (mNil)))))
theorem fo_taken_cells {P : Program} {w : World} {K : PySem.W.Frag} {mg : Str → Option Value} {base : Heap} (G : Gf K mg) (h_taken_row_of : Kn P w K mg base (pm K) 9 "taken_row_of" 2 M_taken_row_of) (h_cells_of : Kn P w K mg base (pm K) 1 "cells_of" 1 M_cells_of) {fd : FuncData} (F : FunD K "taken_cells" "taken_cells" (defArgs (top 55)) (defBody (top 55)) (defScope (top 55)) [] [] (He.ga K "taken_cells") fd) : FnOk P w K mg base (L2.CX P w) 10 (He.ga K "taken_cells") fd ["value", "box"] (spM (pm K) 2 M_taken_cells) := by
  refine fn_ok (k := 9) (N := N_taken_cells) (tl := []) (b := sRet (mCall 2 M_taken_row_of (mCons (mV 0) (mCons (mCall 1 M_cells_of (mCons (mV 1) (mNil))) (mNil))))) F sc_taken_cells rfl rfl (fun cdv A outer s H E hr => ?_)
  have nd : N_taken_cells.Nodup := sc_taken_cells.nd
  have tk : Takes (cxOf (L2.CX P w) P w K mg base N_taken_cells "taken_cells" (defScope (top 55)) (He.ga K "taken_cells") cdv A outer s H E) (fun cls d _ H' => E cls d H') := takes_of rfl rfl rfl rfl
  have po : PassesOwn (model P w) (cxOf (L2.CX P w) P w K mg base N_taken_cells "taken_cells" (defScope (top 55)) (He.ga K "taken_cells") cdv A outer s H E).A (cxOf (L2.CX P w) P w K mg base N_taken_cells "taken_cells" (defScope (top 55)) (He.ga K "taken_cells") cdv A outer s H E).env (cxOf (L2.CX P w) P w K mg base N_taken_cells "taken_cells" (defScope (top 55)) (He.ga K "taken_cells") cdv A outer s H E).xe := passes_of (X := cxOf (L2.CX P w) P w K mg base N_taken_cells "taken_cells" (defScope (top 55)) (He.ga K "taken_cells") cdv A outer s H E) rfl
  exact (es_one (es_ret (ee_call h_taken_row_of hr (by decide) tk (ea_cons (ee_var 0 (pv 0)) (ea_cons (ee_call h_cells_of hr (by decide) tk (ea_cons (ee_var 1 (pv 1)) ea_nil)) ea_nil)))))
theorem ok_taken_cells {P : Program} {w : World} {K : PySem.W.Frag} {mg : Str → Option Value} {base : Heap} (G : Gf K mg) (h_taken_row_of : Kn P w K mg base (pm K) 9 "taken_row_of" 2 M_taken_row_of) (h_cells_of : Kn P w K mg base (pm K) 1 "cells_of" 1 M_cells_of) : Kn P w K mg base (pm K) 10 "taken_cells" 2 M_taken_cells := by
  obtain ⟨fd, F⟩ := G.d_taken_cells
  exact ⟨_, fd, _, fo_taken_cells G h_taken_row_of h_cells_of  F, G.a_taken_cells, F.kp, (F.bindsN fun _ _ _ _ _ _ us hl => match us, hl with | [_, _], _ => rfl)⟩
abbrev N_fractions : List Str := ["numbers", "bottom", "own"]
theorem sc_fractions : FnScope N_fractions ["numbers", "bottom"] (defScope (top 14)) := ⟨rfl, rfl, rfl, by decide +kernel, rfl, by decide +kernel, by decide +kernel⟩
noncomputable def M_fractions : Fn' := fnM [none] (sRet (mN oTuple (mCons (mLc (onlyA (mV 0)) nfA (gNm 2) (mYes) (mCall 2 M_reduced (mCons (mV 2) (mCons (mV 1) (mNil)))) [2]) (mNil))))
theorem fo_fractions {P : Program} {w : World} {K : PySem.W.Frag} {mg : Str → Option Value} {base : Heap} (G : Gf K mg) (h_reduced : Kn P w K mg base (pm K) 1 "reduced" 2 M_reduced) {fd : FuncData} (F : FunD K "fractions" "fractions" (defArgs (top 14)) (defBody (top 14)) (defScope (top 14)) [] [] (He.ga K "fractions") fd) : FnOk P w K mg base (L2.CX P w) 2 (He.ga K "fractions") fd ["numbers", "bottom"] (spM (pm K) 2 M_fractions) := by
  refine fn_ok (k := 1) (N := N_fractions) (tl := [none]) (b := sRet (mN oTuple (mCons (mLc (onlyA (mV 0)) nfA (gNm 2) (mYes) (mCall 2 M_reduced (mCons (mV 2) (mCons (mV 1) (mNil)))) [2]) (mNil)))) F sc_fractions rfl rfl (fun cdv A outer s H E hr => ?_)
  have nd : N_fractions.Nodup := sc_fractions.nd
  have tk : Takes (cxOf (L2.CX P w) P w K mg base N_fractions "fractions" (defScope (top 14)) (He.ga K "fractions") cdv A outer s H E) (fun cls d _ H' => E cls d H') := takes_of rfl rfl rfl rfl
  have po : PassesOwn (model P w) (cxOf (L2.CX P w) P w K mg base N_fractions "fractions" (defScope (top 14)) (He.ga K "fractions") cdv A outer s H E).A (cxOf (L2.CX P w) P w K mg base N_fractions "fractions" (defScope (top 14)) (He.ga K "fractions") cdv A outer s H E).env (cxOf (L2.CX P w) P w K mg base N_fractions "fractions" (defScope (top 14)) (He.ga K "fractions") cdv A outer s H E).xe := passes_of (X := cxOf (L2.CX P w) P w K mg base N_fractions "fractions" (defScope (top 14)) (He.ga K "fractions") cdv A outer s H E) rfl
  exact (es_one (es_ret (f_tuple rfl G.b_tuple (ea_cons (ee_lc rfl nd (own := [("own", 2)]) (ei_any rfl (ee_var 0 (pv 0))) (blkOk_by (N := N_fractions) (sc := defScope (top 14)) (by decide +kernel)) (fun _ _ _ _ _ => (ct_name (g_name nd) (by decide))) (fun _ _ _ _ _ => ets_nil) (fun _ _ _ _ _ => (ee_call h_reduced hr (by decide) takes_blk (ea_cons (ee_var 2 (pv 2)) (ea_cons (ee_var 1 (pv 1)) ea_nil))))) ea_nil))))
theorem ok_fractions {P : Program} {w : World} {K : PySem.W.Frag} {mg : Str → Option Value} {base : Heap} (G : Gf K mg) (h_reduced : Kn P w K mg base (pm K) 1 "reduced" 2 M_reduced) : Kn P w K mg base (pm K) 2 "fractions" 2 M_fractions := by
  obtain ⟨fd, F⟩ := G.d_fractions
  exact ⟨_, fd, _, fo_fractions G h_reduced  F, G.a_fractions, F.kp, (F.bindsN fun _ _ _ _ _ _ us hl => match us, hl with | [_, _], _ => rfl)⟩
abbrev N_rolled : List Str := ["machine", "cells", "outers", "wide", "rows", "grown", "out", "push", "told", "makes", "numbers", "scale", "state", "unit", "now", "pushes", "seen", "made", "k", "row", "own", "a", "b"]
theorem sc_rolled : FnScope N_rolled ["machine", "cells", "outers"] (defScope (top 47)) := ⟨rfl, rfl, rfl, by decide +kernel, rfl, by decide +kernel, by decide +kernel⟩
noncomputable def M_rolled : Fn' := fnM [none, none, none, none, none, none, none, none, none, none, none, none, none, none, none, none, none, none, none, none] (sSeq (sAs (mV 0) (gEnd (gTL 2 (gCn (gNm 8) (gCn (gNm 9) (gNl)))))) (sSeq (sSet 3 (m2 oAdd (mN oLen (mCons (mV 1) (mNil))) (mC (.int 1)))) (sSeq (sAs (mCall 1 M_wholes (mCons (mN oTuple (mCons (mLc2 (onlyA (m2 oAdd (mV 8) (mV 9))) nfA (gNm 19) (mYes) (onlyA (mV 19)) nfA (gNm 20) (mYes) (mV 20) [19, 20] [20]) (mNil))) (mNil))) (gEnd (gTL 2 (gCn (gNm 10) (gCn (gNm 11) (gNl)))))) (sSeq (sSet 4 (mLc (rng1 (mCons (m2 oAdd (mN oLen (mCons (mV 8) (mNil))) (mN oLen (mCons (mV 9) (mNil)))) (mNil))) nfR (gNm 18) (mYes) (mSl (mV 10) (mPart (m2 oMul (mV 18) (mV 3))) (mPart (m2 oMul (m2 oAdd (mV 18) (mC (.int 1))) (mV 3)))) [18])) (sSeq (sAs (mCall 1 M_wholes (mCons (m2 oAdd (mV 1) (mV 2)) (mNil))) (gEnd (gTL 2 (gCn (gNm 12) (gCn (gNm 13) (gNl)))))) (sSeq (sPar 14 15 (mCons (mSl (mV 12) (mC .non) (mPart (mN oLen (mCons (mV 1) (mNil))))) (mCons (mSl (mV 12) (mPart (mN oLen (mCons (mV 1) (mNil)))) (mC .non)) (mNil)))) (sSeq (sSet 5 (mC (.int 1))) (sSeq (sSet 6 (mN oLst (mNil))) (sSeq (sFor (onlyA (mV 15)) nfA (gNm 7) (sSeq (sSet 16 (m2 oAdd (mN oLst (mCons (m2 oMul (mV 7) (mV 5)) (mNil))) (mV 14))) (sSeq (sSet 17 (mLc (onlyA (mV 4)) nfA (gNm 19) (mYes) (mN oSumX (mCons (mLc (zipW (mCons (mV 19) (mCons (mV 16) (mNil)))) nfW (gPr 21 22) (m2 oNeL (mV 21) (mC (.int 0))) (m2 oMul (mV 21) (mV 22)) [21, 22]) (mNil))) [19])) (sSeq (sAug 5 oMulI (mV 11)) (sSeq (sEx (mMethL (mV 6) (mCons (mCall 2 M_fractions (mCons (mSl (mV 17) (mC .non) (mPart (mN oLen (mCons (mV 8) (mNil))))) (mCons (m2 oMul (mV 13) (mV 5)) (mNil)))) (mNil)) oApp)) (sSet 14 (mSl (mV 17) (mPart (mN oLen (mCons (mV 8) (mNil)))) (mC .non)))))))) (sRet (mN oTup (mCons (mV 6) (mCons (mCall 2 M_fractions (mCons (mV 14) (mCons (m2 oMul (mV 13) (mV 5)) (mNil)))) (mNil))))))))))))))
theorem fo_rolled {P : Program} {w : World} {K : PySem.W.Frag} {mg : Str → Option Value} {base : Heap} (G : Gf K mg) (h_wholes : Kn P w K mg base (pm K) 1 "wholes" 1 M_wholes) (h_fractions : Kn P w K mg base (pm K) 2 "fractions" 2 M_fractions) {fd : FuncData} (F : FunD K "rolled" "rolled" (defArgs (top 47)) (defBody (top 47)) (defScope (top 47)) [] [] (He.ga K "rolled") fd) : FnOk P w K mg base (L2.CX P w) 3 (He.ga K "rolled") fd ["machine", "cells", "outers"] (spM (pm K) 3 M_rolled) := by
  refine fn_ok (k := 2) (N := N_rolled) (tl := [none, none, none, none, none, none, none, none, none, none, none, none, none, none, none, none, none, none, none, none]) (b := sSeq (sAs (mV 0) (gEnd (gTL 2 (gCn (gNm 8) (gCn (gNm 9) (gNl)))))) (sSeq (sSet 3 (m2 oAdd (mN oLen (mCons (mV 1) (mNil))) (mC (.int 1)))) (sSeq (sAs (mCall 1 M_wholes (mCons (mN oTuple (mCons (mLc2 (onlyA (m2 oAdd (mV 8) (mV 9))) nfA (gNm 19) (mYes) (onlyA (mV 19)) nfA (gNm 20) (mYes) (mV 20) [19, 20] [20]) (mNil))) (mNil))) (gEnd (gTL 2 (gCn (gNm 10) (gCn (gNm 11) (gNl)))))) (sSeq (sSet 4 (mLc (rng1 (mCons (m2 oAdd (mN oLen (mCons (mV 8) (mNil))) (mN oLen (mCons (mV 9) (mNil)))) (mNil))) nfR (gNm 18) (mYes) (mSl (mV 10) (mPart (m2 oMul (mV 18) (mV 3))) (mPart (m2 oMul (m2 oAdd (mV 18) (mC (.int 1))) (mV 3)))) [18])) (sSeq (sAs (mCall 1 M_wholes (mCons (m2 oAdd (mV 1) (mV 2)) (mNil))) (gEnd (gTL 2 (gCn (gNm 12) (gCn (gNm 13) (gNl)))))) (sSeq (sPar 14 15 (mCons (mSl (mV 12) (mC .non) (mPart (mN oLen (mCons (mV 1) (mNil))))) (mCons (mSl (mV 12) (mPart (mN oLen (mCons (mV 1) (mNil)))) (mC .non)) (mNil)))) (sSeq (sSet 5 (mC (.int 1))) (sSeq (sSet 6 (mN oLst (mNil))) (sSeq (sFor (onlyA (mV 15)) nfA (gNm 7) (sSeq (sSet 16 (m2 oAdd (mN oLst (mCons (m2 oMul (mV 7) (mV 5)) (mNil))) (mV 14))) (sSeq (sSet 17 (mLc (onlyA (mV 4)) nfA (gNm 19) (mYes) (mN oSumX (mCons (mLc (zipW (mCons (mV 19) (mCons (mV 16) (mNil)))) nfW (gPr 21 22) (m2 oNeL (mV 21) (mC (.int 0))) (m2 oMul (mV 21) (mV 22)) [21, 22]) (mNil))) [19])) (sSeq (sAug 5 oMulI (mV 11)) (sSeq (sEx (mMethL (mV 6) (mCons (mCall 2 M_fractions (mCons (mSl (mV 17) (mC .non) (mPart (mN oLen (mCons (mV 8) (mNil))))) (mCons (m2 oMul (mV 13) (mV 5)) (mNil)))) (mNil)) oApp)) (sSet 14 (mSl (mV 17) (mPart (mN oLen (mCons (mV 8) (mNil)))) (mC .non)))))))) (sRet (mN oTup (mCons (mV 6) (mCons (mCall 2 M_fractions (mCons (mV 14) (mCons (m2 oMul (mV 13) (mV 5)) (mNil)))) (mNil)))))))))))))) F sc_rolled rfl rfl (fun cdv A outer s H E hr => ?_)
  have nd : N_rolled.Nodup := sc_rolled.nd
  have tk : Takes (cxOf (L2.CX P w) P w K mg base N_rolled "rolled" (defScope (top 47)) (He.ga K "rolled") cdv A outer s H E) (fun cls d _ H' => E cls d H') := takes_of rfl rfl rfl rfl
  have po : PassesOwn (model P w) (cxOf (L2.CX P w) P w K mg base N_rolled "rolled" (defScope (top 47)) (He.ga K "rolled") cdv A outer s H E).A (cxOf (L2.CX P w) P w K mg base N_rolled "rolled" (defScope (top 47)) (He.ga K "rolled") cdv A outer s H E).env (cxOf (L2.CX P w) P w K mg base N_rolled "rolled" (defScope (top 47)) (He.ga K "rolled") cdv A outer s H E).xe := passes_of (X := cxOf (L2.CX P w) P w K mg base N_rolled "rolled" (defScope (top 47)) (He.ga K "rolled") cdv A outer s H E) rfl
  exact (es_cons (es_asg (ee_var 0 (pv 0)) (eg_tl rfl rfl (egs_cons (eg_name (g_name nd)) (egs_cons (eg_name (g_name nd)) egs_nil))))
    (es_cons (s_set nd (b_add rfl (f_len rfl G.b_len (ea_cons (ee_var 1 (pv 1)) ea_nil)) ee_int))
    (es_cons (es_asg (ee_call h_wholes hr (by decide) tk (ea_cons (f_tuple rfl G.b_tuple (ea_cons (ee_lc2 rfl nd (own := [("row", 19), ("own", 20)]) (vs1 := [20]) (ei_any rfl (b_add rfl (ee_var 8 (pv 8)) (ee_var 9 (pv 9)))) (blkOk_by (N := N_rolled) (sc := defScope (top 47)) (by decide +kernel)) (by decide) (fun _ _ _ _ _ => (ct_name (g_name nd) (by decide))) (fun _ _ _ _ _ => ets_nil) (fun _ _ _ _ _ => (ei2_any rfl (ee_var 19 (pv 19)))) (fun _ _ _ _ _ => (ct_name (g_name nd) (by decide))) (fun _ _ _ _ _ => ets_nil) (fun _ _ _ _ _ => (ee_var 20 (pv 20)))) ea_nil)) ea_nil)) (eg_tl rfl rfl (egs_cons (eg_name (g_name nd)) (egs_cons (eg_name (g_name nd)) egs_nil))))
    (es_cons (es_setLc rfl nd rfl rfl (sw_true rfl rfl rfl (by decide +kernel)) (own := [("k", 18)]) (ei_rng1 G.b_range (ea_cons (b_add rfl (f_len rfl G.b_len (ea_cons (ee_var 8 (pv 8)) ea_nil)) (f_len rfl G.b_len (ea_cons (ee_var 9 (pv 9)) ea_nil))) ea_nil)) (blkOk_by (N := N_rolled) (sc := defScope (top 47)) (by decide +kernel)) (fun _ _ _ _ _ => (ct_name (g_name nd) (by decide))) (fun _ _ _ _ _ => ets_nil) (fun _ _ _ _ _ => (ee_sl rfl (ee_var 10 (pv 10)) (eo_some (b_mul rfl (ee_var 18 (pv 18)) (ee_var 3 (pv 3)))) (eo_some (b_mul rfl (b_add rfl (ee_var 18 (pv 18)) ee_int) (ee_var 3 (pv 3)))))))
    (es_cons (es_asg (ee_call h_wholes hr (by decide) tk (ea_cons (b_add rfl (ee_var 1 (pv 1)) (ee_var 2 (pv 2))) ea_nil)) (eg_tl rfl rfl (egs_cons (eg_name (g_name nd)) (egs_cons (eg_name (g_name nd)) egs_nil))))
    (es_cons (s_par rfl nd (ea_cons (ee_sl rfl (ee_var 12 (pv 12)) eo_none (eo_some (f_len rfl G.b_len (ea_cons (ee_var 1 (pv 1)) ea_nil)))) (ea_cons (ee_sl rfl (ee_var 12 (pv 12)) (eo_some (f_len rfl G.b_len (ea_cons (ee_var 1 (pv 1)) ea_nil))) eo_none) ea_nil)) (by decide))
    (es_cons (s_set nd ee_int)
    (es_cons (s_set nd (ee_lst ea_nil))
    (es_cons (es_for po rfl (ei_any rfl (ee_var 15 (pv 15))) (eg_name (g_name nd)) (es_cons (s_set nd (b_add rfl (ee_lst (ea_cons (b_mul rfl (ee_var 7 (pv 7)) (ee_var 5 (pv 5))) ea_nil)) (ee_var 14 (pv 14))))
    (es_cons (es_setLc rfl nd rfl rfl (sw_true rfl rfl rfl (by decide +kernel)) (own := [("row", 19)]) (ei_any rfl (ee_var 4 (pv 4))) (blkOk_by (N := N_rolled) (sc := defScope (top 47)) (by decide +kernel)) (fun _ _ _ _ _ => (ct_name (g_name nd) (by decide))) (fun _ _ _ _ _ => ets_nil) (fun _ _ _ _ _ => (f_sumX rfl rfl G.b_sum (ea_cons (ee_lc rfl nd (own := [("a", 21), ("b", 22)]) (ei_zipW rfl G.b_zip (ea_cons (ee_var 19 (pv 19)) (ea_cons (ee_var 16 (pv 16)) ea_nil))) (blkOk_by (by kernel_rfl)) (fun _ _ _ _ _ => (ct_pair rfl rfl (g_name nd) (g_name nd) (by decide) (by decide))) (fun _ _ _ _ _ => (ets_one (t_neL rfl hr.units (ee_var 21 (pv 21)) ee_int))) (fun _ _ _ _ _ => (b_mul rfl (ee_var 21 (pv 21)) (ee_var 22 (pv 22))))) ea_nil))))
    (es_cons (s_augMul nd (ee_var 11 (pv 11)))
    (es_cons (es_ex (ee_append (ee_var 6 (pv 6)) (ea_cons (ee_call h_fractions hr (by decide) tk (ea_cons (ee_sl rfl (ee_var 17 (pv 17)) eo_none (eo_some (f_len rfl G.b_len (ea_cons (ee_var 8 (pv 8)) ea_nil)))) (ea_cons (b_mul rfl (ee_var 13 (pv 13)) (ee_var 5 (pv 5))) ea_nil))) ea_nil)))
    (es_one (s_set nd (ee_sl rfl (ee_var 17 (pv 17)) (eo_some (f_len rfl G.b_len (ea_cons (ee_var 8 (pv 8)) ea_nil))) eo_none))))))))
    (es_one (es_ret (ee_tup (ea_cons (ee_var 6 (pv 6)) (ea_cons (ee_call h_fractions hr (by decide) tk (ea_cons (ee_var 14 (pv 14)) (ea_cons (b_mul rfl (ee_var 13 (pv 13)) (ee_var 5 (pv 5))) ea_nil))) ea_nil))))))))))))))
theorem ok_rolled {P : Program} {w : World} {K : PySem.W.Frag} {mg : Str → Option Value} {base : Heap} (G : Gf K mg) (h_wholes : Kn P w K mg base (pm K) 1 "wholes" 1 M_wholes) (h_fractions : Kn P w K mg base (pm K) 2 "fractions" 2 M_fractions) : Kn P w K mg base (pm K) 3 "rolled" 3 M_rolled := by
  obtain ⟨fd, F⟩ := G.d_rolled
  exact ⟨_, fd, _, fo_rolled G h_wholes h_fractions  F, G.a_rolled, F.kp, (F.bindsN fun _ _ _ _ _ _ us hl => match us, hl with | [_, _, _], _ => rfl)⟩
abbrev N_mult : List Str := ["x", "y"]
theorem sc_mult : FnScope N_mult ["x", "y"] (defScope (top 12)) := ⟨rfl, rfl, rfl, by decide +kernel, rfl, by decide +kernel, by decide +kernel⟩
noncomputable def M_mult : Fn' := fnM [] (sRet (mCall 2 M_reduced (mCons (m2 oMul (m2 oIx (mV 0) (mC (.int 0))) (m2 oIx (mV 1) (mC (.int 0)))) (mCons (m2 oMul (m2 oIx (mV 0) (mC (.int 1))) (m2 oIx (mV 1) (mC (.int 1)))) (mNil)))))
theorem fo_mult {P : Program} {w : World} {K : PySem.W.Frag} {mg : Str → Option Value} {base : Heap} (G : Gf K mg) (h_reduced : Kn P w K mg base (pm K) 1 "reduced" 2 M_reduced) {fd : FuncData} (F : FunD K "mult" "mult" (defArgs (top 12)) (defBody (top 12)) (defScope (top 12)) [] [] (He.ga K "mult") fd) : FnOk P w K mg base (L2.CX P w) 2 (He.ga K "mult") fd ["x", "y"] (spM (pm K) 2 M_mult) := by
  refine fn_ok (k := 1) (N := N_mult) (tl := []) (b := sRet (mCall 2 M_reduced (mCons (m2 oMul (m2 oIx (mV 0) (mC (.int 0))) (m2 oIx (mV 1) (mC (.int 0)))) (mCons (m2 oMul (m2 oIx (mV 0) (mC (.int 1))) (m2 oIx (mV 1) (mC (.int 1)))) (mNil))))) F sc_mult rfl rfl (fun cdv A outer s H E hr => ?_)
  have nd : N_mult.Nodup := sc_mult.nd
  have tk : Takes (cxOf (L2.CX P w) P w K mg base N_mult "mult" (defScope (top 12)) (He.ga K "mult") cdv A outer s H E) (fun cls d _ H' => E cls d H') := takes_of rfl rfl rfl rfl
  have po : PassesOwn (model P w) (cxOf (L2.CX P w) P w K mg base N_mult "mult" (defScope (top 12)) (He.ga K "mult") cdv A outer s H E).A (cxOf (L2.CX P w) P w K mg base N_mult "mult" (defScope (top 12)) (He.ga K "mult") cdv A outer s H E).env (cxOf (L2.CX P w) P w K mg base N_mult "mult" (defScope (top 12)) (He.ga K "mult") cdv A outer s H E).xe := passes_of (X := cxOf (L2.CX P w) P w K mg base N_mult "mult" (defScope (top 12)) (He.ga K "mult") cdv A outer s H E) rfl
  exact (es_one (es_ret (ee_call h_reduced hr (by decide) tk (ea_cons (b_mul rfl (b_ix rfl (ee_var 0 (pv 0)) ee_int) (b_ix rfl (ee_var 1 (pv 1)) ee_int)) (ea_cons (b_mul rfl (b_ix rfl (ee_var 0 (pv 0)) ee_int) (b_ix rfl (ee_var 1 (pv 1)) ee_int)) ea_nil)))))
theorem ok_mult {P : Program} {w : World} {K : PySem.W.Frag} {mg : Str → Option Value} {base : Heap} (G : Gf K mg) (h_reduced : Kn P w K mg base (pm K) 1 "reduced" 2 M_reduced) : Kn P w K mg base (pm K) 2 "mult" 2 M_mult := by
  obtain ⟨fd, F⟩ := G.d_mult
  exact ⟨_, fd, _, fo_mult G h_reduced  F, G.a_mult, F.kp, (F.bindsN fun _ _ _ _ _ _ us hl => match us, hl with | [_, _], _ => rfl)⟩
abbrev N_times_row : List Str := ["row", "f", "own"]
theorem sc_times_row : FnScope N_times_row ["row", "f"] (defScope (top 16)) := ⟨rfl, rfl, rfl, by decide +kernel, rfl, by decide +kernel, by decide +kernel⟩
noncomputable def M_times_row : Fn' := fnM [none] (sRet (mN oTuple (mCons (mLc (onlyA (mV 0)) nfA (gNm 2) (mYes) (mCall 2 M_mult (mCons (mV 2) (mCons (mV 1) (mNil)))) [2]) (mNil))))
theorem fo_times_row {P : Program} {w : World} {K : PySem.W.Frag} {mg : Str → Option Value} {base : Heap} (G : Gf K mg) (h_mult : Kn P w K mg base (pm K) 2 "mult" 2 M_mult) {fd : FuncData} (F : FunD K "times_row" "times_row" (defArgs (top 16)) (defBody (top 16)) (defScope (top 16)) [] [] (He.ga K "times_row") fd) : FnOk P w K mg base (L2.CX P w) 3 (He.ga K "times_row") fd ["row", "f"] (spM (pm K) 2 M_times_row) := by
  refine fn_ok (k := 2) (N := N_times_row) (tl := [none]) (b := sRet (mN oTuple (mCons (mLc (onlyA (mV 0)) nfA (gNm 2) (mYes) (mCall 2 M_mult (mCons (mV 2) (mCons (mV 1) (mNil)))) [2]) (mNil)))) F sc_times_row rfl rfl (fun cdv A outer s H E hr => ?_)
  have nd : N_times_row.Nodup := sc_times_row.nd
  have tk : Takes (cxOf (L2.CX P w) P w K mg base N_times_row "times_row" (defScope (top 16)) (He.ga K "times_row") cdv A outer s H E) (fun cls d _ H' => E cls d H') := takes_of rfl rfl rfl rfl
  have po : PassesOwn (model P w) (cxOf (L2.CX P w) P w K mg base N_times_row "times_row" (defScope (top 16)) (He.ga K "times_row") cdv A outer s H E).A (cxOf (L2.CX P w) P w K mg base N_times_row "times_row" (defScope (top 16)) (He.ga K "times_row") cdv A outer s H E).env (cxOf (L2.CX P w) P w K mg base N_times_row "times_row" (defScope (top 16)) (He.ga K "times_row") cdv A outer s H E).xe := passes_of (X := cxOf (L2.CX P w) P w K mg base N_times_row "times_row" (defScope (top 16)) (He.ga K "times_row") cdv A outer s H E) rfl
  exact (es_one (es_ret (f_tuple rfl G.b_tuple (ea_cons (ee_lc rfl nd (own := [("own", 2)]) (ei_any rfl (ee_var 0 (pv 0))) (blkOk_by (N := N_times_row) (sc := defScope (top 16)) (by decide +kernel)) (fun _ _ _ _ _ => (ct_name (g_name nd) (by decide))) (fun _ _ _ _ _ => ets_nil) (fun _ _ _ _ _ => (ee_call h_mult hr (by decide) takes_blk (ea_cons (ee_var 2 (pv 2)) (ea_cons (ee_var 1 (pv 1)) ea_nil))))) ea_nil))))
theorem ok_times_row {P : Program} {w : World} {K : PySem.W.Frag} {mg : Str → Option Value} {base : Heap} (G : Gf K mg) (h_mult : Kn P w K mg base (pm K) 2 "mult" 2 M_mult) : Kn P w K mg base (pm K) 3 "times_row" 2 M_times_row := by
  obtain ⟨fd, F⟩ := G.d_times_row
  exact ⟨_, fd, _, fo_times_row G h_mult  F, G.a_times_row, F.kp, (F.bindsN fun _ _ _ _ _ _ us hl => match us, hl with | [_, _], _ => rfl)⟩
abbrev N_minus : List Str := ["x", "y"]
theorem sc_minus : FnScope N_minus ["x", "y"] (defScope (top 11)) := ⟨rfl, rfl, rfl, by decide +kernel, rfl, by decide +kernel, by decide +kernel⟩
noncomputable def M_minus : Fn' := fnM [] (sRet (mCall 2 M_reduced (mCons (m2 oSub (m2 oMul (m2 oIx (mV 0) (mC (.int 0))) (m2 oIx (mV 1) (mC (.int 1)))) (m2 oMul (m2 oIx (mV 1) (mC (.int 0))) (m2 oIx (mV 0) (mC (.int 1))))) (mCons (m2 oMul (m2 oIx (mV 0) (mC (.int 1))) (m2 oIx (mV 1) (mC (.int 1)))) (mNil)))))
theorem fo_minus {P : Program} {w : World} {K : PySem.W.Frag} {mg : Str → Option Value} {base : Heap} (G : Gf K mg) (h_reduced : Kn P w K mg base (pm K) 1 "reduced" 2 M_reduced) {fd : FuncData} (F : FunD K "minus" "minus" (defArgs (top 11)) (defBody (top 11)) (defScope (top 11)) [] [] (He.ga K "minus") fd) : FnOk P w K mg base (L2.CX P w) 2 (He.ga K "minus") fd ["x", "y"] (spM (pm K) 2 M_minus) := by
  refine fn_ok (k := 1) (N := N_minus) (tl := []) (b := sRet (mCall 2 M_reduced (mCons (m2 oSub (m2 oMul (m2 oIx (mV 0) (mC (.int 0))) (m2 oIx (mV 1) (mC (.int 1)))) (m2 oMul (m2 oIx (mV 1) (mC (.int 0))) (m2 oIx (mV 0) (mC (.int 1))))) (mCons (m2 oMul (m2 oIx (mV 0) (mC (.int 1))) (m2 oIx (mV 1) (mC (.int 1)))) (mNil))))) F sc_minus rfl rfl (fun cdv A outer s H E hr => ?_)
  have nd : N_minus.Nodup := sc_minus.nd
  have tk : Takes (cxOf (L2.CX P w) P w K mg base N_minus "minus" (defScope (top 11)) (He.ga K "minus") cdv A outer s H E) (fun cls d _ H' => E cls d H') := takes_of rfl rfl rfl rfl
  have po : PassesOwn (model P w) (cxOf (L2.CX P w) P w K mg base N_minus "minus" (defScope (top 11)) (He.ga K "minus") cdv A outer s H E).A (cxOf (L2.CX P w) P w K mg base N_minus "minus" (defScope (top 11)) (He.ga K "minus") cdv A outer s H E).env (cxOf (L2.CX P w) P w K mg base N_minus "minus" (defScope (top 11)) (He.ga K "minus") cdv A outer s H E).xe := passes_of (X := cxOf (L2.CX P w) P w K mg base N_minus "minus" (defScope (top 11)) (He.ga K "minus") cdv A outer s H E) rfl
  exact (es_one (es_ret (ee_call h_reduced hr (by decide) tk (ea_cons (b_sub rfl (b_mul rfl (b_ix rfl (ee_var 0 (pv 0)) ee_int) (b_ix rfl (ee_var 1 (pv 1)) ee_int)) (b_mul rfl (b_ix rfl (ee_var 1 (pv 1)) ee_int) (b_ix rfl (ee_var 0 (pv 0)) ee_int))) (ea_cons (b_mul rfl (b_ix rfl (ee_var 0 (pv 0)) ee_int) (b_ix rfl (ee_var 1 (pv 1)) ee_int)) ea_nil)))))
theorem ok_minus {P : Program} {w : World} {K : PySem.W.Frag} {mg : Str → Option Value} {base : Heap} (G : Gf K mg) (h_reduced : Kn P w K mg base (pm K) 1 "reduced" 2 M_reduced) : Kn P w K mg base (pm K) 2 "minus" 2 M_minus := by
  obtain ⟨fd, F⟩ := G.d_minus
  exact ⟨_, fd, _, fo_minus G h_reduced  F, G.a_minus, F.kp, (F.bindsN fun _ _ _ _ _ _ us hl => match us, hl with | [_, _], _ => rfl)⟩
abbrev N_held_row : List Str := ["box", "tops", "bottoms", "top", "bottom"]
theorem sc_held_row : FnScope N_held_row ["box"] (defScope (top 44)) := ⟨rfl, rfl, rfl, by decide +kernel, rfl, by decide +kernel, by decide +kernel⟩
noncomputable def M_held_row : Fn' := fnM [none, none, none, none] (sSeq (sAs (mV 0) (gEnd (gTL 2 (gCn (gNm 1) (gCn (gNm 2) (gNl)))))) (sRet (mN oTuple (mCons (mLc (zipW (mCons (mSl (mV 1) (mPart (mC (.int 1))) (mC .non)) (mCons (mSl (mV 2) (mPart (mC (.int 1))) (mC .non)) (mNil)))) nfW (gPr 3 4) (mYes) (mCall 2 M_minus (mCons (mV 3) (mCons (mCall 2 M_mult (mCons (m2 oIx (mV 1) (mC (.int 0))) (mCons (mV 4) (mNil)))) (mNil)))) [3, 4]) (mNil)))))
theorem fo_held_row {P : Program} {w : World} {K : PySem.W.Frag} {mg : Str → Option Value} {base : Heap} (G : Gf K mg) (h_minus : Kn P w K mg base (pm K) 2 "minus" 2 M_minus) (h_mult : Kn P w K mg base (pm K) 2 "mult" 2 M_mult) {fd : FuncData} (F : FunD K "held_row" "held_row" (defArgs (top 44)) (defBody (top 44)) (defScope (top 44)) [] [] (He.ga K "held_row") fd) : FnOk P w K mg base (L2.CX P w) 3 (He.ga K "held_row") fd ["box"] (spM (pm K) 1 M_held_row) := by
  refine fn_ok (k := 2) (N := N_held_row) (tl := [none, none, none, none]) (b := sSeq (sAs (mV 0) (gEnd (gTL 2 (gCn (gNm 1) (gCn (gNm 2) (gNl)))))) (sRet (mN oTuple (mCons (mLc (zipW (mCons (mSl (mV 1) (mPart (mC (.int 1))) (mC .non)) (mCons (mSl (mV 2) (mPart (mC (.int 1))) (mC .non)) (mNil)))) nfW (gPr 3 4) (mYes) (mCall 2 M_minus (mCons (mV 3) (mCons (mCall 2 M_mult (mCons (m2 oIx (mV 1) (mC (.int 0))) (mCons (mV 4) (mNil)))) (mNil)))) [3, 4]) (mNil))))) F sc_held_row rfl rfl (fun cdv A outer s H E hr => ?_)
  have nd : N_held_row.Nodup := sc_held_row.nd
  have tk : Takes (cxOf (L2.CX P w) P w K mg base N_held_row "held_row" (defScope (top 44)) (He.ga K "held_row") cdv A outer s H E) (fun cls d _ H' => E cls d H') := takes_of rfl rfl rfl rfl
  have po : PassesOwn (model P w) (cxOf (L2.CX P w) P w K mg base N_held_row "held_row" (defScope (top 44)) (He.ga K "held_row") cdv A outer s H E).A (cxOf (L2.CX P w) P w K mg base N_held_row "held_row" (defScope (top 44)) (He.ga K "held_row") cdv A outer s H E).env (cxOf (L2.CX P w) P w K mg base N_held_row "held_row" (defScope (top 44)) (He.ga K "held_row") cdv A outer s H E).xe := passes_of (X := cxOf (L2.CX P w) P w K mg base N_held_row "held_row" (defScope (top 44)) (He.ga K "held_row") cdv A outer s H E) rfl
  exact (es_cons (es_asg (ee_var 0 (pv 0)) (eg_tl rfl rfl (egs_cons (eg_name (g_name nd)) (egs_cons (eg_name (g_name nd)) egs_nil))))
    (es_one (es_ret (f_tuple rfl G.b_tuple (ea_cons (ee_lc rfl nd (own := [("top", 3), ("bottom", 4)]) (ei_zipW rfl G.b_zip (ea_cons (ee_sl rfl (ee_var 1 (pv 1)) (eo_some ee_int) eo_none) (ea_cons (ee_sl rfl (ee_var 2 (pv 2)) (eo_some ee_int) eo_none) ea_nil))) (blkOk_by (N := N_held_row) (sc := defScope (top 44)) (by decide +kernel)) (fun _ _ _ _ _ => (ct_pair rfl rfl (g_name nd) (g_name nd) (by decide) (by decide))) (fun _ _ _ _ _ => ets_nil) (fun _ _ _ _ _ => (ee_call h_minus hr (by decide) takes_blk (ea_cons (ee_var 3 (pv 3)) (ea_cons (ee_call h_mult hr (by decide) takes_blk (ea_cons (b_ix rfl (ee_var 1 (pv 1)) ee_int) (ea_cons (ee_var 4 (pv 4)) ea_nil))) ea_nil))))) ea_nil)))))
theorem ok_held_row {P : Program} {w : World} {K : PySem.W.Frag} {mg : Str → Option Value} {base : Heap} (G : Gf K mg) (h_minus : Kn P w K mg base (pm K) 2 "minus" 2 M_minus) (h_mult : Kn P w K mg base (pm K) 2 "mult" 2 M_mult) : Kn P w K mg base (pm K) 3 "held_row" 1 M_held_row := by
  obtain ⟨fd, F⟩ := G.d_held_row
  exact ⟨_, fd, _, fo_held_row G h_minus h_mult  F, G.a_held_row, F.kp, (F.bindsN fun _ _ _ _ _ _ us hl => match us, hl with | [_], _ => rfl)⟩
abbrev N_unit_at : List Str := ["place", "many", "k"]
theorem sc_unit_at : FnScope N_unit_at ["place", "many"] (defScope (top 43)) := ⟨rfl, rfl, rfl, by decide +kernel, rfl, by decide +kernel, by decide +kernel⟩
noncomputable def M_unit_at : Fn' := fnM [none] (sRet (mN oTuple (mCons (mLc (rng1 (mCons (mV 1) (mNil))) nfR (gNm 2) (mYes) (mIf (m2 oEqL (mV 2) (mV 0)) (mC (.tup [.int (1), .int (1)])) (mC (.tup [.int (0), .int (1)]))) [2]) (mNil))))
theorem fo_unit_at {P : Program} {w : World} {K : PySem.W.Frag} {mg : Str → Option Value} {base : Heap} (G : Gf K mg) {fd : FuncData} (F : FunD K "unit_at" "unit_at" (defArgs (top 43)) (defBody (top 43)) (defScope (top 43)) [] [] (He.ga K "unit_at") fd) : FnOk P w K mg base (L2.CX P w) 1 (He.ga K "unit_at") fd ["place", "many"] (spM (pm K) 2 M_unit_at) := by
  refine fn_ok (k := 0) (N := N_unit_at) (tl := [none]) (b := sRet (mN oTuple (mCons (mLc (rng1 (mCons (mV 1) (mNil))) nfR (gNm 2) (mYes) (mIf (m2 oEqL (mV 2) (mV 0)) (mC (.tup [.int (1), .int (1)])) (mC (.tup [.int (0), .int (1)]))) [2]) (mNil)))) F sc_unit_at rfl rfl (fun cdv A outer s H E hr => ?_)
  have nd : N_unit_at.Nodup := sc_unit_at.nd
  have tk : Takes (cxOf (L2.CX P w) P w K mg base N_unit_at "unit_at" (defScope (top 43)) (He.ga K "unit_at") cdv A outer s H E) (fun cls d _ H' => E cls d H') := takes_of rfl rfl rfl rfl
  have po : PassesOwn (model P w) (cxOf (L2.CX P w) P w K mg base N_unit_at "unit_at" (defScope (top 43)) (He.ga K "unit_at") cdv A outer s H E).A (cxOf (L2.CX P w) P w K mg base N_unit_at "unit_at" (defScope (top 43)) (He.ga K "unit_at") cdv A outer s H E).env (cxOf (L2.CX P w) P w K mg base N_unit_at "unit_at" (defScope (top 43)) (He.ga K "unit_at") cdv A outer s H E).xe := passes_of (X := cxOf (L2.CX P w) P w K mg base N_unit_at "unit_at" (defScope (top 43)) (He.ga K "unit_at") cdv A outer s H E) rfl
  exact (es_one (es_ret (f_tuple rfl G.b_tuple (ea_cons (ee_lc rfl nd (own := [("k", 2)]) (ei_rng1 G.b_range (ea_cons (ee_var 1 (pv 1)) ea_nil)) (blkOk_by (N := N_unit_at) (sc := defScope (top 43)) (by decide +kernel)) (fun _ _ _ _ _ => (ct_name (g_name nd) (by decide))) (fun _ _ _ _ _ => ets_nil) (fun _ _ _ _ _ => (ee_if (t_eqL rfl hr.units (ee_var 2 (pv 2)) (ee_var 0 (pv 0))) (ee_const (v := .ref (He.ga K "ONE")) G.z_ONE G.m_ONE rfl) (ee_const (v := .ref (He.ga K "ZERO")) G.z_ZERO G.m_ZERO rfl)))) ea_nil))))
theorem ok_unit_at {P : Program} {w : World} {K : PySem.W.Frag} {mg : Str → Option Value} {base : Heap} (G : Gf K mg) : Kn P w K mg base (pm K) 1 "unit_at" 2 M_unit_at := by
  obtain ⟨fd, F⟩ := G.d_unit_at
  exact ⟨_, fd, _, fo_unit_at G   F, G.a_unit_at, F.kp, (F.bindsN fun _ _ _ _ _ _ us hl => match us, hl with | [_, _], _ => rfl)⟩
abbrev N_kept_rows : List Str := ["inner", "start", "many", "k"]
theorem sc_kept_rows : FnScope N_kept_rows ["inner", "start", "many"] (defScope (top 45)) := ⟨rfl, rfl, rfl, by decide +kernel, rfl, by decide +kernel, by decide +kernel⟩
noncomputable def M_kept_rows : Fn' := fnM [none] (sRet (mSl (m2 oAdd (mN oLst (mCons (mV 0) (mNil))) (mLc (rng1 (mCons (m2 oSub (mV 2) (mC (.int 1))) (mNil))) nfR (gNm 3) (mYes) (mCall 2 M_unit_at (mCons (m2 oAdd (mV 1) (mV 3)) (mCons (mN oLen (mCons (mV 0) (mNil))) (mNil)))) [3])) (mC .non) (mPart (mV 2))))
theorem fo_kept_rows {P : Program} {w : World} {K : PySem.W.Frag} {mg : Str → Option Value} {base : Heap} (G : Gf K mg) (h_unit_at : Kn P w K mg base (pm K) 1 "unit_at" 2 M_unit_at) {fd : FuncData} (F : FunD K "kept_rows" "kept_rows" (defArgs (top 45)) (defBody (top 45)) (defScope (top 45)) [] [] (He.ga K "kept_rows") fd) : FnOk P w K mg base (L2.CX P w) 2 (He.ga K "kept_rows") fd ["inner", "start", "many"] (spM (pm K) 3 M_kept_rows) := by
  refine fn_ok (k := 1) (N := N_kept_rows) (tl := [none]) (b := sRet (mSl (m2 oAdd (mN oLst (mCons (mV 0) (mNil))) (mLc (rng1 (mCons (m2 oSub (mV 2) (mC (.int 1))) (mNil))) nfR (gNm 3) (mYes) (mCall 2 M_unit_at (mCons (m2 oAdd (mV 1) (mV 3)) (mCons (mN oLen (mCons (mV 0) (mNil))) (mNil)))) [3])) (mC .non) (mPart (mV 2)))) F sc_kept_rows rfl rfl (fun cdv A outer s H E hr => ?_)
  have nd : N_kept_rows.Nodup := sc_kept_rows.nd
  have tk : Takes (cxOf (L2.CX P w) P w K mg base N_kept_rows "kept_rows" (defScope (top 45)) (He.ga K "kept_rows") cdv A outer s H E) (fun cls d _ H' => E cls d H') := takes_of rfl rfl rfl rfl
  have po : PassesOwn (model P w) (cxOf (L2.CX P w) P w K mg base N_kept_rows "kept_rows" (defScope (top 45)) (He.ga K "kept_rows") cdv A outer s H E).A (cxOf (L2.CX P w) P w K mg base N_kept_rows "kept_rows" (defScope (top 45)) (He.ga K "kept_rows") cdv A outer s H E).env (cxOf (L2.CX P w) P w K mg base N_kept_rows "kept_rows" (defScope (top 45)) (He.ga K "kept_rows") cdv A outer s H E).xe := passes_of (X := cxOf (L2.CX P w) P w K mg base N_kept_rows "kept_rows" (defScope (top 45)) (He.ga K "kept_rows") cdv A outer s H E) rfl
  exact (es_one (es_ret (ee_sl rfl (b_add rfl (ee_lst (ea_cons (ee_var 0 (pv 0)) ea_nil)) (ee_lc rfl nd (own := [("k", 3)]) (ei_rng1 G.b_range (ea_cons (b_sub rfl (ee_var 2 (pv 2)) ee_int) ea_nil)) (blkOk_by (N := N_kept_rows) (sc := defScope (top 45)) (by decide +kernel)) (fun _ _ _ _ _ => (ct_name (g_name nd) (by decide))) (fun _ _ _ _ _ => ets_nil) (fun _ _ _ _ _ => (ee_call h_unit_at hr (by decide) takes_blk (ea_cons (b_add rfl (ee_var 1 (pv 1)) (ee_var 3 (pv 3))) (ea_cons (f_len rfl G.b_len (ea_cons (ee_var 0 (pv 0)) ea_nil)) ea_nil)))))) eo_none (eo_some (ee_var 2 (pv 2))))))
theorem ok_kept_rows {P : Program} {w : World} {K : PySem.W.Frag} {mg : Str → Option Value} {base : Heap} (G : Gf K mg) (h_unit_at : Kn P w K mg base (pm K) 1 "unit_at" 2 M_unit_at) : Kn P w K mg base (pm K) 2 "kept_rows" 3 M_kept_rows := by
  obtain ⟨fd, F⟩ := G.d_kept_rows
  exact ⟨_, fd, _, fo_kept_rows G h_unit_at  F, G.a_kept_rows, F.kp, (F.bindsN fun _ _ _ _ _ _ us hl => match us, hl with | [_, _, _], _ => rfl)⟩
abbrev N_machine_of : List Str := ["box", "many", "inner", "answer", "tops", "bottoms"]
theorem sc_machine_of : FnScope N_machine_of ["box"] (defScope (top 46)) := ⟨rfl, rfl, rfl, by decide +kernel, rfl, by decide +kernel, by decide +kernel⟩
noncomputable def M_machine_of : Fn' := fnM [none, none, none, none, none] (sSeq (sAs (mV 0) (gEnd (gTL 2 (gCn (gNm 4) (gCn (gNm 5) (gNl)))))) (sSeq (sSet 1 (m2 oSub (mN oLen (mCons (mV 4) (mNil))) (mC (.int 1)))) (sSeq (sSet 2 (m2 oAdd (mN oTup (mCons (mC (.tup [.int (1), .int (1)])) (mNil))) (mCall 2 M_times_row (mCons (mSl (mV 5) (mPart (mC (.int 1))) (mC .non)) (mCons (mN oTup (mCons (m1 oNeg (mC (.int 1))) (mCons (mC (.int 1)) (mNil)))) (mNil)))))) (sSeq (sSet 3 (m2 oAdd (mN oTup (mCons (m2 oIx (mV 4) (mC (.int 0))) (mNil))) (mCall 1 M_held_row (mCons (mV 0) (mNil))))) (sRet (mN oTup (mCons (mN oLst (mCons (mV 3) (mNil))) (mCons (mCall 3 M_kept_rows (mCons (mV 2) (mCons (mC (.int 1)) (mCons (mV 1) (mNil))))) (mNil)))))))))
theorem fo_machine_of {P : Program} {w : World} {K : PySem.W.Frag} {mg : Str → Option Value} {base : Heap} (G : Gf K mg) (h_times_row : Kn P w K mg base (pm K) 3 "times_row" 2 M_times_row) (h_held_row : Kn P w K mg base (pm K) 3 "held_row" 1 M_held_row) (h_kept_rows : Kn P w K mg base (pm K) 2 "kept_rows" 3 M_kept_rows) {fd : FuncData} (F : FunD K "machine_of" "machine_of" (defArgs (top 46)) (defBody (top 46)) (defScope (top 46)) [] [] (He.ga K "machine_of") fd) : FnOk P w K mg base (L2.CX P w) 4 (He.ga K "machine_of") fd ["box"] (spM (pm K) 1 M_machine_of) := by
  refine fn_ok (k := 3) (N := N_machine_of) (tl := [none, none, none, none, none]) (b := sSeq (sAs (mV 0) (gEnd (gTL 2 (gCn (gNm 4) (gCn (gNm 5) (gNl)))))) (sSeq (sSet 1 (m2 oSub (mN oLen (mCons (mV 4) (mNil))) (mC (.int 1)))) (sSeq (sSet 2 (m2 oAdd (mN oTup (mCons (mC (.tup [.int (1), .int (1)])) (mNil))) (mCall 2 M_times_row (mCons (mSl (mV 5) (mPart (mC (.int 1))) (mC .non)) (mCons (mN oTup (mCons (m1 oNeg (mC (.int 1))) (mCons (mC (.int 1)) (mNil)))) (mNil)))))) (sSeq (sSet 3 (m2 oAdd (mN oTup (mCons (m2 oIx (mV 4) (mC (.int 0))) (mNil))) (mCall 1 M_held_row (mCons (mV 0) (mNil))))) (sRet (mN oTup (mCons (mN oLst (mCons (mV 3) (mNil))) (mCons (mCall 3 M_kept_rows (mCons (mV 2) (mCons (mC (.int 1)) (mCons (mV 1) (mNil))))) (mNil))))))))) F sc_machine_of rfl rfl (fun cdv A outer s H E hr => ?_)
  have nd : N_machine_of.Nodup := sc_machine_of.nd
  have tk : Takes (cxOf (L2.CX P w) P w K mg base N_machine_of "machine_of" (defScope (top 46)) (He.ga K "machine_of") cdv A outer s H E) (fun cls d _ H' => E cls d H') := takes_of rfl rfl rfl rfl
  have po : PassesOwn (model P w) (cxOf (L2.CX P w) P w K mg base N_machine_of "machine_of" (defScope (top 46)) (He.ga K "machine_of") cdv A outer s H E).A (cxOf (L2.CX P w) P w K mg base N_machine_of "machine_of" (defScope (top 46)) (He.ga K "machine_of") cdv A outer s H E).env (cxOf (L2.CX P w) P w K mg base N_machine_of "machine_of" (defScope (top 46)) (He.ga K "machine_of") cdv A outer s H E).xe := passes_of (X := cxOf (L2.CX P w) P w K mg base N_machine_of "machine_of" (defScope (top 46)) (He.ga K "machine_of") cdv A outer s H E) rfl
  exact (es_cons (es_asg (ee_var 0 (pv 0)) (eg_tl rfl rfl (egs_cons (eg_name (g_name nd)) (egs_cons (eg_name (g_name nd)) egs_nil))))
    (es_cons (s_set nd (b_sub rfl (f_len rfl G.b_len (ea_cons (ee_var 4 (pv 4)) ea_nil)) ee_int))
    (es_cons (s_set nd (b_add rfl (ee_tup (ea_cons (ee_const (v := .ref (He.ga K "ONE")) G.z_ONE G.m_ONE rfl) ea_nil)) (ee_call h_times_row hr (by decide) tk (ea_cons (ee_sl rfl (ee_var 5 (pv 5)) (eo_some ee_int) eo_none) (ea_cons (ee_tup (ea_cons (b_neg ee_int) (ea_cons ee_int ea_nil))) ea_nil)))))
    (es_cons (s_set nd (b_add rfl (ee_tup (ea_cons (b_ix rfl (ee_var 4 (pv 4)) ee_int) ea_nil)) (ee_call h_held_row hr (by decide) tk (ea_cons (ee_var 0 (pv 0)) ea_nil))))
    (es_one (es_ret (ee_tup (ea_cons (ee_lst (ea_cons (ee_var 3 (pv 3)) ea_nil)) (ea_cons (ee_call h_kept_rows hr (by decide) tk (ea_cons (ee_var 2 (pv 2)) (ea_cons ee_int (ea_cons (ee_var 1 (pv 1)) ea_nil)))) ea_nil)))))))))
theorem ok_machine_of {P : Program} {w : World} {K : PySem.W.Frag} {mg : Str → Option Value} {base : Heap} (G : Gf K mg) (h_times_row : Kn P w K mg base (pm K) 3 "times_row" 2 M_times_row) (h_held_row : Kn P w K mg base (pm K) 3 "held_row" 1 M_held_row) (h_kept_rows : Kn P w K mg base (pm K) 2 "kept_rows" 3 M_kept_rows) : Kn P w K mg base (pm K) 4 "machine_of" 1 M_machine_of := by
  obtain ⟨fd, F⟩ := G.d_machine_of
  exact ⟨_, fd, _, fo_machine_of G h_times_row h_held_row h_kept_rows  F, G.a_machine_of, F.kp, (F.bindsN fun _ _ _ _ _ _ us hl => match us, hl with | [_], _ => rfl)⟩
abbrev N_moved : List Str := ["box", "cells", "pushes", "told", "behind", "own"]
theorem sc_moved : FnScope N_moved ["box", "cells", "pushes"] (defScope (top 58)) := ⟨rfl, rfl, rfl, by decide +kernel, rfl, by decide +kernel, by decide +kernel⟩
noncomputable def M_moved : Fn' := fnM [none, none, none] (sSeq (sAs (mCall 3 M_rolled (mCons (mCall 1 M_machine_of (mCons (mV 0) (mNil))) (mCons (mV 1) (mCons (mV 2) (mNil))))) (gEnd (gTL 2 (gCn (gNm 3) (gCn (gNm 4) (gNl)))))) (sRet (mN oTup (mCons (mN oTuple (mCons (mLc (onlyA (mV 3)) nfA (gNm 5) (mYes) (m2 oIx (mV 5) (mC (.int 0))) [5]) (mNil))) (mCons (mV 4) (mNil))))))
theorem fo_moved {P : Program} {w : World} {K : PySem.W.Frag} {mg : Str → Option Value} {base : Heap} (G : Gf K mg) (h_rolled : Kn P w K mg base (pm K) 3 "rolled" 3 M_rolled) (h_machine_of : Kn P w K mg base (pm K) 4 "machine_of" 1 M_machine_of) {fd : FuncData} (F : FunD K "moved" "moved" (defArgs (top 58)) (defBody (top 58)) (defScope (top 58)) [] [] (He.ga K "moved") fd) : FnOk P w K mg base (L2.CX P w) 5 (He.ga K "moved") fd ["box", "cells", "pushes"] (spM (pm K) 3 M_moved) := by
  refine fn_ok (k := 4) (N := N_moved) (tl := [none, none, none]) (b := sSeq (sAs (mCall 3 M_rolled (mCons (mCall 1 M_machine_of (mCons (mV 0) (mNil))) (mCons (mV 1) (mCons (mV 2) (mNil))))) (gEnd (gTL 2 (gCn (gNm 3) (gCn (gNm 4) (gNl)))))) (sRet (mN oTup (mCons (mN oTuple (mCons (mLc (onlyA (mV 3)) nfA (gNm 5) (mYes) (m2 oIx (mV 5) (mC (.int 0))) [5]) (mNil))) (mCons (mV 4) (mNil)))))) F sc_moved rfl rfl (fun cdv A outer s H E hr => ?_)
  have nd : N_moved.Nodup := sc_moved.nd
  have tk : Takes (cxOf (L2.CX P w) P w K mg base N_moved "moved" (defScope (top 58)) (He.ga K "moved") cdv A outer s H E) (fun cls d _ H' => E cls d H') := takes_of rfl rfl rfl rfl
  have po : PassesOwn (model P w) (cxOf (L2.CX P w) P w K mg base N_moved "moved" (defScope (top 58)) (He.ga K "moved") cdv A outer s H E).A (cxOf (L2.CX P w) P w K mg base N_moved "moved" (defScope (top 58)) (He.ga K "moved") cdv A outer s H E).env (cxOf (L2.CX P w) P w K mg base N_moved "moved" (defScope (top 58)) (He.ga K "moved") cdv A outer s H E).xe := passes_of (X := cxOf (L2.CX P w) P w K mg base N_moved "moved" (defScope (top 58)) (He.ga K "moved") cdv A outer s H E) rfl
  exact (es_cons (es_asg (ee_call h_rolled hr (by decide) tk (ea_cons (ee_call h_machine_of hr (by decide) tk (ea_cons (ee_var 0 (pv 0)) ea_nil)) (ea_cons (ee_var 1 (pv 1)) (ea_cons (ee_var 2 (pv 2)) ea_nil)))) (eg_tl rfl rfl (egs_cons (eg_name (g_name nd)) (egs_cons (eg_name (g_name nd)) egs_nil))))
    (es_one (es_ret (ee_tup (ea_cons (f_tuple rfl G.b_tuple (ea_cons (ee_lc rfl nd (own := [("own", 5)]) (ei_any rfl (ee_var 3 (pv 3))) (blkOk_by (N := N_moved) (sc := defScope (top 58)) (by decide +kernel)) (fun _ _ _ _ _ => (ct_name (g_name nd) (by decide))) (fun _ _ _ _ _ => ets_nil) (fun _ _ _ _ _ => (b_ix rfl (ee_var 5 (pv 5)) ee_int))) ea_nil)) (ea_cons (ee_var 4 (pv 4)) ea_nil))))))
theorem ok_moved {P : Program} {w : World} {K : PySem.W.Frag} {mg : Str → Option Value} {base : Heap} (G : Gf K mg) (h_rolled : Kn P w K mg base (pm K) 3 "rolled" 3 M_rolled) (h_machine_of : Kn P w K mg base (pm K) 4 "machine_of" 1 M_machine_of) : Kn P w K mg base (pm K) 5 "moved" 3 M_moved := by
  obtain ⟨fd, F⟩ := G.d_moved
  exact ⟨_, fd, _, fo_moved G h_rolled h_machine_of  F, G.a_moved, F.kp, (F.bindsN fun _ _ _ _ _ _ us hl => match us, hl with | [_, _, _], _ => rfl)⟩
abbrev N_work_of : List Str := ["box", "cells", "pushes", "own", "start", "row"]
theorem sc_work_of : FnScope N_work_of ["box", "cells", "pushes"] (defScope (top 63)) := ⟨rfl, rfl, rfl, by decide +kernel, rfl, by decide +kernel, by decide +kernel⟩
noncomputable def M_work_of : Fn' := fnM [none, none, none] (sSeq (sSet 3 (mCall 1 M_taken_small (mCons (mV 0) (mNil)))) (sSeq (sPar 4 5 (mCons (mCall 2 M_taken_cells (mCons (mV 1) (mCons (mV 3) (mNil)))) (mCons (mCall 1 M_taken_row (mCons (mV 2) (mNil))) (mNil)))) (sRet (mCall 2 M_dot (mCons (mV 5) (mCons (m2 oIx (mCall 3 M_moved (mCons (mV 3) (mCons (mV 4) (mCons (mV 5) (mNil))))) (mC (.int 0))) (mNil)))))))
noncomputable def T_work_of : List (List D × Kw) := [([.tup [.tup [.tup [.int (1), .int (1)], .tup [.int (1), .int (1)]], .tup [.tup [.int (1), .int (1)], .tup [.int (-1), .int (1)]]], .tup [.tup [.int (0), .int (1)]], .tup [.tup [.int (1), .int (1)], .tup [.int (1), .int (1)]]], .ans (.tup [.int (4), .int (1)])), ([.tup [.tup [.tup [.int (1), .int (1)], .tup [.int (1), .int (1)]], .tup [.tup [.int (1), .int (1)], .tup [.int (-1), .int (1)]]], .tup [.tup [.int (1), .int (1)]], .tup [.tup [.int (-1), .int (1)]]], .ans (.tup [.int (-1), .int (1)])), ([.tup [.tup [.tup [.int (1), .int (1)], .tup [.int (1), .int (1)]], .tup [.tup [.int (1), .int (1)], .tup [.int (-1), .int (1)]]], .tup [.tup [.int (1), .int (2)]], .tup [.tup [.int (1), .int (1)], .tup [.int (-1), .int (1)], .tup [.int (-1), .int (2)]]], .ans (.tup [.int (-1), .int (4)])), ([.tup [.tup [.tup [.int (1), .int (2)]], .tup [.tup [.int (1), .int (1)]]], .tup [], .tup [.tup [.int (1), .int (1)], .tup [.int (2), .int (1)]]], .ans (.tup [.int (5), .int (2)])), ([.tup [.tup [.tup [.int (3), .int (2)], .tup [.int (-1), .int (2)]], .tup [.tup [.int (1), .int (1)], .tup [.int (1), .int (1)]]], .tup [.tup [.int (1), .int (1)]], .tup [.tup [.int (0), .int (1)], .tup [.int (0), .int (1)]]], .ans (.tup [.int (0), .int (1)])), ([.tup [.tup [.tup [.int (1), .int (1)], .tup [.int (1), .int (1)]], .tup [.tup [.int (1), .int (1)], .tup [.int (-1), .int (1)]]], .tup [.tup [.int (0), .int (1)]], .tup []], .ans (.tup [.int (0), .int (1)])), ([.tup [.tup [.tup [.int (1), .int (1)], .tup [.int (2), .int (1)], .tup [.int (3), .int (1)], .tup [.int (4), .int (1)], .tup [.int (5), .int (1)]], .tup [.tup [.int (1), .int (1)], .tup [.int (0), .int (1)], .tup [.int (0), .int (1)], .tup [.int (0), .int (1)], .tup [.int (0), .int (1)]]], .tup [.tup [.int (1), .int (1)], .tup [.int (2), .int (1)], .tup [.int (0), .int (1)], .tup [.int (-1), .int (1)]], .tup [.tup [.int (1), .int (1)], .tup [.int (2), .int (1)]]], .ans (.tup [.int (34), .int (1)]))]
theorem kn_work_of_0 : okIs (M_work_of [.tup [.tup [.tup [.int (1), .int (1)], .tup [.int (1), .int (1)]], .tup [.tup [.int (1), .int (1)], .tup [.int (-1), .int (1)]]], .tup [.tup [.int (0), .int (1)]], .tup [.tup [.int (1), .int (1)], .tup [.int (1), .int (1)]]] L0) (.ans (.tup [.int (4), .int (1)])) = true := by decide +kernel
theorem kn_work_of_1 : okIs (M_work_of [.tup [.tup [.tup [.int (1), .int (1)], .tup [.int (1), .int (1)]], .tup [.tup [.int (1), .int (1)], .tup [.int (-1), .int (1)]]], .tup [.tup [.int (1), .int (1)]], .tup [.tup [.int (-1), .int (1)]]] L0) (.ans (.tup [.int (-1), .int (1)])) = true := by decide +kernel
theorem kn_work_of_2 : okIs (M_work_of [.tup [.tup [.tup [.int (1), .int (1)], .tup [.int (1), .int (1)]], .tup [.tup [.int (1), .int (1)], .tup [.int (-1), .int (1)]]], .tup [.tup [.int (1), .int (2)]], .tup [.tup [.int (1), .int (1)], .tup [.int (-1), .int (1)], .tup [.int (-1), .int (2)]]] L0) (.ans (.tup [.int (-1), .int (4)])) = true := by decide +kernel
theorem kn_work_of_3 : okIs (M_work_of [.tup [.tup [.tup [.int (1), .int (2)]], .tup [.tup [.int (1), .int (1)]]], .tup [], .tup [.tup [.int (1), .int (1)], .tup [.int (2), .int (1)]]] L0) (.ans (.tup [.int (5), .int (2)])) = true := by decide +kernel
theorem kn_work_of_4 : okIs (M_work_of [.tup [.tup [.tup [.int (3), .int (2)], .tup [.int (-1), .int (2)]], .tup [.tup [.int (1), .int (1)], .tup [.int (1), .int (1)]]], .tup [.tup [.int (1), .int (1)]], .tup [.tup [.int (0), .int (1)], .tup [.int (0), .int (1)]]] L0) (.ans (.tup [.int (0), .int (1)])) = true := by decide +kernel
theorem kn_work_of_5 : okIs (M_work_of [.tup [.tup [.tup [.int (1), .int (1)], .tup [.int (1), .int (1)]], .tup [.tup [.int (1), .int (1)], .tup [.int (-1), .int (1)]]], .tup [.tup [.int (0), .int (1)]], .tup []] L0) (.ans (.tup [.int (0), .int (1)])) = true := by decide +kernel
theorem kn_work_of_6 : okIs (M_work_of [.tup [.tup [.tup [.int (1), .int (1)], .tup [.int (2), .int (1)], .tup [.int (3), .int (1)], .tup [.int (4), .int (1)], .tup [.int (5), .int (1)]], .tup [.tup [.int (1), .int (1)], .tup [.int (0), .int (1)], .tup [.int (0), .int (1)], .tup [.int (0), .int (1)], .tup [.int (0), .int (1)]]], .tup [.tup [.int (1), .int (1)], .tup [.int (2), .int (1)], .tup [.int (0), .int (1)], .tup [.int (-1), .int (1)]], .tup [.tup [.int (1), .int (1)], .tup [.int (2), .int (1)]]] L0) (.ans (.tup [.int (34), .int (1)])) = true := by decide +kernel
theorem kt_work_of : KT M_work_of T_work_of := by unfold T_work_of; exact ⟨kn_work_of_0, kn_work_of_1, kn_work_of_2, kn_work_of_3, kn_work_of_4, kn_work_of_5, kn_work_of_6, trivial⟩
theorem fo_work_of {P : Program} {w : World} {K : PySem.W.Frag} {mg : Str → Option Value} {base : Heap} (G : Gf K mg) (h_taken_small : Kn P w K mg base (pm K) 8 "taken_small" 1 M_taken_small) (h_dot : Kn P w K mg base (pm K) 2 "dot" 2 M_dot) (h_taken_cells : Kn P w K mg base (pm K) 10 "taken_cells" 2 M_taken_cells) (h_taken_row : Kn P w K mg base (pm K) 8 "taken_row" 1 M_taken_row) (h_moved : Kn P w K mg base (pm K) 5 "moved" 3 M_moved) {fd : FuncData} (F : FunD K "work_of" "work_of" (defArgs (top 63)) (defBody (top 63)) (defScope (top 63)) [] [] (He.ga K "work_of") fd) : FnOk P w K mg base (L2.CX P w) 11 (He.ga K "work_of") fd ["box", "cells", "pushes"] (spM (pm K) 3 M_work_of) := by
  refine fn_ok (k := 10) (N := N_work_of) (tl := [none, none, none]) (b := sSeq (sSet 3 (mCall 1 M_taken_small (mCons (mV 0) (mNil)))) (sSeq (sPar 4 5 (mCons (mCall 2 M_taken_cells (mCons (mV 1) (mCons (mV 3) (mNil)))) (mCons (mCall 1 M_taken_row (mCons (mV 2) (mNil))) (mNil)))) (sRet (mCall 2 M_dot (mCons (mV 5) (mCons (m2 oIx (mCall 3 M_moved (mCons (mV 3) (mCons (mV 4) (mCons (mV 5) (mNil))))) (mC (.int 0))) (mNil))))))) F sc_work_of rfl rfl (fun cdv A outer s H E hr => ?_)
  have nd : N_work_of.Nodup := sc_work_of.nd
  have tk : Takes (cxOf (L2.CX P w) P w K mg base N_work_of "work_of" (defScope (top 63)) (He.ga K "work_of") cdv A outer s H E) (fun cls d _ H' => E cls d H') := takes_of rfl rfl rfl rfl
  have po : PassesOwn (model P w) (cxOf (L2.CX P w) P w K mg base N_work_of "work_of" (defScope (top 63)) (He.ga K "work_of") cdv A outer s H E).A (cxOf (L2.CX P w) P w K mg base N_work_of "work_of" (defScope (top 63)) (He.ga K "work_of") cdv A outer s H E).env (cxOf (L2.CX P w) P w K mg base N_work_of "work_of" (defScope (top 63)) (He.ga K "work_of") cdv A outer s H E).xe := passes_of (X := cxOf (L2.CX P w) P w K mg base N_work_of "work_of" (defScope (top 63)) (He.ga K "work_of") cdv A outer s H E) rfl
  exact (es_cons (s_set nd (ee_call h_taken_small hr (by decide) tk (ea_cons (ee_var 0 (pv 0)) ea_nil)))
    (es_cons (s_par rfl nd (ea_cons (ee_call h_taken_cells hr (by decide) tk (ea_cons (ee_var 1 (pv 1)) (ea_cons (ee_var 3 (pv 3)) ea_nil))) (ea_cons (ee_call h_taken_row hr (by decide) tk (ea_cons (ee_var 2 (pv 2)) ea_nil)) ea_nil)) (by decide))
    (es_one (es_ret (ee_call h_dot hr (by decide) tk (ea_cons (ee_var 5 (pv 5)) (ea_cons (b_ix rfl (ee_call h_moved hr (by decide) tk (ea_cons (ee_var 3 (pv 3)) (ea_cons (ee_var 4 (pv 4)) (ea_cons (ee_var 5 (pv 5)) ea_nil)))) ee_int) ea_nil)))))))
theorem ok_work_of {P : Program} {w : World} {K : PySem.W.Frag} {mg : Str → Option Value} {base : Heap} (G : Gf K mg) (h_taken_small : Kn P w K mg base (pm K) 8 "taken_small" 1 M_taken_small) (h_dot : Kn P w K mg base (pm K) 2 "dot" 2 M_dot) (h_taken_cells : Kn P w K mg base (pm K) 10 "taken_cells" 2 M_taken_cells) (h_taken_row : Kn P w K mg base (pm K) 8 "taken_row" 1 M_taken_row) (h_moved : Kn P w K mg base (pm K) 5 "moved" 3 M_moved) : Kn P w K mg base (pm K) 11 "work_of" 3 M_work_of := by
  obtain ⟨fd, F⟩ := G.d_work_of
  exact ⟨_, fd, _, fo_work_of G h_taken_small h_dot h_taken_cells h_taken_row h_moved  F, G.a_work_of, F.kp, (F.bindsN fun _ _ _ _ _ _ us hl => match us, hl with | [_, _, _], _ => rfl)⟩
abbrev N_plus : List Str := ["x", "y"]
theorem sc_plus : FnScope N_plus ["x", "y"] (defScope (top 10)) := ⟨rfl, rfl, rfl, by decide +kernel, rfl, by decide +kernel, by decide +kernel⟩
noncomputable def M_plus : Fn' := fnM [] (sRet (mCall 2 M_reduced (mCons (m2 oAdd (m2 oMul (m2 oIx (mV 0) (mC (.int 0))) (m2 oIx (mV 1) (mC (.int 1)))) (m2 oMul (m2 oIx (mV 1) (mC (.int 0))) (m2 oIx (mV 0) (mC (.int 1))))) (mCons (m2 oMul (m2 oIx (mV 0) (mC (.int 1))) (m2 oIx (mV 1) (mC (.int 1)))) (mNil)))))
theorem fo_plus {P : Program} {w : World} {K : PySem.W.Frag} {mg : Str → Option Value} {base : Heap} (G : Gf K mg) (h_reduced : Kn P w K mg base (pm K) 1 "reduced" 2 M_reduced) {fd : FuncData} (F : FunD K "plus" "plus" (defArgs (top 10)) (defBody (top 10)) (defScope (top 10)) [] [] (He.ga K "plus") fd) : FnOk P w K mg base (L2.CX P w) 2 (He.ga K "plus") fd ["x", "y"] (spM (pm K) 2 M_plus) := by
  refine fn_ok (k := 1) (N := N_plus) (tl := []) (b := sRet (mCall 2 M_reduced (mCons (m2 oAdd (m2 oMul (m2 oIx (mV 0) (mC (.int 0))) (m2 oIx (mV 1) (mC (.int 1)))) (m2 oMul (m2 oIx (mV 1) (mC (.int 0))) (m2 oIx (mV 0) (mC (.int 1))))) (mCons (m2 oMul (m2 oIx (mV 0) (mC (.int 1))) (m2 oIx (mV 1) (mC (.int 1)))) (mNil))))) F sc_plus rfl rfl (fun cdv A outer s H E hr => ?_)
  have nd : N_plus.Nodup := sc_plus.nd
  have tk : Takes (cxOf (L2.CX P w) P w K mg base N_plus "plus" (defScope (top 10)) (He.ga K "plus") cdv A outer s H E) (fun cls d _ H' => E cls d H') := takes_of rfl rfl rfl rfl
  have po : PassesOwn (model P w) (cxOf (L2.CX P w) P w K mg base N_plus "plus" (defScope (top 10)) (He.ga K "plus") cdv A outer s H E).A (cxOf (L2.CX P w) P w K mg base N_plus "plus" (defScope (top 10)) (He.ga K "plus") cdv A outer s H E).env (cxOf (L2.CX P w) P w K mg base N_plus "plus" (defScope (top 10)) (He.ga K "plus") cdv A outer s H E).xe := passes_of (X := cxOf (L2.CX P w) P w K mg base N_plus "plus" (defScope (top 10)) (He.ga K "plus") cdv A outer s H E) rfl
  exact (es_one (es_ret (ee_call h_reduced hr (by decide) tk (ea_cons (b_add rfl (b_mul rfl (b_ix rfl (ee_var 0 (pv 0)) ee_int) (b_ix rfl (ee_var 1 (pv 1)) ee_int)) (b_mul rfl (b_ix rfl (ee_var 1 (pv 1)) ee_int) (b_ix rfl (ee_var 0 (pv 0)) ee_int))) (ea_cons (b_mul rfl (b_ix rfl (ee_var 0 (pv 0)) ee_int) (b_ix rfl (ee_var 1 (pv 1)) ee_int)) ea_nil)))))
theorem ok_plus {P : Program} {w : World} {K : PySem.W.Frag} {mg : Str → Option Value} {base : Heap} (G : Gf K mg) (h_reduced : Kn P w K mg base (pm K) 1 "reduced" 2 M_reduced) : Kn P w K mg base (pm K) 2 "plus" 2 M_plus := by
  obtain ⟨fd, F⟩ := G.d_plus
  exact ⟨_, fd, _, fo_plus G h_reduced  F, G.a_plus, F.kp, (F.bindsN fun _ _ _ _ _ _ us hl => match us, hl with | [_, _], _ => rfl)⟩
abbrev N_work_sums : List Str := ["box", "cells", "pushes", "own", "out", "work", "start", "row", "push", "answer"]
theorem sc_work_sums : FnScope N_work_sums ["box", "cells", "pushes"] (defScope (top 64)) := ⟨rfl, rfl, rfl, by decide +kernel, rfl, by decide +kernel, by decide +kernel⟩
noncomputable def M_work_sums : Fn' := fnM [none, none, none, none, none, none, none] (sSeq (sSet 3 (mCall 1 M_taken_small (mCons (mV 0) (mNil)))) (sSeq (sPar 6 7 (mCons (mCall 2 M_taken_cells (mCons (mV 1) (mCons (mV 3) (mNil)))) (mCons (mCall 1 M_taken_row (mCons (mV 2) (mNil))) (mNil)))) (sSeq (sSet 4 (mN oLst (mNil))) (sSeq (sSet 5 (mC (.tup [.int (0), .int (1)]))) (sSeq (sFor (zipW (mCons (mV 7) (mCons (m2 oIx (mCall 3 M_moved (mCons (mV 3) (mCons (mV 6) (mCons (mV 7) (mNil))))) (mC (.int 0))) (mNil)))) nfW (gTL 2 (gCn (gNm 8) (gCn (gNm 9) (gNl)))) (sSeq (sSet 5 (mCall 2 M_plus (mCons (mV 5) (mCons (mCall 2 M_mult (mCons (mV 8) (mCons (mV 9) (mNil)))) (mNil))))) (sEx (mMethL (mV 4) (mCons (mV 5) (mNil)) oApp)))) (sRet (mN oTuple (mCons (mV 4) (mNil)))))))))
noncomputable def T_work_sums : List (List D × Kw) := [([.tup [.tup [.tup [.int (0), .int (1)], .tup [.int (1), .int (1)]], .tup [.tup [.int (1), .int (1)], .tup [.int (0), .int (1)]]], .tup [.tup [.int (0), .int (1)]], .tup [.tup [.int (1), .int (1)], .tup [.int (-1), .int (1)], .tup [.int (0), .int (1)]]], .ans (.tup [.tup [.int (0), .int (1)], .tup [.int (-1), .int (1)], .tup [.int (-1), .int (1)]])), ([.tup [.tup [.tup [.int (0), .int (1)], .tup [.int (1), .int (1)]], .tup [.tup [.int (1), .int (1)], .tup [.int (0), .int (1)]]], .tup [.tup [.int (5), .int (1)]], .tup [.tup [.int (2), .int (1)], .tup [.int (1), .int (3)]]], .ans (.tup [.tup [.int (10), .int (1)], .tup [.int (32), .int (3)]])), ([.tup [.tup [.tup [.int (1), .int (2)]], .tup [.tup [.int (1), .int (1)]]], .tup [], .tup []], .ans (.tup [])), ([.tup [.tup [.tup [.int (3), .int (2)], .tup [.int (-1), .int (2)]], .tup [.tup [.int (1), .int (1)], .tup [.int (1), .int (1)]]], .tup [.tup [.int (0), .int (1)]], .tup [.tup [.int (1), .int (1)], .tup [.int (1), .int (1)], .tup [.int (-1), .int (1)]]], .ans (.tup [.tup [.int (3), .int (2)], .tup [.int (1), .int (1)], .tup [.int (5), .int (2)]])), ([.tup [.tup [.tup [.int (1), .int (1)], .tup [.int (2), .int (1)], .tup [.int (3), .int (1)], .tup [.int (4), .int (1)], .tup [.int (5), .int (1)]], .tup [.tup [.int (1), .int (1)], .tup [.int (0), .int (1)], .tup [.int (0), .int (1)], .tup [.int (0), .int (1)], .tup [.int (0), .int (1)]]], .tup [.tup [.int (0), .int (1)], .tup [.int (0), .int (1)], .tup [.int (0), .int (1)], .tup [.int (0), .int (1)]], .tup [.tup [.int (1), .int (1)], .tup [.int (0), .int (1)], .tup [.int (-1), .int (1)], .tup [.int (2), .int (1)], .tup [.int (1), .int (1)], .tup [.int (-1), .int (1)], .tup [.int (0), .int (1)], .tup [.int (1), .int (1)], .tup [.int (1), .int (1)]]], .ans (.tup [.tup [.int (1), .int (1)], .tup [.int (1), .int (1)], .tup [.int (-1), .int (1)], .tup [.int (7), .int (1)], .tup [.int (14), .int (1)], .tup [.int (11), .int (1)], .tup [.int (11), .int (1)], .tup [.int (23), .int (1)], .tup [.int (27), .int (1)]]))]
theorem kn_work_sums_0 : okIs (M_work_sums [.tup [.tup [.tup [.int (0), .int (1)], .tup [.int (1), .int (1)]], .tup [.tup [.int (1), .int (1)], .tup [.int (0), .int (1)]]], .tup [.tup [.int (0), .int (1)]], .tup [.tup [.int (1), .int (1)], .tup [.int (-1), .int (1)], .tup [.int (0), .int (1)]]] L0) (.ans (.tup [.tup [.int (0), .int (1)], .tup [.int (-1), .int (1)], .tup [.int (-1), .int (1)]])) = true := by decide +kernel
theorem kn_work_sums_1 : okIs (M_work_sums [.tup [.tup [.tup [.int (0), .int (1)], .tup [.int (1), .int (1)]], .tup [.tup [.int (1), .int (1)], .tup [.int (0), .int (1)]]], .tup [.tup [.int (5), .int (1)]], .tup [.tup [.int (2), .int (1)], .tup [.int (1), .int (3)]]] L0) (.ans (.tup [.tup [.int (10), .int (1)], .tup [.int (32), .int (3)]])) = true := by decide +kernel
theorem kn_work_sums_2 : okIs (M_work_sums [.tup [.tup [.tup [.int (1), .int (2)]], .tup [.tup [.int (1), .int (1)]]], .tup [], .tup []] L0) (.ans (.tup [])) = true := by decide +kernel
theorem kn_work_sums_3 : okIs (M_work_sums [.tup [.tup [.tup [.int (3), .int (2)], .tup [.int (-1), .int (2)]], .tup [.tup [.int (1), .int (1)], .tup [.int (1), .int (1)]]], .tup [.tup [.int (0), .int (1)]], .tup [.tup [.int (1), .int (1)], .tup [.int (1), .int (1)], .tup [.int (-1), .int (1)]]] L0) (.ans (.tup [.tup [.int (3), .int (2)], .tup [.int (1), .int (1)], .tup [.int (5), .int (2)]])) = true := by decide +kernel
theorem kn_work_sums_4 : okIs (M_work_sums [.tup [.tup [.tup [.int (1), .int (1)], .tup [.int (2), .int (1)], .tup [.int (3), .int (1)], .tup [.int (4), .int (1)], .tup [.int (5), .int (1)]], .tup [.tup [.int (1), .int (1)], .tup [.int (0), .int (1)], .tup [.int (0), .int (1)], .tup [.int (0), .int (1)], .tup [.int (0), .int (1)]]], .tup [.tup [.int (0), .int (1)], .tup [.int (0), .int (1)], .tup [.int (0), .int (1)], .tup [.int (0), .int (1)]], .tup [.tup [.int (1), .int (1)], .tup [.int (0), .int (1)], .tup [.int (-1), .int (1)], .tup [.int (2), .int (1)], .tup [.int (1), .int (1)], .tup [.int (-1), .int (1)], .tup [.int (0), .int (1)], .tup [.int (1), .int (1)], .tup [.int (1), .int (1)]]] L0) (.ans (.tup [.tup [.int (1), .int (1)], .tup [.int (1), .int (1)], .tup [.int (-1), .int (1)], .tup [.int (7), .int (1)], .tup [.int (14), .int (1)], .tup [.int (11), .int (1)], .tup [.int (11), .int (1)], .tup [.int (23), .int (1)], .tup [.int (27), .int (1)]])) = true := by decide +kernel
theorem kt_work_sums : KT M_work_sums T_work_sums := by unfold T_work_sums; exact ⟨kn_work_sums_0, kn_work_sums_1, kn_work_sums_2, kn_work_sums_3, kn_work_sums_4, trivial⟩
theorem fo_work_sums {P : Program} {w : World} {K : PySem.W.Frag} {mg : Str → Option Value} {base : Heap} (G : Gf K mg) (h_taken_small : Kn P w K mg base (pm K) 8 "taken_small" 1 M_taken_small) (h_taken_cells : Kn P w K mg base (pm K) 10 "taken_cells" 2 M_taken_cells) (h_taken_row : Kn P w K mg base (pm K) 8 "taken_row" 1 M_taken_row) (h_plus : Kn P w K mg base (pm K) 2 "plus" 2 M_plus) (h_moved : Kn P w K mg base (pm K) 5 "moved" 3 M_moved) (h_mult : Kn P w K mg base (pm K) 2 "mult" 2 M_mult) {fd : FuncData} (F : FunD K "work_sums" "work_sums" (defArgs (top 64)) (defBody (top 64)) (defScope (top 64)) [] [] (He.ga K "work_sums") fd) : FnOk P w K mg base (L2.CX P w) 11 (He.ga K "work_sums") fd ["box", "cells", "pushes"] (spM (pm K) 3 M_work_sums) := by
  refine fn_ok (k := 10) (N := N_work_sums) (tl := [none, none, none, none, none, none, none]) (b := sSeq (sSet 3 (mCall 1 M_taken_small (mCons (mV 0) (mNil)))) (sSeq (sPar 6 7 (mCons (mCall 2 M_taken_cells (mCons (mV 1) (mCons (mV 3) (mNil)))) (mCons (mCall 1 M_taken_row (mCons (mV 2) (mNil))) (mNil)))) (sSeq (sSet 4 (mN oLst (mNil))) (sSeq (sSet 5 (mC (.tup [.int (0), .int (1)]))) (sSeq (sFor (zipW (mCons (mV 7) (mCons (m2 oIx (mCall 3 M_moved (mCons (mV 3) (mCons (mV 6) (mCons (mV 7) (mNil))))) (mC (.int 0))) (mNil)))) nfW (gTL 2 (gCn (gNm 8) (gCn (gNm 9) (gNl)))) (sSeq (sSet 5 (mCall 2 M_plus (mCons (mV 5) (mCons (mCall 2 M_mult (mCons (mV 8) (mCons (mV 9) (mNil)))) (mNil))))) (sEx (mMethL (mV 4) (mCons (mV 5) (mNil)) oApp)))) (sRet (mN oTuple (mCons (mV 4) (mNil))))))))) F sc_work_sums rfl rfl (fun cdv A outer s H E hr => ?_)
  have nd : N_work_sums.Nodup := sc_work_sums.nd
  have tk : Takes (cxOf (L2.CX P w) P w K mg base N_work_sums "work_sums" (defScope (top 64)) (He.ga K "work_sums") cdv A outer s H E) (fun cls d _ H' => E cls d H') := takes_of rfl rfl rfl rfl
  have po : PassesOwn (model P w) (cxOf (L2.CX P w) P w K mg base N_work_sums "work_sums" (defScope (top 64)) (He.ga K "work_sums") cdv A outer s H E).A (cxOf (L2.CX P w) P w K mg base N_work_sums "work_sums" (defScope (top 64)) (He.ga K "work_sums") cdv A outer s H E).env (cxOf (L2.CX P w) P w K mg base N_work_sums "work_sums" (defScope (top 64)) (He.ga K "work_sums") cdv A outer s H E).xe := passes_of (X := cxOf (L2.CX P w) P w K mg base N_work_sums "work_sums" (defScope (top 64)) (He.ga K "work_sums") cdv A outer s H E) rfl
  exact (es_cons (s_set nd (ee_call h_taken_small hr (by decide) tk (ea_cons (ee_var 0 (pv 0)) ea_nil)))
    (es_cons (s_par rfl nd (ea_cons (ee_call h_taken_cells hr (by decide) tk (ea_cons (ee_var 1 (pv 1)) (ea_cons (ee_var 3 (pv 3)) ea_nil))) (ea_cons (ee_call h_taken_row hr (by decide) tk (ea_cons (ee_var 2 (pv 2)) ea_nil)) ea_nil)) (by decide))
    (es_cons (s_set nd (ee_lst ea_nil))
    (es_cons (s_set nd (ee_const (v := .ref (He.ga K "ZERO")) G.z_ZERO G.m_ZERO rfl))
    (es_cons (es_for po rfl (ei_zipW rfl G.b_zip (ea_cons (ee_var 7 (pv 7)) (ea_cons (b_ix rfl (ee_call h_moved hr (by decide) tk (ea_cons (ee_var 3 (pv 3)) (ea_cons (ee_var 6 (pv 6)) (ea_cons (ee_var 7 (pv 7)) ea_nil)))) ee_int) ea_nil))) (eg_tl rfl rfl (egs_cons (eg_name (g_name nd)) (egs_cons (eg_name (g_name nd)) egs_nil))) (es_cons (s_set nd (ee_call h_plus hr (by decide) tk (ea_cons (ee_var 5 (pv 5)) (ea_cons (ee_call h_mult hr (by decide) tk (ea_cons (ee_var 8 (pv 8)) (ea_cons (ee_var 9 (pv 9)) ea_nil))) ea_nil))))
    (es_one (es_ex (ee_append (ee_var 4 (pv 4)) (ea_cons (ee_var 5 (pv 5)) ea_nil))))))
    (es_one (es_ret (f_tuple rfl G.b_tuple (ea_cons (ee_var 4 (pv 4)) ea_nil)))))))))
theorem ok_work_sums {P : Program} {w : World} {K : PySem.W.Frag} {mg : Str → Option Value} {base : Heap} (G : Gf K mg) (h_taken_small : Kn P w K mg base (pm K) 8 "taken_small" 1 M_taken_small) (h_taken_cells : Kn P w K mg base (pm K) 10 "taken_cells" 2 M_taken_cells) (h_taken_row : Kn P w K mg base (pm K) 8 "taken_row" 1 M_taken_row) (h_plus : Kn P w K mg base (pm K) 2 "plus" 2 M_plus) (h_moved : Kn P w K mg base (pm K) 5 "moved" 3 M_moved) (h_mult : Kn P w K mg base (pm K) 2 "mult" 2 M_mult) : Kn P w K mg base (pm K) 11 "work_sums" 3 M_work_sums := by
  obtain ⟨fd, F⟩ := G.d_work_sums
  exact ⟨_, fd, _, fo_work_sums G h_taken_small h_taken_cells h_taken_row h_plus h_moved h_mult  F, G.a_work_sums, F.kp, (F.bindsN fun _ _ _ _ _ _ us hl => match us, hl with | [_, _, _], _ => rfl)⟩
abbrev N_taken_heard : List Str := ["value", "kept"]
theorem sc_taken_heard : FnScope N_taken_heard ["value"] (defScope (top 56)) := ⟨rfl, rfl, rfl, by decide +kernel, rfl, by decide +kernel, by decide +kernel⟩
noncomputable def M_taken_heard : Fn' := fnM [none] (sSeq (sSet 1 (mCall 1 M_taken_row (mCons (mV 0) (mNil)))) (sSeq (sIf (mNotB (mTru (mV 1))) (sRaise 0) (sNil)) (sRet (mV 1))))
theorem fo_taken_heard {P : Program} {w : World} {K : PySem.W.Frag} {mg : Str → Option Value} {base : Heap} (G : Gf K mg) (h_taken_row : Kn P w K mg base (pm K) 8 "taken_row" 1 M_taken_row) {fd : FuncData} (F : FunD K "taken_heard" "taken_heard" (defArgs (top 56)) (defBody (top 56)) (defScope (top 56)) [] [] (He.ga K "taken_heard") fd) : FnOk P w K mg base (L2.CX P w) 9 (He.ga K "taken_heard") fd ["value"] (spM (pm K) 1 M_taken_heard) := by
  refine fn_ok (k := 8) (N := N_taken_heard) (tl := [none]) (b := sSeq (sSet 1 (mCall 1 M_taken_row (mCons (mV 0) (mNil)))) (sSeq (sIf (mNotB (mTru (mV 1))) (sRaise 0) (sNil)) (sRet (mV 1)))) F sc_taken_heard rfl rfl (fun cdv A outer s H E hr => ?_)
  have nd : N_taken_heard.Nodup := sc_taken_heard.nd
  have tk : Takes (cxOf (L2.CX P w) P w K mg base N_taken_heard "taken_heard" (defScope (top 56)) (He.ga K "taken_heard") cdv A outer s H E) (fun cls d _ H' => E cls d H') := takes_of rfl rfl rfl rfl
  have po : PassesOwn (model P w) (cxOf (L2.CX P w) P w K mg base N_taken_heard "taken_heard" (defScope (top 56)) (He.ga K "taken_heard") cdv A outer s H E).A (cxOf (L2.CX P w) P w K mg base N_taken_heard "taken_heard" (defScope (top 56)) (He.ga K "taken_heard") cdv A outer s H E).env (cxOf (L2.CX P w) P w K mg base N_taken_heard "taken_heard" (defScope (top 56)) (He.ga K "taken_heard") cdv A outer s H E).xe := passes_of (X := cxOf (L2.CX P w) P w K mg base N_taken_heard "taken_heard" (defScope (top 56)) (He.ga K "taken_heard") cdv A outer s H E) rfl
  exact (es_cons (s_set nd (ee_call h_taken_row hr (by decide) tk (ea_cons (ee_var 0 (pv 0)) ea_nil)))
    (es_cons (es_if (et_not (et_tru rfl (ee_var 1 (pv 1)))) (es_one (es_raise rfl tk G.x_Unfit)) es_nil)
    (es_one (es_ret (ee_var 1 (pv 1))))))
theorem ok_taken_heard {P : Program} {w : World} {K : PySem.W.Frag} {mg : Str → Option Value} {base : Heap} (G : Gf K mg) (h_taken_row : Kn P w K mg base (pm K) 8 "taken_row" 1 M_taken_row) : Kn P w K mg base (pm K) 9 "taken_heard" 1 M_taken_heard := by
  obtain ⟨fd, F⟩ := G.d_taken_heard
  exact ⟨_, fd, _, fo_taken_heard G h_taken_row  F, G.a_taken_heard, F.kp, (F.bindsN fun _ _ _ _ _ _ us hl => match us, hl with | [_], _ => rfl)⟩
abbrev N_work_by_table : List Str := ["heard", "pushes", "answers", "told", "row", "k"]
theorem sc_work_by_table : FnScope N_work_by_table ["heard", "pushes"] (defScope (top 68)) := ⟨rfl, rfl, rfl, by decide +kernel, rfl, by decide +kernel, by decide +kernel⟩
noncomputable def M_work_by_table : Fn' := fnM [none, none, none, none] (sSeq (sAs (mN oTup (mCons (mCall 1 M_taken_heard (mCons (mV 0) (mNil))) (mCons (mCall 1 M_taken_row (mCons (mV 1) (mNil))) (mNil)))) (gEnd (gTL 2 (gCn (gNm 3) (gCn (gNm 4) (gNl)))))) (sSeq (sIf (m2 oGt (mN oLen (mCons (mV 4) (mNil))) (mN oLen (mCons (mV 3) (mNil)))) (sRaise 0) (sNil)) (sSeq (sSet 2 (mLc (rng1 (mCons (mN oLen (mCons (mV 4) (mNil))) (mNil))) nfR (gNm 5) (mYes) (mCall 2 M_dot (mCons (mSl (mV 4) (mC .non) (mPart (m2 oAdd (mV 5) (mC (.int 1))))) (mCons (mBack (mSl (mV 3) (mC .non) (mPart (m2 oAdd (mV 5) (mC (.int 1)))))) (mNil)))) [5])) (sRet (mCall 2 M_dot (mCons (mV 4) (mCons (mN oTuple (mCons (mV 2) (mNil))) (mNil))))))))
noncomputable def T_work_by_table : List (List D × Kw) := [([.tup [.tup [.int (1), .int (1)], .tup [.int (2), .int (1)], .tup [.int (2), .int (1)]], .tup [.tup [.int (1), .int (1)], .tup [.int (-1), .int (1)]]], .ans (.tup [.int (0), .int (1)])), ([.tup [.tup [.int (1), .int (1)], .tup [.int (2), .int (1)], .tup [.int (2), .int (1)]], .tup [.tup [.int (1), .int (1)], .tup [.int (1), .int (1)], .tup [.int (1), .int (1)]]], .ans (.tup [.int (9), .int (1)])), ([.tup [.tup [.int (-1), .int (1)]], .tup [.tup [.int (1), .int (2)]]], .ans (.tup [.int (-1), .int (4)])), ([.tup [.tup [.int (-1), .int (1)]], .tup []], .ans (.tup [.int (0), .int (1)]))]
theorem kn_work_by_table_0 : okIs (M_work_by_table [.tup [.tup [.int (1), .int (1)], .tup [.int (2), .int (1)], .tup [.int (2), .int (1)]], .tup [.tup [.int (1), .int (1)], .tup [.int (-1), .int (1)]]] L0) (.ans (.tup [.int (0), .int (1)])) = true := by decide +kernel
theorem kn_work_by_table_1 : okIs (M_work_by_table [.tup [.tup [.int (1), .int (1)], .tup [.int (2), .int (1)], .tup [.int (2), .int (1)]], .tup [.tup [.int (1), .int (1)], .tup [.int (1), .int (1)], .tup [.int (1), .int (1)]]] L0) (.ans (.tup [.int (9), .int (1)])) = true := by decide +kernel
theorem kn_work_by_table_2 : okIs (M_work_by_table [.tup [.tup [.int (-1), .int (1)]], .tup [.tup [.int (1), .int (2)]]] L0) (.ans (.tup [.int (-1), .int (4)])) = true := by decide +kernel
theorem kn_work_by_table_3 : okIs (M_work_by_table [.tup [.tup [.int (-1), .int (1)]], .tup []] L0) (.ans (.tup [.int (0), .int (1)])) = true := by decide +kernel
theorem kt_work_by_table : KT M_work_by_table T_work_by_table := by unfold T_work_by_table; exact ⟨kn_work_by_table_0, kn_work_by_table_1, kn_work_by_table_2, kn_work_by_table_3, trivial⟩
theorem fo_work_by_table {P : Program} {w : World} {K : PySem.W.Frag} {mg : Str → Option Value} {base : Heap} (G : Gf K mg) (h_dot : Kn P w K mg base (pm K) 2 "dot" 2 M_dot) (h_taken_heard : Kn P w K mg base (pm K) 9 "taken_heard" 1 M_taken_heard) (h_taken_row : Kn P w K mg base (pm K) 8 "taken_row" 1 M_taken_row) {fd : FuncData} (F : FunD K "work_by_table" "work_by_table" (defArgs (top 68)) (defBody (top 68)) (defScope (top 68)) [] [] (He.ga K "work_by_table") fd) : FnOk P w K mg base (L2.CX P w) 10 (He.ga K "work_by_table") fd ["heard", "pushes"] (spM (pm K) 2 M_work_by_table) := by
  refine fn_ok (k := 9) (N := N_work_by_table) (tl := [none, none, none, none]) (b := sSeq (sAs (mN oTup (mCons (mCall 1 M_taken_heard (mCons (mV 0) (mNil))) (mCons (mCall 1 M_taken_row (mCons (mV 1) (mNil))) (mNil)))) (gEnd (gTL 2 (gCn (gNm 3) (gCn (gNm 4) (gNl)))))) (sSeq (sIf (m2 oGt (mN oLen (mCons (mV 4) (mNil))) (mN oLen (mCons (mV 3) (mNil)))) (sRaise 0) (sNil)) (sSeq (sSet 2 (mLc (rng1 (mCons (mN oLen (mCons (mV 4) (mNil))) (mNil))) nfR (gNm 5) (mYes) (mCall 2 M_dot (mCons (mSl (mV 4) (mC .non) (mPart (m2 oAdd (mV 5) (mC (.int 1))))) (mCons (mBack (mSl (mV 3) (mC .non) (mPart (m2 oAdd (mV 5) (mC (.int 1)))))) (mNil)))) [5])) (sRet (mCall 2 M_dot (mCons (mV 4) (mCons (mN oTuple (mCons (mV 2) (mNil))) (mNil)))))))) F sc_work_by_table rfl rfl (fun cdv A outer s H E hr => ?_)
  have nd : N_work_by_table.Nodup := sc_work_by_table.nd
  have tk : Takes (cxOf (L2.CX P w) P w K mg base N_work_by_table "work_by_table" (defScope (top 68)) (He.ga K "work_by_table") cdv A outer s H E) (fun cls d _ H' => E cls d H') := takes_of rfl rfl rfl rfl
  have po : PassesOwn (model P w) (cxOf (L2.CX P w) P w K mg base N_work_by_table "work_by_table" (defScope (top 68)) (He.ga K "work_by_table") cdv A outer s H E).A (cxOf (L2.CX P w) P w K mg base N_work_by_table "work_by_table" (defScope (top 68)) (He.ga K "work_by_table") cdv A outer s H E).env (cxOf (L2.CX P w) P w K mg base N_work_by_table "work_by_table" (defScope (top 68)) (He.ga K "work_by_table") cdv A outer s H E).xe := passes_of (X := cxOf (L2.CX P w) P w K mg base N_work_by_table "work_by_table" (defScope (top 68)) (He.ga K "work_by_table") cdv A outer s H E) rfl
  exact (es_cons (es_asg (ee_tup (ea_cons (ee_call h_taken_heard hr (by decide) tk (ea_cons (ee_var 0 (pv 0)) ea_nil)) (ea_cons (ee_call h_taken_row hr (by decide) tk (ea_cons (ee_var 1 (pv 1)) ea_nil)) ea_nil))) (eg_tl rfl rfl (egs_cons (eg_name (g_name nd)) (egs_cons (eg_name (g_name nd)) egs_nil))))
    (es_cons (es_if (t_gt rfl (f_len rfl G.b_len (ea_cons (ee_var 4 (pv 4)) ea_nil)) (f_len rfl G.b_len (ea_cons (ee_var 3 (pv 3)) ea_nil))) (es_one (es_raise rfl tk G.x_Unfit)) es_nil)
    (es_cons (es_setLc rfl nd rfl rfl (sw_true rfl rfl rfl (by decide +kernel)) (own := [("k", 5)]) (ei_rng1 G.b_range (ea_cons (f_len rfl G.b_len (ea_cons (ee_var 4 (pv 4)) ea_nil)) ea_nil)) (blkOk_by (N := N_work_by_table) (sc := defScope (top 68)) (by decide +kernel)) (fun _ _ _ _ _ => (ct_name (g_name nd) (by decide))) (fun _ _ _ _ _ => ets_nil) (fun _ _ _ _ _ => (ee_call h_dot hr (by decide) takes_blk (ea_cons (ee_sl rfl (ee_var 4 (pv 4)) eo_none (eo_some (b_add rfl (ee_var 5 (pv 5)) ee_int))) (ea_cons (ee_back rfl (ee_sl rfl (ee_var 3 (pv 3)) eo_none (eo_some (b_add rfl (ee_var 5 (pv 5)) ee_int)))) ea_nil)))))
    (es_one (es_ret (ee_call h_dot hr (by decide) tk (ea_cons (ee_var 4 (pv 4)) (ea_cons (f_tuple rfl G.b_tuple (ea_cons (ee_var 2 (pv 2)) ea_nil)) ea_nil))))))))
theorem ok_work_by_table {P : Program} {w : World} {K : PySem.W.Frag} {mg : Str → Option Value} {base : Heap} (G : Gf K mg) (h_dot : Kn P w K mg base (pm K) 2 "dot" 2 M_dot) (h_taken_heard : Kn P w K mg base (pm K) 9 "taken_heard" 1 M_taken_heard) (h_taken_row : Kn P w K mg base (pm K) 8 "taken_row" 1 M_taken_row) : Kn P w K mg base (pm K) 10 "work_by_table" 2 M_work_by_table := by
  obtain ⟨fd, F⟩ := G.d_work_by_table
  exact ⟨_, fd, _, fo_work_by_table G h_dot h_taken_heard h_taken_row  F, G.a_work_by_table, F.kp, (F.bindsN fun _ _ _ _ _ _ us hl => match us, hl with | [_, _], _ => rfl)⟩
abbrev N_table_of_echoes : List Str := ["heard", "row", "places", "i", "j"]
theorem sc_table_of_echoes : FnScope N_table_of_echoes ["heard"] (defScope (top 65)) := ⟨rfl, rfl, rfl, by decide +kernel, rfl, by decide +kernel, by decide +kernel⟩
noncomputable def M_table_of_echoes : Fn' := fnM [none, none, none, none] (sSeq (sSet 1 (mIf (mTru (mV 0)) (mN oTuple (mCons (m2 oAdd (mN oLst (mCons (mCall 2 M_plus (mCons (m2 oIx (mV 0) (mC (.int 0))) (mCons (m2 oIx (mV 0) (mC (.int 0))) (mNil)))) (mNil))) (mN oListX (mCons (mSl (mV 0) (mPart (mC (.int 1))) (mC .non)) (mNil)))) (mNil))) (mN oTup (mNil)))) (sSeq (sSet 2 (mN oRng1 (mCons (mN oLen (mCons (mV 1) (mNil))) (mNil)))) (sRet (mN oTuple (mCons (mLc (onlyA (mV 2)) nfA (gNm 3) (mYes) (mN oTuple (mCons (mLc (onlyA (mV 2)) nfA (gNm 4) (mYes) (m2 oIx (mV 1) (mN oAbs (mCons (m2 oSub (mV 3) (mV 4)) (mNil)))) [4]) (mNil))) [3]) (mNil))))))
theorem fo_table_of_echoes {P : Program} {w : World} {K : PySem.W.Frag} {mg : Str → Option Value} {base : Heap} (G : Gf K mg) (h_plus : Kn P w K mg base (pm K) 2 "plus" 2 M_plus) {fd : FuncData} (F : FunD K "table_of_echoes" "table_of_echoes" (defArgs (top 65)) (defBody (top 65)) (defScope (top 65)) [] [] (He.ga K "table_of_echoes") fd) : FnOk P w K mg base (L2.CX P w) 3 (He.ga K "table_of_echoes") fd ["heard"] (spM (pm K) 1 M_table_of_echoes) := by
  refine fn_ok (k := 2) (N := N_table_of_echoes) (tl := [none, none, none, none]) (b := sSeq (sSet 1 (mIf (mTru (mV 0)) (mN oTuple (mCons (m2 oAdd (mN oLst (mCons (mCall 2 M_plus (mCons (m2 oIx (mV 0) (mC (.int 0))) (mCons (m2 oIx (mV 0) (mC (.int 0))) (mNil)))) (mNil))) (mN oListX (mCons (mSl (mV 0) (mPart (mC (.int 1))) (mC .non)) (mNil)))) (mNil))) (mN oTup (mNil)))) (sSeq (sSet 2 (mN oRng1 (mCons (mN oLen (mCons (mV 1) (mNil))) (mNil)))) (sRet (mN oTuple (mCons (mLc (onlyA (mV 2)) nfA (gNm 3) (mYes) (mN oTuple (mCons (mLc (onlyA (mV 2)) nfA (gNm 4) (mYes) (m2 oIx (mV 1) (mN oAbs (mCons (m2 oSub (mV 3) (mV 4)) (mNil)))) [4]) (mNil))) [3]) (mNil)))))) F sc_table_of_echoes rfl rfl (fun cdv A outer s H E hr => ?_)
  have nd : N_table_of_echoes.Nodup := sc_table_of_echoes.nd
  have tk : Takes (cxOf (L2.CX P w) P w K mg base N_table_of_echoes "table_of_echoes" (defScope (top 65)) (He.ga K "table_of_echoes") cdv A outer s H E) (fun cls d _ H' => E cls d H') := takes_of rfl rfl rfl rfl
  have po : PassesOwn (model P w) (cxOf (L2.CX P w) P w K mg base N_table_of_echoes "table_of_echoes" (defScope (top 65)) (He.ga K "table_of_echoes") cdv A outer s H E).A (cxOf (L2.CX P w) P w K mg base N_table_of_echoes "table_of_echoes" (defScope (top 65)) (He.ga K "table_of_echoes") cdv A outer s H E).env (cxOf (L2.CX P w) P w K mg base N_table_of_echoes "table_of_echoes" (defScope (top 65)) (He.ga K "table_of_echoes") cdv A outer s H E).xe := passes_of (X := cxOf (L2.CX P w) P w K mg base N_table_of_echoes "table_of_echoes" (defScope (top 65)) (He.ga K "table_of_echoes") cdv A outer s H E) rfl
  exact (es_cons (s_set nd (ee_if (et_tru rfl (ee_var 0 (pv 0))) (f_tuple rfl G.b_tuple (ea_cons (b_add rfl (ee_lst (ea_cons (ee_call h_plus hr (by decide) tk (ea_cons (b_ix rfl (ee_var 0 (pv 0)) ee_int) (ea_cons (b_ix rfl (ee_var 0 (pv 0)) ee_int) ea_nil))) ea_nil)) (f_listX rfl rfl G.b_list (ea_cons (ee_sl rfl (ee_var 0 (pv 0)) (eo_some ee_int) eo_none) ea_nil))) ea_nil)) (ee_tup ea_nil)))
    (es_cons (s_set nd (f_range1 G.b_range (ea_cons (f_len rfl G.b_len (ea_cons (ee_var 1 (pv 1)) ea_nil)) ea_nil)))
    (es_one (es_ret (f_tuple rfl G.b_tuple (ea_cons (ee_lc rfl nd (own := [("i", 3)]) (ei_any rfl (ee_var 2 (pv 2))) (blkOk_by (N := N_table_of_echoes) (sc := defScope (top 65)) (by decide +kernel)) (fun _ _ _ _ _ => (ct_name (g_name nd) (by decide))) (fun _ _ _ _ _ => ets_nil) (fun _ _ _ _ _ => (f_tuple rfl G.b_tuple (ea_cons (ee_lc rfl nd (own := [("j", 4)]) (ei_any rfl (ee_var 2 (pv 2))) (blkOk_by (by kernel_rfl)) (fun _ _ _ _ _ => (ct_name (g_name nd) (by decide))) (fun _ _ _ _ _ => ets_nil) (fun _ _ _ _ _ => (b_ix rfl (ee_var 1 (pv 1)) (f_abs G.b_abs (ea_cons (b_sub rfl (ee_var 3 (pv 3)) (ee_var 4 (pv 4))) ea_nil))))) ea_nil)))) ea_nil))))))
theorem ok_table_of_echoes {P : Program} {w : World} {K : PySem.W.Frag} {mg : Str → Option Value} {base : Heap} (G : Gf K mg) (h_plus : Kn P w K mg base (pm K) 2 "plus" 2 M_plus) : Kn P w K mg base (pm K) 3 "table_of_echoes" 1 M_table_of_echoes := by
  obtain ⟨fd, F⟩ := G.d_table_of_echoes
  exact ⟨_, fd, _, fo_table_of_echoes G h_plus  F, G.a_table_of_echoes, F.kp, (F.bindsN fun _ _ _ _ _ _ us hl => match us, hl with | [_], _ => rfl)⟩
abbrev N_even_table : List Str := ["heard"]
theorem sc_even_table : FnScope N_even_table ["heard"] (defScope (top 67)) := ⟨rfl, rfl, rfl, by decide +kernel, rfl, by decide +kernel, by decide +kernel⟩
noncomputable def M_even_table : Fn' := fnM [] (sRet (mCall 1 M_table_of_echoes (mCons (mCall 1 M_taken_heard (mCons (mV 0) (mNil))) (mNil))))
noncomputable def T_even_table : List (List D × Kw) := [([.tup [.tup [.int (1), .int (1)], .tup [.int (1), .int (3)]]], .ans (.tup [.tup [.tup [.int (2), .int (1)], .tup [.int (1), .int (3)]], .tup [.tup [.int (1), .int (3)], .tup [.int (2), .int (1)]]])), ([.tup [.tup [.int (0), .int (1)]]], .ans (.tup [.tup [.tup [.int (0), .int (1)]]])), ([.tup [.tup [.int (-1), .int (1)], .tup [.int (0), .int (1)], .tup [.int (2), .int (1)]]], .ans (.tup [.tup [.tup [.int (-2), .int (1)], .tup [.int (0), .int (1)], .tup [.int (2), .int (1)]], .tup [.tup [.int (0), .int (1)], .tup [.int (-2), .int (1)], .tup [.int (0), .int (1)]], .tup [.tup [.int (2), .int (1)], .tup [.int (0), .int (1)], .tup [.int (-2), .int (1)]]])), ([.tup [.tup [.int (1), .int (1)], .tup [.int (1), .int (1)], .tup [.int (1), .int (1)], .tup [.int (1), .int (1)], .tup [.int (1), .int (1)], .tup [.int (1), .int (1)], .tup [.int (1), .int (1)], .tup [.int (1), .int (1)], .tup [.int (1), .int (1)], .tup [.int (1), .int (1)], .tup [.int (1), .int (1)], .tup [.int (1), .int (1)]]], .ans (.tup [.tup [.tup [.int (2), .int (1)], .tup [.int (1), .int (1)], .tup [.int (1), .int (1)], .tup [.int (1), .int (1)], .tup [.int (1), .int (1)], .tup [.int (1), .int (1)], .tup [.int (1), .int (1)], .tup [.int (1), .int (1)], .tup [.int (1), .int (1)], .tup [.int (1), .int (1)], .tup [.int (1), .int (1)], .tup [.int (1), .int (1)]], .tup [.tup [.int (1), .int (1)], .tup [.int (2), .int (1)], .tup [.int (1), .int (1)], .tup [.int (1), .int (1)], .tup [.int (1), .int (1)], .tup [.int (1), .int (1)], .tup [.int (1), .int (1)], .tup [.int (1), .int (1)], .tup [.int (1), .int (1)], .tup [.int (1), .int (1)], .tup [.int (1), .int (1)], .tup [.int (1), .int (1)]], .tup [.tup [.int (1), .int (1)], .tup [.int (1), .int (1)], .tup [.int (2), .int (1)], .tup [.int (1), .int (1)], .tup [.int (1), .int (1)], .tup [.int (1), .int (1)], .tup [.int (1), .int (1)], .tup [.int (1), .int (1)], .tup [.int (1), .int (1)], .tup [.int (1), .int (1)], .tup [.int (1), .int (1)], .tup [.int (1), .int (1)]], .tup [.tup [.int (1), .int (1)], .tup [.int (1), .int (1)], .tup [.int (1), .int (1)], .tup [.int (2), .int (1)], .tup [.int (1), .int (1)], .tup [.int (1), .int (1)], .tup [.int (1), .int (1)], .tup [.int (1), .int (1)], .tup [.int (1), .int (1)], .tup [.int (1), .int (1)], .tup [.int (1), .int (1)], .tup [.int (1), .int (1)]], .tup [.tup [.int (1), .int (1)], .tup [.int (1), .int (1)], .tup [.int (1), .int (1)], .tup [.int (1), .int (1)], .tup [.int (2), .int (1)], .tup [.int (1), .int (1)], .tup [.int (1), .int (1)], .tup [.int (1), .int (1)], .tup [.int (1), .int (1)], .tup [.int (1), .int (1)], .tup [.int (1), .int (1)], .tup [.int (1), .int (1)]], .tup [.tup [.int (1), .int (1)], .tup [.int (1), .int (1)], .tup [.int (1), .int (1)], .tup [.int (1), .int (1)], .tup [.int (1), .int (1)], .tup [.int (2), .int (1)], .tup [.int (1), .int (1)], .tup [.int (1), .int (1)], .tup [.int (1), .int (1)], .tup [.int (1), .int (1)], .tup [.int (1), .int (1)], .tup [.int (1), .int (1)]], .tup [.tup [.int (1), .int (1)], .tup [.int (1), .int (1)], .tup [.int (1), .int (1)], .tup [.int (1), .int (1)], .tup [.int (1), .int (1)], .tup [.int (1), .int (1)], .tup [.int (2), .int (1)], .tup [.int (1), .int (1)], .tup [.int (1), .int (1)], .tup [.int (1), .int (1)], .tup [.int (1), .int (1)], .tup [.int (1), .int (1)]], .tup [.tup [.int (1), .int (1)], .tup [.int (1), .int (1)], .tup [.int (1), .int (1)], .tup [.int (1), .int (1)], .tup [.int (1), .int (1)], .tup [.int (1), .int (1)], .tup [.int (1), .int (1)], .tup [.int (2), .int (1)], .tup [.int (1), .int (1)], .tup [.int (1), .int (1)], .tup [.int (1), .int (1)], .tup [.int (1), .int (1)]], .tup [.tup [.int (1), .int (1)], .tup [.int (1), .int (1)], .tup [.int (1), .int (1)], .tup [.int (1), .int (1)], .tup [.int (1), .int (1)], .tup [.int (1), .int (1)], .tup [.int (1), .int (1)], .tup [.int (1), .int (1)], .tup [.int (2), .int (1)], .tup [.int (1), .int (1)], .tup [.int (1), .int (1)], .tup [.int (1), .int (1)]], .tup [.tup [.int (1), .int (1)], .tup [.int (1), .int (1)], .tup [.int (1), .int (1)], .tup [.int (1), .int (1)], .tup [.int (1), .int (1)], .tup [.int (1), .int (1)], .tup [.int (1), .int (1)], .tup [.int (1), .int (1)], .tup [.int (1), .int (1)], .tup [.int (2), .int (1)], .tup [.int (1), .int (1)], .tup [.int (1), .int (1)]], .tup [.tup [.int (1), .int (1)], .tup [.int (1), .int (1)], .tup [.int (1), .int (1)], .tup [.int (1), .int (1)], .tup [.int (1), .int (1)], .tup [.int (1), .int (1)], .tup [.int (1), .int (1)], .tup [.int (1), .int (1)], .tup [.int (1), .int (1)], .tup [.int (1), .int (1)], .tup [.int (2), .int (1)], .tup [.int (1), .int (1)]], .tup [.tup [.int (1), .int (1)], .tup [.int (1), .int (1)], .tup [.int (1), .int (1)], .tup [.int (1), .int (1)], .tup [.int (1), .int (1)], .tup [.int (1), .int (1)], .tup [.int (1), .int (1)], .tup [.int (1), .int (1)], .tup [.int (1), .int (1)], .tup [.int (1), .int (1)], .tup [.int (1), .int (1)], .tup [.int (2), .int (1)]]]))]
theorem kn_even_table_0 : okIs (M_even_table [.tup [.tup [.int (1), .int (1)], .tup [.int (1), .int (3)]]] L0) (.ans (.tup [.tup [.tup [.int (2), .int (1)], .tup [.int (1), .int (3)]], .tup [.tup [.int (1), .int (3)], .tup [.int (2), .int (1)]]])) = true := by decide +kernel
theorem kn_even_table_1 : okIs (M_even_table [.tup [.tup [.int (0), .int (1)]]] L0) (.ans (.tup [.tup [.tup [.int (0), .int (1)]]])) = true := by decide +kernel
theorem kn_even_table_2 : okIs (M_even_table [.tup [.tup [.int (-1), .int (1)], .tup [.int (0), .int (1)], .tup [.int (2), .int (1)]]] L0) (.ans (.tup [.tup [.tup [.int (-2), .int (1)], .tup [.int (0), .int (1)], .tup [.int (2), .int (1)]], .tup [.tup [.int (0), .int (1)], .tup [.int (-2), .int (1)], .tup [.int (0), .int (1)]], .tup [.tup [.int (2), .int (1)], .tup [.int (0), .int (1)], .tup [.int (-2), .int (1)]]])) = true := by decide +kernel
theorem kn_even_table_3 : okIs (M_even_table [.tup [.tup [.int (1), .int (1)], .tup [.int (1), .int (1)], .tup [.int (1), .int (1)], .tup [.int (1), .int (1)], .tup [.int (1), .int (1)], .tup [.int (1), .int (1)], .tup [.int (1), .int (1)], .tup [.int (1), .int (1)], .tup [.int (1), .int (1)], .tup [.int (1), .int (1)], .tup [.int (1), .int (1)], .tup [.int (1), .int (1)]]] L0) (.ans (.tup [.tup [.tup [.int (2), .int (1)], .tup [.int (1), .int (1)], .tup [.int (1), .int (1)], .tup [.int (1), .int (1)], .tup [.int (1), .int (1)], .tup [.int (1), .int (1)], .tup [.int (1), .int (1)], .tup [.int (1), .int (1)], .tup [.int (1), .int (1)], .tup [.int (1), .int (1)], .tup [.int (1), .int (1)], .tup [.int (1), .int (1)]], .tup [.tup [.int (1), .int (1)], .tup [.int (2), .int (1)], .tup [.int (1), .int (1)], .tup [.int (1), .int (1)], .tup [.int (1), .int (1)], .tup [.int (1), .int (1)], .tup [.int (1), .int (1)], .tup [.int (1), .int (1)], .tup [.int (1), .int (1)], .tup [.int (1), .int (1)], .tup [.int (1), .int (1)], .tup [.int (1), .int (1)]], .tup [.tup [.int (1), .int (1)], .tup [.int (1), .int (1)], .tup [.int (2), .int (1)], .tup [.int (1), .int (1)], .tup [.int (1), .int (1)], .tup [.int (1), .int (1)], .tup [.int (1), .int (1)], .tup [.int (1), .int (1)], .tup [.int (1), .int (1)], .tup [.int (1), .int (1)], .tup [.int (1), .int (1)], .tup [.int (1), .int (1)]], .tup [.tup [.int (1), .int (1)], .tup [.int (1), .int (1)], .tup [.int (1), .int (1)], .tup [.int (2), .int (1)], .tup [.int (1), .int (1)], .tup [.int (1), .int (1)], .tup [.int (1), .int (1)], .tup [.int (1), .int (1)], .tup [.int (1), .int (1)], .tup [.int (1), .int (1)], .tup [.int (1), .int (1)], .tup [.int (1), .int (1)]], .tup [.tup [.int (1), .int (1)], .tup [.int (1), .int (1)], .tup [.int (1), .int (1)], .tup [.int (1), .int (1)], .tup [.int (2), .int (1)], .tup [.int (1), .int (1)], .tup [.int (1), .int (1)], .tup [.int (1), .int (1)], .tup [.int (1), .int (1)], .tup [.int (1), .int (1)], .tup [.int (1), .int (1)], .tup [.int (1), .int (1)]], .tup [.tup [.int (1), .int (1)], .tup [.int (1), .int (1)], .tup [.int (1), .int (1)], .tup [.int (1), .int (1)], .tup [.int (1), .int (1)], .tup [.int (2), .int (1)], .tup [.int (1), .int (1)], .tup [.int (1), .int (1)], .tup [.int (1), .int (1)], .tup [.int (1), .int (1)], .tup [.int (1), .int (1)], .tup [.int (1), .int (1)]], .tup [.tup [.int (1), .int (1)], .tup [.int (1), .int (1)], .tup [.int (1), .int (1)], .tup [.int (1), .int (1)], .tup [.int (1), .int (1)], .tup [.int (1), .int (1)], .tup [.int (2), .int (1)], .tup [.int (1), .int (1)], .tup [.int (1), .int (1)], .tup [.int (1), .int (1)], .tup [.int (1), .int (1)], .tup [.int (1), .int (1)]], .tup [.tup [.int (1), .int (1)], .tup [.int (1), .int (1)], .tup [.int (1), .int (1)], .tup [.int (1), .int (1)], .tup [.int (1), .int (1)], .tup [.int (1), .int (1)], .tup [.int (1), .int (1)], .tup [.int (2), .int (1)], .tup [.int (1), .int (1)], .tup [.int (1), .int (1)], .tup [.int (1), .int (1)], .tup [.int (1), .int (1)]], .tup [.tup [.int (1), .int (1)], .tup [.int (1), .int (1)], .tup [.int (1), .int (1)], .tup [.int (1), .int (1)], .tup [.int (1), .int (1)], .tup [.int (1), .int (1)], .tup [.int (1), .int (1)], .tup [.int (1), .int (1)], .tup [.int (2), .int (1)], .tup [.int (1), .int (1)], .tup [.int (1), .int (1)], .tup [.int (1), .int (1)]], .tup [.tup [.int (1), .int (1)], .tup [.int (1), .int (1)], .tup [.int (1), .int (1)], .tup [.int (1), .int (1)], .tup [.int (1), .int (1)], .tup [.int (1), .int (1)], .tup [.int (1), .int (1)], .tup [.int (1), .int (1)], .tup [.int (1), .int (1)], .tup [.int (2), .int (1)], .tup [.int (1), .int (1)], .tup [.int (1), .int (1)]], .tup [.tup [.int (1), .int (1)], .tup [.int (1), .int (1)], .tup [.int (1), .int (1)], .tup [.int (1), .int (1)], .tup [.int (1), .int (1)], .tup [.int (1), .int (1)], .tup [.int (1), .int (1)], .tup [.int (1), .int (1)], .tup [.int (1), .int (1)], .tup [.int (1), .int (1)], .tup [.int (2), .int (1)], .tup [.int (1), .int (1)]], .tup [.tup [.int (1), .int (1)], .tup [.int (1), .int (1)], .tup [.int (1), .int (1)], .tup [.int (1), .int (1)], .tup [.int (1), .int (1)], .tup [.int (1), .int (1)], .tup [.int (1), .int (1)], .tup [.int (1), .int (1)], .tup [.int (1), .int (1)], .tup [.int (1), .int (1)], .tup [.int (1), .int (1)], .tup [.int (2), .int (1)]]])) = true := by decide +kernel
theorem kt_even_table : KT M_even_table T_even_table := by unfold T_even_table; exact ⟨kn_even_table_0, kn_even_table_1, kn_even_table_2, kn_even_table_3, trivial⟩
theorem fo_even_table {P : Program} {w : World} {K : PySem.W.Frag} {mg : Str → Option Value} {base : Heap} (G : Gf K mg) (h_table_of_echoes : Kn P w K mg base (pm K) 3 "table_of_echoes" 1 M_table_of_echoes) (h_taken_heard : Kn P w K mg base (pm K) 9 "taken_heard" 1 M_taken_heard) {fd : FuncData} (F : FunD K "even_table" "even_table" (defArgs (top 67)) (defBody (top 67)) (defScope (top 67)) [] [] (He.ga K "even_table") fd) : FnOk P w K mg base (L2.CX P w) 10 (He.ga K "even_table") fd ["heard"] (spM (pm K) 1 M_even_table) := by
  refine fn_ok (k := 9) (N := N_even_table) (tl := []) (b := sRet (mCall 1 M_table_of_echoes (mCons (mCall 1 M_taken_heard (mCons (mV 0) (mNil))) (mNil)))) F sc_even_table rfl rfl (fun cdv A outer s H E hr => ?_)
  have nd : N_even_table.Nodup := sc_even_table.nd
  have tk : Takes (cxOf (L2.CX P w) P w K mg base N_even_table "even_table" (defScope (top 67)) (He.ga K "even_table") cdv A outer s H E) (fun cls d _ H' => E cls d H') := takes_of rfl rfl rfl rfl
  have po : PassesOwn (model P w) (cxOf (L2.CX P w) P w K mg base N_even_table "even_table" (defScope (top 67)) (He.ga K "even_table") cdv A outer s H E).A (cxOf (L2.CX P w) P w K mg base N_even_table "even_table" (defScope (top 67)) (He.ga K "even_table") cdv A outer s H E).env (cxOf (L2.CX P w) P w K mg base N_even_table "even_table" (defScope (top 67)) (He.ga K "even_table") cdv A outer s H E).xe := passes_of (X := cxOf (L2.CX P w) P w K mg base N_even_table "even_table" (defScope (top 67)) (He.ga K "even_table") cdv A outer s H E) rfl
  exact (es_one (es_ret (ee_call h_table_of_echoes hr (by decide) tk (ea_cons (ee_call h_taken_heard hr (by decide) tk (ea_cons (ee_var 0 (pv 0)) ea_nil)) ea_nil))))
theorem ok_even_table {P : Program} {w : World} {K : PySem.W.Frag} {mg : Str → Option Value} {base : Heap} (G : Gf K mg) (h_table_of_echoes : Kn P w K mg base (pm K) 3 "table_of_echoes" 1 M_table_of_echoes) (h_taken_heard : Kn P w K mg base (pm K) 9 "taken_heard" 1 M_taken_heard) : Kn P w K mg base (pm K) 10 "even_table" 1 M_even_table := by
  obtain ⟨fd, F⟩ := G.d_even_table
  exact ⟨_, fd, _, fo_even_table G h_table_of_echoes h_taken_heard  F, G.a_even_table, F.kp, (F.bindsN fun _ _ _ _ _ _ us hl => match us, hl with | [_], _ => rfl)⟩
abbrev N_freed : List Str := ["rows", "place", "last", "row", "pivot", "own", "a", "b"]
theorem sc_freed : FnScope N_freed ["rows", "place", "last"] (defScope (top 31)) := ⟨rfl, rfl, rfl, by decide +kernel, rfl, by decide +kernel, by decide +kernel⟩
noncomputable def M_freed : Fn' := fnM [none, none, none, none, none] (sSeq (sSet 3 (m2 oIx (mV 0) (mV 1))) (sSeq (sSet 4 (m2 oIx (mV 3) (mV 1))) (sRet (mLc (onlyA (mSl (mV 0) (mPart (m2 oAdd (mV 1) (mC (.int 1)))) (mC .non))) nfA (gNm 5) (mYes) (mLc (zipW (mCons (mV 5) (mCons (mV 3) (mNil)))) nfW (gPr 6 7) (mYes) (m2 oFdiv (m2 oSub (m2 oMul (mV 4) (mV 6)) (m2 oMul (m2 oIx (mV 5) (mV 1)) (mV 7))) (mV 2)) [6, 7]) [5]))))
theorem fo_freed {P : Program} {w : World} {K : PySem.W.Frag} {mg : Str → Option Value} {base : Heap} (G : Gf K mg) {fd : FuncData} (F : FunD K "freed" "freed" (defArgs (top 31)) (defBody (top 31)) (defScope (top 31)) [] [] (He.ga K "freed") fd) : FnOk P w K mg base (L2.CX P w) 1 (He.ga K "freed") fd ["rows", "place", "last"] (spM (pm K) 3 M_freed) := by
  refine fn_ok (k := 0) (N := N_freed) (tl := [none, none, none, none, none]) (b := sSeq (sSet 3 (m2 oIx (mV 0) (mV 1))) (sSeq (sSet 4 (m2 oIx (mV 3) (mV 1))) (sRet (mLc (onlyA (mSl (mV 0) (mPart (m2 oAdd (mV 1) (mC (.int 1)))) (mC .non))) nfA (gNm 5) (mYes) (mLc (zipW (mCons (mV 5) (mCons (mV 3) (mNil)))) nfW (gPr 6 7) (mYes) (m2 oFdiv (m2 oSub (m2 oMul (mV 4) (mV 6)) (m2 oMul (m2 oIx (mV 5) (mV 1)) (mV 7))) (mV 2)) [6, 7]) [5])))) F sc_freed rfl rfl (fun cdv A outer s H E hr => ?_)
  have nd : N_freed.Nodup := sc_freed.nd
  have tk : Takes (cxOf (L2.CX P w) P w K mg base N_freed "freed" (defScope (top 31)) (He.ga K "freed") cdv A outer s H E) (fun cls d _ H' => E cls d H') := takes_of rfl rfl rfl rfl
  have po : PassesOwn (model P w) (cxOf (L2.CX P w) P w K mg base N_freed "freed" (defScope (top 31)) (He.ga K "freed") cdv A outer s H E).A (cxOf (L2.CX P w) P w K mg base N_freed "freed" (defScope (top 31)) (He.ga K "freed") cdv A outer s H E).env (cxOf (L2.CX P w) P w K mg base N_freed "freed" (defScope (top 31)) (He.ga K "freed") cdv A outer s H E).xe := passes_of (X := cxOf (L2.CX P w) P w K mg base N_freed "freed" (defScope (top 31)) (He.ga K "freed") cdv A outer s H E) rfl
  exact (es_cons (s_set nd (b_ix rfl (ee_var 0 (pv 0)) (ee_var 1 (pv 1))))
    (es_cons (s_set nd (b_ix rfl (ee_var 3 (pv 3)) (ee_var 1 (pv 1))))
    (es_one (es_ret (ee_lc rfl nd (own := [("own", 5)]) (ei_any rfl (ee_sl rfl (ee_var 0 (pv 0)) (eo_some (b_add rfl (ee_var 1 (pv 1)) ee_int)) eo_none)) (blkOk_by (N := N_freed) (sc := defScope (top 31)) (by decide +kernel)) (fun _ _ _ _ _ => (ct_name (g_name nd) (by decide))) (fun _ _ _ _ _ => ets_nil) (fun _ _ _ _ _ => (ee_lc rfl nd (own := [("a", 6), ("b", 7)]) (ei_zipW rfl G.b_zip (ea_cons (ee_var 5 (pv 5)) (ea_cons (ee_var 3 (pv 3)) ea_nil))) (blkOk_by (by kernel_rfl)) (fun _ _ _ _ _ => (ct_pair rfl rfl (g_name nd) (g_name nd) (by decide) (by decide))) (fun _ _ _ _ _ => ets_nil) (fun _ _ _ _ _ => (b_fdiv rfl (b_sub rfl (b_mul rfl (ee_var 4 (pv 4)) (ee_var 6 (pv 6))) (b_mul rfl (b_ix rfl (ee_var 5 (pv 5)) (ee_var 1 (pv 1))) (ee_var 7 (pv 7)))) (ee_var 2 (pv 2)))))))))))
theorem ok_freed {P : Program} {w : World} {K : PySem.W.Frag} {mg : Str → Option Value} {base : Heap} (G : Gf K mg) : Kn P w K mg base (pm K) 1 "freed" 3 M_freed := by
  obtain ⟨fd, F⟩ := G.d_freed
  exact ⟨_, fd, _, fo_freed G   F, G.a_freed, F.kp, (F.bindsN fun _ _ _ _ _ _ us hl => match us, hl with | [_, _, _], _ => rfl)⟩
abbrev N_first_fall : List Str := ["table", "rows", "last", "pivots", "noughts", "place", "row", "partner", "own"]
theorem sc_first_fall : FnScope N_first_fall ["table"] (defScope (top 30)) := ⟨rfl, rfl, rfl, by decide +kernel, rfl, by decide +kernel, by decide +kernel⟩
noncomputable def M_first_fall : Fn' := fnM [none, none, none, none, none, none, none, none] (sSeq (sSet 1 (mLc (onlyA (mV 0)) nfA (gNm 8) (mYes) (m2 oIx (mCall 1 M_wholes (mCons (mV 8) (mNil))) (mC (.int 0))) [8])) (sSeq (sSet 2 (mC (.int 1))) (sSeq (sSet 3 (mN oLst (mNil))) (sSeq (sSet 4 (mN oLst (mNil))) (sSeq (sFor (rng1 (mCons (mN oLen (mCons (mV 1) (mNil))) (mNil))) nfR (gNm 5) (sSeq (sSet 6 (m2 oIx (mV 1) (mV 5))) (sSeq (sIf (m2 oLt (m2 oIx (mV 6) (mV 5)) (mC (.int 0))) (sRet (mN oTup (mCons (mV 5) (mCons (mC .non) (mCons (mV 3) (mCons (mV 6) (mNil))))))) (sNil)) (sSeq (sFor (onlyA (mV 4)) nfA (gNm 7) (sIf (m2 oNeL (m2 oIx (mV 6) (mV 7)) (mC (.int 0))) (sRet (mN oTup (mCons (mV 5) (mCons (mV 7) (mCons (mV 3) (mCons (mV 6) (mNil))))))) (sNil))) (sSeq (sIf (m2 oEqL (m2 oIx (mV 6) (mV 5)) (mC (.int 0))) (sSeq (sEx (mMethL (mV 4) (mCons (mV 5) (mNil)) oApp)) (sCnt)) (sNil)) (sSeq (sEx (mMethL (mV 3) (mCons (mV 5) (mNil)) oApp)) (sSeq (sSet 1 (m2 oAdd (mSl (mV 1) (mC .non) (mPart (m2 oAdd (mV 5) (mC (.int 1))))) (mCall 3 M_freed (mCons (mV 1) (mCons (mV 5) (mCons (mV 2) (mNil))))))) (sSet 2 (m2 oIx (mV 6) (mV 5)))))))))) (sRet (mC .non)))))))
theorem fo_first_fall {P : Program} {w : World} {K : PySem.W.Frag} {mg : Str → Option Value} {base : Heap} (G : Gf K mg) (h_wholes : Kn P w K mg base (pm K) 1 "wholes" 1 M_wholes) (h_freed : Kn P w K mg base (pm K) 1 "freed" 3 M_freed) {fd : FuncData} (F : FunD K "first_fall" "first_fall" (defArgs (top 30)) (defBody (top 30)) (defScope (top 30)) [] [] (He.ga K "first_fall") fd) : FnOk P w K mg base (L2.CX P w) 2 (He.ga K "first_fall") fd ["table"] (spM (pm K) 1 M_first_fall) := by
  refine fn_ok (k := 1) (N := N_first_fall) (tl := [none, none, none, none, none, none, none, none]) (b := sSeq (sSet 1 (mLc (onlyA (mV 0)) nfA (gNm 8) (mYes) (m2 oIx (mCall 1 M_wholes (mCons (mV 8) (mNil))) (mC (.int 0))) [8])) (sSeq (sSet 2 (mC (.int 1))) (sSeq (sSet 3 (mN oLst (mNil))) (sSeq (sSet 4 (mN oLst (mNil))) (sSeq (sFor (rng1 (mCons (mN oLen (mCons (mV 1) (mNil))) (mNil))) nfR (gNm 5) (sSeq (sSet 6 (m2 oIx (mV 1) (mV 5))) (sSeq (sIf (m2 oLt (m2 oIx (mV 6) (mV 5)) (mC (.int 0))) (sRet (mN oTup (mCons (mV 5) (mCons (mC .non) (mCons (mV 3) (mCons (mV 6) (mNil))))))) (sNil)) (sSeq (sFor (onlyA (mV 4)) nfA (gNm 7) (sIf (m2 oNeL (m2 oIx (mV 6) (mV 7)) (mC (.int 0))) (sRet (mN oTup (mCons (mV 5) (mCons (mV 7) (mCons (mV 3) (mCons (mV 6) (mNil))))))) (sNil))) (sSeq (sIf (m2 oEqL (m2 oIx (mV 6) (mV 5)) (mC (.int 0))) (sSeq (sEx (mMethL (mV 4) (mCons (mV 5) (mNil)) oApp)) (sCnt)) (sNil)) (sSeq (sEx (mMethL (mV 3) (mCons (mV 5) (mNil)) oApp)) (sSeq (sSet 1 (m2 oAdd (mSl (mV 1) (mC .non) (mPart (m2 oAdd (mV 5) (mC (.int 1))))) (mCall 3 M_freed (mCons (mV 1) (mCons (mV 5) (mCons (mV 2) (mNil))))))) (sSet 2 (m2 oIx (mV 6) (mV 5)))))))))) (sRet (mC .non))))))) F sc_first_fall rfl rfl (fun cdv A outer s H E hr => ?_)
  have nd : N_first_fall.Nodup := sc_first_fall.nd
  have tk : Takes (cxOf (L2.CX P w) P w K mg base N_first_fall "first_fall" (defScope (top 30)) (He.ga K "first_fall") cdv A outer s H E) (fun cls d _ H' => E cls d H') := takes_of rfl rfl rfl rfl
  have po : PassesOwn (model P w) (cxOf (L2.CX P w) P w K mg base N_first_fall "first_fall" (defScope (top 30)) (He.ga K "first_fall") cdv A outer s H E).A (cxOf (L2.CX P w) P w K mg base N_first_fall "first_fall" (defScope (top 30)) (He.ga K "first_fall") cdv A outer s H E).env (cxOf (L2.CX P w) P w K mg base N_first_fall "first_fall" (defScope (top 30)) (He.ga K "first_fall") cdv A outer s H E).xe := passes_of (X := cxOf (L2.CX P w) P w K mg base N_first_fall "first_fall" (defScope (top 30)) (He.ga K "first_fall") cdv A outer s H E) rfl
  exact (es_cons (es_setLc rfl nd rfl rfl (sw_true rfl rfl rfl (by decide +kernel)) (own := [("own", 8)]) (ei_any rfl (ee_var 0 (pv 0))) (blkOk_by (N := N_first_fall) (sc := defScope (top 30)) (by decide +kernel)) (fun _ _ _ _ _ => (ct_name (g_name nd) (by decide))) (fun _ _ _ _ _ => ets_nil) (fun _ _ _ _ _ => (b_ix rfl (ee_call h_wholes hr (by decide) takes_blk (ea_cons (ee_var 8 (pv 8)) ea_nil)) ee_int)))
    (es_cons (s_set nd ee_int)
    (es_cons (s_set nd (ee_lst ea_nil))
    (es_cons (s_set nd (ee_lst ea_nil))
    (es_cons (es_for po rfl (ei_rng1 G.b_range (ea_cons (f_len rfl G.b_len (ea_cons (ee_var 1 (pv 1)) ea_nil)) ea_nil)) (eg_name (g_name nd)) (es_cons (s_set nd (b_ix rfl (ee_var 1 (pv 1)) (ee_var 5 (pv 5))))
    (es_cons (es_if (t_lt rfl (b_ix rfl (ee_var 6 (pv 6)) (ee_var 5 (pv 5))) ee_int) (es_one (es_ret (ee_tup (ea_cons (ee_var 5 (pv 5)) (ea_cons ee_non (ea_cons (ee_var 3 (pv 3)) (ea_cons (ee_var 6 (pv 6)) ea_nil))))))) es_nil)
    (es_cons (es_for po rfl (ei_any rfl (ee_var 4 (pv 4))) (eg_name (g_name nd)) (es_one (es_if (t_neL rfl hr.units (b_ix rfl (ee_var 6 (pv 6)) (ee_var 7 (pv 7))) ee_int) (es_one (es_ret (ee_tup (ea_cons (ee_var 5 (pv 5)) (ea_cons (ee_var 7 (pv 7)) (ea_cons (ee_var 3 (pv 3)) (ea_cons (ee_var 6 (pv 6)) ea_nil))))))) es_nil)))
    (es_cons (es_if (t_eqL rfl hr.units (b_ix rfl (ee_var 6 (pv 6)) (ee_var 5 (pv 5))) ee_int) (es_cons (es_ex (ee_append (ee_var 4 (pv 4)) (ea_cons (ee_var 5 (pv 5)) ea_nil)))
    (es_one es_cnt)) es_nil)
    (es_cons (es_ex (ee_append (ee_var 3 (pv 3)) (ea_cons (ee_var 5 (pv 5)) ea_nil)))
    (es_cons (s_set nd (b_add rfl (ee_sl rfl (ee_var 1 (pv 1)) eo_none (eo_some (b_add rfl (ee_var 5 (pv 5)) ee_int))) (ee_call h_freed hr (by decide) tk (ea_cons (ee_var 1 (pv 1)) (ea_cons (ee_var 5 (pv 5)) (ea_cons (ee_var 2 (pv 2)) ea_nil))))))
    (es_one (s_set nd (b_ix rfl (ee_var 6 (pv 6)) (ee_var 5 (pv 5))))))))))))
    (es_one (es_ret ee_non)))))))
theorem ok_first_fall {P : Program} {w : World} {K : PySem.W.Frag} {mg : Str → Option Value} {base : Heap} (G : Gf K mg) (h_wholes : Kn P w K mg base (pm K) 1 "wholes" 1 M_wholes) (h_freed : Kn P w K mg base (pm K) 1 "freed" 3 M_freed) : Kn P w K mg base (pm K) 2 "first_fall" 1 M_first_fall := by
  obtain ⟨fd, F⟩ := G.d_first_fall
  exact ⟨_, fd, _, fo_first_fall G h_wholes h_freed  F, G.a_first_fall, F.kp, (F.bindsN fun _ _ _ _ _ _ us hl => match us, hl with | [_], _ => rfl)⟩
abbrev N_table_sum : List Str := ["table", "row", "own"]
theorem sc_table_sum : FnScope N_table_sum ["table", "row"] (defScope (top 17)) := ⟨rfl, rfl, rfl, by decide +kernel, rfl, by decide +kernel, by decide +kernel⟩
noncomputable def M_table_sum : Fn' := fnM [none] (sRet (mCall 2 M_dot (mCons (mV 1) (mCons (mN oTuple (mCons (mLc (onlyA (mV 0)) nfA (gNm 2) (mYes) (mCall 2 M_dot (mCons (mV 2) (mCons (mV 1) (mNil)))) [2]) (mNil))) (mNil)))))
theorem fo_table_sum {P : Program} {w : World} {K : PySem.W.Frag} {mg : Str → Option Value} {base : Heap} (G : Gf K mg) (h_dot : Kn P w K mg base (pm K) 2 "dot" 2 M_dot) {fd : FuncData} (F : FunD K "table_sum" "table_sum" (defArgs (top 17)) (defBody (top 17)) (defScope (top 17)) [] [] (He.ga K "table_sum") fd) : FnOk P w K mg base (L2.CX P w) 3 (He.ga K "table_sum") fd ["table", "row"] (spM (pm K) 2 M_table_sum) := by
  refine fn_ok (k := 2) (N := N_table_sum) (tl := [none]) (b := sRet (mCall 2 M_dot (mCons (mV 1) (mCons (mN oTuple (mCons (mLc (onlyA (mV 0)) nfA (gNm 2) (mYes) (mCall 2 M_dot (mCons (mV 2) (mCons (mV 1) (mNil)))) [2]) (mNil))) (mNil))))) F sc_table_sum rfl rfl (fun cdv A outer s H E hr => ?_)
  have nd : N_table_sum.Nodup := sc_table_sum.nd
  have tk : Takes (cxOf (L2.CX P w) P w K mg base N_table_sum "table_sum" (defScope (top 17)) (He.ga K "table_sum") cdv A outer s H E) (fun cls d _ H' => E cls d H') := takes_of rfl rfl rfl rfl
  have po : PassesOwn (model P w) (cxOf (L2.CX P w) P w K mg base N_table_sum "table_sum" (defScope (top 17)) (He.ga K "table_sum") cdv A outer s H E).A (cxOf (L2.CX P w) P w K mg base N_table_sum "table_sum" (defScope (top 17)) (He.ga K "table_sum") cdv A outer s H E).env (cxOf (L2.CX P w) P w K mg base N_table_sum "table_sum" (defScope (top 17)) (He.ga K "table_sum") cdv A outer s H E).xe := passes_of (X := cxOf (L2.CX P w) P w K mg base N_table_sum "table_sum" (defScope (top 17)) (He.ga K "table_sum") cdv A outer s H E) rfl
  exact (es_one (es_ret (ee_call h_dot hr (by decide) tk (ea_cons (ee_var 1 (pv 1)) (ea_cons (f_tuple rfl G.b_tuple (ea_cons (ee_lc rfl nd (own := [("own", 2)]) (ei_any rfl (ee_var 0 (pv 0))) (blkOk_by (N := N_table_sum) (sc := defScope (top 17)) (by decide +kernel)) (fun _ _ _ _ _ => (ct_name (g_name nd) (by decide))) (fun _ _ _ _ _ => ets_nil) (fun _ _ _ _ _ => (ee_call h_dot hr (by decide) takes_blk (ea_cons (ee_var 2 (pv 2)) (ea_cons (ee_var 1 (pv 1)) ea_nil))))) ea_nil)) ea_nil)))))
theorem ok_table_sum {P : Program} {w : World} {K : PySem.W.Frag} {mg : Str → Option Value} {base : Heap} (G : Gf K mg) (h_dot : Kn P w K mg base (pm K) 2 "dot" 2 M_dot) : Kn P w K mg base (pm K) 3 "table_sum" 2 M_table_sum := by
  obtain ⟨fd, F⟩ := G.d_table_sum
  exact ⟨_, fd, _, fo_table_sum G h_dot  F, G.a_table_sum, F.kp, (F.bindsN fun _ _ _ _ _ _ us hl => match us, hl with | [_, _], _ => rfl)⟩
abbrev N_rounded_below : List Str := ["table", "numbers", "size", "keep", "drop", "half", "short", "own"]
theorem sc_rounded_below : FnScope N_rounded_below ["table", "numbers"] (defScope (top 34)) := ⟨rfl, rfl, rfl, by decide +kernel, rfl, by decide +kernel, by decide +kernel⟩
noncomputable def M_rounded_below : Fn' := fnM [none, none, none, none, none, none] (sSeq (sSet 2 (m1 oBits (mN oMaxL (mCons (mLc (onlyA (mV 1)) nfA (gNm 7) (mYes) (mN oAbs (mCons (mV 7) (mNil))) [7]) (mNil))))) (sSeq (sSet 3 (mC (.int 1))) (sSeq (sWh (m2 oLt (mV 3) (mV 2)) (sSeq (sSet 4 (m2 oSub (mV 2) (mV 3))) (sSeq (sSet 5 (m2 oShl (mC (.int 1)) (m2 oSub (mV 4) (mC (.int 1))))) (sSeq (sSet 6 (mCall 2 M_fractions (mCons (mLc (onlyA (mV 1)) nfA (gNm 7) (mYes) (m2 oShr (m2 oAdd (mV 7) (mV 5)) (mV 4)) [7]) (mCons (mC (.int 1)) (mNil))))) (sSeq (sIf (m2 oLt (m2 oIx (mCall 2 M_table_sum (mCons (mV 0) (mCons (mV 6) (mNil)))) (mC (.int 0))) (mC (.int 0))) (sRet (mV 6)) (sNil)) (sAug 3 oMulI (mC (.int 2)))))))) (sRet (mCall 2 M_fractions (mCons (mV 1) (mCons (mC (.int 1)) (mNil))))))))
theorem fo_rounded_below {P : Program} {w : World} {K : PySem.W.Frag} {mg : Str → Option Value} {base : Heap} (G : Gf K mg) (h_fractions : Kn P w K mg base (pm K) 2 "fractions" 2 M_fractions) (h_table_sum : Kn P w K mg base (pm K) 3 "table_sum" 2 M_table_sum) {fd : FuncData} (F : FunD K "rounded_below" "rounded_below" (defArgs (top 34)) (defBody (top 34)) (defScope (top 34)) [] [] (He.ga K "rounded_below") fd) : FnOk P w K mg base (L2.CX P w) 4 (He.ga K "rounded_below") fd ["table", "numbers"] (spM (pm K) 2 M_rounded_below) := by
  refine fn_ok (k := 3) (N := N_rounded_below) (tl := [none, none, none, none, none, none]) (b := sSeq (sSet 2 (m1 oBits (mN oMaxL (mCons (mLc (onlyA (mV 1)) nfA (gNm 7) (mYes) (mN oAbs (mCons (mV 7) (mNil))) [7]) (mNil))))) (sSeq (sSet 3 (mC (.int 1))) (sSeq (sWh (m2 oLt (mV 3) (mV 2)) (sSeq (sSet 4 (m2 oSub (mV 2) (mV 3))) (sSeq (sSet 5 (m2 oShl (mC (.int 1)) (m2 oSub (mV 4) (mC (.int 1))))) (sSeq (sSet 6 (mCall 2 M_fractions (mCons (mLc (onlyA (mV 1)) nfA (gNm 7) (mYes) (m2 oShr (m2 oAdd (mV 7) (mV 5)) (mV 4)) [7]) (mCons (mC (.int 1)) (mNil))))) (sSeq (sIf (m2 oLt (m2 oIx (mCall 2 M_table_sum (mCons (mV 0) (mCons (mV 6) (mNil)))) (mC (.int 0))) (mC (.int 0))) (sRet (mV 6)) (sNil)) (sAug 3 oMulI (mC (.int 2)))))))) (sRet (mCall 2 M_fractions (mCons (mV 1) (mCons (mC (.int 1)) (mNil)))))))) F sc_rounded_below rfl rfl (fun cdv A outer s H E hr => ?_)
  have nd : N_rounded_below.Nodup := sc_rounded_below.nd
  have tk : Takes (cxOf (L2.CX P w) P w K mg base N_rounded_below "rounded_below" (defScope (top 34)) (He.ga K "rounded_below") cdv A outer s H E) (fun cls d _ H' => E cls d H') := takes_of rfl rfl rfl rfl
  have po : PassesOwn (model P w) (cxOf (L2.CX P w) P w K mg base N_rounded_below "rounded_below" (defScope (top 34)) (He.ga K "rounded_below") cdv A outer s H E).A (cxOf (L2.CX P w) P w K mg base N_rounded_below "rounded_below" (defScope (top 34)) (He.ga K "rounded_below") cdv A outer s H E).env (cxOf (L2.CX P w) P w K mg base N_rounded_below "rounded_below" (defScope (top 34)) (He.ga K "rounded_below") cdv A outer s H E).xe := passes_of (X := cxOf (L2.CX P w) P w K mg base N_rounded_below "rounded_below" (defScope (top 34)) (He.ga K "rounded_below") cdv A outer s H E) rfl
  exact (es_cons (s_set nd (ee_bits (f_maxL rfl rfl G.b_max (ea_cons (ee_lc rfl nd (own := [("own", 7)]) (ei_any rfl (ee_var 1 (pv 1))) (blkOk_by (N := N_rounded_below) (sc := defScope (top 34)) (by decide +kernel)) (fun _ _ _ _ _ => (ct_name (g_name nd) (by decide))) (fun _ _ _ _ _ => ets_nil) (fun _ _ _ _ _ => (f_abs G.b_abs (ea_cons (ee_var 7 (pv 7)) ea_nil)))) ea_nil))))
    (es_cons (s_set nd ee_int)
    (es_cons (es_while po (t_lt rfl (ee_var 3 (pv 3)) (ee_var 2 (pv 2))) (es_cons (s_set nd (b_sub rfl (ee_var 2 (pv 2)) (ee_var 3 (pv 3))))
    (es_cons (s_set nd (b_shl ee_int (b_sub rfl (ee_var 4 (pv 4)) ee_int)))
    (es_cons (s_set nd (ee_call h_fractions hr (by decide) tk (ea_cons (ee_lc rfl nd (own := [("own", 7)]) (ei_any rfl (ee_var 1 (pv 1))) (blkOk_by (N := N_rounded_below) (sc := defScope (top 34)) (by decide +kernel)) (fun _ _ _ _ _ => (ct_name (g_name nd) (by decide))) (fun _ _ _ _ _ => ets_nil) (fun _ _ _ _ _ => (b_shr (b_add rfl (ee_var 7 (pv 7)) (ee_var 5 (pv 5))) (ee_var 4 (pv 4))))) (ea_cons ee_int ea_nil))))
    (es_cons (es_if (t_lt rfl (b_ix rfl (ee_call h_table_sum hr (by decide) tk (ea_cons (ee_var 0 (pv 0)) (ea_cons (ee_var 6 (pv 6)) ea_nil))) ee_int) ee_int) (es_one (es_ret (ee_var 6 (pv 6)))) es_nil)
    (es_one (s_augMul nd ee_int)))))))
    (es_one (es_ret (ee_call h_fractions hr (by decide) tk (ea_cons (ee_var 1 (pv 1)) (ea_cons ee_int ea_nil))))))))
theorem ok_rounded_below {P : Program} {w : World} {K : PySem.W.Frag} {mg : Str → Option Value} {base : Heap} (G : Gf K mg) (h_fractions : Kn P w K mg base (pm K) 2 "fractions" 2 M_fractions) (h_table_sum : Kn P w K mg base (pm K) 3 "table_sum" 2 M_table_sum) : Kn P w K mg base (pm K) 4 "rounded_below" 2 M_rounded_below := by
  obtain ⟨fd, F⟩ := G.d_rounded_below
  exact ⟨_, fd, _, fo_rounded_below G h_fractions h_table_sum  F, G.a_rounded_below, F.kp, (F.bindsN fun _ _ _ _ _ _ us hl => match us, hl with | [_, _], _ => rfl)⟩
abbrev N_swept : List Str := ["rows", "used", "column", "last", "chosen", "pivot", "out", "k", "own", "by", "a", "b"]
theorem sc_swept : FnScope N_swept ["rows", "used", "column", "last"] (defScope (top 29)) := ⟨rfl, rfl, rfl, by decide +kernel, rfl, by decide +kernel, by decide +kernel⟩
noncomputable def M_swept : Fn' := fnM [none, none, none, none, none, none, none, none] (sSeq (sSet 4 (m2 oIx (mV 0) (mV 1))) (sSeq (sSet 5 (m2 oIx (mV 4) (mV 2))) (sSeq (sSet 6 (mN oLst (mNil))) (sSeq (sFor (enmX (mCons (mV 0) (mNil))) nfX (gTL 2 (gCn (gNm 7) (gCn (gNm 8) (gNl)))) (sIf (m2 oEqL (mV 7) (mV 1)) (sEx (mMethL (mV 6) (mCons (mV 8) (mNil)) oApp)) (sSeq (sSet 9 (m2 oIx (mV 8) (mV 2))) (sEx (mMethL (mV 6) (mCons (mLc (zipW (mCons (mV 8) (mCons (mV 4) (mNil)))) nfW (gPr 10 11) (mYes) (m2 oFdiv (m2 oSub (m2 oMul (mV 5) (mV 10)) (m2 oMul (mV 9) (mV 11))) (mV 3)) [10, 11]) (mNil)) oApp))))) (sRet (mV 6))))))
theorem fo_swept {P : Program} {w : World} {K : PySem.W.Frag} {mg : Str → Option Value} {base : Heap} (G : Gf K mg) {fd : FuncData} (F : FunD K "swept" "swept" (defArgs (top 29)) (defBody (top 29)) (defScope (top 29)) [] [] (He.ga K "swept") fd) : FnOk P w K mg base (L2.CX P w) 1 (He.ga K "swept") fd ["rows", "used", "column", "last"] (spM (pm K) 4 M_swept) := by
  refine fn_ok (k := 0) (N := N_swept) (tl := [none, none, none, none, none, none, none, none]) (b := sSeq (sSet 4 (m2 oIx (mV 0) (mV 1))) (sSeq (sSet 5 (m2 oIx (mV 4) (mV 2))) (sSeq (sSet 6 (mN oLst (mNil))) (sSeq (sFor (enmX (mCons (mV 0) (mNil))) nfX (gTL 2 (gCn (gNm 7) (gCn (gNm 8) (gNl)))) (sIf (m2 oEqL (mV 7) (mV 1)) (sEx (mMethL (mV 6) (mCons (mV 8) (mNil)) oApp)) (sSeq (sSet 9 (m2 oIx (mV 8) (mV 2))) (sEx (mMethL (mV 6) (mCons (mLc (zipW (mCons (mV 8) (mCons (mV 4) (mNil)))) nfW (gPr 10 11) (mYes) (m2 oFdiv (m2 oSub (m2 oMul (mV 5) (mV 10)) (m2 oMul (mV 9) (mV 11))) (mV 3)) [10, 11]) (mNil)) oApp))))) (sRet (mV 6)))))) F sc_swept rfl rfl (fun cdv A outer s H E hr => ?_)
  have nd : N_swept.Nodup := sc_swept.nd
  have tk : Takes (cxOf (L2.CX P w) P w K mg base N_swept "swept" (defScope (top 29)) (He.ga K "swept") cdv A outer s H E) (fun cls d _ H' => E cls d H') := takes_of rfl rfl rfl rfl
  have po : PassesOwn (model P w) (cxOf (L2.CX P w) P w K mg base N_swept "swept" (defScope (top 29)) (He.ga K "swept") cdv A outer s H E).A (cxOf (L2.CX P w) P w K mg base N_swept "swept" (defScope (top 29)) (He.ga K "swept") cdv A outer s H E).env (cxOf (L2.CX P w) P w K mg base N_swept "swept" (defScope (top 29)) (He.ga K "swept") cdv A outer s H E).xe := passes_of (X := cxOf (L2.CX P w) P w K mg base N_swept "swept" (defScope (top 29)) (He.ga K "swept") cdv A outer s H E) rfl
  exact (es_cons (s_set nd (b_ix rfl (ee_var 0 (pv 0)) (ee_var 1 (pv 1))))
    (es_cons (s_set nd (b_ix rfl (ee_var 4 (pv 4)) (ee_var 2 (pv 2))))
    (es_cons (s_set nd (ee_lst ea_nil))
    (es_cons (es_for po rfl (ei_enumX rfl G.b_enumerate (ea_cons (ee_var 0 (pv 0)) ea_nil)) (eg_tl rfl rfl (egs_cons (eg_name (g_name nd)) (egs_cons (eg_name (g_name nd)) egs_nil))) (es_one (es_if (t_eqL rfl hr.units (ee_var 7 (pv 7)) (ee_var 1 (pv 1))) (es_one (es_ex (ee_append (ee_var 6 (pv 6)) (ea_cons (ee_var 8 (pv 8)) ea_nil)))) (es_cons (s_set nd (b_ix rfl (ee_var 8 (pv 8)) (ee_var 2 (pv 2))))
    (es_one (es_ex (ee_append (ee_var 6 (pv 6)) (ea_cons (ee_lc rfl nd (own := [("a", 10), ("b", 11)]) (ei_zipW rfl G.b_zip (ea_cons (ee_var 8 (pv 8)) (ea_cons (ee_var 4 (pv 4)) ea_nil))) (blkOk_by (N := N_swept) (sc := defScope (top 29)) (by decide +kernel)) (fun _ _ _ _ _ => (ct_pair rfl rfl (g_name nd) (g_name nd) (by decide) (by decide))) (fun _ _ _ _ _ => ets_nil) (fun _ _ _ _ _ => (b_fdiv rfl (b_sub rfl (b_mul rfl (ee_var 5 (pv 5)) (ee_var 10 (pv 10))) (b_mul rfl (ee_var 9 (pv 9)) (ee_var 11 (pv 11)))) (ee_var 3 (pv 3))))) ea_nil))))))))
    (es_one (es_ret (ee_var 6 (pv 6))))))))
theorem ok_swept {P : Program} {w : World} {K : PySem.W.Frag} {mg : Str → Option Value} {base : Heap} (G : Gf K mg) : Kn P w K mg base (pm K) 1 "swept" 4 M_swept := by
  obtain ⟨fd, F⟩ := G.d_swept
  exact ⟨_, fd, _, fo_swept G   F, G.a_swept, F.kp, (F.bindsN fun _ _ _ _ _ _ us hl => match us, hl with | [_, _, _, _], _ => rfl)⟩
abbrev N_whole_solved : List Str := ["grid", "rows", "many", "last", "places", "column", "tops", "used", "pick", "k", "own"]
theorem sc_whole_solved : FnScope N_whole_solved ["grid"] (defScope (top 28)) := ⟨rfl, rfl, rfl, by decide +kernel, rfl, by decide +kernel, by decide +kernel⟩
noncomputable def M_whole_solved : Fn' := fnM [none, none, none, none, none, none, none, none, none, none] (sSeq (sSet 1 (mLc (onlyA (mV 0)) nfA (gNm 10) (mYes) (mN oListX (mCons (mV 10) (mNil))) [10])) (sSeq (sSet 2 (m2 oSub (mN oLen (mCons (m2 oIx (mV 1) (mC (.int 0))) (mNil))) (mC (.int 1)))) (sSeq (sSet 3 (mC (.int 1))) (sSeq (sSet 4 (mN oLst (mNil))) (sSeq (sFor (rng1 (mCons (mV 2) (mNil))) nfR (gNm 5) (sSeq (sSet 7 (mN oLen (mCons (mV 4) (mNil)))) (sSeq (sSet 8 (mV 7)) (sSeq (sWh (mAndB (m2 oLt (mV 8) (mN oLen (mCons (mV 1) (mNil)))) (m2 oEqL (m2 oIx (m2 oIx (mV 1) (mV 8)) (mV 5)) (mC (.int 0)))) (sAug 8 oAddX (mC (.int 1)))) (sSeq (sIf (m2 oEqL (mV 8) (mN oLen (mCons (mV 1) (mNil)))) (sCnt) (sNil)) (sSeq (sAs (mN oTup (mCons (m2 oIx (mV 1) (mV 8)) (mCons (m2 oIx (mV 1) (mV 7)) (mNil)))) (gEnd (gTL 2 (gCn (gSb (mV 1) (mV 7)) (gCn (gSb (mV 1) (mV 8)) (gNl)))))) (sSeq (sSet 1 (mCall 4 M_swept (mCons (mV 1) (mCons (mV 7) (mCons (mV 5) (mCons (mV 3) (mNil))))))) (sSeq (sSet 3 (m2 oIx (m2 oIx (mV 1) (mV 7)) (mV 5))) (sEx (mMethL (mV 4) (mCons (mV 5) (mNil)) oApp)))))))))) (sSeq (sIf (mTru (mN oAny (mCons (mLc (onlyA (mSl (mV 1) (mPart (mN oLen (mCons (mV 4) (mNil)))) (mC .non))) nfA (gNm 10) (mYes) (m2 oNeL (m2 oIx (mV 10) (mV 2)) (mC (.int 0))) [10]) (mNil)))) (sRet (mC .non)) (sNil)) (sSeq (sSet 6 (m2 oMul (mN oLst (mCons (mC (.int 0)) (mNil))) (mV 2))) (sSeq (sFor (enmX (mCons (mV 4) (mNil))) nfX (gTL 2 (gCn (gNm 9) (gCn (gNm 5) (gNl)))) (sAs (m2 oIx (m2 oIx (mV 1) (mV 9)) (mV 2)) (gEnd (gSb (mV 6) (mV 5))))) (sRet (mN oTup (mCons (mV 6) (mCons (mV 3) (mNil)))))))))))))
theorem fo_whole_solved {P : Program} {w : World} {K : PySem.W.Frag} {mg : Str → Option Value} {base : Heap} (G : Gf K mg) (h_swept : Kn P w K mg base (pm K) 1 "swept" 4 M_swept) {fd : FuncData} (F : FunD K "whole_solved" "whole_solved" (defArgs (top 28)) (defBody (top 28)) (defScope (top 28)) [] [] (He.ga K "whole_solved") fd) : FnOk P w K mg base (L2.CX P w) 2 (He.ga K "whole_solved") fd ["grid"] (spM (pm K) 1 M_whole_solved) := by
  refine fn_ok (k := 1) (N := N_whole_solved) (tl := [none, none, none, none, none, none, none, none, none, none]) (b := sSeq (sSet 1 (mLc (onlyA (mV 0)) nfA (gNm 10) (mYes) (mN oListX (mCons (mV 10) (mNil))) [10])) (sSeq (sSet 2 (m2 oSub (mN oLen (mCons (m2 oIx (mV 1) (mC (.int 0))) (mNil))) (mC (.int 1)))) (sSeq (sSet 3 (mC (.int 1))) (sSeq (sSet 4 (mN oLst (mNil))) (sSeq (sFor (rng1 (mCons (mV 2) (mNil))) nfR (gNm 5) (sSeq (sSet 7 (mN oLen (mCons (mV 4) (mNil)))) (sSeq (sSet 8 (mV 7)) (sSeq (sWh (mAndB (m2 oLt (mV 8) (mN oLen (mCons (mV 1) (mNil)))) (m2 oEqL (m2 oIx (m2 oIx (mV 1) (mV 8)) (mV 5)) (mC (.int 0)))) (sAug 8 oAddX (mC (.int 1)))) (sSeq (sIf (m2 oEqL (mV 8) (mN oLen (mCons (mV 1) (mNil)))) (sCnt) (sNil)) (sSeq (sAs (mN oTup (mCons (m2 oIx (mV 1) (mV 8)) (mCons (m2 oIx (mV 1) (mV 7)) (mNil)))) (gEnd (gTL 2 (gCn (gSb (mV 1) (mV 7)) (gCn (gSb (mV 1) (mV 8)) (gNl)))))) (sSeq (sSet 1 (mCall 4 M_swept (mCons (mV 1) (mCons (mV 7) (mCons (mV 5) (mCons (mV 3) (mNil))))))) (sSeq (sSet 3 (m2 oIx (m2 oIx (mV 1) (mV 7)) (mV 5))) (sEx (mMethL (mV 4) (mCons (mV 5) (mNil)) oApp)))))))))) (sSeq (sIf (mTru (mN oAny (mCons (mLc (onlyA (mSl (mV 1) (mPart (mN oLen (mCons (mV 4) (mNil)))) (mC .non))) nfA (gNm 10) (mYes) (m2 oNeL (m2 oIx (mV 10) (mV 2)) (mC (.int 0))) [10]) (mNil)))) (sRet (mC .non)) (sNil)) (sSeq (sSet 6 (m2 oMul (mN oLst (mCons (mC (.int 0)) (mNil))) (mV 2))) (sSeq (sFor (enmX (mCons (mV 4) (mNil))) nfX (gTL 2 (gCn (gNm 9) (gCn (gNm 5) (gNl)))) (sAs (m2 oIx (m2 oIx (mV 1) (mV 9)) (mV 2)) (gEnd (gSb (mV 6) (mV 5))))) (sRet (mN oTup (mCons (mV 6) (mCons (mV 3) (mNil))))))))))))) F sc_whole_solved rfl rfl (fun cdv A outer s H E hr => ?_)
  have nd : N_whole_solved.Nodup := sc_whole_solved.nd
  have tk : Takes (cxOf (L2.CX P w) P w K mg base N_whole_solved "whole_solved" (defScope (top 28)) (He.ga K "whole_solved") cdv A outer s H E) (fun cls d _ H' => E cls d H') := takes_of rfl rfl rfl rfl
  have po : PassesOwn (model P w) (cxOf (L2.CX P w) P w K mg base N_whole_solved "whole_solved" (defScope (top 28)) (He.ga K "whole_solved") cdv A outer s H E).A (cxOf (L2.CX P w) P w K mg base N_whole_solved "whole_solved" (defScope (top 28)) (He.ga K "whole_solved") cdv A outer s H E).env (cxOf (L2.CX P w) P w K mg base N_whole_solved "whole_solved" (defScope (top 28)) (He.ga K "whole_solved") cdv A outer s H E).xe := passes_of (X := cxOf (L2.CX P w) P w K mg base N_whole_solved "whole_solved" (defScope (top 28)) (He.ga K "whole_solved") cdv A outer s H E) rfl
  exact (es_cons (es_setLc rfl nd rfl rfl (sw_true rfl rfl rfl (by decide +kernel)) (own := [("own", 10)]) (ei_any rfl (ee_var 0 (pv 0))) (blkOk_by (N := N_whole_solved) (sc := defScope (top 28)) (by decide +kernel)) (fun _ _ _ _ _ => (ct_name (g_name nd) (by decide))) (fun _ _ _ _ _ => ets_nil) (fun _ _ _ _ _ => (f_listX rfl rfl G.b_list (ea_cons (ee_var 10 (pv 10)) ea_nil))))
    (es_cons (s_set nd (b_sub rfl (f_len rfl G.b_len (ea_cons (b_ix rfl (ee_var 1 (pv 1)) ee_int) ea_nil)) ee_int))
    (es_cons (s_set nd ee_int)
    (es_cons (s_set nd (ee_lst ea_nil))
    (es_cons (es_for po rfl (ei_rng1 G.b_range (ea_cons (ee_var 2 (pv 2)) ea_nil)) (eg_name (g_name nd)) (es_cons (s_set nd (f_len rfl G.b_len (ea_cons (ee_var 4 (pv 4)) ea_nil)))
    (es_cons (s_set nd (ee_var 7 (pv 7)))
    (es_cons (es_while po (et_w (ew_and (t_lt rfl (ee_var 8 (pv 8)) (f_len rfl G.b_len (ea_cons (ee_var 1 (pv 1)) ea_nil))) (ew_and1 (t_eqL rfl hr.units (b_ix rfl (b_ix rfl (ee_var 1 (pv 1)) (ee_var 8 (pv 8))) (ee_var 5 (pv 5))) ee_int)))) (es_one (s_augAddX nd ee_int)))
    (es_cons (es_if (t_eqL rfl hr.units (ee_var 8 (pv 8)) (f_len rfl G.b_len (ea_cons (ee_var 1 (pv 1)) ea_nil))) (es_one es_cnt) es_nil)
    (es_cons (es_asg (ee_tup (ea_cons (b_ix rfl (ee_var 1 (pv 1)) (ee_var 8 (pv 8))) (ea_cons (b_ix rfl (ee_var 1 (pv 1)) (ee_var 7 (pv 7))) ea_nil))) (eg_tl rfl rfl (egs_cons (eg_sub (ee_var 1 (pv 1)) (ee_var 7 (pv 7))) (egs_cons (eg_sub (ee_var 1 (pv 1)) (ee_var 8 (pv 8))) egs_nil))))
    (es_cons (s_set nd (ee_call h_swept hr (by decide) tk (ea_cons (ee_var 1 (pv 1)) (ea_cons (ee_var 7 (pv 7)) (ea_cons (ee_var 5 (pv 5)) (ea_cons (ee_var 3 (pv 3)) ea_nil))))))
    (es_cons (s_set nd (b_ix rfl (b_ix rfl (ee_var 1 (pv 1)) (ee_var 7 (pv 7))) (ee_var 5 (pv 5))))
    (es_one (es_ex (ee_append (ee_var 4 (pv 4)) (ea_cons (ee_var 5 (pv 5)) ea_nil))))))))))))
    (es_cons (es_if (et_tru rfl (f_any rfl rfl G.b_any (ea_cons (ee_lc rfl nd (own := [("own", 10)]) (ei_any rfl (ee_sl rfl (ee_var 1 (pv 1)) (eo_some (f_len rfl G.b_len (ea_cons (ee_var 4 (pv 4)) ea_nil))) eo_none)) (blkOk_by (N := N_whole_solved) (sc := defScope (top 28)) (by decide +kernel)) (fun _ _ _ _ _ => (ct_name (g_name nd) (by decide))) (fun _ _ _ _ _ => ets_nil) (fun _ _ _ _ _ => (c_neL rfl hr.units (b_ix rfl (ee_var 10 (pv 10)) (ee_var 2 (pv 2))) ee_int))) ea_nil))) (es_one (es_ret ee_non)) es_nil)
    (es_cons (s_set nd (b_mul rfl (ee_lst (ea_cons ee_int ea_nil)) (ee_var 2 (pv 2))))
    (es_cons (es_for po rfl (ei_enumX rfl G.b_enumerate (ea_cons (ee_var 4 (pv 4)) ea_nil)) (eg_tl rfl rfl (egs_cons (eg_name (g_name nd)) (egs_cons (eg_name (g_name nd)) egs_nil))) (es_one (es_asg (b_ix rfl (b_ix rfl (ee_var 1 (pv 1)) (ee_var 9 (pv 9))) (ee_var 2 (pv 2))) (eg_sub (ee_var 6 (pv 6)) (ee_var 5 (pv 5))))))
    (es_one (es_ret (ee_tup (ea_cons (ee_var 6 (pv 6)) (ea_cons (ee_var 3 (pv 3)) ea_nil)))))))))))))
theorem ok_whole_solved {P : Program} {w : World} {K : PySem.W.Frag} {mg : Str → Option Value} {base : Heap} (G : Gf K mg) (h_swept : Kn P w K mg base (pm K) 1 "swept" 4 M_swept) : Kn P w K mg base (pm K) 2 "whole_solved" 1 M_whole_solved := by
  obtain ⟨fd, F⟩ := G.d_whole_solved
  exact ⟨_, fd, _, fo_whole_solved G h_swept  F, G.a_whole_solved, F.kp, (F.bindsN fun _ _ _ _ _ _ us hl => match us, hl with | [_], _ => rfl)⟩
abbrev N_completed : List Str := ["table", "row", "pivots", "grid", "i", "out", "own", "end", "tops", "bottom", "k", "a", "b", "j"]
theorem sc_completed : FnScope N_completed ["table", "row", "pivots"] (defScope (top 33)) := ⟨rfl, rfl, rfl, by decide +kernel, rfl, by decide +kernel, by decide +kernel⟩
noncomputable def M_completed : Fn' := fnM [none, none, none, none, none, none, none, none, none, none, none] (sSeq (sIf (mNotB (mTru (mV 2))) (sRet (mV 1)) (sNil)) (sSeq (sSet 3 (mN oLst (mNil))) (sSeq (sFor (onlyA (mV 2)) nfA (gNm 4) (sSeq (sSet 6 (m2 oIx (mCall 1 M_wholes (mCons (m2 oIx (mV 0) (mV 4)) (mNil))) (mC (.int 0)))) (sSeq (sSet 7 (mN oSumX (mCons (mLc (zipW (mCons (mV 6) (mCons (mV 1) (mNil)))) nfW (gPr 11 12) (mYes) (m2 oMul (mV 11) (mV 12)) [11, 12]) (mNil)))) (sEx (mMethL (mV 3) (mCons (m2 oAdd (mLc (onlyA (mV 2)) nfA (gNm 13) (mYes) (m2 oIx (mV 6) (mV 13)) [13]) (mN oLst (mCons (m1 oNeg (mV 7)) (mNil)))) (mNil)) oApp))))) (sSeq (sAs (mCall 1 M_whole_solved (mCons (mV 3) (mNil))) (gEnd (gTL 2 (gCn (gNm 8) (gCn (gNm 9) (gNl)))))) (sSeq (sSet 5 (mLc (onlyA (mV 1)) nfA (gNm 6) (mYes) (m2 oMul (mV 6) (mV 9)) [6])) (sSeq (sFor (enmX (mCons (mV 2) (mNil))) nfX (gTL 2 (gCn (gNm 10) (gCn (gNm 4) (gNl)))) (sAs (m2 oIx (mV 8) (mV 10)) (gEnd (gSb (mV 5) (mV 4))))) (sRet (mV 5))))))))
theorem fo_completed {P : Program} {w : World} {K : PySem.W.Frag} {mg : Str → Option Value} {base : Heap} (G : Gf K mg) (h_whole_solved : Kn P w K mg base (pm K) 2 "whole_solved" 1 M_whole_solved) (h_wholes : Kn P w K mg base (pm K) 1 "wholes" 1 M_wholes) {fd : FuncData} (F : FunD K "completed" "completed" (defArgs (top 33)) (defBody (top 33)) (defScope (top 33)) [] [] (He.ga K "completed") fd) : FnOk P w K mg base (L2.CX P w) 3 (He.ga K "completed") fd ["table", "row", "pivots"] (spM (pm K) 3 M_completed) := by
  refine fn_ok (k := 2) (N := N_completed) (tl := [none, none, none, none, none, none, none, none, none, none, none]) (b := sSeq (sIf (mNotB (mTru (mV 2))) (sRet (mV 1)) (sNil)) (sSeq (sSet 3 (mN oLst (mNil))) (sSeq (sFor (onlyA (mV 2)) nfA (gNm 4) (sSeq (sSet 6 (m2 oIx (mCall 1 M_wholes (mCons (m2 oIx (mV 0) (mV 4)) (mNil))) (mC (.int 0)))) (sSeq (sSet 7 (mN oSumX (mCons (mLc (zipW (mCons (mV 6) (mCons (mV 1) (mNil)))) nfW (gPr 11 12) (mYes) (m2 oMul (mV 11) (mV 12)) [11, 12]) (mNil)))) (sEx (mMethL (mV 3) (mCons (m2 oAdd (mLc (onlyA (mV 2)) nfA (gNm 13) (mYes) (m2 oIx (mV 6) (mV 13)) [13]) (mN oLst (mCons (m1 oNeg (mV 7)) (mNil)))) (mNil)) oApp))))) (sSeq (sAs (mCall 1 M_whole_solved (mCons (mV 3) (mNil))) (gEnd (gTL 2 (gCn (gNm 8) (gCn (gNm 9) (gNl)))))) (sSeq (sSet 5 (mLc (onlyA (mV 1)) nfA (gNm 6) (mYes) (m2 oMul (mV 6) (mV 9)) [6])) (sSeq (sFor (enmX (mCons (mV 2) (mNil))) nfX (gTL 2 (gCn (gNm 10) (gCn (gNm 4) (gNl)))) (sAs (m2 oIx (mV 8) (mV 10)) (gEnd (gSb (mV 5) (mV 4))))) (sRet (mV 5)))))))) F sc_completed rfl rfl (fun cdv A outer s H E hr => ?_)
  have nd : N_completed.Nodup := sc_completed.nd
  have tk : Takes (cxOf (L2.CX P w) P w K mg base N_completed "completed" (defScope (top 33)) (He.ga K "completed") cdv A outer s H E) (fun cls d _ H' => E cls d H') := takes_of rfl rfl rfl rfl
  have po : PassesOwn (model P w) (cxOf (L2.CX P w) P w K mg base N_completed "completed" (defScope (top 33)) (He.ga K "completed") cdv A outer s H E).A (cxOf (L2.CX P w) P w K mg base N_completed "completed" (defScope (top 33)) (He.ga K "completed") cdv A outer s H E).env (cxOf (L2.CX P w) P w K mg base N_completed "completed" (defScope (top 33)) (He.ga K "completed") cdv A outer s H E).xe := passes_of (X := cxOf (L2.CX P w) P w K mg base N_completed "completed" (defScope (top 33)) (He.ga K "completed") cdv A outer s H E) rfl
  exact (es_cons (es_if (et_not (et_tru rfl (ee_var 2 (pv 2)))) (es_one (es_ret (ee_var 1 (pv 1)))) es_nil)
    (es_cons (s_set nd (ee_lst ea_nil))
    (es_cons (es_for po rfl (ei_any rfl (ee_var 2 (pv 2))) (eg_name (g_name nd)) (es_cons (s_set nd (b_ix rfl (ee_call h_wholes hr (by decide) tk (ea_cons (b_ix rfl (ee_var 0 (pv 0)) (ee_var 4 (pv 4))) ea_nil)) ee_int))
    (es_cons (s_set nd (f_sumX rfl rfl G.b_sum (ea_cons (ee_lc rfl nd (own := [("a", 11), ("b", 12)]) (ei_zipW rfl G.b_zip (ea_cons (ee_var 6 (pv 6)) (ea_cons (ee_var 1 (pv 1)) ea_nil))) (blkOk_by (N := N_completed) (sc := defScope (top 33)) (by decide +kernel)) (fun _ _ _ _ _ => (ct_pair rfl rfl (g_name nd) (g_name nd) (by decide) (by decide))) (fun _ _ _ _ _ => ets_nil) (fun _ _ _ _ _ => (b_mul rfl (ee_var 11 (pv 11)) (ee_var 12 (pv 12))))) ea_nil)))
    (es_one (es_ex (ee_append (ee_var 3 (pv 3)) (ea_cons (b_add rfl (ee_lc rfl nd (own := [("j", 13)]) (ei_any rfl (ee_var 2 (pv 2))) (blkOk_by (N := N_completed) (sc := defScope (top 33)) (by decide +kernel)) (fun _ _ _ _ _ => (ct_name (g_name nd) (by decide))) (fun _ _ _ _ _ => ets_nil) (fun _ _ _ _ _ => (b_ix rfl (ee_var 6 (pv 6)) (ee_var 13 (pv 13))))) (ee_lst (ea_cons (b_neg (ee_var 7 (pv 7))) ea_nil))) ea_nil)))))))
    (es_cons (es_asg (ee_call h_whole_solved hr (by decide) tk (ea_cons (ee_var 3 (pv 3)) ea_nil)) (eg_tl rfl rfl (egs_cons (eg_name (g_name nd)) (egs_cons (eg_name (g_name nd)) egs_nil))))
    (es_cons (es_setLc rfl nd rfl rfl (sw_true rfl rfl rfl (by decide +kernel)) (own := [("own", 6)]) (ei_any rfl (ee_var 1 (pv 1))) (blkOk_by (N := N_completed) (sc := defScope (top 33)) (by decide +kernel)) (fun _ _ _ _ _ => (ct_name (g_name nd) (by decide))) (fun _ _ _ _ _ => ets_nil) (fun _ _ _ _ _ => (b_mul rfl (ee_var 6 (pv 6)) (ee_var 9 (pv 9)))))
    (es_cons (es_for po rfl (ei_enumX rfl G.b_enumerate (ea_cons (ee_var 2 (pv 2)) ea_nil)) (eg_tl rfl rfl (egs_cons (eg_name (g_name nd)) (egs_cons (eg_name (g_name nd)) egs_nil))) (es_one (es_asg (b_ix rfl (ee_var 8 (pv 8)) (ee_var 10 (pv 10))) (eg_sub (ee_var 5 (pv 5)) (ee_var 4 (pv 4))))))
    (es_one (es_ret (ee_var 5 (pv 5))))))))))
theorem ok_completed {P : Program} {w : World} {K : PySem.W.Frag} {mg : Str → Option Value} {base : Heap} (G : Gf K mg) (h_whole_solved : Kn P w K mg base (pm K) 2 "whole_solved" 1 M_whole_solved) (h_wholes : Kn P w K mg base (pm K) 1 "wholes" 1 M_wholes) : Kn P w K mg base (pm K) 3 "completed" 3 M_completed := by
  obtain ⟨fd, F⟩ := G.d_completed
  exact ⟨_, fd, _, fo_completed G h_whole_solved h_wholes  F, G.a_completed, F.kp, (F.bindsN fun _ _ _ _ _ _ us hl => match us, hl with | [_, _, _], _ => rfl)⟩
abbrev N_below_row : List Str := ["table", "fall", "row", "place", "partner", "pivots", "left", "size"]
theorem sc_below_row : FnScope N_below_row ["table"] (defScope (top 32)) := ⟨rfl, rfl, rfl, by decide +kernel, rfl, by decide +kernel, by decide +kernel⟩
noncomputable def M_below_row : Fn' := fnM [none, none, none, none, none, none, none] (sSeq (sSet 1 (mCall 1 M_first_fall (mCons (mV 0) (mNil)))) (sSeq (sIf (m2 (oIsN false) (mV 1) (mC .non)) (sRet (mC .non)) (sNil)) (sSeq (sAs (mV 1) (gEnd (gTL 4 (gCn (gNm 3) (gCn (gNm 4) (gCn (gNm 5) (gCn (gNm 6) (gNl)))))))) (sSeq (sSet 2 (m2 oMul (mN oLst (mCons (mC (.int 0)) (mNil))) (mN oLen (mCons (mV 0) (mNil))))) (sSeq (sAs (mC (.int 1)) (gEnd (gSb (mV 2) (mV 3)))) (sSeq (sIf (m2 (oIsN true) (mV 4) (mC .non)) (sSeq (sSet 7 (m2 oAdd (m2 oFdiv (m2 oIx (mV 6) (mV 3)) (m2 oMul (mC (.int 2)) (mN oAbs (mCons (m2 oIx (mV 6) (mV 4)) (mNil))))) (mC (.int 1)))) (sAs (mIf (m2 oGt (m2 oIx (mV 6) (mV 4)) (mC (.int 0))) (m1 oNeg (mV 7)) (mV 7)) (gEnd (gSb (mV 2) (mV 4))))) (sNil)) (sRet (mCall 2 M_rounded_below (mCons (mV 0) (mCons (mCall 3 M_completed (mCons (mV 0) (mCons (mV 2) (mCons (mV 5) (mNil))))) (mNil)))))))))))
theorem fo_below_row {P : Program} {w : World} {K : PySem.W.Frag} {mg : Str → Option Value} {base : Heap} (G : Gf K mg) (h_first_fall : Kn P w K mg base (pm K) 2 "first_fall" 1 M_first_fall) (h_rounded_below : Kn P w K mg base (pm K) 4 "rounded_below" 2 M_rounded_below) (h_completed : Kn P w K mg base (pm K) 3 "completed" 3 M_completed) {fd : FuncData} (F : FunD K "below_row" "below_row" (defArgs (top 32)) (defBody (top 32)) (defScope (top 32)) [] [] (He.ga K "below_row") fd) : FnOk P w K mg base (L2.CX P w) 5 (He.ga K "below_row") fd ["table"] (spM (pm K) 1 M_below_row) := by
  refine fn_ok (k := 4) (N := N_below_row) (tl := [none, none, none, none, none, none, none]) (b := sSeq (sSet 1 (mCall 1 M_first_fall (mCons (mV 0) (mNil)))) (sSeq (sIf (m2 (oIsN false) (mV 1) (mC .non)) (sRet (mC .non)) (sNil)) (sSeq (sAs (mV 1) (gEnd (gTL 4 (gCn (gNm 3) (gCn (gNm 4) (gCn (gNm 5) (gCn (gNm 6) (gNl)))))))) (sSeq (sSet 2 (m2 oMul (mN oLst (mCons (mC (.int 0)) (mNil))) (mN oLen (mCons (mV 0) (mNil))))) (sSeq (sAs (mC (.int 1)) (gEnd (gSb (mV 2) (mV 3)))) (sSeq (sIf (m2 (oIsN true) (mV 4) (mC .non)) (sSeq (sSet 7 (m2 oAdd (m2 oFdiv (m2 oIx (mV 6) (mV 3)) (m2 oMul (mC (.int 2)) (mN oAbs (mCons (m2 oIx (mV 6) (mV 4)) (mNil))))) (mC (.int 1)))) (sAs (mIf (m2 oGt (m2 oIx (mV 6) (mV 4)) (mC (.int 0))) (m1 oNeg (mV 7)) (mV 7)) (gEnd (gSb (mV 2) (mV 4))))) (sNil)) (sRet (mCall 2 M_rounded_below (mCons (mV 0) (mCons (mCall 3 M_completed (mCons (mV 0) (mCons (mV 2) (mCons (mV 5) (mNil))))) (mNil))))))))))) F sc_below_row rfl rfl (fun cdv A outer s H E hr => ?_)
  have nd : N_below_row.Nodup := sc_below_row.nd
  have tk : Takes (cxOf (L2.CX P w) P w K mg base N_below_row "below_row" (defScope (top 32)) (He.ga K "below_row") cdv A outer s H E) (fun cls d _ H' => E cls d H') := takes_of rfl rfl rfl rfl
  have po : PassesOwn (model P w) (cxOf (L2.CX P w) P w K mg base N_below_row "below_row" (defScope (top 32)) (He.ga K "below_row") cdv A outer s H E).A (cxOf (L2.CX P w) P w K mg base N_below_row "below_row" (defScope (top 32)) (He.ga K "below_row") cdv A outer s H E).env (cxOf (L2.CX P w) P w K mg base N_below_row "below_row" (defScope (top 32)) (He.ga K "below_row") cdv A outer s H E).xe := passes_of (X := cxOf (L2.CX P w) P w K mg base N_below_row "below_row" (defScope (top 32)) (He.ga K "below_row") cdv A outer s H E) rfl
  exact (es_cons (s_set nd (ee_call h_first_fall hr (by decide) tk (ea_cons (ee_var 0 (pv 0)) ea_nil)))
    (es_cons (es_if (t_is rfl (ee_var 1 (pv 1)) ee_non) (es_one (es_ret ee_non)) es_nil)
    (es_cons (es_asg (ee_var 1 (pv 1)) (eg_tl rfl rfl (egs_cons (eg_name (g_name nd)) (egs_cons (eg_name (g_name nd)) (egs_cons (eg_name (g_name nd)) (egs_cons (eg_name (g_name nd)) egs_nil))))))
    (es_cons (s_set nd (b_mul rfl (ee_lst (ea_cons ee_int ea_nil)) (f_len rfl G.b_len (ea_cons (ee_var 0 (pv 0)) ea_nil))))
    (es_cons (es_asg ee_int (eg_sub (ee_var 2 (pv 2)) (ee_var 3 (pv 3))))
    (es_cons (es_if (t_isn rfl (ee_var 4 (pv 4)) ee_non) (es_cons (s_set nd (b_add rfl (b_fdiv rfl (b_ix rfl (ee_var 6 (pv 6)) (ee_var 3 (pv 3))) (b_mul rfl ee_int (f_abs G.b_abs (ea_cons (b_ix rfl (ee_var 6 (pv 6)) (ee_var 4 (pv 4))) ea_nil)))) ee_int))
    (es_one (es_asg (ee_if (t_gt rfl (b_ix rfl (ee_var 6 (pv 6)) (ee_var 4 (pv 4))) ee_int) (b_neg (ee_var 7 (pv 7))) (ee_var 7 (pv 7))) (eg_sub (ee_var 2 (pv 2)) (ee_var 4 (pv 4)))))) es_nil)
    (es_one (es_ret (ee_call h_rounded_below hr (by decide) tk (ea_cons (ee_var 0 (pv 0)) (ea_cons (ee_call h_completed hr (by decide) tk (ea_cons (ee_var 0 (pv 0)) (ea_cons (ee_var 2 (pv 2)) (ea_cons (ee_var 5 (pv 5)) ea_nil)))) ea_nil)))))))))))
theorem ok_below_row {P : Program} {w : World} {K : PySem.W.Frag} {mg : Str → Option Value} {base : Heap} (G : Gf K mg) (h_first_fall : Kn P w K mg base (pm K) 2 "first_fall" 1 M_first_fall) (h_rounded_below : Kn P w K mg base (pm K) 4 "rounded_below" 2 M_rounded_below) (h_completed : Kn P w K mg base (pm K) 3 "completed" 3 M_completed) : Kn P w K mg base (pm K) 5 "below_row" 1 M_below_row := by
  obtain ⟨fd, F⟩ := G.d_below_row
  exact ⟨_, fd, _, fo_below_row G h_first_fall h_rounded_below h_completed  F, G.a_below_row, F.kp, (F.bindsN fun _ _ _ _ _ _ us hl => match us, hl with | [_], _ => rfl)⟩
abbrev N_rest_of : List Str := ["box"]
theorem sc_rest_of : FnScope N_rest_of ["box"] (defScope (top 57)) := ⟨rfl, rfl, rfl, by decide +kernel, rfl, by decide +kernel, by decide +kernel⟩
noncomputable def M_rest_of : Fn' := fnM [] (sRet (m2 oMul (mN oTup (mCons (mC (.tup [.int (0), .int (1)])) (mNil))) (mCall 1 M_cells_of (mCons (mV 0) (mNil)))))
theorem fo_rest_of {P : Program} {w : World} {K : PySem.W.Frag} {mg : Str → Option Value} {base : Heap} (G : Gf K mg) (h_cells_of : Kn P w K mg base (pm K) 1 "cells_of" 1 M_cells_of) {fd : FuncData} (F : FunD K "rest_of" "rest_of" (defArgs (top 57)) (defBody (top 57)) (defScope (top 57)) [] [] (He.ga K "rest_of") fd) : FnOk P w K mg base (L2.CX P w) 2 (He.ga K "rest_of") fd ["box"] (spM (pm K) 1 M_rest_of) := by
  refine fn_ok (k := 1) (N := N_rest_of) (tl := []) (b := sRet (m2 oMul (mN oTup (mCons (mC (.tup [.int (0), .int (1)])) (mNil))) (mCall 1 M_cells_of (mCons (mV 0) (mNil))))) F sc_rest_of rfl rfl (fun cdv A outer s H E hr => ?_)
  have nd : N_rest_of.Nodup := sc_rest_of.nd
  have tk : Takes (cxOf (L2.CX P w) P w K mg base N_rest_of "rest_of" (defScope (top 57)) (He.ga K "rest_of") cdv A outer s H E) (fun cls d _ H' => E cls d H') := takes_of rfl rfl rfl rfl
  have po : PassesOwn (model P w) (cxOf (L2.CX P w) P w K mg base N_rest_of "rest_of" (defScope (top 57)) (He.ga K "rest_of") cdv A outer s H E).A (cxOf (L2.CX P w) P w K mg base N_rest_of "rest_of" (defScope (top 57)) (He.ga K "rest_of") cdv A outer s H E).env (cxOf (L2.CX P w) P w K mg base N_rest_of "rest_of" (defScope (top 57)) (He.ga K "rest_of") cdv A outer s H E).xe := passes_of (X := cxOf (L2.CX P w) P w K mg base N_rest_of "rest_of" (defScope (top 57)) (He.ga K "rest_of") cdv A outer s H E) rfl
  exact (es_one (es_ret (b_mul rfl (ee_tup (ea_cons (ee_const (v := .ref (He.ga K "ZERO")) G.z_ZERO G.m_ZERO rfl) ea_nil)) (ee_call h_cells_of hr (by decide) tk (ea_cons (ee_var 0 (pv 0)) ea_nil)))))
theorem ok_rest_of {P : Program} {w : World} {K : PySem.W.Frag} {mg : Str → Option Value} {base : Heap} (G : Gf K mg) (h_cells_of : Kn P w K mg base (pm K) 1 "cells_of" 1 M_cells_of) : Kn P w K mg base (pm K) 2 "rest_of" 1 M_rest_of := by
  obtain ⟨fd, F⟩ := G.d_rest_of
  exact ⟨_, fd, _, fo_rest_of G h_cells_of  F, G.a_rest_of, F.kp, (F.bindsN fun _ _ _ _ _ _ us hl => match us, hl with | [_], _ => rfl)⟩
abbrev N_answers_of : List Str := ["box", "pushes"]
theorem sc_answers_of : FnScope N_answers_of ["box", "pushes"] (defScope (top 59)) := ⟨rfl, rfl, rfl, by decide +kernel, rfl, by decide +kernel, by decide +kernel⟩
noncomputable def M_answers_of : Fn' := fnM [] (sRet (m2 oIx (mCall 3 M_moved (mCons (mV 0) (mCons (mCall 1 M_rest_of (mCons (mV 0) (mNil))) (mCons (mV 1) (mNil))))) (mC (.int 0))))
theorem fo_answers_of {P : Program} {w : World} {K : PySem.W.Frag} {mg : Str → Option Value} {base : Heap} (G : Gf K mg) (h_moved : Kn P w K mg base (pm K) 5 "moved" 3 M_moved) (h_rest_of : Kn P w K mg base (pm K) 2 "rest_of" 1 M_rest_of) {fd : FuncData} (F : FunD K "answers_of" "answers_of" (defArgs (top 59)) (defBody (top 59)) (defScope (top 59)) [] [] (He.ga K "answers_of") fd) : FnOk P w K mg base (L2.CX P w) 6 (He.ga K "answers_of") fd ["box", "pushes"] (spM (pm K) 2 M_answers_of) := by
  refine fn_ok (k := 5) (N := N_answers_of) (tl := []) (b := sRet (m2 oIx (mCall 3 M_moved (mCons (mV 0) (mCons (mCall 1 M_rest_of (mCons (mV 0) (mNil))) (mCons (mV 1) (mNil))))) (mC (.int 0)))) F sc_answers_of rfl rfl (fun cdv A outer s H E hr => ?_)
  have nd : N_answers_of.Nodup := sc_answers_of.nd
  have tk : Takes (cxOf (L2.CX P w) P w K mg base N_answers_of "answers_of" (defScope (top 59)) (He.ga K "answers_of") cdv A outer s H E) (fun cls d _ H' => E cls d H') := takes_of rfl rfl rfl rfl
  have po : PassesOwn (model P w) (cxOf (L2.CX P w) P w K mg base N_answers_of "answers_of" (defScope (top 59)) (He.ga K "answers_of") cdv A outer s H E).A (cxOf (L2.CX P w) P w K mg base N_answers_of "answers_of" (defScope (top 59)) (He.ga K "answers_of") cdv A outer s H E).env (cxOf (L2.CX P w) P w K mg base N_answers_of "answers_of" (defScope (top 59)) (He.ga K "answers_of") cdv A outer s H E).xe := passes_of (X := cxOf (L2.CX P w) P w K mg base N_answers_of "answers_of" (defScope (top 59)) (He.ga K "answers_of") cdv A outer s H E) rfl
  exact (es_one (es_ret (b_ix rfl (ee_call h_moved hr (by decide) tk (ea_cons (ee_var 0 (pv 0)) (ea_cons (ee_call h_rest_of hr (by decide) tk (ea_cons (ee_var 0 (pv 0)) ea_nil)) (ea_cons (ee_var 1 (pv 1)) ea_nil)))) ee_int)))
theorem ok_answers_of {P : Program} {w : World} {K : PySem.W.Frag} {mg : Str → Option Value} {base : Heap} (G : Gf K mg) (h_moved : Kn P w K mg base (pm K) 5 "moved" 3 M_moved) (h_rest_of : Kn P w K mg base (pm K) 2 "rest_of" 1 M_rest_of) : Kn P w K mg base (pm K) 6 "answers_of" 2 M_answers_of := by
  obtain ⟨fd, F⟩ := G.d_answers_of
  exact ⟨_, fd, _, fo_answers_of G h_moved h_rest_of  F, G.a_answers_of, F.kp, (F.bindsN fun _ _ _ _ _ _ us hl => match us, hl with | [_, _], _ => rfl)⟩
abbrev N_first_echoes : List Str := ["box", "k"]
theorem sc_first_echoes : FnScope N_first_echoes ["box", "k"] (defScope (top 60)) := ⟨rfl, rfl, rfl, by decide +kernel, rfl, by decide +kernel, by decide +kernel⟩
noncomputable def M_first_echoes : Fn' := fnM [] (sRet (mCall 2 M_answers_of (mCons (mV 0) (mCons (m2 oAdd (mN oTup (mCons (mC (.tup [.int (1), .int (1)])) (mNil))) (m2 oMul (mN oTup (mCons (mC (.tup [.int (0), .int (1)])) (mNil))) (m2 oSub (mV 1) (mC (.int 1))))) (mNil)))))
theorem fo_first_echoes {P : Program} {w : World} {K : PySem.W.Frag} {mg : Str → Option Value} {base : Heap} (G : Gf K mg) (h_answers_of : Kn P w K mg base (pm K) 6 "answers_of" 2 M_answers_of) {fd : FuncData} (F : FunD K "first_echoes" "first_echoes" (defArgs (top 60)) (defBody (top 60)) (defScope (top 60)) [] [] (He.ga K "first_echoes") fd) : FnOk P w K mg base (L2.CX P w) 7 (He.ga K "first_echoes") fd ["box", "k"] (spM (pm K) 2 M_first_echoes) := by
  refine fn_ok (k := 6) (N := N_first_echoes) (tl := []) (b := sRet (mCall 2 M_answers_of (mCons (mV 0) (mCons (m2 oAdd (mN oTup (mCons (mC (.tup [.int (1), .int (1)])) (mNil))) (m2 oMul (mN oTup (mCons (mC (.tup [.int (0), .int (1)])) (mNil))) (m2 oSub (mV 1) (mC (.int 1))))) (mNil))))) F sc_first_echoes rfl rfl (fun cdv A outer s H E hr => ?_)
  have nd : N_first_echoes.Nodup := sc_first_echoes.nd
  have tk : Takes (cxOf (L2.CX P w) P w K mg base N_first_echoes "first_echoes" (defScope (top 60)) (He.ga K "first_echoes") cdv A outer s H E) (fun cls d _ H' => E cls d H') := takes_of rfl rfl rfl rfl
  have po : PassesOwn (model P w) (cxOf (L2.CX P w) P w K mg base N_first_echoes "first_echoes" (defScope (top 60)) (He.ga K "first_echoes") cdv A outer s H E).A (cxOf (L2.CX P w) P w K mg base N_first_echoes "first_echoes" (defScope (top 60)) (He.ga K "first_echoes") cdv A outer s H E).env (cxOf (L2.CX P w) P w K mg base N_first_echoes "first_echoes" (defScope (top 60)) (He.ga K "first_echoes") cdv A outer s H E).xe := passes_of (X := cxOf (L2.CX P w) P w K mg base N_first_echoes "first_echoes" (defScope (top 60)) (He.ga K "first_echoes") cdv A outer s H E) rfl
  exact (es_one (es_ret (ee_call h_answers_of hr (by decide) tk (ea_cons (ee_var 0 (pv 0)) (ea_cons (b_add rfl (ee_tup (ea_cons (ee_const (v := .ref (He.ga K "ONE")) G.z_ONE G.m_ONE rfl) ea_nil)) (b_mul rfl (ee_tup (ea_cons (ee_const (v := .ref (He.ga K "ZERO")) G.z_ZERO G.m_ZERO rfl) ea_nil)) (b_sub rfl (ee_var 1 (pv 1)) ee_int))) ea_nil)))))
theorem ok_first_echoes {P : Program} {w : World} {K : PySem.W.Frag} {mg : Str → Option Value} {base : Heap} (G : Gf K mg) (h_answers_of : Kn P w K mg base (pm K) 6 "answers_of" 2 M_answers_of) : Kn P w K mg base (pm K) 7 "first_echoes" 2 M_first_echoes := by
  obtain ⟨fd, F⟩ := G.d_first_echoes
  exact ⟨_, fd, _, fo_first_echoes G h_answers_of  F, G.a_first_echoes, F.kp, (F.bindsN fun _ _ _ _ _ _ us hl => match us, hl with | [_, _], _ => rfl)⟩
abbrev N_table_up_to : List Str := ["box", "k"]
theorem sc_table_up_to : FnScope N_table_up_to ["box", "k"] (defScope (top 66)) := ⟨rfl, rfl, rfl, by decide +kernel, rfl, by decide +kernel, by decide +kernel⟩
noncomputable def M_table_up_to : Fn' := fnM [] (sRet (mIf (m2 oGt (mV 1) (mC (.int 0))) (mCall 1 M_table_of_echoes (mCons (mCall 2 M_first_echoes (mCons (mV 0) (mCons (mV 1) (mNil)))) (mNil))) (mN oTup (mNil))))
theorem fo_table_up_to {P : Program} {w : World} {K : PySem.W.Frag} {mg : Str → Option Value} {base : Heap} (G : Gf K mg) (h_table_of_echoes : Kn P w K mg base (pm K) 3 "table_of_echoes" 1 M_table_of_echoes) (h_first_echoes : Kn P w K mg base (pm K) 7 "first_echoes" 2 M_first_echoes) {fd : FuncData} (F : FunD K "table_up_to" "table_up_to" (defArgs (top 66)) (defBody (top 66)) (defScope (top 66)) [] [] (He.ga K "table_up_to") fd) : FnOk P w K mg base (L2.CX P w) 8 (He.ga K "table_up_to") fd ["box", "k"] (spM (pm K) 2 M_table_up_to) := by
  refine fn_ok (k := 7) (N := N_table_up_to) (tl := []) (b := sRet (mIf (m2 oGt (mV 1) (mC (.int 0))) (mCall 1 M_table_of_echoes (mCons (mCall 2 M_first_echoes (mCons (mV 0) (mCons (mV 1) (mNil)))) (mNil))) (mN oTup (mNil)))) F sc_table_up_to rfl rfl (fun cdv A outer s H E hr => ?_)
  have nd : N_table_up_to.Nodup := sc_table_up_to.nd
  have tk : Takes (cxOf (L2.CX P w) P w K mg base N_table_up_to "table_up_to" (defScope (top 66)) (He.ga K "table_up_to") cdv A outer s H E) (fun cls d _ H' => E cls d H') := takes_of rfl rfl rfl rfl
  have po : PassesOwn (model P w) (cxOf (L2.CX P w) P w K mg base N_table_up_to "table_up_to" (defScope (top 66)) (He.ga K "table_up_to") cdv A outer s H E).A (cxOf (L2.CX P w) P w K mg base N_table_up_to "table_up_to" (defScope (top 66)) (He.ga K "table_up_to") cdv A outer s H E).env (cxOf (L2.CX P w) P w K mg base N_table_up_to "table_up_to" (defScope (top 66)) (He.ga K "table_up_to") cdv A outer s H E).xe := passes_of (X := cxOf (L2.CX P w) P w K mg base N_table_up_to "table_up_to" (defScope (top 66)) (He.ga K "table_up_to") cdv A outer s H E) rfl
  exact (es_one (es_ret (ee_if (t_gt rfl (ee_var 1 (pv 1)) ee_int) (ee_call h_table_of_echoes hr (by decide) tk (ea_cons (ee_call h_first_echoes hr (by decide) tk (ea_cons (ee_var 0 (pv 0)) (ea_cons (ee_var 1 (pv 1)) ea_nil))) ea_nil)) (ee_tup ea_nil))))
theorem ok_table_up_to {P : Program} {w : World} {K : PySem.W.Frag} {mg : Str → Option Value} {base : Heap} (G : Gf K mg) (h_table_of_echoes : Kn P w K mg base (pm K) 3 "table_of_echoes" 1 M_table_of_echoes) (h_first_echoes : Kn P w K mg base (pm K) 7 "first_echoes" 2 M_first_echoes) : Kn P w K mg base (pm K) 8 "table_up_to" 2 M_table_up_to := by
  obtain ⟨fd, F⟩ := G.d_table_up_to
  exact ⟨_, fd, _, fo_table_up_to G h_table_of_echoes h_first_echoes  F, G.a_table_up_to, F.kp, (F.bindsN fun _ _ _ _ _ _ us hl => match us, hl with | [_, _], _ => rfl)⟩
abbrev N_taken_number : List Str := ["value", "low", "high"]
theorem sc_taken_number : FnScope N_taken_number ["value", "low", "high"] (defScope (top 24)) := ⟨rfl, rfl, rfl, by decide +kernel, rfl, by decide +kernel, by decide +kernel⟩
noncomputable def M_taken_number : Fn' := fnM [] (sSeq (sIf (mOrB (mNotB (mTru (mCall 1 M_is_number (mCons (mV 0) (mNil))))) (m2 oLt (mV 0) (mV 1))) (sRaise 0) (sNil)) (sSeq (sIf (mAndB (m2 (oIsN true) (mV 2) (mC .non)) (m2 oGt (mV 0) (mV 2))) (sRaise 0) (sNil)) (sRet (mV 0))))
theorem fo_taken_number {P : Program} {w : World} {K : PySem.W.Frag} {mg : Str → Option Value} {base : Heap} (G : Gf K mg) (h_is_number : Kn P w K mg base (pm K) 1 "is_number" 1 M_is_number) {fd : FuncData} (F : FunD K "taken_number" "taken_number" (defArgs (top 24)) (defBody (top 24)) (defScope (top 24)) [] [] (He.ga K "taken_number") fd) : FnOk P w K mg base (L2.CX P w) 2 (He.ga K "taken_number") fd ["value", "low", "high"] (spM (pm K) 3 M_taken_number) := by
  refine fn_ok (k := 1) (N := N_taken_number) (tl := []) (b := sSeq (sIf (mOrB (mNotB (mTru (mCall 1 M_is_number (mCons (mV 0) (mNil))))) (m2 oLt (mV 0) (mV 1))) (sRaise 0) (sNil)) (sSeq (sIf (mAndB (m2 (oIsN true) (mV 2) (mC .non)) (m2 oGt (mV 0) (mV 2))) (sRaise 0) (sNil)) (sRet (mV 0)))) F sc_taken_number rfl rfl (fun cdv A outer s H E hr => ?_)
  have nd : N_taken_number.Nodup := sc_taken_number.nd
  have tk : Takes (cxOf (L2.CX P w) P w K mg base N_taken_number "taken_number" (defScope (top 24)) (He.ga K "taken_number") cdv A outer s H E) (fun cls d _ H' => E cls d H') := takes_of rfl rfl rfl rfl
  have po : PassesOwn (model P w) (cxOf (L2.CX P w) P w K mg base N_taken_number "taken_number" (defScope (top 24)) (He.ga K "taken_number") cdv A outer s H E).A (cxOf (L2.CX P w) P w K mg base N_taken_number "taken_number" (defScope (top 24)) (He.ga K "taken_number") cdv A outer s H E).env (cxOf (L2.CX P w) P w K mg base N_taken_number "taken_number" (defScope (top 24)) (He.ga K "taken_number") cdv A outer s H E).xe := passes_of (X := cxOf (L2.CX P w) P w K mg base N_taken_number "taken_number" (defScope (top 24)) (He.ga K "taken_number") cdv A outer s H E) rfl
  exact (es_cons (es_if (et_w (ew_or (et_not (et_tru rfl (ee_call h_is_number hr (by decide) tk (ea_cons (ee_var 0 (pv 0)) ea_nil)))) (ew_or1 (t_lt rfl (ee_var 0 (pv 0)) (ee_var 1 (pv 1)))))) (es_one (es_raise rfl tk G.x_Unfit)) es_nil)
    (es_cons (es_if (et_w (ew_and (t_isn rfl (ee_var 2 (pv 2)) ee_non) (ew_and1 (t_gt rfl (ee_var 0 (pv 0)) (ee_var 2 (pv 2)))))) (es_one (es_raise rfl tk G.x_Unfit)) es_nil)
    (es_one (es_ret (ee_var 0 (pv 0))))))
theorem ok_taken_number {P : Program} {w : World} {K : PySem.W.Frag} {mg : Str → Option Value} {base : Heap} (G : Gf K mg) (h_is_number : Kn P w K mg base (pm K) 1 "is_number" 1 M_is_number) : Kn P w K mg base (pm K) 2 "taken_number" 3 M_taken_number := by
  obtain ⟨fd, F⟩ := G.d_taken_number
  exact ⟨_, fd, _, fo_taken_number G h_is_number  F, G.a_taken_number, F.kp, (F.bindsN fun _ _ _ _ _ _ us hl => match us, hl with | [_, _, _], _ => rfl)⟩
abbrev N_giving_row : List Str := ["box", "k", "own", "found"]
theorem sc_giving_row : FnScope N_giving_row ["box", "k"] (defScope (top 70)) := ⟨rfl, rfl, rfl, by decide +kernel, rfl, by decide +kernel, by decide +kernel⟩
noncomputable def M_giving_row : Fn' := fnM [none, none] (sSeq (sSet 2 (mCall 1 M_taken_small (mCons (mV 0) (mNil)))) (sSeq (sSet 3 (mCall 1 M_below_row (mCons (mCall 2 M_table_up_to (mCons (mV 2) (mCons (mCall 3 M_taken_number (mCons (mV 1) (mCons (mC (.int 0)) (mCons (mC (.int 12)) (mNil))))) (mNil)))) (mNil)))) (sSeq (sIf (m2 (oIsN false) (mV 3) (mC .non)) (sRaise 2) (sNil)) (sRet (mV 3)))))
noncomputable def T_giving_row : List (List D × Kw) := [([.tup [.tup [.tup [.int (0), .int (1)], .tup [.int (1), .int (1)]], .tup [.tup [.int (1), .int (1)], .tup [.int (0), .int (1)]]], .int (2)], .ans (.tup [.tup [.int (-1), .int (1)], .tup [.int (1), .int (1)]])), ([.tup [.tup [.tup [.int (0), .int (1)], .tup [.int (1), .int (1)]], .tup [.tup [.int (1), .int (1)], .tup [.int (0), .int (1)]]], .int (12)], .ans (.tup [.tup [.int (-1), .int (1)], .tup [.int (1), .int (1)], .tup [.int (0), .int (1)], .tup [.int (0), .int (1)], .tup [.int (0), .int (1)], .tup [.int (0), .int (1)], .tup [.int (0), .int (1)], .tup [.int (0), .int (1)], .tup [.int (0), .int (1)], .tup [.int (0), .int (1)], .tup [.int (0), .int (1)], .tup [.int (0), .int (1)]])), ([.tup [.tup [.tup [.int (-1), .int (1)]], .tup [.tup [.int (1), .int (1)]]], .int (1)], .ans (.tup [.tup [.int (1), .int (1)]])), ([.tup [.tup [.tup [.int (1), .int (1)], .tup [.int (26), .int (25)]], .tup [.tup [.int (1), .int (1)], .tup [.int (0), .int (1)]]], .int (12)], .ans (.tup [.tup [.int (4), .int (1)], .tup [.int (-8), .int (1)], .tup [.int (11), .int (1)], .tup [.int (-13), .int (1)], .tup [.int (14), .int (1)], .tup [.int (-15), .int (1)], .tup [.int (14), .int (1)], .tup [.int (-12), .int (1)], .tup [.int (9), .int (1)], .tup [.int (-5), .int (1)], .tup [.int (1), .int (1)], .tup [.int (0), .int (1)]]))]
theorem kn_giving_row_0 : okIs (M_giving_row [.tup [.tup [.tup [.int (0), .int (1)], .tup [.int (1), .int (1)]], .tup [.tup [.int (1), .int (1)], .tup [.int (0), .int (1)]]], .int (2)] L0) (.ans (.tup [.tup [.int (-1), .int (1)], .tup [.int (1), .int (1)]])) = true := by decide +kernel
theorem kn_giving_row_1 : okIs (M_giving_row [.tup [.tup [.tup [.int (0), .int (1)], .tup [.int (1), .int (1)]], .tup [.tup [.int (1), .int (1)], .tup [.int (0), .int (1)]]], .int (12)] L0) (.ans (.tup [.tup [.int (-1), .int (1)], .tup [.int (1), .int (1)], .tup [.int (0), .int (1)], .tup [.int (0), .int (1)], .tup [.int (0), .int (1)], .tup [.int (0), .int (1)], .tup [.int (0), .int (1)], .tup [.int (0), .int (1)], .tup [.int (0), .int (1)], .tup [.int (0), .int (1)], .tup [.int (0), .int (1)], .tup [.int (0), .int (1)]])) = true := by decide +kernel
theorem kn_giving_row_2 : okIs (M_giving_row [.tup [.tup [.tup [.int (-1), .int (1)]], .tup [.tup [.int (1), .int (1)]]], .int (1)] L0) (.ans (.tup [.tup [.int (1), .int (1)]])) = true := by decide +kernel
theorem kn_giving_row_3 : okIs (M_giving_row [.tup [.tup [.tup [.int (1), .int (1)], .tup [.int (26), .int (25)]], .tup [.tup [.int (1), .int (1)], .tup [.int (0), .int (1)]]], .int (12)] L0) (.ans (.tup [.tup [.int (4), .int (1)], .tup [.int (-8), .int (1)], .tup [.int (11), .int (1)], .tup [.int (-13), .int (1)], .tup [.int (14), .int (1)], .tup [.int (-15), .int (1)], .tup [.int (14), .int (1)], .tup [.int (-12), .int (1)], .tup [.int (9), .int (1)], .tup [.int (-5), .int (1)], .tup [.int (1), .int (1)], .tup [.int (0), .int (1)]])) = true := by decide +kernel
theorem kt_giving_row : KT M_giving_row T_giving_row := by unfold T_giving_row; exact ⟨kn_giving_row_0, kn_giving_row_1, kn_giving_row_2, kn_giving_row_3, trivial⟩
theorem fo_giving_row {P : Program} {w : World} {K : PySem.W.Frag} {mg : Str → Option Value} {base : Heap} (G : Gf K mg) (h_taken_small : Kn P w K mg base (pm K) 8 "taken_small" 1 M_taken_small) (h_below_row : Kn P w K mg base (pm K) 5 "below_row" 1 M_below_row) (h_table_up_to : Kn P w K mg base (pm K) 8 "table_up_to" 2 M_table_up_to) (h_taken_number : Kn P w K mg base (pm K) 2 "taken_number" 3 M_taken_number) {fd : FuncData} (F : FunD K "giving_row" "giving_row" (defArgs (top 70)) (defBody (top 70)) (defScope (top 70)) [] [] (He.ga K "giving_row") fd) : FnOk P w K mg base (L2.CX P w) 9 (He.ga K "giving_row") fd ["box", "k"] (spM (pm K) 2 M_giving_row) := by
  obtain ⟨t_MOST_PUSHES, c_MOST_PUSHES⟩ := G.i_MOST_PUSHES
  refine fn_ok (k := 8) (N := N_giving_row) (tl := [none, none]) (b := sSeq (sSet 2 (mCall 1 M_taken_small (mCons (mV 0) (mNil)))) (sSeq (sSet 3 (mCall 1 M_below_row (mCons (mCall 2 M_table_up_to (mCons (mV 2) (mCons (mCall 3 M_taken_number (mCons (mV 1) (mCons (mC (.int 0)) (mCons (mC (.int 12)) (mNil))))) (mNil)))) (mNil)))) (sSeq (sIf (m2 (oIsN false) (mV 3) (mC .non)) (sRaise 2) (sNil)) (sRet (mV 3))))) F sc_giving_row rfl rfl (fun cdv A outer s H E hr => ?_)
  have nd : N_giving_row.Nodup := sc_giving_row.nd
  have tk : Takes (cxOf (L2.CX P w) P w K mg base N_giving_row "giving_row" (defScope (top 70)) (He.ga K "giving_row") cdv A outer s H E) (fun cls d _ H' => E cls d H') := takes_of rfl rfl rfl rfl
  have po : PassesOwn (model P w) (cxOf (L2.CX P w) P w K mg base N_giving_row "giving_row" (defScope (top 70)) (He.ga K "giving_row") cdv A outer s H E).A (cxOf (L2.CX P w) P w K mg base N_giving_row "giving_row" (defScope (top 70)) (He.ga K "giving_row") cdv A outer s H E).env (cxOf (L2.CX P w) P w K mg base N_giving_row "giving_row" (defScope (top 70)) (He.ga K "giving_row") cdv A outer s H E).xe := passes_of (X := cxOf (L2.CX P w) P w K mg base N_giving_row "giving_row" (defScope (top 70)) (He.ga K "giving_row") cdv A outer s H E) rfl
  exact (es_cons (s_set nd (ee_call h_taken_small hr (by decide) tk (ea_cons (ee_var 0 (pv 0)) ea_nil)))
    (es_cons (s_set nd (ee_call h_below_row hr (by decide) tk (ea_cons (ee_call h_table_up_to hr (by decide) tk (ea_cons (ee_var 2 (pv 2)) (ea_cons (ee_call h_taken_number hr (by decide) tk (ea_cons (ee_var 1 (pv 1)) (ea_cons ee_int (ea_cons (ee_const (v := .int 12) (fun _ _ => .int 12) c_MOST_PUSHES ⟨_, rfl⟩) ea_nil)))) ea_nil))) ea_nil)))
    (es_cons (es_if (t_is rfl (ee_var 3 (pv 3)) ee_non) (es_one (es_raise rfl tk G.x_NoPaper)) es_nil)
    (es_one (es_ret (ee_var 3 (pv 3)))))))
theorem ok_giving_row {P : Program} {w : World} {K : PySem.W.Frag} {mg : Str → Option Value} {base : Heap} (G : Gf K mg) (h_taken_small : Kn P w K mg base (pm K) 8 "taken_small" 1 M_taken_small) (h_below_row : Kn P w K mg base (pm K) 5 "below_row" 1 M_below_row) (h_table_up_to : Kn P w K mg base (pm K) 8 "table_up_to" 2 M_table_up_to) (h_taken_number : Kn P w K mg base (pm K) 2 "taken_number" 3 M_taken_number) : Kn P w K mg base (pm K) 9 "giving_row" 2 M_giving_row := by
  obtain ⟨fd, F⟩ := G.d_giving_row
  exact ⟨_, fd, _, fo_giving_row G h_taken_small h_below_row h_table_up_to h_taken_number  F, G.a_giving_row, F.kp, (F.bindsN fun _ _ _ _ _ _ us hl => match us, hl with | [_, _], _ => rfl)⟩
abbrev N_gives_within : List Str := ["box", "k", "own"]
theorem sc_gives_within : FnScope N_gives_within ["box", "k"] (defScope (top 69)) := ⟨rfl, rfl, rfl, by decide +kernel, rfl, by decide +kernel, by decide +kernel⟩
noncomputable def M_gives_within : Fn' := fnM [none] (sSeq (sSet 2 (mCall 1 M_taken_small (mCons (mV 0) (mNil)))) (sRet (m2 (oIsN true) (mCall 1 M_first_fall (mCons (mCall 2 M_table_up_to (mCons (mV 2) (mCons (mCall 3 M_taken_number (mCons (mV 1) (mCons (mC (.int 0)) (mCons (mC (.int 12)) (mNil))))) (mNil)))) (mNil))) (mC .non))))
noncomputable def T_gives_within : List (List D × Kw) := [([.tup [.tup [.tup [.int (0), .int (1)], .tup [.int (1), .int (1)]], .tup [.tup [.int (1), .int (1)], .tup [.int (0), .int (1)]]], .int (0)], .ans (.bl false)), ([.tup [.tup [.tup [.int (0), .int (1)], .tup [.int (1), .int (1)]], .tup [.tup [.int (1), .int (1)], .tup [.int (0), .int (1)]]], .int (1)], .ans (.bl false)), ([.tup [.tup [.tup [.int (0), .int (1)], .tup [.int (1), .int (1)]], .tup [.tup [.int (1), .int (1)], .tup [.int (0), .int (1)]]], .int (2)], .ans (.bl true)), ([.tup [.tup [.tup [.int (0), .int (1)], .tup [.int (1), .int (1)]], .tup [.tup [.int (1), .int (1)], .tup [.int (0), .int (1)]]], .int (3)], .ans (.bl true)), ([.tup [.tup [.tup [.int (1), .int (1)], .tup [.int (1), .int (1)]], .tup [.tup [.int (1), .int (1)], .tup [.int (-1), .int (1)]]], .int (9)], .ans (.bl false)), ([.tup [.tup [.tup [.int (-1), .int (1)]], .tup [.tup [.int (1), .int (1)]]], .int (1)], .ans (.bl true)), ([.tup [.tup [.tup [.int (-1), .int (1)]], .tup [.tup [.int (1), .int (1)]]], .int (0)], .ans (.bl false)), ([.tup [.tup [.tup [.int (0), .int (1)], .tup [.int (1), .int (1)]], .tup [.tup [.int (1), .int (1)], .tup [.int (0), .int (1)]]], .int (12)], .ans (.bl true)), ([.tup [.tup [.tup [.int (3), .int (2)], .tup [.int (-1), .int (2)]], .tup [.tup [.int (1), .int (1)], .tup [.int (1), .int (1)]]], .int (12)], .ans (.bl false)), ([.tup [.tup [.tup [.int (1), .int (1)], .tup [.int (26), .int (25)]], .tup [.tup [.int (1), .int (1)], .tup [.int (0), .int (1)]]], .int (10)], .ans (.bl false)), ([.tup [.tup [.tup [.int (1), .int (1)], .tup [.int (26), .int (25)]], .tup [.tup [.int (1), .int (1)], .tup [.int (0), .int (1)]]], .int (11)], .ans (.bl true))]
theorem kn_gives_within_0 : okIs (M_gives_within [.tup [.tup [.tup [.int (0), .int (1)], .tup [.int (1), .int (1)]], .tup [.tup [.int (1), .int (1)], .tup [.int (0), .int (1)]]], .int (0)] L0) (.ans (.bl false)) = true := by decide +kernel
theorem kn_gives_within_1 : okIs (M_gives_within [.tup [.tup [.tup [.int (0), .int (1)], .tup [.int (1), .int (1)]], .tup [.tup [.int (1), .int (1)], .tup [.int (0), .int (1)]]], .int (1)] L0) (.ans (.bl false)) = true := by decide +kernel
theorem kn_gives_within_2 : okIs (M_gives_within [.tup [.tup [.tup [.int (0), .int (1)], .tup [.int (1), .int (1)]], .tup [.tup [.int (1), .int (1)], .tup [.int (0), .int (1)]]], .int (2)] L0) (.ans (.bl true)) = true := by decide +kernel
theorem kn_gives_within_3 : okIs (M_gives_within [.tup [.tup [.tup [.int (0), .int (1)], .tup [.int (1), .int (1)]], .tup [.tup [.int (1), .int (1)], .tup [.int (0), .int (1)]]], .int (3)] L0) (.ans (.bl true)) = true := by decide +kernel
theorem kn_gives_within_4 : okIs (M_gives_within [.tup [.tup [.tup [.int (1), .int (1)], .tup [.int (1), .int (1)]], .tup [.tup [.int (1), .int (1)], .tup [.int (-1), .int (1)]]], .int (9)] L0) (.ans (.bl false)) = true := by decide +kernel
theorem kn_gives_within_5 : okIs (M_gives_within [.tup [.tup [.tup [.int (-1), .int (1)]], .tup [.tup [.int (1), .int (1)]]], .int (1)] L0) (.ans (.bl true)) = true := by decide +kernel
theorem kn_gives_within_6 : okIs (M_gives_within [.tup [.tup [.tup [.int (-1), .int (1)]], .tup [.tup [.int (1), .int (1)]]], .int (0)] L0) (.ans (.bl false)) = true := by decide +kernel
theorem kn_gives_within_7 : okIs (M_gives_within [.tup [.tup [.tup [.int (0), .int (1)], .tup [.int (1), .int (1)]], .tup [.tup [.int (1), .int (1)], .tup [.int (0), .int (1)]]], .int (12)] L0) (.ans (.bl true)) = true := by decide +kernel
theorem kn_gives_within_8 : okIs (M_gives_within [.tup [.tup [.tup [.int (3), .int (2)], .tup [.int (-1), .int (2)]], .tup [.tup [.int (1), .int (1)], .tup [.int (1), .int (1)]]], .int (12)] L0) (.ans (.bl false)) = true := by decide +kernel
theorem kn_gives_within_9 : okIs (M_gives_within [.tup [.tup [.tup [.int (1), .int (1)], .tup [.int (26), .int (25)]], .tup [.tup [.int (1), .int (1)], .tup [.int (0), .int (1)]]], .int (10)] L0) (.ans (.bl false)) = true := by decide +kernel
theorem kn_gives_within_10 : okIs (M_gives_within [.tup [.tup [.tup [.int (1), .int (1)], .tup [.int (26), .int (25)]], .tup [.tup [.int (1), .int (1)], .tup [.int (0), .int (1)]]], .int (11)] L0) (.ans (.bl true)) = true := by decide +kernel
theorem kt_gives_within : KT M_gives_within T_gives_within := by unfold T_gives_within; exact ⟨kn_gives_within_0, kn_gives_within_1, kn_gives_within_2, kn_gives_within_3, kn_gives_within_4, kn_gives_within_5, kn_gives_within_6, kn_gives_within_7, kn_gives_within_8, kn_gives_within_9, kn_gives_within_10, trivial⟩
theorem fo_gives_within {P : Program} {w : World} {K : PySem.W.Frag} {mg : Str → Option Value} {base : Heap} (G : Gf K mg) (h_taken_small : Kn P w K mg base (pm K) 8 "taken_small" 1 M_taken_small) (h_first_fall : Kn P w K mg base (pm K) 2 "first_fall" 1 M_first_fall) (h_table_up_to : Kn P w K mg base (pm K) 8 "table_up_to" 2 M_table_up_to) (h_taken_number : Kn P w K mg base (pm K) 2 "taken_number" 3 M_taken_number) {fd : FuncData} (F : FunD K "gives_within" "gives_within" (defArgs (top 69)) (defBody (top 69)) (defScope (top 69)) [] [] (He.ga K "gives_within") fd) : FnOk P w K mg base (L2.CX P w) 9 (He.ga K "gives_within") fd ["box", "k"] (spM (pm K) 2 M_gives_within) := by
  obtain ⟨t_MOST_PUSHES, c_MOST_PUSHES⟩ := G.i_MOST_PUSHES
  refine fn_ok (k := 8) (N := N_gives_within) (tl := [none]) (b := sSeq (sSet 2 (mCall 1 M_taken_small (mCons (mV 0) (mNil)))) (sRet (m2 (oIsN true) (mCall 1 M_first_fall (mCons (mCall 2 M_table_up_to (mCons (mV 2) (mCons (mCall 3 M_taken_number (mCons (mV 1) (mCons (mC (.int 0)) (mCons (mC (.int 12)) (mNil))))) (mNil)))) (mNil))) (mC .non)))) F sc_gives_within rfl rfl (fun cdv A outer s H E hr => ?_)
  have nd : N_gives_within.Nodup := sc_gives_within.nd
  have tk : Takes (cxOf (L2.CX P w) P w K mg base N_gives_within "gives_within" (defScope (top 69)) (He.ga K "gives_within") cdv A outer s H E) (fun cls d _ H' => E cls d H') := takes_of rfl rfl rfl rfl
  have po : PassesOwn (model P w) (cxOf (L2.CX P w) P w K mg base N_gives_within "gives_within" (defScope (top 69)) (He.ga K "gives_within") cdv A outer s H E).A (cxOf (L2.CX P w) P w K mg base N_gives_within "gives_within" (defScope (top 69)) (He.ga K "gives_within") cdv A outer s H E).env (cxOf (L2.CX P w) P w K mg base N_gives_within "gives_within" (defScope (top 69)) (He.ga K "gives_within") cdv A outer s H E).xe := passes_of (X := cxOf (L2.CX P w) P w K mg base N_gives_within "gives_within" (defScope (top 69)) (He.ga K "gives_within") cdv A outer s H E) rfl
  exact (es_cons (s_set nd (ee_call h_taken_small hr (by decide) tk (ea_cons (ee_var 0 (pv 0)) ea_nil)))
    (es_one (es_ret (c_isn rfl (ee_call h_first_fall hr (by decide) tk (ea_cons (ee_call h_table_up_to hr (by decide) tk (ea_cons (ee_var 2 (pv 2)) (ea_cons (ee_call h_taken_number hr (by decide) tk (ea_cons (ee_var 1 (pv 1)) (ea_cons ee_int (ea_cons (ee_const (v := .int 12) (fun _ _ => .int 12) c_MOST_PUSHES ⟨_, rfl⟩) ea_nil)))) ea_nil))) ea_nil)) ee_non))))
theorem ok_gives_within {P : Program} {w : World} {K : PySem.W.Frag} {mg : Str → Option Value} {base : Heap} (G : Gf K mg) (h_taken_small : Kn P w K mg base (pm K) 8 "taken_small" 1 M_taken_small) (h_first_fall : Kn P w K mg base (pm K) 2 "first_fall" 1 M_first_fall) (h_table_up_to : Kn P w K mg base (pm K) 8 "table_up_to" 2 M_table_up_to) (h_taken_number : Kn P w K mg base (pm K) 2 "taken_number" 3 M_taken_number) : Kn P w K mg base (pm K) 9 "gives_within" 2 M_gives_within := by
  obtain ⟨fd, F⟩ := G.d_gives_within
  exact ⟨_, fd, _, fo_gives_within G h_taken_small h_first_fall h_table_up_to h_taken_number  F, G.a_gives_within, F.kp, (F.bindsN fun _ _ _ _ _ _ us hl => match us, hl with | [_, _], _ => rfl)⟩
abbrev N_first_gift : List Str := ["box", "bound", "own", "fall"]
theorem sc_first_gift : FnScope N_first_gift ["box", "bound"] (defScope (top 72)) := ⟨rfl, rfl, rfl, by decide +kernel, rfl, by decide +kernel, by decide +kernel⟩
noncomputable def M_first_gift : Fn' := fnM [none, none] (sSeq (sSet 2 (mCall 1 M_taken_small (mCons (mV 0) (mNil)))) (sSeq (sSet 3 (mCall 1 M_first_fall (mCons (mCall 2 M_table_up_to (mCons (mV 2) (mCons (mCall 3 M_taken_number (mCons (mV 1) (mCons (mC (.int 0)) (mCons (mC (.int 12)) (mNil))))) (mNil)))) (mNil)))) (sRet (mIf (m2 (oIsN false) (mV 3) (mC .non)) (mC .non) (m2 oAdd (m2 oIx (mV 3) (mC (.int 0))) (mC (.int 1)))))))
noncomputable def T_first_gift : List (List D × Kw) := [([.tup [.tup [.tup [.int (0), .int (1)], .tup [.int (1), .int (1)]], .tup [.tup [.int (1), .int (1)], .tup [.int (0), .int (1)]]], .int (5)], .ans (.int (2))), ([.tup [.tup [.tup [.int (0), .int (1)], .tup [.int (1), .int (1)]], .tup [.tup [.int (1), .int (1)], .tup [.int (0), .int (1)]]], .int (1)], .ans (.non)), ([.tup [.tup [.tup [.int (1), .int (1)], .tup [.int (1), .int (1)]], .tup [.tup [.int (1), .int (1)], .tup [.int (-1), .int (1)]]], .int (9)], .ans (.non)), ([.tup [.tup [.tup [.int (0), .int (1)], .tup [.int (1), .int (1)]], .tup [.tup [.int (1), .int (1)], .tup [.int (0), .int (1)]]], .int (0)], .ans (.non)), ([.tup [.tup [.tup [.int (0), .int (1)], .tup [.int (1), .int (1)]], .tup [.tup [.int (1), .int (1)], .tup [.int (0), .int (1)]]], .int (2)], .ans (.int (2))), ([.tup [.tup [.tup [.int (0), .int (1)], .tup [.int (1), .int (1)]], .tup [.tup [.int (1), .int (1)], .tup [.int (0), .int (1)]]], .int (12)], .ans (.int (2))), ([.tup [.tup [.tup [.int (-1), .int (1)]], .tup [.tup [.int (1), .int (1)]]], .int (3)], .ans (.int (1))), ([.tup [.tup [.tup [.int (3), .int (2)], .tup [.int (-1), .int (2)]], .tup [.tup [.int (1), .int (1)], .tup [.int (1), .int (1)]]], .int (12)], .ans (.non)), ([.tup [.tup [.tup [.int (1), .int (1)], .tup [.int (3), .int (2)]], .tup [.tup [.int (1), .int (1)], .tup [.int (0), .int (1)]]], .int (9)], .ans (.int (3))), ([.tup [.tup [.tup [.int (-1), .int (1)]], .tup [.tup [.int (1), .int (1)]]], .int (0)], .ans (.non)), ([.tup [.tup [.tup [.int (1), .int (1)], .tup [.int (26), .int (25)]], .tup [.tup [.int (1), .int (1)], .tup [.int (0), .int (1)]]], .int (12)], .ans (.int (11))), ([.tup [.tup [.tup [.int (1), .int (1)], .tup [.int (26), .int (25)]], .tup [.tup [.int (1), .int (1)], .tup [.int (0), .int (1)]]], .int (10)], .ans (.non))]
theorem kn_first_gift_0 : okIs (M_first_gift [.tup [.tup [.tup [.int (0), .int (1)], .tup [.int (1), .int (1)]], .tup [.tup [.int (1), .int (1)], .tup [.int (0), .int (1)]]], .int (5)] L0) (.ans (.int (2))) = true := by decide +kernel
theorem kn_first_gift_1 : okIs (M_first_gift [.tup [.tup [.tup [.int (0), .int (1)], .tup [.int (1), .int (1)]], .tup [.tup [.int (1), .int (1)], .tup [.int (0), .int (1)]]], .int (1)] L0) (.ans (.non)) = true := by decide +kernel
theorem kn_first_gift_2 : okIs (M_first_gift [.tup [.tup [.tup [.int (1), .int (1)], .tup [.int (1), .int (1)]], .tup [.tup [.int (1), .int (1)], .tup [.int (-1), .int (1)]]], .int (9)] L0) (.ans (.non)) = true := by decide +kernel
theorem kn_first_gift_3 : okIs (M_first_gift [.tup [.tup [.tup [.int (0), .int (1)], .tup [.int (1), .int (1)]], .tup [.tup [.int (1), .int (1)], .tup [.int (0), .int (1)]]], .int (0)] L0) (.ans (.non)) = true := by decide +kernel
theorem kn_first_gift_4 : okIs (M_first_gift [.tup [.tup [.tup [.int (0), .int (1)], .tup [.int (1), .int (1)]], .tup [.tup [.int (1), .int (1)], .tup [.int (0), .int (1)]]], .int (2)] L0) (.ans (.int (2))) = true := by decide +kernel
theorem kn_first_gift_5 : okIs (M_first_gift [.tup [.tup [.tup [.int (0), .int (1)], .tup [.int (1), .int (1)]], .tup [.tup [.int (1), .int (1)], .tup [.int (0), .int (1)]]], .int (12)] L0) (.ans (.int (2))) = true := by decide +kernel
theorem kn_first_gift_6 : okIs (M_first_gift [.tup [.tup [.tup [.int (-1), .int (1)]], .tup [.tup [.int (1), .int (1)]]], .int (3)] L0) (.ans (.int (1))) = true := by decide +kernel
theorem kn_first_gift_7 : okIs (M_first_gift [.tup [.tup [.tup [.int (3), .int (2)], .tup [.int (-1), .int (2)]], .tup [.tup [.int (1), .int (1)], .tup [.int (1), .int (1)]]], .int (12)] L0) (.ans (.non)) = true := by decide +kernel
theorem kn_first_gift_8 : okIs (M_first_gift [.tup [.tup [.tup [.int (1), .int (1)], .tup [.int (3), .int (2)]], .tup [.tup [.int (1), .int (1)], .tup [.int (0), .int (1)]]], .int (9)] L0) (.ans (.int (3))) = true := by decide +kernel
theorem kn_first_gift_9 : okIs (M_first_gift [.tup [.tup [.tup [.int (-1), .int (1)]], .tup [.tup [.int (1), .int (1)]]], .int (0)] L0) (.ans (.non)) = true := by decide +kernel
theorem kn_first_gift_10 : okIs (M_first_gift [.tup [.tup [.tup [.int (1), .int (1)], .tup [.int (26), .int (25)]], .tup [.tup [.int (1), .int (1)], .tup [.int (0), .int (1)]]], .int (12)] L0) (.ans (.int (11))) = true := by decide +kernel
theorem kn_first_gift_11 : okIs (M_first_gift [.tup [.tup [.tup [.int (1), .int (1)], .tup [.int (26), .int (25)]], .tup [.tup [.int (1), .int (1)], .tup [.int (0), .int (1)]]], .int (10)] L0) (.ans (.non)) = true := by decide +kernel
theorem kt_first_gift : KT M_first_gift T_first_gift := by unfold T_first_gift; exact ⟨kn_first_gift_0, kn_first_gift_1, kn_first_gift_2, kn_first_gift_3, kn_first_gift_4, kn_first_gift_5, kn_first_gift_6, kn_first_gift_7, kn_first_gift_8, kn_first_gift_9, kn_first_gift_10, kn_first_gift_11, trivial⟩
theorem fo_first_gift {P : Program} {w : World} {K : PySem.W.Frag} {mg : Str → Option Value} {base : Heap} (G : Gf K mg) (h_taken_small : Kn P w K mg base (pm K) 8 "taken_small" 1 M_taken_small) (h_first_fall : Kn P w K mg base (pm K) 2 "first_fall" 1 M_first_fall) (h_table_up_to : Kn P w K mg base (pm K) 8 "table_up_to" 2 M_table_up_to) (h_taken_number : Kn P w K mg base (pm K) 2 "taken_number" 3 M_taken_number) {fd : FuncData} (F : FunD K "first_gift" "first_gift" (defArgs (top 72)) (defBody (top 72)) (defScope (top 72)) [] [] (He.ga K "first_gift") fd) : FnOk P w K mg base (L2.CX P w) 9 (He.ga K "first_gift") fd ["box", "bound"] (spM (pm K) 2 M_first_gift) := by
  obtain ⟨t_MOST_PUSHES, c_MOST_PUSHES⟩ := G.i_MOST_PUSHES
  refine fn_ok (k := 8) (N := N_first_gift) (tl := [none, none]) (b := sSeq (sSet 2 (mCall 1 M_taken_small (mCons (mV 0) (mNil)))) (sSeq (sSet 3 (mCall 1 M_first_fall (mCons (mCall 2 M_table_up_to (mCons (mV 2) (mCons (mCall 3 M_taken_number (mCons (mV 1) (mCons (mC (.int 0)) (mCons (mC (.int 12)) (mNil))))) (mNil)))) (mNil)))) (sRet (mIf (m2 (oIsN false) (mV 3) (mC .non)) (mC .non) (m2 oAdd (m2 oIx (mV 3) (mC (.int 0))) (mC (.int 1))))))) F sc_first_gift rfl rfl (fun cdv A outer s H E hr => ?_)
  have nd : N_first_gift.Nodup := sc_first_gift.nd
  have tk : Takes (cxOf (L2.CX P w) P w K mg base N_first_gift "first_gift" (defScope (top 72)) (He.ga K "first_gift") cdv A outer s H E) (fun cls d _ H' => E cls d H') := takes_of rfl rfl rfl rfl
  have po : PassesOwn (model P w) (cxOf (L2.CX P w) P w K mg base N_first_gift "first_gift" (defScope (top 72)) (He.ga K "first_gift") cdv A outer s H E).A (cxOf (L2.CX P w) P w K mg base N_first_gift "first_gift" (defScope (top 72)) (He.ga K "first_gift") cdv A outer s H E).env (cxOf (L2.CX P w) P w K mg base N_first_gift "first_gift" (defScope (top 72)) (He.ga K "first_gift") cdv A outer s H E).xe := passes_of (X := cxOf (L2.CX P w) P w K mg base N_first_gift "first_gift" (defScope (top 72)) (He.ga K "first_gift") cdv A outer s H E) rfl
  exact (es_cons (s_set nd (ee_call h_taken_small hr (by decide) tk (ea_cons (ee_var 0 (pv 0)) ea_nil)))
    (es_cons (s_set nd (ee_call h_first_fall hr (by decide) tk (ea_cons (ee_call h_table_up_to hr (by decide) tk (ea_cons (ee_var 2 (pv 2)) (ea_cons (ee_call h_taken_number hr (by decide) tk (ea_cons (ee_var 1 (pv 1)) (ea_cons ee_int (ea_cons (ee_const (v := .int 12) (fun _ _ => .int 12) c_MOST_PUSHES ⟨_, rfl⟩) ea_nil)))) ea_nil))) ea_nil)))
    (es_one (es_ret (ee_if (t_is rfl (ee_var 3 (pv 3)) ee_non) ee_non (b_add rfl (b_ix rfl (ee_var 3 (pv 3)) ee_int) ee_int))))))
theorem ok_first_gift {P : Program} {w : World} {K : PySem.W.Frag} {mg : Str → Option Value} {base : Heap} (G : Gf K mg) (h_taken_small : Kn P w K mg base (pm K) 8 "taken_small" 1 M_taken_small) (h_first_fall : Kn P w K mg base (pm K) 2 "first_fall" 1 M_first_fall) (h_table_up_to : Kn P w K mg base (pm K) 8 "table_up_to" 2 M_table_up_to) (h_taken_number : Kn P w K mg base (pm K) 2 "taken_number" 3 M_taken_number) : Kn P w K mg base (pm K) 9 "first_gift" 2 M_first_gift := by
  obtain ⟨fd, F⟩ := G.d_first_gift
  exact ⟨_, fd, _, fo_first_gift G h_taken_small h_first_fall h_table_up_to h_taken_number  F, G.a_first_gift, F.kp, (F.bindsN fun _ _ _ _ _ _ us hl => match us, hl with | [_, _], _ => rfl)⟩
abbrev N_turned_row : List Str := ["box", "pushes", "own", "row"]
theorem sc_turned_row : FnScope N_turned_row ["box", "pushes"] (defScope (top 73)) := ⟨rfl, rfl, rfl, by decide +kernel, rfl, by decide +kernel, by decide +kernel⟩
noncomputable def M_turned_row : Fn' := fnM [none, none] (sSeq (sSet 2 (mCall 1 M_taken_small (mCons (mV 0) (mNil)))) (sSeq (sSet 3 (mCall 1 M_taken_row (mCons (mV 1) (mNil)))) (sSeq (sIf (m2 oEqL (m2 oIx (m2 oIx (mV 2) (mC (.int 0))) (mC (.int 0))) (mC (.tup [.int (0), .int (1)]))) (sRaise 1) (sNil)) (sRet (mCall 2 M_answers_of (mCons (mV 2) (mCons (mV 3) (mNil))))))))
noncomputable def T_turned_row : List (List D × Kw) := [([.tup [.tup [.tup [.int (1), .int (1)], .tup [.int (1), .int (1)]], .tup [.tup [.int (1), .int (1)], .tup [.int (-1), .int (1)]]], .tup [.tup [.int (1), .int (1)], .tup [.int (0), .int (1)], .tup [.int (0), .int (1)]]], .ans (.tup [.tup [.int (1), .int (1)], .tup [.int (2), .int (1)], .tup [.int (2), .int (1)]])), ([.tup [.tup [.tup [.int (1), .int (2)]], .tup [.tup [.int (1), .int (1)]]], .tup [.tup [.int (2), .int (1)]]], .ans (.tup [.tup [.int (1), .int (1)]])), ([.tup [.tup [.tup [.int (1), .int (1)], .tup [.int (1), .int (1)]], .tup [.tup [.int (1), .int (1)], .tup [.int (-1), .int (1)]]], .tup []], .ans (.tup []))]
theorem kn_turned_row_0 : okIs (M_turned_row [.tup [.tup [.tup [.int (1), .int (1)], .tup [.int (1), .int (1)]], .tup [.tup [.int (1), .int (1)], .tup [.int (-1), .int (1)]]], .tup [.tup [.int (1), .int (1)], .tup [.int (0), .int (1)], .tup [.int (0), .int (1)]]] L0) (.ans (.tup [.tup [.int (1), .int (1)], .tup [.int (2), .int (1)], .tup [.int (2), .int (1)]])) = true := by decide +kernel
theorem kn_turned_row_1 : okIs (M_turned_row [.tup [.tup [.tup [.int (1), .int (2)]], .tup [.tup [.int (1), .int (1)]]], .tup [.tup [.int (2), .int (1)]]] L0) (.ans (.tup [.tup [.int (1), .int (1)]])) = true := by decide +kernel
theorem kn_turned_row_2 : okIs (M_turned_row [.tup [.tup [.tup [.int (1), .int (1)], .tup [.int (1), .int (1)]], .tup [.tup [.int (1), .int (1)], .tup [.int (-1), .int (1)]]], .tup []] L0) (.ans (.tup [])) = true := by decide +kernel
theorem kt_turned_row : KT M_turned_row T_turned_row := by unfold T_turned_row; exact ⟨kn_turned_row_0, kn_turned_row_1, kn_turned_row_2, trivial⟩
theorem fo_turned_row {P : Program} {w : World} {K : PySem.W.Frag} {mg : Str → Option Value} {base : Heap} (G : Gf K mg) (h_taken_small : Kn P w K mg base (pm K) 8 "taken_small" 1 M_taken_small) (h_taken_row : Kn P w K mg base (pm K) 8 "taken_row" 1 M_taken_row) (h_answers_of : Kn P w K mg base (pm K) 6 "answers_of" 2 M_answers_of) {fd : FuncData} (F : FunD K "turned_row" "turned_row" (defArgs (top 73)) (defBody (top 73)) (defScope (top 73)) [] [] (He.ga K "turned_row") fd) : FnOk P w K mg base (L2.CX P w) 9 (He.ga K "turned_row") fd ["box", "pushes"] (spM (pm K) 2 M_turned_row) := by
  refine fn_ok (k := 8) (N := N_turned_row) (tl := [none, none]) (b := sSeq (sSet 2 (mCall 1 M_taken_small (mCons (mV 0) (mNil)))) (sSeq (sSet 3 (mCall 1 M_taken_row (mCons (mV 1) (mNil)))) (sSeq (sIf (m2 oEqL (m2 oIx (m2 oIx (mV 2) (mC (.int 0))) (mC (.int 0))) (mC (.tup [.int (0), .int (1)]))) (sRaise 1) (sNil)) (sRet (mCall 2 M_answers_of (mCons (mV 2) (mCons (mV 3) (mNil)))))))) F sc_turned_row rfl rfl (fun cdv A outer s H E hr => ?_)
  have nd : N_turned_row.Nodup := sc_turned_row.nd
  have tk : Takes (cxOf (L2.CX P w) P w K mg base N_turned_row "turned_row" (defScope (top 73)) (He.ga K "turned_row") cdv A outer s H E) (fun cls d _ H' => E cls d H') := takes_of rfl rfl rfl rfl
  have po : PassesOwn (model P w) (cxOf (L2.CX P w) P w K mg base N_turned_row "turned_row" (defScope (top 73)) (He.ga K "turned_row") cdv A outer s H E).A (cxOf (L2.CX P w) P w K mg base N_turned_row "turned_row" (defScope (top 73)) (He.ga K "turned_row") cdv A outer s H E).env (cxOf (L2.CX P w) P w K mg base N_turned_row "turned_row" (defScope (top 73)) (He.ga K "turned_row") cdv A outer s H E).xe := passes_of (X := cxOf (L2.CX P w) P w K mg base N_turned_row "turned_row" (defScope (top 73)) (He.ga K "turned_row") cdv A outer s H E) rfl
  exact (es_cons (s_set nd (ee_call h_taken_small hr (by decide) tk (ea_cons (ee_var 0 (pv 0)) ea_nil)))
    (es_cons (s_set nd (ee_call h_taken_row hr (by decide) tk (ea_cons (ee_var 1 (pv 1)) ea_nil)))
    (es_cons (es_if (t_eqL rfl hr.units (b_ix rfl (b_ix rfl (ee_var 2 (pv 2)) ee_int) ee_int) (ee_const (v := .ref (He.ga K "ZERO")) G.z_ZERO G.m_ZERO rfl)) (es_one (es_raise rfl tk G.x_CanNot)) es_nil)
    (es_one (es_ret (ee_call h_answers_of hr (by decide) tk (ea_cons (ee_var 2 (pv 2)) (ea_cons (ee_var 3 (pv 3)) ea_nil))))))))
theorem ok_turned_row {P : Program} {w : World} {K : PySem.W.Frag} {mg : Str → Option Value} {base : Heap} (G : Gf K mg) (h_taken_small : Kn P w K mg base (pm K) 8 "taken_small" 1 M_taken_small) (h_taken_row : Kn P w K mg base (pm K) 8 "taken_row" 1 M_taken_row) (h_answers_of : Kn P w K mg base (pm K) 6 "answers_of" 2 M_answers_of) : Kn P w K mg base (pm K) 9 "turned_row" 2 M_turned_row := by
  obtain ⟨fd, F⟩ := G.d_turned_row
  exact ⟨_, fd, _, fo_turned_row G h_taken_small h_taken_row h_answers_of  F, G.a_turned_row, F.kp, (F.bindsN fun _ _ _ _ _ _ us hl => match us, hl with | [_, _], _ => rfl)⟩
abbrev N_is_giving_row : List Str := ["box", "thing", "own"]
theorem sc_is_giving_row : FnScope N_is_giving_row ["box", "thing"] (defScope (top 71)) := ⟨rfl, rfl, rfl, by decide +kernel, rfl, by decide +kernel, by decide +kernel⟩
noncomputable def M_is_giving_row : Fn' := fnM [none] (sSeq (sSet 2 (mCall 1 M_taken_small (mCons (mV 0) (mNil)))) (sRet (mAndV (mCall 1 M_is_row (mCons (mV 1) (mNil))) (m2 oLt (m2 oIx (mCall 2 M_dot (mCons (mV 1) (mCons (mCall 2 M_answers_of (mCons (mV 2) (mCons (mV 1) (mNil)))) (mNil)))) (mC (.int 0))) (mC (.int 0))))))
noncomputable def T_is_giving_row : List (List D × Kw) := [([.tup [.tup [.tup [.int (0), .int (1)], .tup [.int (1), .int (1)]], .tup [.tup [.int (1), .int (1)], .tup [.int (0), .int (1)]]], .tup [.tup [.int (-1), .int (1)], .tup [.int (1), .int (1)]]], .ans (.bl true)), ([.tup [.tup [.tup [.int (0), .int (1)], .tup [.int (1), .int (1)]], .tup [.tup [.int (1), .int (1)], .tup [.int (0), .int (1)]]], .tup [.tup [.int (-1), .int (1)], .tup [.int (1), .int (1)], .tup [.int (0), .int (1)], .tup [.int (0), .int (1)], .tup [.int (0), .int (1)], .tup [.int (0), .int (1)], .tup [.int (0), .int (1)], .tup [.int (0), .int (1)], .tup [.int (0), .int (1)], .tup [.int (0), .int (1)], .tup [.int (0), .int (1)], .tup [.int (0), .int (1)]]], .ans (.bl true)), ([.tup [.tup [.tup [.int (-1), .int (1)]], .tup [.tup [.int (1), .int (1)]]], .tup [.tup [.int (1), .int (1)]]], .ans (.bl true)), ([.tup [.tup [.tup [.int (0), .int (1)], .tup [.int (1), .int (1)]], .tup [.tup [.int (1), .int (1)], .tup [.int (0), .int (1)]]], .tup [.tup [.int (1), .int (1)], .tup [.int (-1), .int (1)]]], .ans (.bl true)), ([.tup [.tup [.tup [.int (0), .int (1)], .tup [.int (1), .int (1)]], .tup [.tup [.int (1), .int (1)], .tup [.int (0), .int (1)]]], .tup [.tup [.int (1), .int (1)], .tup [.int (1), .int (1)]]], .ans (.bl false)), ([.tup [.tup [.tup [.int (0), .int (1)], .tup [.int (1), .int (1)]], .tup [.tup [.int (1), .int (1)], .tup [.int (0), .int (1)]]], .tup []], .ans (.bl false)), ([.tup [.tup [.tup [.int (0), .int (1)], .tup [.int (1), .int (1)]], .tup [.tup [.int (1), .int (1)], .tup [.int (0), .int (1)]]], .tup [.tup [.int (1), .int (1)], .tup [.int (0), .int (1)], .tup [.int (-1), .int (1)]]], .ans (.bl false)), ([.tup [.tup [.tup [.int (0), .int (1)], .tup [.int (1), .int (1)]], .tup [.tup [.int (1), .int (1)], .tup [.int (0), .int (1)]]], .tup [.tup [.int (2), .int (2)], .tup [.int (-1), .int (1)]]], .ans (.bl false)), ([.tup [.tup [.tup [.int (0), .int (1)], .tup [.int (1), .int (1)]], .tup [.tup [.int (1), .int (1)], .tup [.int (0), .int (1)]]], .non], .ans (.bl false)), ([.tup [.tup [.tup [.int (0), .int (1)], .tup [.int (1), .int (1)]], .tup [.tup [.int (1), .int (1)], .tup [.int (0), .int (1)]]], .tup [.tup [.int (-1), .int (-1)], .tup [.int (-1), .int (1)]]], .ans (.bl false)), ([.tup [.tup [.tup [.int (0), .int (1)], .tup [.int (1), .int (1)]], .tup [.tup [.int (1), .int (1)], .tup [.int (0), .int (1)]]], .tup [.int (1), .int (-1)]], .ans (.bl false)), ([.tup [.tup [.tup [.int (0), .int (1)], .tup [.int (1), .int (1)]], .tup [.tup [.int (1), .int (1)], .tup [.int (0), .int (1)]]], .tup [.tup [.int (0), .int (1)], .tup [.int (0), .int (1)], .tup [.int (0), .int (1)], .tup [.int (0), .int (1)], .tup [.int (0), .int (1)], .tup [.int (0), .int (1)], .tup [.int (0), .int (1)], .tup [.int (0), .int (1)], .tup [.int (0), .int (1)], .tup [.int (0), .int (1)], .tup [.int (0), .int (1)], .tup [.int (0), .int (1)], .tup [.int (0), .int (1)], .tup [.int (0), .int (1)], .tup [.int (0), .int (1)], .tup [.int (0), .int (1)], .tup [.int (0), .int (1)], .tup [.int (0), .int (1)], .tup [.int (0), .int (1)], .tup [.int (0), .int (1)], .tup [.int (0), .int (1)], .tup [.int (0), .int (1)], .tup [.int (0), .int (1)], .tup [.int (0), .int (1)], .tup [.int (0), .int (1)], .tup [.int (0), .int (1)], .tup [.int (0), .int (1)], .tup [.int (0), .int (1)], .tup [.int (0), .int (1)], .tup [.int (0), .int (1)], .tup [.int (0), .int (1)], .tup [.int (0), .int (1)], .tup [.int (0), .int (1)], .tup [.int (0), .int (1)], .tup [.int (0), .int (1)], .tup [.int (0), .int (1)], .tup [.int (0), .int (1)], .tup [.int (0), .int (1)], .tup [.int (0), .int (1)], .tup [.int (0), .int (1)], .tup [.int (1), .int (1)], .tup [.int (-1), .int (1)]]], .ans (.bl true)), ([.tup [.tup [.tup [.int (-1), .int (1)]], .tup [.tup [.int (1), .int (1)]]], .tup [.tup [.int (1), .int (9)]]], .ans (.bl true)), ([.tup [.tup [.tup [.int (1), .int (1)], .tup [.int (1), .int (1)]], .tup [.tup [.int (1), .int (1)], .tup [.int (-1), .int (1)]]], .tup [.tup [.int (1), .int (1)], .tup [.int (-1), .int (1)]]], .ans (.bl false)), ([.tup [.tup [.tup [.int (3), .int (2)], .tup [.int (-1), .int (2)]], .tup [.tup [.int (1), .int (1)], .tup [.int (1), .int (1)]]], .tup [.tup [.int (1), .int (1)], .tup [.int (1), .int (1)]]], .ans (.bl false)), ([.tup [.tup [.tup [.int (1), .int (1)], .tup [.int (26), .int (25)]], .tup [.tup [.int (1), .int (1)], .tup [.int (0), .int (1)]]], .tup [.tup [.int (4), .int (1)], .tup [.int (-8), .int (1)], .tup [.int (11), .int (1)], .tup [.int (-13), .int (1)], .tup [.int (14), .int (1)], .tup [.int (-15), .int (1)], .tup [.int (14), .int (1)], .tup [.int (-12), .int (1)], .tup [.int (9), .int (1)], .tup [.int (-5), .int (1)], .tup [.int (1), .int (1)], .tup [.int (0), .int (1)]]], .ans (.bl true)), ([.tup [.tup [.tup [.int (0), .int (1)], .tup [.int (1), .int (1)]], .tup [.tup [.int (1), .int (1)], .tup [.int (0), .int (1)]]], .tup [.tup [.bl true, .int (1)], .tup [.int (-1), .int (1)]]], .ans (.bl false)), ([.tup [.tup [.tup [.int (0), .int (1)], .tup [.int (1), .int (1)]], .tup [.tup [.int (1), .int (1)], .tup [.int (0), .int (1)]]], .tup [.tup [.int (1), .bl true], .tup [.int (-1), .int (1)]]], .ans (.bl false))]
theorem kn_is_giving_row_0 : okIs (M_is_giving_row [.tup [.tup [.tup [.int (0), .int (1)], .tup [.int (1), .int (1)]], .tup [.tup [.int (1), .int (1)], .tup [.int (0), .int (1)]]], .tup [.tup [.int (-1), .int (1)], .tup [.int (1), .int (1)]]] L0) (.ans (.bl true)) = true := by decide +kernel
theorem kn_is_giving_row_1 : okIs (M_is_giving_row [.tup [.tup [.tup [.int (0), .int (1)], .tup [.int (1), .int (1)]], .tup [.tup [.int (1), .int (1)], .tup [.int (0), .int (1)]]], .tup [.tup [.int (-1), .int (1)], .tup [.int (1), .int (1)], .tup [.int (0), .int (1)], .tup [.int (0), .int (1)], .tup [.int (0), .int (1)], .tup [.int (0), .int (1)], .tup [.int (0), .int (1)], .tup [.int (0), .int (1)], .tup [.int (0), .int (1)], .tup [.int (0), .int (1)], .tup [.int (0), .int (1)], .tup [.int (0), .int (1)]]] L0) (.ans (.bl true)) = true := by decide +kernel
theorem kn_is_giving_row_2 : okIs (M_is_giving_row [.tup [.tup [.tup [.int (-1), .int (1)]], .tup [.tup [.int (1), .int (1)]]], .tup [.tup [.int (1), .int (1)]]] L0) (.ans (.bl true)) = true := by decide +kernel
theorem kn_is_giving_row_3 : okIs (M_is_giving_row [.tup [.tup [.tup [.int (0), .int (1)], .tup [.int (1), .int (1)]], .tup [.tup [.int (1), .int (1)], .tup [.int (0), .int (1)]]], .tup [.tup [.int (1), .int (1)], .tup [.int (-1), .int (1)]]] L0) (.ans (.bl true)) = true := by decide +kernel
theorem kn_is_giving_row_4 : okIs (M_is_giving_row [.tup [.tup [.tup [.int (0), .int (1)], .tup [.int (1), .int (1)]], .tup [.tup [.int (1), .int (1)], .tup [.int (0), .int (1)]]], .tup [.tup [.int (1), .int (1)], .tup [.int (1), .int (1)]]] L0) (.ans (.bl false)) = true := by decide +kernel
theorem kn_is_giving_row_5 : okIs (M_is_giving_row [.tup [.tup [.tup [.int (0), .int (1)], .tup [.int (1), .int (1)]], .tup [.tup [.int (1), .int (1)], .tup [.int (0), .int (1)]]], .tup []] L0) (.ans (.bl false)) = true := by decide +kernel
theorem kn_is_giving_row_6 : okIs (M_is_giving_row [.tup [.tup [.tup [.int (0), .int (1)], .tup [.int (1), .int (1)]], .tup [.tup [.int (1), .int (1)], .tup [.int (0), .int (1)]]], .tup [.tup [.int (1), .int (1)], .tup [.int (0), .int (1)], .tup [.int (-1), .int (1)]]] L0) (.ans (.bl false)) = true := by decide +kernel
theorem kn_is_giving_row_7 : okIs (M_is_giving_row [.tup [.tup [.tup [.int (0), .int (1)], .tup [.int (1), .int (1)]], .tup [.tup [.int (1), .int (1)], .tup [.int (0), .int (1)]]], .tup [.tup [.int (2), .int (2)], .tup [.int (-1), .int (1)]]] L0) (.ans (.bl false)) = true := by decide +kernel
theorem kn_is_giving_row_8 : okIs (M_is_giving_row [.tup [.tup [.tup [.int (0), .int (1)], .tup [.int (1), .int (1)]], .tup [.tup [.int (1), .int (1)], .tup [.int (0), .int (1)]]], .non] L0) (.ans (.bl false)) = true := by decide +kernel
theorem kn_is_giving_row_9 : okIs (M_is_giving_row [.tup [.tup [.tup [.int (0), .int (1)], .tup [.int (1), .int (1)]], .tup [.tup [.int (1), .int (1)], .tup [.int (0), .int (1)]]], .tup [.tup [.int (-1), .int (-1)], .tup [.int (-1), .int (1)]]] L0) (.ans (.bl false)) = true := by decide +kernel
theorem kn_is_giving_row_10 : okIs (M_is_giving_row [.tup [.tup [.tup [.int (0), .int (1)], .tup [.int (1), .int (1)]], .tup [.tup [.int (1), .int (1)], .tup [.int (0), .int (1)]]], .tup [.int (1), .int (-1)]] L0) (.ans (.bl false)) = true := by decide +kernel
theorem kn_is_giving_row_11 : okIs (M_is_giving_row [.tup [.tup [.tup [.int (0), .int (1)], .tup [.int (1), .int (1)]], .tup [.tup [.int (1), .int (1)], .tup [.int (0), .int (1)]]], .tup [.tup [.int (0), .int (1)], .tup [.int (0), .int (1)], .tup [.int (0), .int (1)], .tup [.int (0), .int (1)], .tup [.int (0), .int (1)], .tup [.int (0), .int (1)], .tup [.int (0), .int (1)], .tup [.int (0), .int (1)], .tup [.int (0), .int (1)], .tup [.int (0), .int (1)], .tup [.int (0), .int (1)], .tup [.int (0), .int (1)], .tup [.int (0), .int (1)], .tup [.int (0), .int (1)], .tup [.int (0), .int (1)], .tup [.int (0), .int (1)], .tup [.int (0), .int (1)], .tup [.int (0), .int (1)], .tup [.int (0), .int (1)], .tup [.int (0), .int (1)], .tup [.int (0), .int (1)], .tup [.int (0), .int (1)], .tup [.int (0), .int (1)], .tup [.int (0), .int (1)], .tup [.int (0), .int (1)], .tup [.int (0), .int (1)], .tup [.int (0), .int (1)], .tup [.int (0), .int (1)], .tup [.int (0), .int (1)], .tup [.int (0), .int (1)], .tup [.int (0), .int (1)], .tup [.int (0), .int (1)], .tup [.int (0), .int (1)], .tup [.int (0), .int (1)], .tup [.int (0), .int (1)], .tup [.int (0), .int (1)], .tup [.int (0), .int (1)], .tup [.int (0), .int (1)], .tup [.int (0), .int (1)], .tup [.int (0), .int (1)], .tup [.int (1), .int (1)], .tup [.int (-1), .int (1)]]] L0) (.ans (.bl true)) = true := by decide +kernel
theorem kn_is_giving_row_12 : okIs (M_is_giving_row [.tup [.tup [.tup [.int (-1), .int (1)]], .tup [.tup [.int (1), .int (1)]]], .tup [.tup [.int (1), .int (9)]]] L0) (.ans (.bl true)) = true := by decide +kernel
theorem kn_is_giving_row_13 : okIs (M_is_giving_row [.tup [.tup [.tup [.int (1), .int (1)], .tup [.int (1), .int (1)]], .tup [.tup [.int (1), .int (1)], .tup [.int (-1), .int (1)]]], .tup [.tup [.int (1), .int (1)], .tup [.int (-1), .int (1)]]] L0) (.ans (.bl false)) = true := by decide +kernel
theorem kn_is_giving_row_14 : okIs (M_is_giving_row [.tup [.tup [.tup [.int (3), .int (2)], .tup [.int (-1), .int (2)]], .tup [.tup [.int (1), .int (1)], .tup [.int (1), .int (1)]]], .tup [.tup [.int (1), .int (1)], .tup [.int (1), .int (1)]]] L0) (.ans (.bl false)) = true := by decide +kernel
theorem kn_is_giving_row_15 : okIs (M_is_giving_row [.tup [.tup [.tup [.int (1), .int (1)], .tup [.int (26), .int (25)]], .tup [.tup [.int (1), .int (1)], .tup [.int (0), .int (1)]]], .tup [.tup [.int (4), .int (1)], .tup [.int (-8), .int (1)], .tup [.int (11), .int (1)], .tup [.int (-13), .int (1)], .tup [.int (14), .int (1)], .tup [.int (-15), .int (1)], .tup [.int (14), .int (1)], .tup [.int (-12), .int (1)], .tup [.int (9), .int (1)], .tup [.int (-5), .int (1)], .tup [.int (1), .int (1)], .tup [.int (0), .int (1)]]] L0) (.ans (.bl true)) = true := by decide +kernel
theorem kn_is_giving_row_16 : okIs (M_is_giving_row [.tup [.tup [.tup [.int (0), .int (1)], .tup [.int (1), .int (1)]], .tup [.tup [.int (1), .int (1)], .tup [.int (0), .int (1)]]], .tup [.tup [.bl true, .int (1)], .tup [.int (-1), .int (1)]]] L0) (.ans (.bl false)) = true := by decide +kernel
theorem kn_is_giving_row_17 : okIs (M_is_giving_row [.tup [.tup [.tup [.int (0), .int (1)], .tup [.int (1), .int (1)]], .tup [.tup [.int (1), .int (1)], .tup [.int (0), .int (1)]]], .tup [.tup [.int (1), .bl true], .tup [.int (-1), .int (1)]]] L0) (.ans (.bl false)) = true := by decide +kernel
theorem kt_is_giving_row : KT M_is_giving_row T_is_giving_row := by unfold T_is_giving_row; exact ⟨kn_is_giving_row_0, kn_is_giving_row_1, kn_is_giving_row_2, kn_is_giving_row_3, kn_is_giving_row_4, kn_is_giving_row_5, kn_is_giving_row_6, kn_is_giving_row_7, kn_is_giving_row_8, kn_is_giving_row_9, kn_is_giving_row_10, kn_is_giving_row_11, kn_is_giving_row_12, kn_is_giving_row_13, kn_is_giving_row_14, kn_is_giving_row_15, kn_is_giving_row_16, kn_is_giving_row_17, trivial⟩
theorem fo_is_giving_row {P : Program} {w : World} {K : PySem.W.Frag} {mg : Str → Option Value} {base : Heap} (G : Gf K mg) (h_taken_small : Kn P w K mg base (pm K) 8 "taken_small" 1 M_taken_small) (h_is_row : Kn P w K mg base (pm K) 3 "is_row" 1 M_is_row) (h_dot : Kn P w K mg base (pm K) 2 "dot" 2 M_dot) (h_answers_of : Kn P w K mg base (pm K) 6 "answers_of" 2 M_answers_of) {fd : FuncData} (F : FunD K "is_giving_row" "is_giving_row" (defArgs (top 71)) (defBody (top 71)) (defScope (top 71)) [] [] (He.ga K "is_giving_row") fd) : FnOk P w K mg base (L2.CX P w) 9 (He.ga K "is_giving_row") fd ["box", "thing"] (spM (pm K) 2 M_is_giving_row) := by
  refine fn_ok (k := 8) (N := N_is_giving_row) (tl := [none]) (b := sSeq (sSet 2 (mCall 1 M_taken_small (mCons (mV 0) (mNil)))) (sRet (mAndV (mCall 1 M_is_row (mCons (mV 1) (mNil))) (m2 oLt (m2 oIx (mCall 2 M_dot (mCons (mV 1) (mCons (mCall 2 M_answers_of (mCons (mV 2) (mCons (mV 1) (mNil)))) (mNil)))) (mC (.int 0))) (mC (.int 0)))))) F sc_is_giving_row rfl rfl (fun cdv A outer s H E hr => ?_)
  have nd : N_is_giving_row.Nodup := sc_is_giving_row.nd
  have tk : Takes (cxOf (L2.CX P w) P w K mg base N_is_giving_row "is_giving_row" (defScope (top 71)) (He.ga K "is_giving_row") cdv A outer s H E) (fun cls d _ H' => E cls d H') := takes_of rfl rfl rfl rfl
  have po : PassesOwn (model P w) (cxOf (L2.CX P w) P w K mg base N_is_giving_row "is_giving_row" (defScope (top 71)) (He.ga K "is_giving_row") cdv A outer s H E).A (cxOf (L2.CX P w) P w K mg base N_is_giving_row "is_giving_row" (defScope (top 71)) (He.ga K "is_giving_row") cdv A outer s H E).env (cxOf (L2.CX P w) P w K mg base N_is_giving_row "is_giving_row" (defScope (top 71)) (He.ga K "is_giving_row") cdv A outer s H E).xe := passes_of (X := cxOf (L2.CX P w) P w K mg base N_is_giving_row "is_giving_row" (defScope (top 71)) (He.ga K "is_giving_row") cdv A outer s H E) rfl
  exact (es_cons (s_set nd (ee_call h_taken_small hr (by decide) tk (ea_cons (ee_var 0 (pv 0)) ea_nil)))
    (es_one (es_ret (ee_and rfl (ee_call h_is_row hr (by decide) tk (ea_cons (ee_var 1 (pv 1)) ea_nil)) (ee_one (c_lt rfl (b_ix rfl (ee_call h_dot hr (by decide) tk (ea_cons (ee_var 1 (pv 1)) (ea_cons (ee_call h_answers_of hr (by decide) tk (ea_cons (ee_var 2 (pv 2)) (ea_cons (ee_var 1 (pv 1)) ea_nil))) ea_nil))) ee_int) ee_int))))))
theorem ok_is_giving_row {P : Program} {w : World} {K : PySem.W.Frag} {mg : Str → Option Value} {base : Heap} (G : Gf K mg) (h_taken_small : Kn P w K mg base (pm K) 8 "taken_small" 1 M_taken_small) (h_is_row : Kn P w K mg base (pm K) 3 "is_row" 1 M_is_row) (h_dot : Kn P w K mg base (pm K) 2 "dot" 2 M_dot) (h_answers_of : Kn P w K mg base (pm K) 6 "answers_of" 2 M_answers_of) : Kn P w K mg base (pm K) 9 "is_giving_row" 2 M_is_giving_row := by
  obtain ⟨fd, F⟩ := G.d_is_giving_row
  exact ⟨_, fd, _, fo_is_giving_row G h_taken_small h_is_row h_dot h_answers_of  F, G.a_is_giving_row, F.kp, (F.bindsN fun _ _ _ _ _ _ us hl => match us, hl with | [_, _], _ => rfl)⟩
abbrev N_law_one_of : List Str := ["which_so", "asked_so"]
theorem sc_law_one_of : FnScope N_law_one_of ["which_so", "asked_so"] (defScope (top 78)) := ⟨rfl, rfl, rfl, by decide +kernel, rfl, by decide +kernel, by decide +kernel⟩
noncomputable def M_law_one_of : Fn' := fnM [] (sSeq (sIf (m2 oEqL (mV 0) (mC (.int 0))) (sRet (mCallT 1 M_even_table T_even_table (mCons (m2 oIx (mV 1) (mC (.int 0))) (mNil)))) (sNil)) (sSeq (sIf (m2 oEqL (mV 0) (mC (.int 1))) (sRet (mCallT 2 M_giving_row T_giving_row (mCons (m2 oIx (mV 1) (mC (.int 0))) (mCons (m2 oIx (mV 1) (mC (.int 1))) (mNil))))) (sNil)) (sSeq (sIf (m2 oEqL (mV 0) (mC (.int 2))) (sRet (mCallT 2 M_gives_within T_gives_within (mCons (m2 oIx (mV 1) (mC (.int 0))) (mCons (m2 oIx (mV 1) (mC (.int 1))) (mNil))))) (sNil)) (sSeq (sIf (m2 oEqL (mV 0) (mC (.int 3))) (sRet (mCallT 2 M_first_gift T_first_gift (mCons (m2 oIx (mV 1) (mC (.int 0))) (mCons (m2 oIx (mV 1) (mC (.int 1))) (mNil))))) (sNil)) (sRet (mIf (m2 oEqL (mV 0) (mC (.int 4))) (mCallT 2 M_turned_row T_turned_row (mCons (m2 oIx (mV 1) (mC (.int 0))) (mCons (m2 oIx (mV 1) (mC (.int 1))) (mNil)))) (mCallT 2 M_is_giving_row T_is_giving_row (mCons (m2 oIx (mV 1) (mC (.int 0))) (mCons (m2 oIx (mV 1) (mC (.int 1))) (mNil))))))))))
theorem fo_law_one_of {P : Program} {w : World} {K : PySem.W.Frag} {mg : Str → Option Value} {base : Heap} (G : Gf K mg) (h_even_table : Kn P w K mg base (pm K) 10 "even_table" 1 M_even_table) (h_giving_row : Kn P w K mg base (pm K) 9 "giving_row" 2 M_giving_row) (h_gives_within : Kn P w K mg base (pm K) 9 "gives_within" 2 M_gives_within) (h_first_gift : Kn P w K mg base (pm K) 9 "first_gift" 2 M_first_gift) (h_turned_row : Kn P w K mg base (pm K) 9 "turned_row" 2 M_turned_row) (h_is_giving_row : Kn P w K mg base (pm K) 9 "is_giving_row" 2 M_is_giving_row) {fd : FuncData} (F : FunD K "_law_one_of" "_law_one_of" (defArgs (top 78)) (defBody (top 78)) (defScope (top 78)) [] [] (He.ga K "_law_one_of") fd) : FnOk P w K mg base (L2.CX P w) 11 (He.ga K "_law_one_of") fd ["which_so", "asked_so"] (spM (pm K) 2 M_law_one_of) := by
  refine fn_ok (k := 10) (N := N_law_one_of) (tl := []) (b := sSeq (sIf (m2 oEqL (mV 0) (mC (.int 0))) (sRet (mCallT 1 M_even_table T_even_table (mCons (m2 oIx (mV 1) (mC (.int 0))) (mNil)))) (sNil)) (sSeq (sIf (m2 oEqL (mV 0) (mC (.int 1))) (sRet (mCallT 2 M_giving_row T_giving_row (mCons (m2 oIx (mV 1) (mC (.int 0))) (mCons (m2 oIx (mV 1) (mC (.int 1))) (mNil))))) (sNil)) (sSeq (sIf (m2 oEqL (mV 0) (mC (.int 2))) (sRet (mCallT 2 M_gives_within T_gives_within (mCons (m2 oIx (mV 1) (mC (.int 0))) (mCons (m2 oIx (mV 1) (mC (.int 1))) (mNil))))) (sNil)) (sSeq (sIf (m2 oEqL (mV 0) (mC (.int 3))) (sRet (mCallT 2 M_first_gift T_first_gift (mCons (m2 oIx (mV 1) (mC (.int 0))) (mCons (m2 oIx (mV 1) (mC (.int 1))) (mNil))))) (sNil)) (sRet (mIf (m2 oEqL (mV 0) (mC (.int 4))) (mCallT 2 M_turned_row T_turned_row (mCons (m2 oIx (mV 1) (mC (.int 0))) (mCons (m2 oIx (mV 1) (mC (.int 1))) (mNil)))) (mCallT 2 M_is_giving_row T_is_giving_row (mCons (m2 oIx (mV 1) (mC (.int 0))) (mCons (m2 oIx (mV 1) (mC (.int 1))) (mNil)))))))))) F sc_law_one_of rfl rfl (fun cdv A outer s H E hr => ?_)
  have nd : N_law_one_of.Nodup := sc_law_one_of.nd
  have tk : Takes (cxOf (L2.CX P w) P w K mg base N_law_one_of "_law_one_of" (defScope (top 78)) (He.ga K "_law_one_of") cdv A outer s H E) (fun cls d _ H' => E cls d H') := takes_of rfl rfl rfl rfl
  have po : PassesOwn (model P w) (cxOf (L2.CX P w) P w K mg base N_law_one_of "_law_one_of" (defScope (top 78)) (He.ga K "_law_one_of") cdv A outer s H E).A (cxOf (L2.CX P w) P w K mg base N_law_one_of "_law_one_of" (defScope (top 78)) (He.ga K "_law_one_of") cdv A outer s H E).env (cxOf (L2.CX P w) P w K mg base N_law_one_of "_law_one_of" (defScope (top 78)) (He.ga K "_law_one_of") cdv A outer s H E).xe := passes_of (X := cxOf (L2.CX P w) P w K mg base N_law_one_of "_law_one_of" (defScope (top 78)) (He.ga K "_law_one_of") cdv A outer s H E) rfl
  exact (es_cons (es_if (t_eqL rfl hr.units (ee_var 0 (pv 0)) ee_int) (es_one (es_ret (ee_callT kt_even_table h_even_table hr (by decide) tk (ea_cons (b_ix rfl (ee_var 1 (pv 1)) ee_int) ea_nil)))) es_nil)
    (es_cons (es_if (t_eqL rfl hr.units (ee_var 0 (pv 0)) ee_int) (es_one (es_ret (ee_callT kt_giving_row h_giving_row hr (by decide) tk (ea_cons (b_ix rfl (ee_var 1 (pv 1)) ee_int) (ea_cons (b_ix rfl (ee_var 1 (pv 1)) ee_int) ea_nil))))) es_nil)
    (es_cons (es_if (t_eqL rfl hr.units (ee_var 0 (pv 0)) ee_int) (es_one (es_ret (ee_callT kt_gives_within h_gives_within hr (by decide) tk (ea_cons (b_ix rfl (ee_var 1 (pv 1)) ee_int) (ea_cons (b_ix rfl (ee_var 1 (pv 1)) ee_int) ea_nil))))) es_nil)
    (es_cons (es_if (t_eqL rfl hr.units (ee_var 0 (pv 0)) ee_int) (es_one (es_ret (ee_callT kt_first_gift h_first_gift hr (by decide) tk (ea_cons (b_ix rfl (ee_var 1 (pv 1)) ee_int) (ea_cons (b_ix rfl (ee_var 1 (pv 1)) ee_int) ea_nil))))) es_nil)
    (es_one (es_ret (ee_if (t_eqL rfl hr.units (ee_var 0 (pv 0)) ee_int) (ee_callT kt_turned_row h_turned_row hr (by decide) tk (ea_cons (b_ix rfl (ee_var 1 (pv 1)) ee_int) (ea_cons (b_ix rfl (ee_var 1 (pv 1)) ee_int) ea_nil))) (ee_callT kt_is_giving_row h_is_giving_row hr (by decide) tk (ea_cons (b_ix rfl (ee_var 1 (pv 1)) ee_int) (ea_cons (b_ix rfl (ee_var 1 (pv 1)) ee_int) ea_nil))))))))))
theorem ok_law_one_of {P : Program} {w : World} {K : PySem.W.Frag} {mg : Str → Option Value} {base : Heap} (G : Gf K mg) (h_even_table : Kn P w K mg base (pm K) 10 "even_table" 1 M_even_table) (h_giving_row : Kn P w K mg base (pm K) 9 "giving_row" 2 M_giving_row) (h_gives_within : Kn P w K mg base (pm K) 9 "gives_within" 2 M_gives_within) (h_first_gift : Kn P w K mg base (pm K) 9 "first_gift" 2 M_first_gift) (h_turned_row : Kn P w K mg base (pm K) 9 "turned_row" 2 M_turned_row) (h_is_giving_row : Kn P w K mg base (pm K) 9 "is_giving_row" 2 M_is_giving_row) : Kn P w K mg base (pm K) 11 "_law_one_of" 2 M_law_one_of := by
  obtain ⟨fd, F⟩ := G.d__law_one_of
  exact ⟨_, fd, _, fo_law_one_of G h_even_table h_giving_row h_gives_within h_first_gift h_turned_row h_is_giving_row  F, G.a__law_one_of, F.kp, (F.bindsN fun _ _ _ _ _ _ us hl => match us, hl with | [_, _], _ => rfl)⟩
abbrev N_work_of_sum : List Str := ["box", "other", "pushes", "own", "second", "row"]
theorem sc_work_of_sum : FnScope N_work_of_sum ["box", "other", "pushes"] (defScope (top 74)) := ⟨rfl, rfl, rfl, by decide +kernel, rfl, by decide +kernel, by decide +kernel⟩
noncomputable def M_work_of_sum : Fn' := fnM [none, none, none] (sSeq (sPar3 3 4 5 (mCons (mCall 1 M_taken_small (mCons (mV 0) (mNil))) (mCons (mCall 1 M_taken_small (mCons (mV 1) (mNil))) (mCons (mCall 1 M_taken_row (mCons (mV 2) (mNil))) (mNil))))) (sRet (mN oTup (mCons (mCall 2 M_dot (mCons (mV 5) (mCons (mCall 2 M_answers_of (mCons (mV 3) (mCons (mV 5) (mNil)))) (mNil)))) (mCons (mCall 2 M_dot (mCons (mV 5) (mCons (mCall 2 M_answers_of (mCons (mV 4) (mCons (mV 5) (mNil)))) (mNil)))) (mNil))))))
noncomputable def T_work_of_sum : List (List D × Kw) := [([.tup [.tup [.tup [.int (1), .int (1)], .tup [.int (1), .int (1)]], .tup [.tup [.int (1), .int (1)], .tup [.int (-1), .int (1)]]], .tup [.tup [.tup [.int (0), .int (1)], .tup [.int (1), .int (1)]], .tup [.tup [.int (1), .int (1)], .tup [.int (0), .int (1)]]], .tup [.tup [.int (1), .int (1)], .tup [.int (-1), .int (1)]]], .ans (.tup [.tup [.int (0), .int (1)], .tup [.int (-1), .int (1)]])), ([.tup [.tup [.tup [.int (0), .int (1)], .tup [.int (1), .int (1)]], .tup [.tup [.int (1), .int (1)], .tup [.int (0), .int (1)]]], .tup [.tup [.tup [.int (0), .int (1)], .tup [.int (1), .int (1)]], .tup [.tup [.int (1), .int (1)], .tup [.int (0), .int (1)]]], .tup [.tup [.int (1), .int (1)], .tup [.int (1), .int (1)]]], .ans (.tup [.tup [.int (1), .int (1)], .tup [.int (1), .int (1)]])), ([.tup [.tup [.tup [.int (1), .int (2)]], .tup [.tup [.int (1), .int (1)]]], .tup [.tup [.tup [.int (1), .int (1)], .tup [.int (1), .int (1)]], .tup [.tup [.int (1), .int (1)], .tup [.int (-1), .int (1)]]], .tup []], .ans (.tup [.tup [.int (0), .int (1)], .tup [.int (0), .int (1)]]))]
theorem kn_work_of_sum_0 : okIs (M_work_of_sum [.tup [.tup [.tup [.int (1), .int (1)], .tup [.int (1), .int (1)]], .tup [.tup [.int (1), .int (1)], .tup [.int (-1), .int (1)]]], .tup [.tup [.tup [.int (0), .int (1)], .tup [.int (1), .int (1)]], .tup [.tup [.int (1), .int (1)], .tup [.int (0), .int (1)]]], .tup [.tup [.int (1), .int (1)], .tup [.int (-1), .int (1)]]] L0) (.ans (.tup [.tup [.int (0), .int (1)], .tup [.int (-1), .int (1)]])) = true := by decide +kernel
theorem kn_work_of_sum_1 : okIs (M_work_of_sum [.tup [.tup [.tup [.int (0), .int (1)], .tup [.int (1), .int (1)]], .tup [.tup [.int (1), .int (1)], .tup [.int (0), .int (1)]]], .tup [.tup [.tup [.int (0), .int (1)], .tup [.int (1), .int (1)]], .tup [.tup [.int (1), .int (1)], .tup [.int (0), .int (1)]]], .tup [.tup [.int (1), .int (1)], .tup [.int (1), .int (1)]]] L0) (.ans (.tup [.tup [.int (1), .int (1)], .tup [.int (1), .int (1)]])) = true := by decide +kernel
theorem kn_work_of_sum_2 : okIs (M_work_of_sum [.tup [.tup [.tup [.int (1), .int (2)]], .tup [.tup [.int (1), .int (1)]]], .tup [.tup [.tup [.int (1), .int (1)], .tup [.int (1), .int (1)]], .tup [.tup [.int (1), .int (1)], .tup [.int (-1), .int (1)]]], .tup []] L0) (.ans (.tup [.tup [.int (0), .int (1)], .tup [.int (0), .int (1)]])) = true := by decide +kernel
theorem kt_work_of_sum : KT M_work_of_sum T_work_of_sum := by unfold T_work_of_sum; exact ⟨kn_work_of_sum_0, kn_work_of_sum_1, kn_work_of_sum_2, trivial⟩
theorem fo_work_of_sum {P : Program} {w : World} {K : PySem.W.Frag} {mg : Str → Option Value} {base : Heap} (G : Gf K mg) (h_taken_small : Kn P w K mg base (pm K) 8 "taken_small" 1 M_taken_small) (h_taken_row : Kn P w K mg base (pm K) 8 "taken_row" 1 M_taken_row) (h_dot : Kn P w K mg base (pm K) 2 "dot" 2 M_dot) (h_answers_of : Kn P w K mg base (pm K) 6 "answers_of" 2 M_answers_of) {fd : FuncData} (F : FunD K "work_of_sum" "work_of_sum" (defArgs (top 74)) (defBody (top 74)) (defScope (top 74)) [] [] (He.ga K "work_of_sum") fd) : FnOk P w K mg base (L2.CX P w) 9 (He.ga K "work_of_sum") fd ["box", "other", "pushes"] (spM (pm K) 3 M_work_of_sum) := by
  refine fn_ok (k := 8) (N := N_work_of_sum) (tl := [none, none, none]) (b := sSeq (sPar3 3 4 5 (mCons (mCall 1 M_taken_small (mCons (mV 0) (mNil))) (mCons (mCall 1 M_taken_small (mCons (mV 1) (mNil))) (mCons (mCall 1 M_taken_row (mCons (mV 2) (mNil))) (mNil))))) (sRet (mN oTup (mCons (mCall 2 M_dot (mCons (mV 5) (mCons (mCall 2 M_answers_of (mCons (mV 3) (mCons (mV 5) (mNil)))) (mNil)))) (mCons (mCall 2 M_dot (mCons (mV 5) (mCons (mCall 2 M_answers_of (mCons (mV 4) (mCons (mV 5) (mNil)))) (mNil)))) (mNil)))))) F sc_work_of_sum rfl rfl (fun cdv A outer s H E hr => ?_)
  have nd : N_work_of_sum.Nodup := sc_work_of_sum.nd
  have tk : Takes (cxOf (L2.CX P w) P w K mg base N_work_of_sum "work_of_sum" (defScope (top 74)) (He.ga K "work_of_sum") cdv A outer s H E) (fun cls d _ H' => E cls d H') := takes_of rfl rfl rfl rfl
  have po : PassesOwn (model P w) (cxOf (L2.CX P w) P w K mg base N_work_of_sum "work_of_sum" (defScope (top 74)) (He.ga K "work_of_sum") cdv A outer s H E).A (cxOf (L2.CX P w) P w K mg base N_work_of_sum "work_of_sum" (defScope (top 74)) (He.ga K "work_of_sum") cdv A outer s H E).env (cxOf (L2.CX P w) P w K mg base N_work_of_sum "work_of_sum" (defScope (top 74)) (He.ga K "work_of_sum") cdv A outer s H E).xe := passes_of (X := cxOf (L2.CX P w) P w K mg base N_work_of_sum "work_of_sum" (defScope (top 74)) (He.ga K "work_of_sum") cdv A outer s H E) rfl
  exact (es_cons (s_par3 rfl nd (ea_cons (ee_call h_taken_small hr (by decide) tk (ea_cons (ee_var 0 (pv 0)) ea_nil)) (ea_cons (ee_call h_taken_small hr (by decide) tk (ea_cons (ee_var 1 (pv 1)) ea_nil)) (ea_cons (ee_call h_taken_row hr (by decide) tk (ea_cons (ee_var 2 (pv 2)) ea_nil)) ea_nil))) (by decide) (by decide) (by decide))
    (es_one (es_ret (ee_tup (ea_cons (ee_call h_dot hr (by decide) tk (ea_cons (ee_var 5 (pv 5)) (ea_cons (ee_call h_answers_of hr (by decide) tk (ea_cons (ee_var 3 (pv 3)) (ea_cons (ee_var 5 (pv 5)) ea_nil))) ea_nil))) (ea_cons (ee_call h_dot hr (by decide) tk (ea_cons (ee_var 5 (pv 5)) (ea_cons (ee_call h_answers_of hr (by decide) tk (ea_cons (ee_var 4 (pv 4)) (ea_cons (ee_var 5 (pv 5)) ea_nil))) ea_nil))) ea_nil))))))
theorem ok_work_of_sum {P : Program} {w : World} {K : PySem.W.Frag} {mg : Str → Option Value} {base : Heap} (G : Gf K mg) (h_taken_small : Kn P w K mg base (pm K) 8 "taken_small" 1 M_taken_small) (h_taken_row : Kn P w K mg base (pm K) 8 "taken_row" 1 M_taken_row) (h_dot : Kn P w K mg base (pm K) 2 "dot" 2 M_dot) (h_answers_of : Kn P w K mg base (pm K) 6 "answers_of" 2 M_answers_of) : Kn P w K mg base (pm K) 9 "work_of_sum" 3 M_work_of_sum := by
  obtain ⟨fd, F⟩ := G.d_work_of_sum
  exact ⟨_, fd, _, fo_work_of_sum G h_taken_small h_taken_row h_dot h_answers_of  F, G.a_work_of_sum, F.kp, (F.bindsN fun _ _ _ _ _ _ us hl => match us, hl with | [_, _, _], _ => rfl)⟩
abbrev N_law_heard : List Str := ["door_so", "one_so", "two_so", "more_so", "bad_so", "bad_b_so", "bad_c_so", "caught", "told"]
theorem sc_law_heard : FnScope N_law_heard ["door_so", "one_so", "two_so", "more_so"] (defScope (top 79)) := ⟨rfl, rfl, rfl, by decide +kernel, rfl, by decide +kernel, by decide +kernel⟩
noncomputable def M_law_heard : Fn' := fnM [none, none, none, none, none] (sSeq (sAs (mN oTup (mCons (mC .non) (mCons (mC .non) (mNil)))) (gEnd (gTL 2 (gCn (gNm 7) (gCn (gNm 8) (gNl)))))) (sSeq (sTryA 4 (sIf (m2 oEqL (mV 0) (mC (.int 0))) (sSet 8 (mCallT 3 M_work_of T_work_of (mCons (mV 1) (mCons (mV 2) (mCons (mV 3) (mNil)))))) (sIf (m2 oEqL (mV 0) (mC (.int 1))) (sSet 8 (mCallT 3 M_work_sums T_work_sums (mCons (mV 1) (mCons (mV 2) (mCons (mV 3) (mNil)))))) (sIf (m2 oEqL (mV 0) (mC (.int 2))) (sSet 8 (mCallT 2 M_work_by_table T_work_by_table (mCons (mV 1) (mCons (mV 2) (mNil))))) (sIf (m2 oEqL (mV 0) (mC (.int 3))) (sSet 8 (mCall 2 M_law_one_of (mCons (mV 3) (mCons (mV 1) (mNil))))) (sSet 8 (mCallT 3 M_work_of_sum T_work_of_sum (mCons (mV 1) (mCons (mV 2) (mCons (mV 3) (mNil)))))))))) [(4, 0, sSet 7 (mN oLst (mCons (mC (.str [117, 110, 102, 105, 116])) (mCons (mYes) (mNil))))), (5, 1, sSet 7 (mN oLst (mCons (mC (.str [99, 97, 110, 32, 110, 111, 116])) (mCons (mYes) (mNil))))), (6, 2, sSet 7 (mN oLst (mCons (mC (.str [110, 111, 32, 112, 97, 112, 101, 114])) (mCons (mYes) (mNil)))))]) (sRet (mIf (m2 (oIsN false) (mV 7) (mC .non)) (mV 8) (mV 7)))))
theorem fo_law_heard {P : Program} {w : World} {K : PySem.W.Frag} {mg : Str → Option Value} {base : Heap} (G : Gf K mg) (h_work_of : Kn P w K mg base (pm K) 11 "work_of" 3 M_work_of) (h_work_sums : Kn P w K mg base (pm K) 11 "work_sums" 3 M_work_sums) (h_work_by_table : Kn P w K mg base (pm K) 10 "work_by_table" 2 M_work_by_table) (h_law_one_of : Kn P w K mg base (pm K) 11 "_law_one_of" 2 M_law_one_of) (h_work_of_sum : Kn P w K mg base (pm K) 9 "work_of_sum" 3 M_work_of_sum) {fd : FuncData} (F : FunD K "_law_heard" "_law_heard" (defArgs (top 79)) (defBody (top 79)) (defScope (top 79)) [] [] (He.ga K "_law_heard") fd) : FnOk P w K mg base (L2.CX P w) 12 (He.ga K "_law_heard") fd ["door_so", "one_so", "two_so", "more_so"] (spM (pm K) 4 M_law_heard) := by
  refine fn_ok (k := 11) (N := N_law_heard) (tl := [none, none, none, none, none]) (b := sSeq (sAs (mN oTup (mCons (mC .non) (mCons (mC .non) (mNil)))) (gEnd (gTL 2 (gCn (gNm 7) (gCn (gNm 8) (gNl)))))) (sSeq (sTryA 4 (sIf (m2 oEqL (mV 0) (mC (.int 0))) (sSet 8 (mCallT 3 M_work_of T_work_of (mCons (mV 1) (mCons (mV 2) (mCons (mV 3) (mNil)))))) (sIf (m2 oEqL (mV 0) (mC (.int 1))) (sSet 8 (mCallT 3 M_work_sums T_work_sums (mCons (mV 1) (mCons (mV 2) (mCons (mV 3) (mNil)))))) (sIf (m2 oEqL (mV 0) (mC (.int 2))) (sSet 8 (mCallT 2 M_work_by_table T_work_by_table (mCons (mV 1) (mCons (mV 2) (mNil))))) (sIf (m2 oEqL (mV 0) (mC (.int 3))) (sSet 8 (mCall 2 M_law_one_of (mCons (mV 3) (mCons (mV 1) (mNil))))) (sSet 8 (mCallT 3 M_work_of_sum T_work_of_sum (mCons (mV 1) (mCons (mV 2) (mCons (mV 3) (mNil)))))))))) [(4, 0, sSet 7 (mN oLst (mCons (mC (.str [117, 110, 102, 105, 116])) (mCons (mYes) (mNil))))), (5, 1, sSet 7 (mN oLst (mCons (mC (.str [99, 97, 110, 32, 110, 111, 116])) (mCons (mYes) (mNil))))), (6, 2, sSet 7 (mN oLst (mCons (mC (.str [110, 111, 32, 112, 97, 112, 101, 114])) (mCons (mYes) (mNil)))))]) (sRet (mIf (m2 (oIsN false) (mV 7) (mC .non)) (mV 8) (mV 7))))) F sc_law_heard rfl rfl (fun cdv A outer s H E hr => ?_)
  have nd : N_law_heard.Nodup := sc_law_heard.nd
  have tk : Takes (cxOf (L2.CX P w) P w K mg base N_law_heard "_law_heard" (defScope (top 79)) (He.ga K "_law_heard") cdv A outer s H E) (fun cls d _ H' => E cls d H') := takes_of rfl rfl rfl rfl
  have po : PassesOwn (model P w) (cxOf (L2.CX P w) P w K mg base N_law_heard "_law_heard" (defScope (top 79)) (He.ga K "_law_heard") cdv A outer s H E).A (cxOf (L2.CX P w) P w K mg base N_law_heard "_law_heard" (defScope (top 79)) (He.ga K "_law_heard") cdv A outer s H E).env (cxOf (L2.CX P w) P w K mg base N_law_heard "_law_heard" (defScope (top 79)) (He.ga K "_law_heard") cdv A outer s H E).xe := passes_of (X := cxOf (L2.CX P w) P w K mg base N_law_heard "_law_heard" (defScope (top 79)) (He.ga K "_law_heard") cdv A outer s H E) rfl
  exact (es_cons (es_asg (ee_tup (ea_cons ee_non (ea_cons ee_non ea_nil))) (eg_tl rfl rfl (egs_cons (eg_name (g_name nd)) (egs_cons (eg_name (g_name nd)) egs_nil))))
    (es_cons (es_tryA rfl rfl nd tk G.xm (by simp) (fun _ _ _ tk' po' => (es_one (es_if (t_eqL rfl hr.units (ee_var 0 (pv 0)) ee_int) (es_one (s_set nd (ee_callT kt_work_of h_work_of hr (by decide) tk' (ea_cons (ee_var 1 (pv 1)) (ea_cons (ee_var 2 (pv 2)) (ea_cons (ee_var 3 (pv 3)) ea_nil)))))) (es_one (es_if (t_eqL rfl hr.units (ee_var 0 (pv 0)) ee_int) (es_one (s_set nd (ee_callT kt_work_sums h_work_sums hr (by decide) tk' (ea_cons (ee_var 1 (pv 1)) (ea_cons (ee_var 2 (pv 2)) (ea_cons (ee_var 3 (pv 3)) ea_nil)))))) (es_one (es_if (t_eqL rfl hr.units (ee_var 0 (pv 0)) ee_int) (es_one (s_set nd (ee_callT kt_work_by_table h_work_by_table hr (by decide) tk' (ea_cons (ee_var 1 (pv 1)) (ea_cons (ee_var 2 (pv 2)) ea_nil))))) (es_one (es_if (t_eqL rfl hr.units (ee_var 0 (pv 0)) ee_int) (es_one (s_set nd (ee_call h_law_one_of hr (by decide) tk' (ea_cons (ee_var 3 (pv 3)) (ea_cons (ee_var 1 (pv 1)) ea_nil))))) (es_one (s_set nd (ee_callT kt_work_of_sum h_work_of_sum hr (by decide) tk' (ea_cons (ee_var 1 (pv 1)) (ea_cons (ee_var 2 (pv 2)) (ea_cons (ee_var 3 (pv 3)) ea_nil))))))))))))))) (.cons rfl rfl ⟨rfl, by decide, .inl G.x_Unfit.gC⟩ (fun _ _ _ hz hf => (es_one (s_set nd (ee_lst (ea_cons (ee_str rfl) (ea_cons (ee_isE G.e_Unfit G.k_Unfit hz hf G.b_isinstance G.b_ValueError (pv 4)) ea_nil)))))) (.cons rfl rfl ⟨rfl, by decide, .inl G.x_CanNot.gC⟩ (fun _ _ _ hz hf => (es_one (s_set nd (ee_lst (ea_cons (ee_str rfl) (ea_cons (ee_isE G.e_CanNot G.k_CanNot hz hf G.b_isinstance G.b_ValueError (pv 5)) ea_nil)))))) (.cons rfl rfl ⟨rfl, by decide, .inl G.x_NoPaper.gC⟩ (fun _ _ _ hz hf => (es_one (s_set nd (ee_lst (ea_cons (ee_str rfl) (ea_cons (ee_isE G.e_NoPaper G.k_NoPaper hz hf G.b_isinstance G.b_ValueError (pv 6)) ea_nil)))))) .nil))))
    (es_one (es_ret (ee_if (t_is rfl (ee_var 7 (pv 7)) ee_non) (ee_var 8 (pv 8)) (ee_var 7 (pv 7)))))))
theorem ok_law_heard {P : Program} {w : World} {K : PySem.W.Frag} {mg : Str → Option Value} {base : Heap} (G : Gf K mg) (h_work_of : Kn P w K mg base (pm K) 11 "work_of" 3 M_work_of) (h_work_sums : Kn P w K mg base (pm K) 11 "work_sums" 3 M_work_sums) (h_work_by_table : Kn P w K mg base (pm K) 10 "work_by_table" 2 M_work_by_table) (h_law_one_of : Kn P w K mg base (pm K) 11 "_law_one_of" 2 M_law_one_of) (h_work_of_sum : Kn P w K mg base (pm K) 9 "work_of_sum" 3 M_work_of_sum) : Kn P w K mg base (pm K) 12 "_law_heard" 4 M_law_heard := by
  obtain ⟨fd, F⟩ := G.d__law_heard
  exact ⟨_, fd, _, fo_law_heard G h_work_of h_work_sums h_work_by_table h_law_one_of h_work_of_sum  F, G.a__law_heard, F.kp, (F.bindsN fun _ _ _ _ _ _ us hl => match us, hl with | [_, _, _, _], _ => rfl)⟩
abbrev N_law_refused_right : List Str := ["wide", "bads", "got", "k", "none", "one", "two", "less", "spring", "lag", "rub", "mass", "own", "cells"]
theorem sc_law_refused_right : FnScope N_law_refused_right [] (defScope (top 85)) := ⟨rfl, rfl, rfl, by decide +kernel, rfl, by decide +kernel, by decide +kernel⟩
noncomputable def M_law_refused_right : Fn' := fnM [none, none, none, none, none, none, none, none, none, none, none, none, none, none] (sSeq (sAs (mN oTup (mCons (mN oTup (mCons (mC (.int 0)) (mCons (mC (.int 1)) (mNil)))) (mCons (mN oTup (mCons (mC (.int 1)) (mCons (mC (.int 1)) (mNil)))) (mCons (mN oTup (mCons (mC (.int 2)) (mCons (mC (.int 1)) (mNil)))) (mCons (mN oTup (mCons (m1 oNeg (mC (.int 1))) (mCons (mC (.int 1)) (mNil)))) (mNil)))))) (gEnd (gTL 4 (gCn (gNm 4) (gCn (gNm 5) (gCn (gNm 6) (gCn (gNm 7) (gNl)))))))) (sSeq (sAs ((fun _ L => M_law_boxes [] L)) (gEnd (gTL 4 (gCn (gNm 8) (gCn (gNm 9) (gCn (gNm 10) (gCn (gNm 11) (gNl)))))))) (sSeq (sSet 0 (mN oTup (mCons (mN oTup (mCons (mV 5) (mCons (mV 4) (mCons (mV 7) (mNil))))) (mCons (mN oTup (mCons (mV 5) (mCons (mN oTup (mCons (m1 oNeg (mC (.int 2))) (mCons (mC (.int 1)) (mNil)))) (mCons (mV 5) (mNil))))) (mNil))))) (sSeq (sSet 1 (mN oLst (mCons (mN oTup (mCons (mV 0) (mCons (mN oTup (mCons (mV 4) (mCons (mV 4) (mNil)))) (mNil)))) (mCons (mN oTup (mCons (mN oTup (mCons (mN oTup (mCons (mV 4) (mNil))) (mCons (mN oTup (mCons (mV 5) (mNil))) (mNil)))) (mCons (mN oTup (mNil)) (mNil)))) (mCons (mN oTup (mCons (mN oTup (mCons (mN oTup (mCons (mV 5) (mNil))) (mCons (mN oTup (mCons (mV 6) (mNil))) (mNil)))) (mCons (mN oTup (mNil)) (mNil)))) (mCons (mN oTup (mCons (mN oTup (mCons (mN oTup (mCons (mV 5) (mCons (mV 5) (mNil)))) (mCons (mN oTup (mCons (mV 5) (mNil))) (mNil)))) (mCons (mN oTup (mCons (mV 4) (mNil))) (mNil)))) (mCons (mN oTup (mCons (mC .non) (mCons (mN oTup (mNil)) (mNil)))) (mNil)))))))) (sSeq (sSet 1 (m2 oAdd (mV 1) (mN oLst (mCons (mN oTup (mCons (mN oTup (mCons (mN oTup (mCons (mV 5) (mCons (mN oTup (mCons (mC (.int 2)) (mCons (mC (.int 4)) (mNil)))) (mNil)))) (mCons (mN oTup (mCons (mV 5) (mCons (mV 7) (mNil)))) (mNil)))) (mCons (mN oTup (mCons (mV 4) (mNil))) (mNil)))) (mCons (mN oTup (mCons (mN oTup (mCons (mV 5) (mCons (mV 5) (mNil)))) (mCons (mN oTup (mCons (mV 4) (mNil))) (mNil)))) (mNil)))))) (sSeq (sSet 2 (mN oLst (mNil))) (sSeq (sFor (onlyA (mN oTup (mCons (mC (.int 0)) (mCons (mC (.int 1)) (mNil))))) nfA (gNm 3) (sSeq (sSet 2 (m2 oAdd (mV 2) (mLc (onlyA (mV 1)) nfA (gPr 12 13) (mYes) (mCall 4 M_law_heard (mCons (mV 3) (mCons (mV 12) (mCons (mV 13) (mCons (mN oTup (mCons (mV 5) (mNil))) (mNil)))))) [12, 13]))) (sSeq (sSet 2 (m2 oAdd (mV 2) (mLc (onlyA (mN oTup (mCons (mN oTup (mNil)) (mCons (mN oTup (mCons (mV 4) (mCons (mV 4) (mNil)))) (mCons (mN oTup (mCons (mN oTup (mCons (mC (.int 2)) (mCons (mC (.int 2)) (mNil)))) (mNil))) (mCons (mC .non) (mNil))))))) nfA (gNm 12) (mYes) (mCall 4 M_law_heard (mCons (mV 3) (mCons (mV 8) (mCons (mV 12) (mCons (mN oTup (mCons (mV 5) (mNil))) (mNil)))))) [12]))) (sSet 2 (m2 oAdd (mV 2) (mLc (onlyA (mN oTup (mCons (mN oTup (mCons (mN oTup (mCons (mC (.int 0)) (mCons (mC (.int 2)) (mNil)))) (mNil))) (mCons (mN oTup (mCons (mC (.int 1)) (mNil))) (mCons (mC .non) (mCons (mN oTup (mCons (mN oTup (mCons (mC (.bl true)) (mCons (mC (.int 1)) (mNil)))) (mNil))) (mNil))))))) nfA (gNm 12) (mYes) (mCall 4 M_law_heard (mCons (mV 3) (mCons (mV 8) (mCons (mN oTup (mCons (mV 4) (mNil))) (mCons (mV 12) (mNil)))))) [12])))))) (sSeq (sSet 2 (m2 oAdd (mV 2) (mN oLst (mCons (mCall 4 M_law_heard (mCons (mC (.int 2)) (mCons (mN oTup (mCons (mV 5) (mNil))) (mCons (mN oTup (mCons (mV 5) (mCons (mV 5) (mNil)))) (mCons (mC (.int 0)) (mNil)))))) (mCons (mCall 4 M_law_heard (mCons (mC (.int 2)) (mCons (mN oTup (mCons (mC (.int 1)) (mCons (mC (.int 2)) (mNil)))) (mCons (mN oTup (mNil)) (mCons (mC (.int 0)) (mNil)))))) (mCons (mCall 4 M_law_heard (mCons (mC (.int 2)) (mCons (mN oTup (mCons (mV 5) (mNil))) (mCons (mN oTup (mCons (mN oTup (mCons (mC (.int 1)) (mCons (mC (.int 0)) (mNil)))) (mNil))) (mCons (mC (.int 0)) (mNil)))))) (mCons (mCall 4 M_law_heard (mCons (mC (.int 2)) (mCons (mN oTup (mNil)) (mCons (mN oTup (mNil)) (mCons (mC (.int 0)) (mNil)))))) (mNil)))))))) (sSeq (sSet 2 (m2 oAdd (mV 2) (mN oLst (mCons (mCall 4 M_law_heard (mCons (mC (.int 3)) (mCons (mN oTup (mCons (mV 0) (mCons (mC (.int 2)) (mNil)))) (mCons (mC .non) (mCons (mC (.int 1)) (mNil)))))) (mNil))))) (sSeq (sSet 2 (m2 oAdd (mV 2) (mN oLst (mCons (mCall 4 M_law_heard (mCons (mC (.int 3)) (mCons (mN oTup (mCons (mV 0) (mCons (mC (.int 2)) (mNil)))) (mCons (mC .non) (mCons (mC (.int 2)) (mNil)))))) (mCons (mCall 4 M_law_heard (mCons (mC (.int 3)) (mCons (mN oTup (mCons (mV 0) (mCons (mC (.int 2)) (mNil)))) (mCons (mC .non) (mCons (mC (.int 3)) (mNil)))))) (mCons (mCall 4 M_law_heard (mCons (mC (.int 3)) (mCons (mN oTup (mCons (mV 0) (mCons (mN oTup (mCons (mV 5) (mNil))) (mNil)))) (mCons (mC .non) (mCons (mC (.int 4)) (mNil)))))) (mCons (mCall 4 M_law_heard (mCons (mC (.int 3)) (mCons (mN oTup (mCons (mV 0) (mCons (mC .non) (mNil)))) (mCons (mC .non) (mCons (mC (.int 5)) (mNil)))))) (mNil)))))))) (sSeq (sSet 2 (m2 oAdd (mV 2) (mN oLst (mCons (mCall 4 M_law_heard (mCons (mC (.int 4)) (mCons (mV 0) (mCons (mV 9) (mCons (mN oTup (mCons (mV 5) (mNil))) (mNil)))))) (mCons (mCall 4 M_law_heard (mCons (mC (.int 4)) (mCons (mV 9) (mCons (mV 0) (mCons (mN oTup (mCons (mV 5) (mNil))) (mNil)))))) (mCons (mCall 4 M_law_heard (mCons (mC (.int 4)) (mCons (mV 9) (mCons (mV 9) (mCons (mN oTup (mCons (mC (.int 1)) (mNil))) (mNil)))))) (mCons (mCall 4 M_law_heard (mCons (mC (.int 3)) (mCons (mN oTup (mCons (mN oTup (mCons (mN oTup (mCons (mC (.int 1)) (mCons (mC (.int 2)) (mNil)))) (mCons (mC (.int 3)) (mNil)))) (mNil))) (mCons (mC .non) (mCons (mC (.int 0)) (mNil)))))) (mNil)))))))) (sSeq (sSet 2 (m2 oAdd (mV 2) (mN oLst (mCons (mCall 4 M_law_heard (mCons (mC (.int 3)) (mCons (mN oTup (mCons (mN oTup (mNil)) (mNil))) (mCons (mC .non) (mCons (mC (.int 0)) (mNil)))))) (mCons (mCall 4 M_law_heard (mCons (mC (.int 3)) (mCons (mN oTup (mCons (mV 9) (mCons (mC (.int 13)) (mNil)))) (mCons (mC .non) (mCons (mC (.int 1)) (mNil)))))) (mCons (mCall 4 M_law_heard (mCons (mC (.int 3)) (mCons (mN oTup (mCons (mV 9) (mCons (m1 oNeg (mC (.int 1))) (mNil)))) (mCons (mC .non) (mCons (mC (.int 2)) (mNil)))))) (mCons (mCall 4 M_law_heard (mCons (mC (.int 3)) (mCons (mN oTup (mCons (mV 9) (mCons (mC (.bl true)) (mNil)))) (mCons (mC .non) (mCons (mC (.int 3)) (mNil)))))) (mNil)))))))) (sSeq (sFor (onlyA (mN oTup (mCons (mC (.int 1)) (mCons (mC (.int 2)) (mCons (mC (.int 3)) (mNil)))))) nfA (gNm 3) (sSet 2 (m2 oAdd (mV 2) (mLc (onlyA (mN oTup (mCons (mC (.int 13)) (mCons (m1 oNeg (mC (.int 1))) (mCons (mC (.bl true)) (mCons (mC .non) (mCons (mN oTup (mCons (mC (.int 1)) (mCons (mC (.int 1)) (mNil)))) (mNil)))))))) nfA (gNm 12) (mYes) (mCall 4 M_law_heard (mCons (mC (.int 3)) (mCons (mN oTup (mCons (mV 9) (mCons (mV 12) (mNil)))) (mCons (mC .non) (mCons (mV 3) (mNil)))))) [12])))) (sSeq (sSet 2 (m2 oAdd (mV 2) (mN oLst (mCons (mCall 4 M_law_heard (mCons (mC (.int 3)) (mCons (mN oTup (mCons (mV 8) (mCons (mC (.int 13)) (mNil)))) (mCons (mC .non) (mCons (mC (.int 1)) (mNil)))))) (mCons (mCall 4 M_law_heard (mCons (mC (.int 3)) (mCons (mN oTup (mCons (mV 9) (mCons (mN oTup (mCons (mC (.int 1)) (mNil))) (mNil)))) (mCons (mC .non) (mCons (mC (.int 4)) (mNil)))))) (mNil)))))) (sRet (mCall 2 M_law_same (mCons (mV 2) (mCons (m2 oMul (mN oLst (mCons (mN oLst (mCons (mC (.str [117, 110, 102, 105, 116])) (mCons (mC (.bl true)) (mNil)))) (mNil))) (mC (.int 64))) (mNil)))))))))))))))))))
theorem ev_law_refused_right : isT (M_law_refused_right [] L0) = true := by decide +kernel
theorem fo_law_refused_right {P : Program} {w : World} {K : PySem.W.Frag} {mg : Str → Option Value} {base : Heap} (G : Gf K mg) (h_law_boxes : Kn P w K mg base (pm K) 1 "_law_boxes" 0 M_law_boxes) (h_law_same : Kn P w K mg base (pm K) 12 "_law_same" 2 M_law_same) (h_law_heard : Kn P w K mg base (pm K) 12 "_law_heard" 4 M_law_heard) {fd : FuncData} (F : FunD K "_law_refused_right" "_law_refused_right" (defArgs (top 85)) (defBody (top 85)) (defScope (top 85)) [] [] (He.ga K "_law_refused_right") fd) : FnOk P w K mg base (L2.CX P w) 13 (He.ga K "_law_refused_right") fd [] (spM (pm K) 0 M_law_refused_right) := by
  refine fn_ok (k := 12) (N := N_law_refused_right) (tl := [none, none, none, none, none, none, none, none, none, none, none, none, none, none]) (b := sSeq (sAs (mN oTup (mCons (mN oTup (mCons (mC (.int 0)) (mCons (mC (.int 1)) (mNil)))) (mCons (mN oTup (mCons (mC (.int 1)) (mCons (mC (.int 1)) (mNil)))) (mCons (mN oTup (mCons (mC (.int 2)) (mCons (mC (.int 1)) (mNil)))) (mCons (mN oTup (mCons (m1 oNeg (mC (.int 1))) (mCons (mC (.int 1)) (mNil)))) (mNil)))))) (gEnd (gTL 4 (gCn (gNm 4) (gCn (gNm 5) (gCn (gNm 6) (gCn (gNm 7) (gNl)))))))) (sSeq (sAs ((fun _ L => M_law_boxes [] L)) (gEnd (gTL 4 (gCn (gNm 8) (gCn (gNm 9) (gCn (gNm 10) (gCn (gNm 11) (gNl)))))))) (sSeq (sSet 0 (mN oTup (mCons (mN oTup (mCons (mV 5) (mCons (mV 4) (mCons (mV 7) (mNil))))) (mCons (mN oTup (mCons (mV 5) (mCons (mN oTup (mCons (m1 oNeg (mC (.int 2))) (mCons (mC (.int 1)) (mNil)))) (mCons (mV 5) (mNil))))) (mNil))))) (sSeq (sSet 1 (mN oLst (mCons (mN oTup (mCons (mV 0) (mCons (mN oTup (mCons (mV 4) (mCons (mV 4) (mNil)))) (mNil)))) (mCons (mN oTup (mCons (mN oTup (mCons (mN oTup (mCons (mV 4) (mNil))) (mCons (mN oTup (mCons (mV 5) (mNil))) (mNil)))) (mCons (mN oTup (mNil)) (mNil)))) (mCons (mN oTup (mCons (mN oTup (mCons (mN oTup (mCons (mV 5) (mNil))) (mCons (mN oTup (mCons (mV 6) (mNil))) (mNil)))) (mCons (mN oTup (mNil)) (mNil)))) (mCons (mN oTup (mCons (mN oTup (mCons (mN oTup (mCons (mV 5) (mCons (mV 5) (mNil)))) (mCons (mN oTup (mCons (mV 5) (mNil))) (mNil)))) (mCons (mN oTup (mCons (mV 4) (mNil))) (mNil)))) (mCons (mN oTup (mCons (mC .non) (mCons (mN oTup (mNil)) (mNil)))) (mNil)))))))) (sSeq (sSet 1 (m2 oAdd (mV 1) (mN oLst (mCons (mN oTup (mCons (mN oTup (mCons (mN oTup (mCons (mV 5) (mCons (mN oTup (mCons (mC (.int 2)) (mCons (mC (.int 4)) (mNil)))) (mNil)))) (mCons (mN oTup (mCons (mV 5) (mCons (mV 7) (mNil)))) (mNil)))) (mCons (mN oTup (mCons (mV 4) (mNil))) (mNil)))) (mCons (mN oTup (mCons (mN oTup (mCons (mV 5) (mCons (mV 5) (mNil)))) (mCons (mN oTup (mCons (mV 4) (mNil))) (mNil)))) (mNil)))))) (sSeq (sSet 2 (mN oLst (mNil))) (sSeq (sFor (onlyA (mN oTup (mCons (mC (.int 0)) (mCons (mC (.int 1)) (mNil))))) nfA (gNm 3) (sSeq (sSet 2 (m2 oAdd (mV 2) (mLc (onlyA (mV 1)) nfA (gPr 12 13) (mYes) (mCall 4 M_law_heard (mCons (mV 3) (mCons (mV 12) (mCons (mV 13) (mCons (mN oTup (mCons (mV 5) (mNil))) (mNil)))))) [12, 13]))) (sSeq (sSet 2 (m2 oAdd (mV 2) (mLc (onlyA (mN oTup (mCons (mN oTup (mNil)) (mCons (mN oTup (mCons (mV 4) (mCons (mV 4) (mNil)))) (mCons (mN oTup (mCons (mN oTup (mCons (mC (.int 2)) (mCons (mC (.int 2)) (mNil)))) (mNil))) (mCons (mC .non) (mNil))))))) nfA (gNm 12) (mYes) (mCall 4 M_law_heard (mCons (mV 3) (mCons (mV 8) (mCons (mV 12) (mCons (mN oTup (mCons (mV 5) (mNil))) (mNil)))))) [12]))) (sSet 2 (m2 oAdd (mV 2) (mLc (onlyA (mN oTup (mCons (mN oTup (mCons (mN oTup (mCons (mC (.int 0)) (mCons (mC (.int 2)) (mNil)))) (mNil))) (mCons (mN oTup (mCons (mC (.int 1)) (mNil))) (mCons (mC .non) (mCons (mN oTup (mCons (mN oTup (mCons (mC (.bl true)) (mCons (mC (.int 1)) (mNil)))) (mNil))) (mNil))))))) nfA (gNm 12) (mYes) (mCall 4 M_law_heard (mCons (mV 3) (mCons (mV 8) (mCons (mN oTup (mCons (mV 4) (mNil))) (mCons (mV 12) (mNil)))))) [12])))))) (sSeq (sSet 2 (m2 oAdd (mV 2) (mN oLst (mCons (mCall 4 M_law_heard (mCons (mC (.int 2)) (mCons (mN oTup (mCons (mV 5) (mNil))) (mCons (mN oTup (mCons (mV 5) (mCons (mV 5) (mNil)))) (mCons (mC (.int 0)) (mNil)))))) (mCons (mCall 4 M_law_heard (mCons (mC (.int 2)) (mCons (mN oTup (mCons (mC (.int 1)) (mCons (mC (.int 2)) (mNil)))) (mCons (mN oTup (mNil)) (mCons (mC (.int 0)) (mNil)))))) (mCons (mCall 4 M_law_heard (mCons (mC (.int 2)) (mCons (mN oTup (mCons (mV 5) (mNil))) (mCons (mN oTup (mCons (mN oTup (mCons (mC (.int 1)) (mCons (mC (.int 0)) (mNil)))) (mNil))) (mCons (mC (.int 0)) (mNil)))))) (mCons (mCall 4 M_law_heard (mCons (mC (.int 2)) (mCons (mN oTup (mNil)) (mCons (mN oTup (mNil)) (mCons (mC (.int 0)) (mNil)))))) (mNil)))))))) (sSeq (sSet 2 (m2 oAdd (mV 2) (mN oLst (mCons (mCall 4 M_law_heard (mCons (mC (.int 3)) (mCons (mN oTup (mCons (mV 0) (mCons (mC (.int 2)) (mNil)))) (mCons (mC .non) (mCons (mC (.int 1)) (mNil)))))) (mNil))))) (sSeq (sSet 2 (m2 oAdd (mV 2) (mN oLst (mCons (mCall 4 M_law_heard (mCons (mC (.int 3)) (mCons (mN oTup (mCons (mV 0) (mCons (mC (.int 2)) (mNil)))) (mCons (mC .non) (mCons (mC (.int 2)) (mNil)))))) (mCons (mCall 4 M_law_heard (mCons (mC (.int 3)) (mCons (mN oTup (mCons (mV 0) (mCons (mC (.int 2)) (mNil)))) (mCons (mC .non) (mCons (mC (.int 3)) (mNil)))))) (mCons (mCall 4 M_law_heard (mCons (mC (.int 3)) (mCons (mN oTup (mCons (mV 0) (mCons (mN oTup (mCons (mV 5) (mNil))) (mNil)))) (mCons (mC .non) (mCons (mC (.int 4)) (mNil)))))) (mCons (mCall 4 M_law_heard (mCons (mC (.int 3)) (mCons (mN oTup (mCons (mV 0) (mCons (mC .non) (mNil)))) (mCons (mC .non) (mCons (mC (.int 5)) (mNil)))))) (mNil)))))))) (sSeq (sSet 2 (m2 oAdd (mV 2) (mN oLst (mCons (mCall 4 M_law_heard (mCons (mC (.int 4)) (mCons (mV 0) (mCons (mV 9) (mCons (mN oTup (mCons (mV 5) (mNil))) (mNil)))))) (mCons (mCall 4 M_law_heard (mCons (mC (.int 4)) (mCons (mV 9) (mCons (mV 0) (mCons (mN oTup (mCons (mV 5) (mNil))) (mNil)))))) (mCons (mCall 4 M_law_heard (mCons (mC (.int 4)) (mCons (mV 9) (mCons (mV 9) (mCons (mN oTup (mCons (mC (.int 1)) (mNil))) (mNil)))))) (mCons (mCall 4 M_law_heard (mCons (mC (.int 3)) (mCons (mN oTup (mCons (mN oTup (mCons (mN oTup (mCons (mC (.int 1)) (mCons (mC (.int 2)) (mNil)))) (mCons (mC (.int 3)) (mNil)))) (mNil))) (mCons (mC .non) (mCons (mC (.int 0)) (mNil)))))) (mNil)))))))) (sSeq (sSet 2 (m2 oAdd (mV 2) (mN oLst (mCons (mCall 4 M_law_heard (mCons (mC (.int 3)) (mCons (mN oTup (mCons (mN oTup (mNil)) (mNil))) (mCons (mC .non) (mCons (mC (.int 0)) (mNil)))))) (mCons (mCall 4 M_law_heard (mCons (mC (.int 3)) (mCons (mN oTup (mCons (mV 9) (mCons (mC (.int 13)) (mNil)))) (mCons (mC .non) (mCons (mC (.int 1)) (mNil)))))) (mCons (mCall 4 M_law_heard (mCons (mC (.int 3)) (mCons (mN oTup (mCons (mV 9) (mCons (m1 oNeg (mC (.int 1))) (mNil)))) (mCons (mC .non) (mCons (mC (.int 2)) (mNil)))))) (mCons (mCall 4 M_law_heard (mCons (mC (.int 3)) (mCons (mN oTup (mCons (mV 9) (mCons (mC (.bl true)) (mNil)))) (mCons (mC .non) (mCons (mC (.int 3)) (mNil)))))) (mNil)))))))) (sSeq (sFor (onlyA (mN oTup (mCons (mC (.int 1)) (mCons (mC (.int 2)) (mCons (mC (.int 3)) (mNil)))))) nfA (gNm 3) (sSet 2 (m2 oAdd (mV 2) (mLc (onlyA (mN oTup (mCons (mC (.int 13)) (mCons (m1 oNeg (mC (.int 1))) (mCons (mC (.bl true)) (mCons (mC .non) (mCons (mN oTup (mCons (mC (.int 1)) (mCons (mC (.int 1)) (mNil)))) (mNil)))))))) nfA (gNm 12) (mYes) (mCall 4 M_law_heard (mCons (mC (.int 3)) (mCons (mN oTup (mCons (mV 9) (mCons (mV 12) (mNil)))) (mCons (mC .non) (mCons (mV 3) (mNil)))))) [12])))) (sSeq (sSet 2 (m2 oAdd (mV 2) (mN oLst (mCons (mCall 4 M_law_heard (mCons (mC (.int 3)) (mCons (mN oTup (mCons (mV 8) (mCons (mC (.int 13)) (mNil)))) (mCons (mC .non) (mCons (mC (.int 1)) (mNil)))))) (mCons (mCall 4 M_law_heard (mCons (mC (.int 3)) (mCons (mN oTup (mCons (mV 9) (mCons (mN oTup (mCons (mC (.int 1)) (mNil))) (mNil)))) (mCons (mC .non) (mCons (mC (.int 4)) (mNil)))))) (mNil)))))) (sRet (mCall 2 M_law_same (mCons (mV 2) (mCons (m2 oMul (mN oLst (mCons (mN oLst (mCons (mC (.str [117, 110, 102, 105, 116])) (mCons (mC (.bl true)) (mNil)))) (mNil))) (mC (.int 64))) (mNil))))))))))))))))))) F sc_law_refused_right rfl rfl (fun cdv A outer s H E hr => ?_)
  have nd : N_law_refused_right.Nodup := sc_law_refused_right.nd
  have tk : Takes (cxOf (L2.CX P w) P w K mg base N_law_refused_right "_law_refused_right" (defScope (top 85)) (He.ga K "_law_refused_right") cdv A outer s H E) (fun cls d _ H' => E cls d H') := takes_of rfl rfl rfl rfl
  have po : PassesOwn (model P w) (cxOf (L2.CX P w) P w K mg base N_law_refused_right "_law_refused_right" (defScope (top 85)) (He.ga K "_law_refused_right") cdv A outer s H E).A (cxOf (L2.CX P w) P w K mg base N_law_refused_right "_law_refused_right" (defScope (top 85)) (He.ga K "_law_refused_right") cdv A outer s H E).env (cxOf (L2.CX P w) P w K mg base N_law_refused_right "_law_refused_right" (defScope (top 85)) (He.ga K "_law_refused_right") cdv A outer s H E).xe := passes_of (X := cxOf (L2.CX P w) P w K mg base N_law_refused_right "_law_refused_right" (defScope (top 85)) (He.ga K "_law_refused_right") cdv A outer s H E) rfl
  exact (es_cons (es_asg (ee_tup (ea_cons (ee_tup (ea_cons ee_int (ea_cons ee_int ea_nil))) (ea_cons (ee_tup (ea_cons ee_int (ea_cons ee_int ea_nil))) (ea_cons (ee_tup (ea_cons ee_int (ea_cons ee_int ea_nil))) (ea_cons (ee_tup (ea_cons (b_neg ee_int) (ea_cons ee_int ea_nil))) ea_nil))))) (eg_tl rfl rfl (egs_cons (eg_name (g_name nd)) (egs_cons (eg_name (g_name nd)) (egs_cons (eg_name (g_name nd)) (egs_cons (eg_name (g_name nd)) egs_nil))))))
    (es_cons (es_asg (ee_call0 h_law_boxes hr (by decide) tk) (eg_tl rfl rfl (egs_cons (eg_name (g_name nd)) (egs_cons (eg_name (g_name nd)) (egs_cons (eg_name (g_name nd)) (egs_cons (eg_name (g_name nd)) egs_nil))))))
    (es_cons (s_set nd (ee_tup (ea_cons (ee_tup (ea_cons (ee_var 5 (pv 5)) (ea_cons (ee_var 4 (pv 4)) (ea_cons (ee_var 7 (pv 7)) ea_nil)))) (ea_cons (ee_tup (ea_cons (ee_var 5 (pv 5)) (ea_cons (ee_tup (ea_cons (b_neg ee_int) (ea_cons ee_int ea_nil))) (ea_cons (ee_var 5 (pv 5)) ea_nil)))) ea_nil))))
    (es_cons (s_set nd (ee_lst (ea_cons (ee_tup (ea_cons (ee_var 0 (pv 0)) (ea_cons (ee_tup (ea_cons (ee_var 4 (pv 4)) (ea_cons (ee_var 4 (pv 4)) ea_nil))) ea_nil))) (ea_cons (ee_tup (ea_cons (ee_tup (ea_cons (ee_tup (ea_cons (ee_var 4 (pv 4)) ea_nil)) (ea_cons (ee_tup (ea_cons (ee_var 5 (pv 5)) ea_nil)) ea_nil))) (ea_cons (ee_tup ea_nil) ea_nil))) (ea_cons (ee_tup (ea_cons (ee_tup (ea_cons (ee_tup (ea_cons (ee_var 5 (pv 5)) ea_nil)) (ea_cons (ee_tup (ea_cons (ee_var 6 (pv 6)) ea_nil)) ea_nil))) (ea_cons (ee_tup ea_nil) ea_nil))) (ea_cons (ee_tup (ea_cons (ee_tup (ea_cons (ee_tup (ea_cons (ee_var 5 (pv 5)) (ea_cons (ee_var 5 (pv 5)) ea_nil))) (ea_cons (ee_tup (ea_cons (ee_var 5 (pv 5)) ea_nil)) ea_nil))) (ea_cons (ee_tup (ea_cons (ee_var 4 (pv 4)) ea_nil)) ea_nil))) (ea_cons (ee_tup (ea_cons ee_non (ea_cons (ee_tup ea_nil) ea_nil))) ea_nil)))))))
    (es_cons (s_set nd (b_add rfl (ee_var 1 (pv 1)) (ee_lst (ea_cons (ee_tup (ea_cons (ee_tup (ea_cons (ee_tup (ea_cons (ee_var 5 (pv 5)) (ea_cons (ee_tup (ea_cons ee_int (ea_cons ee_int ea_nil))) ea_nil))) (ea_cons (ee_tup (ea_cons (ee_var 5 (pv 5)) (ea_cons (ee_var 7 (pv 7)) ea_nil))) ea_nil))) (ea_cons (ee_tup (ea_cons (ee_var 4 (pv 4)) ea_nil)) ea_nil))) (ea_cons (ee_tup (ea_cons (ee_tup (ea_cons (ee_var 5 (pv 5)) (ea_cons (ee_var 5 (pv 5)) ea_nil))) (ea_cons (ee_tup (ea_cons (ee_var 4 (pv 4)) ea_nil)) ea_nil))) ea_nil)))))
    (es_cons (s_set nd (ee_lst ea_nil))
    (es_cons (es_for po rfl (ei_any rfl (ee_tup (ea_cons ee_int (ea_cons ee_int ea_nil)))) (eg_name (g_name nd)) (es_cons (s_set nd (b_add rfl (ee_var 2 (pv 2)) (ee_lc rfl nd (own := [("own", 12), ("cells", 13)]) (ei_any rfl (ee_var 1 (pv 1))) (blkOk_by (N := N_law_refused_right) (sc := defScope (top 85)) (by decide +kernel)) (fun _ _ _ _ _ => (ct_pair rfl rfl (g_name nd) (g_name nd) (by decide) (by decide))) (fun _ _ _ _ _ => ets_nil) (fun _ _ _ _ _ => (ee_call h_law_heard hr (by decide) takes_blk (ea_cons (ee_var 3 (pv 3)) (ea_cons (ee_var 12 (pv 12)) (ea_cons (ee_var 13 (pv 13)) (ea_cons (ee_tup (ea_cons (ee_var 5 (pv 5)) ea_nil)) ea_nil)))))))))
    (es_cons (s_set nd (b_add rfl (ee_var 2 (pv 2)) (ee_lc rfl nd (own := [("own", 12)]) (ei_any rfl (ee_tup (ea_cons (ee_tup ea_nil) (ea_cons (ee_tup (ea_cons (ee_var 4 (pv 4)) (ea_cons (ee_var 4 (pv 4)) ea_nil))) (ea_cons (ee_tup (ea_cons (ee_tup (ea_cons ee_int (ea_cons ee_int ea_nil))) ea_nil)) (ea_cons ee_non ea_nil)))))) (blkOk_by (N := N_law_refused_right) (sc := defScope (top 85)) (by decide +kernel)) (fun _ _ _ _ _ => (ct_name (g_name nd) (by decide))) (fun _ _ _ _ _ => ets_nil) (fun _ _ _ _ _ => (ee_call h_law_heard hr (by decide) takes_blk (ea_cons (ee_var 3 (pv 3)) (ea_cons (ee_var 8 (pv 8)) (ea_cons (ee_var 12 (pv 12)) (ea_cons (ee_tup (ea_cons (ee_var 5 (pv 5)) ea_nil)) ea_nil)))))))))
    (es_one (s_set nd (b_add rfl (ee_var 2 (pv 2)) (ee_lc rfl nd (own := [("own", 12)]) (ei_any rfl (ee_tup (ea_cons (ee_tup (ea_cons (ee_tup (ea_cons ee_int (ea_cons ee_int ea_nil))) ea_nil)) (ea_cons (ee_tup (ea_cons ee_int ea_nil)) (ea_cons ee_non (ea_cons (ee_tup (ea_cons (ee_tup (ea_cons ee_bl (ea_cons ee_int ea_nil))) ea_nil)) ea_nil)))))) (blkOk_by (N := N_law_refused_right) (sc := defScope (top 85)) (by decide +kernel)) (fun _ _ _ _ _ => (ct_name (g_name nd) (by decide))) (fun _ _ _ _ _ => ets_nil) (fun _ _ _ _ _ => (ee_call h_law_heard hr (by decide) takes_blk (ea_cons (ee_var 3 (pv 3)) (ea_cons (ee_var 8 (pv 8)) (ea_cons (ee_tup (ea_cons (ee_var 4 (pv 4)) ea_nil)) (ea_cons (ee_var 12 (pv 12)) ea_nil)))))))))))))
    (es_cons (s_set nd (b_add rfl (ee_var 2 (pv 2)) (ee_lst (ea_cons (ee_call h_law_heard hr (by decide) tk (ea_cons ee_int (ea_cons (ee_tup (ea_cons (ee_var 5 (pv 5)) ea_nil)) (ea_cons (ee_tup (ea_cons (ee_var 5 (pv 5)) (ea_cons (ee_var 5 (pv 5)) ea_nil))) (ea_cons ee_int ea_nil))))) (ea_cons (ee_call h_law_heard hr (by decide) tk (ea_cons ee_int (ea_cons (ee_tup (ea_cons ee_int (ea_cons ee_int ea_nil))) (ea_cons (ee_tup ea_nil) (ea_cons ee_int ea_nil))))) (ea_cons (ee_call h_law_heard hr (by decide) tk (ea_cons ee_int (ea_cons (ee_tup (ea_cons (ee_var 5 (pv 5)) ea_nil)) (ea_cons (ee_tup (ea_cons (ee_tup (ea_cons ee_int (ea_cons ee_int ea_nil))) ea_nil)) (ea_cons ee_int ea_nil))))) (ea_cons (ee_call h_law_heard hr (by decide) tk (ea_cons ee_int (ea_cons (ee_tup ea_nil) (ea_cons (ee_tup ea_nil) (ea_cons ee_int ea_nil))))) ea_nil)))))))
    (es_cons (s_set nd (b_add rfl (ee_var 2 (pv 2)) (ee_lst (ea_cons (ee_call h_law_heard hr (by decide) tk (ea_cons ee_int (ea_cons (ee_tup (ea_cons (ee_var 0 (pv 0)) (ea_cons ee_int ea_nil))) (ea_cons ee_non (ea_cons ee_int ea_nil))))) ea_nil))))
    (es_cons (s_set nd (b_add rfl (ee_var 2 (pv 2)) (ee_lst (ea_cons (ee_call h_law_heard hr (by decide) tk (ea_cons ee_int (ea_cons (ee_tup (ea_cons (ee_var 0 (pv 0)) (ea_cons ee_int ea_nil))) (ea_cons ee_non (ea_cons ee_int ea_nil))))) (ea_cons (ee_call h_law_heard hr (by decide) tk (ea_cons ee_int (ea_cons (ee_tup (ea_cons (ee_var 0 (pv 0)) (ea_cons ee_int ea_nil))) (ea_cons ee_non (ea_cons ee_int ea_nil))))) (ea_cons (ee_call h_law_heard hr (by decide) tk (ea_cons ee_int (ea_cons (ee_tup (ea_cons (ee_var 0 (pv 0)) (ea_cons (ee_tup (ea_cons (ee_var 5 (pv 5)) ea_nil)) ea_nil))) (ea_cons ee_non (ea_cons ee_int ea_nil))))) (ea_cons (ee_call h_law_heard hr (by decide) tk (ea_cons ee_int (ea_cons (ee_tup (ea_cons (ee_var 0 (pv 0)) (ea_cons ee_non ea_nil))) (ea_cons ee_non (ea_cons ee_int ea_nil))))) ea_nil)))))))
    (es_cons (s_set nd (b_add rfl (ee_var 2 (pv 2)) (ee_lst (ea_cons (ee_call h_law_heard hr (by decide) tk (ea_cons ee_int (ea_cons (ee_var 0 (pv 0)) (ea_cons (ee_var 9 (pv 9)) (ea_cons (ee_tup (ea_cons (ee_var 5 (pv 5)) ea_nil)) ea_nil))))) (ea_cons (ee_call h_law_heard hr (by decide) tk (ea_cons ee_int (ea_cons (ee_var 9 (pv 9)) (ea_cons (ee_var 0 (pv 0)) (ea_cons (ee_tup (ea_cons (ee_var 5 (pv 5)) ea_nil)) ea_nil))))) (ea_cons (ee_call h_law_heard hr (by decide) tk (ea_cons ee_int (ea_cons (ee_var 9 (pv 9)) (ea_cons (ee_var 9 (pv 9)) (ea_cons (ee_tup (ea_cons ee_int ea_nil)) ea_nil))))) (ea_cons (ee_call h_law_heard hr (by decide) tk (ea_cons ee_int (ea_cons (ee_tup (ea_cons (ee_tup (ea_cons (ee_tup (ea_cons ee_int (ea_cons ee_int ea_nil))) (ea_cons ee_int ea_nil))) ea_nil)) (ea_cons ee_non (ea_cons ee_int ea_nil))))) ea_nil)))))))
    (es_cons (s_set nd (b_add rfl (ee_var 2 (pv 2)) (ee_lst (ea_cons (ee_call h_law_heard hr (by decide) tk (ea_cons ee_int (ea_cons (ee_tup (ea_cons (ee_tup ea_nil) ea_nil)) (ea_cons ee_non (ea_cons ee_int ea_nil))))) (ea_cons (ee_call h_law_heard hr (by decide) tk (ea_cons ee_int (ea_cons (ee_tup (ea_cons (ee_var 9 (pv 9)) (ea_cons ee_int ea_nil))) (ea_cons ee_non (ea_cons ee_int ea_nil))))) (ea_cons (ee_call h_law_heard hr (by decide) tk (ea_cons ee_int (ea_cons (ee_tup (ea_cons (ee_var 9 (pv 9)) (ea_cons (b_neg ee_int) ea_nil))) (ea_cons ee_non (ea_cons ee_int ea_nil))))) (ea_cons (ee_call h_law_heard hr (by decide) tk (ea_cons ee_int (ea_cons (ee_tup (ea_cons (ee_var 9 (pv 9)) (ea_cons ee_bl ea_nil))) (ea_cons ee_non (ea_cons ee_int ea_nil))))) ea_nil)))))))
    (es_cons (es_for po rfl (ei_any rfl (ee_tup (ea_cons ee_int (ea_cons ee_int (ea_cons ee_int ea_nil))))) (eg_name (g_name nd)) (es_one (s_set nd (b_add rfl (ee_var 2 (pv 2)) (ee_lc rfl nd (own := [("own", 12)]) (ei_any rfl (ee_tup (ea_cons ee_int (ea_cons (b_neg ee_int) (ea_cons ee_bl (ea_cons ee_non (ea_cons (ee_tup (ea_cons ee_int (ea_cons ee_int ea_nil))) ea_nil))))))) (blkOk_by (N := N_law_refused_right) (sc := defScope (top 85)) (by decide +kernel)) (fun _ _ _ _ _ => (ct_name (g_name nd) (by decide))) (fun _ _ _ _ _ => ets_nil) (fun _ _ _ _ _ => (ee_call h_law_heard hr (by decide) takes_blk (ea_cons ee_int (ea_cons (ee_tup (ea_cons (ee_var 9 (pv 9)) (ea_cons (ee_var 12 (pv 12)) ea_nil))) (ea_cons ee_non (ea_cons (ee_var 3 (pv 3)) ea_nil)))))))))))
    (es_cons (s_set nd (b_add rfl (ee_var 2 (pv 2)) (ee_lst (ea_cons (ee_call h_law_heard hr (by decide) tk (ea_cons ee_int (ea_cons (ee_tup (ea_cons (ee_var 8 (pv 8)) (ea_cons ee_int ea_nil))) (ea_cons ee_non (ea_cons ee_int ea_nil))))) (ea_cons (ee_call h_law_heard hr (by decide) tk (ea_cons ee_int (ea_cons (ee_tup (ea_cons (ee_var 9 (pv 9)) (ea_cons (ee_tup (ea_cons ee_int ea_nil)) ea_nil))) (ea_cons ee_non (ea_cons ee_int ea_nil))))) ea_nil)))))
    (es_one (es_ret (ee_call h_law_same hr (by decide) tk (ea_cons (ee_var 2 (pv 2)) (ea_cons (b_mul rfl (ee_lst (ea_cons (ee_lst (ea_cons (ee_str rfl) (ea_cons ee_bl ea_nil))) ea_nil)) ee_int) ea_nil)))))))))))))))))))
theorem ok_law_refused_right {P : Program} {w : World} {K : PySem.W.Frag} {mg : Str → Option Value} {base : Heap} (G : Gf K mg) (h_law_boxes : Kn P w K mg base (pm K) 1 "_law_boxes" 0 M_law_boxes) (h_law_same : Kn P w K mg base (pm K) 12 "_law_same" 2 M_law_same) (h_law_heard : Kn P w K mg base (pm K) 12 "_law_heard" 4 M_law_heard) : Kn P w K mg base (pm K) 13 "_law_refused_right" 0 M_law_refused_right := by
  obtain ⟨fd, F⟩ := G.d__law_refused_right
  exact ⟨_, fd, _, fo_law_refused_right G h_law_boxes h_law_same h_law_heard  F, G.a__law_refused_right, F.kp, (F.bindsN fun _ _ _ _ _ _ us hl => match us, hl with | [], _ => rfl)⟩
abbrev N_law_lists : List Str := ["matter", "bit"]
theorem sc_law_lists : FnScope N_law_lists ["matter"] (defScope (top 76)) := ⟨rfl, rfl, rfl, by decide +kernel, rfl, by decide +kernel, by decide +kernel⟩
noncomputable def R_law_lists (m : Nat) : Fn' := @Nat.rec (fun _ => Fn') badF (fun _ ih => fnM [none] (sRet (mIf (mTru (mIsi2 5 4 (mV 0))) (mLc (onlyA (mV 0)) nfA (gNm 1) (mYes) (mCall 1 ih (mCons (mV 1) (mNil))) [1]) (mV 0)))) m
noncomputable def M_law_lists : Fn' := R_law_lists 8
theorem fo_law_lists {P : Program} {w : World} {K : PySem.W.Frag} {mg : Str → Option Value} {base : Heap} (G : Gf K mg) {fd : FuncData} (F : FunD K "_law_lists" "_law_lists" (defArgs (top 76)) (defBody (top 76)) (defScope (top 76)) [] [] (He.ga K "_law_lists") fd) (m : Nat) (ih : Kn P w K mg base (pm K) (0 + m) "_law_lists" 1 (R_law_lists m)) : FnOk P w K mg base (L2.CX P w) (0 + m + 1) (He.ga K "_law_lists") fd ["matter"] (spM (pm K) 1 (R_law_lists (m + 1))) := by
  refine fn_ok (k := 0 + m) (N := N_law_lists) (tl := [none]) (b := sRet (mIf (mTru (mIsi2 5 4 (mV 0))) (mLc (onlyA (mV 0)) nfA (gNm 1) (mYes) (mCall 1 (R_law_lists m) (mCons (mV 1) (mNil))) [1]) (mV 0))) F sc_law_lists rfl rfl (fun cdv A outer s H E hr => ?_)
  have nd : N_law_lists.Nodup := sc_law_lists.nd
  have tk : Takes (cxOf (L2.CX P w) P w K mg base N_law_lists "_law_lists" (defScope (top 76)) (He.ga K "_law_lists") cdv A outer s H E) (fun cls d _ H' => E cls d H') := takes_of rfl rfl rfl rfl
  have po : PassesOwn (model P w) (cxOf (L2.CX P w) P w K mg base N_law_lists "_law_lists" (defScope (top 76)) (He.ga K "_law_lists") cdv A outer s H E).A (cxOf (L2.CX P w) P w K mg base N_law_lists "_law_lists" (defScope (top 76)) (He.ga K "_law_lists") cdv A outer s H E).env (cxOf (L2.CX P w) P w K mg base N_law_lists "_law_lists" (defScope (top 76)) (He.ga K "_law_lists") cdv A outer s H E).xe := passes_of (X := cxOf (L2.CX P w) P w K mg base N_law_lists "_law_lists" (defScope (top 76)) (He.ga K "_law_lists") cdv A outer s H E) rfl
  exact (es_one (es_ret (ee_if (et_tru rfl (ee_isi2 (a := 5) (b := 4) rfl (ee_var 0 (pv 0)) G.b_isinstance G.b_list G.b_tuple rfl rfl)) (ee_lc rfl nd (own := [("bit", 1)]) (ei_any rfl (ee_var 0 (pv 0))) (blkOk_by (N := N_law_lists) (sc := defScope (top 76)) (by decide +kernel)) (fun _ _ _ _ _ => (ct_name (g_name nd) (by decide))) (fun _ _ _ _ _ => ets_nil) (fun _ _ _ _ _ => (ee_call ih hr (Nat.le_refl _) takes_blk (ea_cons (ee_var 1 (pv 1)) ea_nil)))) (ee_var 0 (pv 0)))))
theorem ok_law_lists {P : Program} {w : World} {K : PySem.W.Frag} {mg : Str → Option Value} {base : Heap} (G : Gf K mg) (m : Nat) : Kn P w K mg base (pm K) (0 + m) "_law_lists" 1 (R_law_lists m) := by
  obtain ⟨fd, F⟩ := G.d__law_lists
  have b : Binds K fd ["matter"] [] := (F.bindsN fun _ _ _ _ _ _ us hl => match us, hl with | [_], _ => rfl)
  induction m with
  | zero => exact ⟨_, fd, _, (fn_bad (n := 1) rfl).mono (Nat.zero_le _), G.a__law_lists, F.kp, b⟩
  | succ m ih => exact ⟨_, fd, _, fo_law_lists G   F m ih, G.a__law_lists, F.kp, b⟩
abbrev N_law_names_right : List Str := ["got", "due", "none", "one", "less", "spring", "lag", "rub", "mass", "soft", "row"]
theorem sc_law_names_right : FnScope N_law_names_right [] (defScope (top 86)) := ⟨rfl, rfl, rfl, by decide +kernel, rfl, by decide +kernel, by decide +kernel⟩
noncomputable def M_law_names_right : Fn' := fnM [none, none, none, none, none, none, none, none, none, none, none] (sSeq (sAs (mN oTup (mCons (mN oTup (mCons (mC (.int 0)) (mCons (mC (.int 1)) (mNil)))) (mCons (mN oTup (mCons (mC (.int 1)) (mCons (mC (.int 1)) (mNil)))) (mCons (mN oTup (mCons (m1 oNeg (mC (.int 1))) (mCons (mC (.int 1)) (mNil)))) (mNil))))) (gEnd (gTL 3 (gCn (gNm 2) (gCn (gNm 3) (gCn (gNm 4) (gNl))))))) (sSeq (sAs ((fun _ L => M_law_boxes [] L)) (gEnd (gTL 4 (gCn (gNm 5) (gCn (gNm 6) (gCn (gNm 7) (gCn (gNm 8) (gNl)))))))) (sSeq (sPar 9 10 (mCons (mCall 1 M_law_lists (mCons (mV 6) (mNil))) (mCons (mN oLst (mCons (mN oLst (mCons (mC (.int 1)) (mCons (mC (.int 1)) (mNil)))) (mCons (mN oLst (mCons (m1 oNeg (mC (.int 1))) (mCons (mC (.int 1)) (mNil)))) (mNil)))) (mNil)))) (sSeq (sSet 0 (mN oLst (mCons (mCallK 3 M_work_of [2, 1, 0] (mCons (mV 10) (mCons (mN oLst (mCons (mN oLst (mCons (mC (.int 0)) (mCons (mC (.int 1)) (mNil)))) (mNil))) (mCons (mV 9) (mNil))))) (mCons (mCallK 3 M_work_sums [1, 2, 0] (mCons (mV 10) (mCons (mV 9) (mCons (mN oLst (mCons (mV 2) (mNil))) (mNil))))) (mCons (mCallK 1 M_even_table [0] (mCons (mN oLst (mCons (mN oLst (mCons (mC (.int 1)) (mCons (mC (.int 1)) (mNil)))) (mCons (mN oLst (mCons (mC (.int 1)) (mCons (mC (.int 3)) (mNil)))) (mNil)))) (mNil))) (mNil)))))) (sSeq (sSet 1 (mN oLst (mCons (mN oTup (mCons (m1 oNeg (mC (.int 1))) (mCons (mC (.int 1)) (mNil)))) (mCons (mN oTup (mCons (mN oTup (mCons (mC (.int 0)) (mCons (mC (.int 1)) (mNil)))) (mCons (mN oTup (mCons (m1 oNeg (mC (.int 1))) (mCons (mC (.int 1)) (mNil)))) (mNil)))) (mCons (mN oTup (mCons (mN oTup (mCons (mN oTup (mCons (mC (.int 2)) (mCons (mC (.int 1)) (mNil)))) (mCons (mN oTup (mCons (mC (.int 1)) (mCons (mC (.int 3)) (mNil)))) (mNil)))) (mCons (mN oTup (mCons (mN oTup (mCons (mC (.int 1)) (mCons (mC (.int 3)) (mNil)))) (mCons (mN oTup (mCons (mC (.int 2)) (mCons (mC (.int 1)) (mNil)))) (mNil)))) (mNil)))) (mNil)))))) (sSeq (sSet 0 (m2 oAdd (mV 0) (mN oLst (mCons (mCallK 2 M_work_by_table [1, 0] (mCons (mV 10) (mCons (mN oLst (mCons (mN oLst (mCons (mC (.int 0)) (mCons (mC (.int 1)) (mNil)))) (mCons (mN oLst (mCons (mC (.int 1)) (mCons (mC (.int 1)) (mNil)))) (mNil)))) (mNil)))) (mCons (mCallK 2 M_gives_within [1, 0] (mCons (mC (.int 2)) (mCons (mV 9) (mNil)))) (mCons (mCallK 2 M_is_giving_row [1, 0] (mCons (mN oTup (mCons (mV 3) (mCons (mV 4) (mNil)))) (mCons (mV 9) (mNil)))) (mNil))))))) (sSeq (sSet 0 (m2 oAdd (mV 0) (mN oLst (mCons (mCallK 2 M_first_gift [1, 0] (mCons (mC (.int 3)) (mCons (mV 9) (mNil)))) (mCons (mCallT 2 M_is_giving_row T_is_giving_row (mCons (mV 6) (mCons (mCallK 2 M_giving_row [1, 0] (mCons (mC (.int 2)) (mCons (mV 9) (mNil)))) (mNil)))) (mCons (mCallK 2 M_turned_row [1, 0] (mCons (mV 10) (mCons (mCall 1 M_law_lists (mCons (mV 5) (mNil))) (mNil)))) (mNil))))))) (sSeq (sSet 1 (m2 oAdd (mV 1) (mN oLst (mCons (mN oTup (mCons (m1 oNeg (mC (.int 1))) (mCons (mC (.int 1)) (mNil)))) (mCons (mC (.bl true)) (mCons (mC (.bl true)) (mCons (mC (.int 2)) (mCons (mC (.bl true)) (mCons (mN oTup (mCons (mN oTup (mCons (mC (.int 1)) (mCons (mC (.int 1)) (mNil)))) (mCons (mN oTup (mCons (mC (.int 1)) (mCons (mC (.int 1)) (mNil)))) (mNil)))) (mNil)))))))))) (sSeq (sSet 0 (m2 oAdd (mV 0) (mN oLst (mCons (mCallK 3 M_work_of_sum [2, 1, 0] (mCons (mV 10) (mCons (mV 9) (mCons (mCall 1 M_law_lists (mCons (mV 7) (mNil))) (mNil))))) (mCons (mV 9) (mCons (mV 10) (mNil))))))) (sRet (mCall 2 M_law_same (mCons (mV 0) (mCons (m2 oAdd (mV 1) (mN oLst (mCons (mN oTup (mCons (mN oTup (mCons (mC (.int 1)) (mCons (mC (.int 1)) (mNil)))) (mCons (mN oTup (mCons (m1 oNeg (mC (.int 1))) (mCons (mC (.int 1)) (mNil)))) (mNil)))) (mCons (mCall 1 M_law_lists (mCons (mV 6) (mNil))) (mCons (mN oLst (mCons (mN oLst (mCons (mC (.int 1)) (mCons (mC (.int 1)) (mNil)))) (mCons (mN oLst (mCons (m1 oNeg (mC (.int 1))) (mCons (mC (.int 1)) (mNil)))) (mNil)))) (mNil)))))) (mNil))))))))))))))
theorem ev_law_names_right : isT (M_law_names_right [] L0) = true := by decide +kernel
theorem fo_law_names_right {P : Program} {w : World} {K : PySem.W.Frag} {mg : Str → Option Value} {base : Heap} (G : Gf K mg) (h_law_boxes : Kn P w K mg base (pm K) 1 "_law_boxes" 0 M_law_boxes) (h_law_same : Kn P w K mg base (pm K) 12 "_law_same" 2 M_law_same) (h_law_lists : Kn P w K mg base (pm K) 8 "_law_lists" 1 M_law_lists) (h_work_of : Kn P w K mg base (pm K) 11 "work_of" 3 M_work_of) (h_work_sums : Kn P w K mg base (pm K) 11 "work_sums" 3 M_work_sums) (h_even_table : Kn P w K mg base (pm K) 10 "even_table" 1 M_even_table) (h_work_by_table : Kn P w K mg base (pm K) 10 "work_by_table" 2 M_work_by_table) (h_gives_within : Kn P w K mg base (pm K) 9 "gives_within" 2 M_gives_within) (h_is_giving_row : Kn P w K mg base (pm K) 9 "is_giving_row" 2 M_is_giving_row) (h_first_gift : Kn P w K mg base (pm K) 9 "first_gift" 2 M_first_gift) (h_turned_row : Kn P w K mg base (pm K) 9 "turned_row" 2 M_turned_row) (h_work_of_sum : Kn P w K mg base (pm K) 9 "work_of_sum" 3 M_work_of_sum) (h_giving_row : Kn P w K mg base (pm K) 9 "giving_row" 2 M_giving_row) (kn_even_table_heard : KnK P w K mg base (pm K) 10 "even_table" 1 M_even_table ["heard"] [0]) (kn_first_gift_bound_box : KnK P w K mg base (pm K) 9 "first_gift" 2 M_first_gift ["bound", "box"] [1, 0]) (kn_gives_within_k_box : KnK P w K mg base (pm K) 9 "gives_within" 2 M_gives_within ["k", "box"] [1, 0]) (kn_giving_row_k_box : KnK P w K mg base (pm K) 9 "giving_row" 2 M_giving_row ["k", "box"] [1, 0]) (kn_is_giving_row_thing_box : KnK P w K mg base (pm K) 9 "is_giving_row" 2 M_is_giving_row ["thing", "box"] [1, 0]) (kn_turned_row_pushes_box : KnK P w K mg base (pm K) 9 "turned_row" 2 M_turned_row ["pushes", "box"] [1, 0]) (kn_work_by_table_pushes_heard : KnK P w K mg base (pm K) 10 "work_by_table" 2 M_work_by_table ["pushes", "heard"] [1, 0]) (kn_work_of_pushes_cells_box : KnK P w K mg base (pm K) 11 "work_of" 3 M_work_of ["pushes", "cells", "box"] [2, 1, 0]) (kn_work_of_sum_pushes_other_box : KnK P w K mg base (pm K) 9 "work_of_sum" 3 M_work_of_sum ["pushes", "other", "box"] [2, 1, 0]) (kn_work_sums_pushes_box_cells : KnK P w K mg base (pm K) 11 "work_sums" 3 M_work_sums ["pushes", "box", "cells"] [1, 2, 0]) {fd : FuncData} (F : FunD K "_law_names_right" "_law_names_right" (defArgs (top 86)) (defBody (top 86)) (defScope (top 86)) [] [] (He.ga K "_law_names_right") fd) : FnOk P w K mg base (L2.CX P w) 13 (He.ga K "_law_names_right") fd [] (spM (pm K) 0 M_law_names_right) := by
  refine fn_ok (k := 12) (N := N_law_names_right) (tl := [none, none, none, none, none, none, none, none, none, none, none]) (b := sSeq (sAs (mN oTup (mCons (mN oTup (mCons (mC (.int 0)) (mCons (mC (.int 1)) (mNil)))) (mCons (mN oTup (mCons (mC (.int 1)) (mCons (mC (.int 1)) (mNil)))) (mCons (mN oTup (mCons (m1 oNeg (mC (.int 1))) (mCons (mC (.int 1)) (mNil)))) (mNil))))) (gEnd (gTL 3 (gCn (gNm 2) (gCn (gNm 3) (gCn (gNm 4) (gNl))))))) (sSeq (sAs ((fun _ L => M_law_boxes [] L)) (gEnd (gTL 4 (gCn (gNm 5) (gCn (gNm 6) (gCn (gNm 7) (gCn (gNm 8) (gNl)))))))) (sSeq (sPar 9 10 (mCons (mCall 1 M_law_lists (mCons (mV 6) (mNil))) (mCons (mN oLst (mCons (mN oLst (mCons (mC (.int 1)) (mCons (mC (.int 1)) (mNil)))) (mCons (mN oLst (mCons (m1 oNeg (mC (.int 1))) (mCons (mC (.int 1)) (mNil)))) (mNil)))) (mNil)))) (sSeq (sSet 0 (mN oLst (mCons (mCallK 3 M_work_of [2, 1, 0] (mCons (mV 10) (mCons (mN oLst (mCons (mN oLst (mCons (mC (.int 0)) (mCons (mC (.int 1)) (mNil)))) (mNil))) (mCons (mV 9) (mNil))))) (mCons (mCallK 3 M_work_sums [1, 2, 0] (mCons (mV 10) (mCons (mV 9) (mCons (mN oLst (mCons (mV 2) (mNil))) (mNil))))) (mCons (mCallK 1 M_even_table [0] (mCons (mN oLst (mCons (mN oLst (mCons (mC (.int 1)) (mCons (mC (.int 1)) (mNil)))) (mCons (mN oLst (mCons (mC (.int 1)) (mCons (mC (.int 3)) (mNil)))) (mNil)))) (mNil))) (mNil)))))) (sSeq (sSet 1 (mN oLst (mCons (mN oTup (mCons (m1 oNeg (mC (.int 1))) (mCons (mC (.int 1)) (mNil)))) (mCons (mN oTup (mCons (mN oTup (mCons (mC (.int 0)) (mCons (mC (.int 1)) (mNil)))) (mCons (mN oTup (mCons (m1 oNeg (mC (.int 1))) (mCons (mC (.int 1)) (mNil)))) (mNil)))) (mCons (mN oTup (mCons (mN oTup (mCons (mN oTup (mCons (mC (.int 2)) (mCons (mC (.int 1)) (mNil)))) (mCons (mN oTup (mCons (mC (.int 1)) (mCons (mC (.int 3)) (mNil)))) (mNil)))) (mCons (mN oTup (mCons (mN oTup (mCons (mC (.int 1)) (mCons (mC (.int 3)) (mNil)))) (mCons (mN oTup (mCons (mC (.int 2)) (mCons (mC (.int 1)) (mNil)))) (mNil)))) (mNil)))) (mNil)))))) (sSeq (sSet 0 (m2 oAdd (mV 0) (mN oLst (mCons (mCallK 2 M_work_by_table [1, 0] (mCons (mV 10) (mCons (mN oLst (mCons (mN oLst (mCons (mC (.int 0)) (mCons (mC (.int 1)) (mNil)))) (mCons (mN oLst (mCons (mC (.int 1)) (mCons (mC (.int 1)) (mNil)))) (mNil)))) (mNil)))) (mCons (mCallK 2 M_gives_within [1, 0] (mCons (mC (.int 2)) (mCons (mV 9) (mNil)))) (mCons (mCallK 2 M_is_giving_row [1, 0] (mCons (mN oTup (mCons (mV 3) (mCons (mV 4) (mNil)))) (mCons (mV 9) (mNil)))) (mNil))))))) (sSeq (sSet 0 (m2 oAdd (mV 0) (mN oLst (mCons (mCallK 2 M_first_gift [1, 0] (mCons (mC (.int 3)) (mCons (mV 9) (mNil)))) (mCons (mCallT 2 M_is_giving_row T_is_giving_row (mCons (mV 6) (mCons (mCallK 2 M_giving_row [1, 0] (mCons (mC (.int 2)) (mCons (mV 9) (mNil)))) (mNil)))) (mCons (mCallK 2 M_turned_row [1, 0] (mCons (mV 10) (mCons (mCall 1 M_law_lists (mCons (mV 5) (mNil))) (mNil)))) (mNil))))))) (sSeq (sSet 1 (m2 oAdd (mV 1) (mN oLst (mCons (mN oTup (mCons (m1 oNeg (mC (.int 1))) (mCons (mC (.int 1)) (mNil)))) (mCons (mC (.bl true)) (mCons (mC (.bl true)) (mCons (mC (.int 2)) (mCons (mC (.bl true)) (mCons (mN oTup (mCons (mN oTup (mCons (mC (.int 1)) (mCons (mC (.int 1)) (mNil)))) (mCons (mN oTup (mCons (mC (.int 1)) (mCons (mC (.int 1)) (mNil)))) (mNil)))) (mNil)))))))))) (sSeq (sSet 0 (m2 oAdd (mV 0) (mN oLst (mCons (mCallK 3 M_work_of_sum [2, 1, 0] (mCons (mV 10) (mCons (mV 9) (mCons (mCall 1 M_law_lists (mCons (mV 7) (mNil))) (mNil))))) (mCons (mV 9) (mCons (mV 10) (mNil))))))) (sRet (mCall 2 M_law_same (mCons (mV 0) (mCons (m2 oAdd (mV 1) (mN oLst (mCons (mN oTup (mCons (mN oTup (mCons (mC (.int 1)) (mCons (mC (.int 1)) (mNil)))) (mCons (mN oTup (mCons (m1 oNeg (mC (.int 1))) (mCons (mC (.int 1)) (mNil)))) (mNil)))) (mCons (mCall 1 M_law_lists (mCons (mV 6) (mNil))) (mCons (mN oLst (mCons (mN oLst (mCons (mC (.int 1)) (mCons (mC (.int 1)) (mNil)))) (mCons (mN oLst (mCons (m1 oNeg (mC (.int 1))) (mCons (mC (.int 1)) (mNil)))) (mNil)))) (mNil)))))) (mNil)))))))))))))) F sc_law_names_right rfl rfl (fun cdv A outer s H E hr => ?_)
  have nd : N_law_names_right.Nodup := sc_law_names_right.nd
  have tk : Takes (cxOf (L2.CX P w) P w K mg base N_law_names_right "_law_names_right" (defScope (top 86)) (He.ga K "_law_names_right") cdv A outer s H E) (fun cls d _ H' => E cls d H') := takes_of rfl rfl rfl rfl
  have po : PassesOwn (model P w) (cxOf (L2.CX P w) P w K mg base N_law_names_right "_law_names_right" (defScope (top 86)) (He.ga K "_law_names_right") cdv A outer s H E).A (cxOf (L2.CX P w) P w K mg base N_law_names_right "_law_names_right" (defScope (top 86)) (He.ga K "_law_names_right") cdv A outer s H E).env (cxOf (L2.CX P w) P w K mg base N_law_names_right "_law_names_right" (defScope (top 86)) (He.ga K "_law_names_right") cdv A outer s H E).xe := passes_of (X := cxOf (L2.CX P w) P w K mg base N_law_names_right "_law_names_right" (defScope (top 86)) (He.ga K "_law_names_right") cdv A outer s H E) rfl
  exact (es_cons (es_asg (ee_tup (ea_cons (ee_tup (ea_cons ee_int (ea_cons ee_int ea_nil))) (ea_cons (ee_tup (ea_cons ee_int (ea_cons ee_int ea_nil))) (ea_cons (ee_tup (ea_cons (b_neg ee_int) (ea_cons ee_int ea_nil))) ea_nil)))) (eg_tl rfl rfl (egs_cons (eg_name (g_name nd)) (egs_cons (eg_name (g_name nd)) (egs_cons (eg_name (g_name nd)) egs_nil)))))
    (es_cons (es_asg (ee_call0 h_law_boxes hr (by decide) tk) (eg_tl rfl rfl (egs_cons (eg_name (g_name nd)) (egs_cons (eg_name (g_name nd)) (egs_cons (eg_name (g_name nd)) (egs_cons (eg_name (g_name nd)) egs_nil))))))
    (es_cons (s_par rfl nd (ea_cons (ee_call h_law_lists hr (by decide) tk (ea_cons (ee_var 6 (pv 6)) ea_nil)) (ea_cons (ee_lst (ea_cons (ee_lst (ea_cons ee_int (ea_cons ee_int ea_nil))) (ea_cons (ee_lst (ea_cons (b_neg ee_int) (ea_cons ee_int ea_nil))) ea_nil))) ea_nil)) (by decide))
    (es_cons (s_set nd (ee_lst (ea_cons (ee_callK kn_work_of_pushes_cells_box hr (by decide) tk (ek_cons (ee_var 10 (pv 10)) (ek_cons (ee_lst (ea_cons (ee_lst (ea_cons ee_int (ea_cons ee_int ea_nil))) ea_nil)) (ek_cons (ee_var 9 (pv 9)) ek_nil)))) (ea_cons (ee_callK kn_work_sums_pushes_box_cells hr (by decide) tk (ek_cons (ee_var 10 (pv 10)) (ek_cons (ee_var 9 (pv 9)) (ek_cons (ee_lst (ea_cons (ee_var 2 (pv 2)) ea_nil)) ek_nil)))) (ea_cons (ee_callK kn_even_table_heard hr (by decide) tk (ek_cons (ee_lst (ea_cons (ee_lst (ea_cons ee_int (ea_cons ee_int ea_nil))) (ea_cons (ee_lst (ea_cons ee_int (ea_cons ee_int ea_nil))) ea_nil))) ek_nil)) ea_nil)))))
    (es_cons (s_set nd (ee_lst (ea_cons (ee_tup (ea_cons (b_neg ee_int) (ea_cons ee_int ea_nil))) (ea_cons (ee_tup (ea_cons (ee_tup (ea_cons ee_int (ea_cons ee_int ea_nil))) (ea_cons (ee_tup (ea_cons (b_neg ee_int) (ea_cons ee_int ea_nil))) ea_nil))) (ea_cons (ee_tup (ea_cons (ee_tup (ea_cons (ee_tup (ea_cons ee_int (ea_cons ee_int ea_nil))) (ea_cons (ee_tup (ea_cons ee_int (ea_cons ee_int ea_nil))) ea_nil))) (ea_cons (ee_tup (ea_cons (ee_tup (ea_cons ee_int (ea_cons ee_int ea_nil))) (ea_cons (ee_tup (ea_cons ee_int (ea_cons ee_int ea_nil))) ea_nil))) ea_nil))) ea_nil)))))
    (es_cons (s_set nd (b_add rfl (ee_var 0 (pv 0)) (ee_lst (ea_cons (ee_callK kn_work_by_table_pushes_heard hr (by decide) tk (ek_cons (ee_var 10 (pv 10)) (ek_cons (ee_lst (ea_cons (ee_lst (ea_cons ee_int (ea_cons ee_int ea_nil))) (ea_cons (ee_lst (ea_cons ee_int (ea_cons ee_int ea_nil))) ea_nil))) ek_nil))) (ea_cons (ee_callK kn_gives_within_k_box hr (by decide) tk (ek_cons ee_int (ek_cons (ee_var 9 (pv 9)) ek_nil))) (ea_cons (ee_callK kn_is_giving_row_thing_box hr (by decide) tk (ek_cons (ee_tup (ea_cons (ee_var 3 (pv 3)) (ea_cons (ee_var 4 (pv 4)) ea_nil))) (ek_cons (ee_var 9 (pv 9)) ek_nil))) ea_nil))))))
    (es_cons (s_set nd (b_add rfl (ee_var 0 (pv 0)) (ee_lst (ea_cons (ee_callK kn_first_gift_bound_box hr (by decide) tk (ek_cons ee_int (ek_cons (ee_var 9 (pv 9)) ek_nil))) (ea_cons (ee_callT kt_is_giving_row h_is_giving_row hr (by decide) tk (ea_cons (ee_var 6 (pv 6)) (ea_cons (ee_callK kn_giving_row_k_box hr (by decide) tk (ek_cons ee_int (ek_cons (ee_var 9 (pv 9)) ek_nil))) ea_nil))) (ea_cons (ee_callK kn_turned_row_pushes_box hr (by decide) tk (ek_cons (ee_var 10 (pv 10)) (ek_cons (ee_call h_law_lists hr (by decide) tk (ea_cons (ee_var 5 (pv 5)) ea_nil)) ek_nil))) ea_nil))))))
    (es_cons (s_set nd (b_add rfl (ee_var 1 (pv 1)) (ee_lst (ea_cons (ee_tup (ea_cons (b_neg ee_int) (ea_cons ee_int ea_nil))) (ea_cons ee_bl (ea_cons ee_bl (ea_cons ee_int (ea_cons ee_bl (ea_cons (ee_tup (ea_cons (ee_tup (ea_cons ee_int (ea_cons ee_int ea_nil))) (ea_cons (ee_tup (ea_cons ee_int (ea_cons ee_int ea_nil))) ea_nil))) ea_nil)))))))))
    (es_cons (s_set nd (b_add rfl (ee_var 0 (pv 0)) (ee_lst (ea_cons (ee_callK kn_work_of_sum_pushes_other_box hr (by decide) tk (ek_cons (ee_var 10 (pv 10)) (ek_cons (ee_var 9 (pv 9)) (ek_cons (ee_call h_law_lists hr (by decide) tk (ea_cons (ee_var 7 (pv 7)) ea_nil)) ek_nil)))) (ea_cons (ee_var 9 (pv 9)) (ea_cons (ee_var 10 (pv 10)) ea_nil))))))
    (es_one (es_ret (ee_call h_law_same hr (by decide) tk (ea_cons (ee_var 0 (pv 0)) (ea_cons (b_add rfl (ee_var 1 (pv 1)) (ee_lst (ea_cons (ee_tup (ea_cons (ee_tup (ea_cons ee_int (ea_cons ee_int ea_nil))) (ea_cons (ee_tup (ea_cons (b_neg ee_int) (ea_cons ee_int ea_nil))) ea_nil))) (ea_cons (ee_call h_law_lists hr (by decide) tk (ea_cons (ee_var 6 (pv 6)) ea_nil)) (ea_cons (ee_lst (ea_cons (ee_lst (ea_cons ee_int (ea_cons ee_int ea_nil))) (ea_cons (ee_lst (ea_cons (b_neg ee_int) (ea_cons ee_int ea_nil))) ea_nil))) ea_nil))))) ea_nil))))))))))))))
theorem ok_law_names_right {P : Program} {w : World} {K : PySem.W.Frag} {mg : Str → Option Value} {base : Heap} (G : Gf K mg) (h_law_boxes : Kn P w K mg base (pm K) 1 "_law_boxes" 0 M_law_boxes) (h_law_same : Kn P w K mg base (pm K) 12 "_law_same" 2 M_law_same) (h_law_lists : Kn P w K mg base (pm K) 8 "_law_lists" 1 M_law_lists) (h_work_of : Kn P w K mg base (pm K) 11 "work_of" 3 M_work_of) (h_work_sums : Kn P w K mg base (pm K) 11 "work_sums" 3 M_work_sums) (h_even_table : Kn P w K mg base (pm K) 10 "even_table" 1 M_even_table) (h_work_by_table : Kn P w K mg base (pm K) 10 "work_by_table" 2 M_work_by_table) (h_gives_within : Kn P w K mg base (pm K) 9 "gives_within" 2 M_gives_within) (h_is_giving_row : Kn P w K mg base (pm K) 9 "is_giving_row" 2 M_is_giving_row) (h_first_gift : Kn P w K mg base (pm K) 9 "first_gift" 2 M_first_gift) (h_turned_row : Kn P w K mg base (pm K) 9 "turned_row" 2 M_turned_row) (h_work_of_sum : Kn P w K mg base (pm K) 9 "work_of_sum" 3 M_work_of_sum) (h_giving_row : Kn P w K mg base (pm K) 9 "giving_row" 2 M_giving_row) (kn_even_table_heard : KnK P w K mg base (pm K) 10 "even_table" 1 M_even_table ["heard"] [0]) (kn_first_gift_bound_box : KnK P w K mg base (pm K) 9 "first_gift" 2 M_first_gift ["bound", "box"] [1, 0]) (kn_gives_within_k_box : KnK P w K mg base (pm K) 9 "gives_within" 2 M_gives_within ["k", "box"] [1, 0]) (kn_giving_row_k_box : KnK P w K mg base (pm K) 9 "giving_row" 2 M_giving_row ["k", "box"] [1, 0]) (kn_is_giving_row_thing_box : KnK P w K mg base (pm K) 9 "is_giving_row" 2 M_is_giving_row ["thing", "box"] [1, 0]) (kn_turned_row_pushes_box : KnK P w K mg base (pm K) 9 "turned_row" 2 M_turned_row ["pushes", "box"] [1, 0]) (kn_work_by_table_pushes_heard : KnK P w K mg base (pm K) 10 "work_by_table" 2 M_work_by_table ["pushes", "heard"] [1, 0]) (kn_work_of_pushes_cells_box : KnK P w K mg base (pm K) 11 "work_of" 3 M_work_of ["pushes", "cells", "box"] [2, 1, 0]) (kn_work_of_sum_pushes_other_box : KnK P w K mg base (pm K) 9 "work_of_sum" 3 M_work_of_sum ["pushes", "other", "box"] [2, 1, 0]) (kn_work_sums_pushes_box_cells : KnK P w K mg base (pm K) 11 "work_sums" 3 M_work_sums ["pushes", "box", "cells"] [1, 2, 0]) : Kn P w K mg base (pm K) 13 "_law_names_right" 0 M_law_names_right := by
  obtain ⟨fd, F⟩ := G.d__law_names_right
  exact ⟨_, fd, _, fo_law_names_right G h_law_boxes h_law_same h_law_lists h_work_of h_work_sums h_even_table h_work_by_table h_gives_within h_is_giving_row h_first_gift h_turned_row h_work_of_sum h_giving_row kn_even_table_heard kn_first_gift_bound_box kn_gives_within_k_box kn_giving_row_k_box kn_is_giving_row_thing_box kn_turned_row_pushes_box kn_work_by_table_pushes_heard kn_work_of_pushes_cells_box kn_work_of_sum_pushes_other_box kn_work_sums_pushes_box_cells F, G.a__law_names_right, F.kp, (F.bindsN fun _ _ _ _ _ _ us hl => match us, hl with | [], _ => rfl)⟩
abbrev N_law_works_right : List Str := ["got", "due", "low", "none", "one", "two", "less", "spring", "lag", "rub", "mass", "i", "j"]
theorem sc_law_works_right : FnScope N_law_works_right [] (defScope (top 81)) := ⟨rfl, rfl, rfl, by decide +kernel, rfl, by decide +kernel, by decide +kernel⟩
noncomputable def M_law_works_right : Fn' := fnM [none, none, none, none, none, none, none, none, none, none, none, none, none] (sSeq (sAs (mN oTup (mCons (mN oTup (mCons (mC (.int 0)) (mCons (mC (.int 1)) (mNil)))) (mCons (mN oTup (mCons (mC (.int 1)) (mCons (mC (.int 1)) (mNil)))) (mCons (mN oTup (mCons (mC (.int 2)) (mCons (mC (.int 1)) (mNil)))) (mCons (mN oTup (mCons (m1 oNeg (mC (.int 1))) (mCons (mC (.int 1)) (mNil)))) (mNil)))))) (gEnd (gTL 4 (gCn (gNm 3) (gCn (gNm 4) (gCn (gNm 5) (gCn (gNm 6) (gNl)))))))) (sSeq (sAs ((fun _ L => M_law_boxes [] L)) (gEnd (gTL 4 (gCn (gNm 7) (gCn (gNm 8) (gCn (gNm 9) (gCn (gNm 10) (gNl)))))))) (sSeq (sSet 0 (mN oLst (mCons (mCallT 3 M_work_of T_work_of (mCons (mV 7) (mCons (mN oTup (mCons (mV 3) (mNil))) (mCons (mN oTup (mCons (mV 4) (mCons (mV 4) (mNil)))) (mNil))))) (mCons (mCallT 3 M_work_of T_work_of (mCons (mV 7) (mCons (mN oTup (mCons (mV 4) (mNil))) (mCons (mN oTup (mCons (mV 6) (mNil))) (mNil))))) (mCons (mCallT 3 M_work_of T_work_of (mCons (mV 7) (mCons (mN oTup (mCons (mN oTup (mCons (mC (.int 1)) (mCons (mC (.int 2)) (mNil)))) (mNil))) (mCons (mN oTup (mCons (mV 4) (mCons (mV 6) (mCons (mN oTup (mCons (m1 oNeg (mC (.int 1))) (mCons (mC (.int 2)) (mNil)))) (mNil))))) (mNil))))) (mNil)))))) (sSeq (sSet 1 (mN oLst (mCons (mN oTup (mCons (mC (.int 4)) (mCons (mC (.int 1)) (mNil)))) (mCons (mN oTup (mCons (m1 oNeg (mC (.int 1))) (mCons (mC (.int 1)) (mNil)))) (mCons (mN oTup (mCons (m1 oNeg (mC (.int 1))) (mCons (mC (.int 4)) (mNil)))) (mNil)))))) (sSeq (sSet 0 (m2 oAdd (mV 0) (mN oLst (mCons (mCallT 3 M_work_sums T_work_sums (mCons (mV 8) (mCons (mN oTup (mCons (mV 3) (mNil))) (mCons (mN oTup (mCons (mV 4) (mCons (mV 6) (mCons (mV 3) (mNil))))) (mNil))))) (mCons (mCallT 3 M_work_sums T_work_sums (mCons (mV 8) (mCons (mN oTup (mCons (mN oTup (mCons (mC (.int 5)) (mCons (mC (.int 1)) (mNil)))) (mNil))) (mCons (mN oTup (mCons (mV 5) (mCons (mN oTup (mCons (mC (.int 1)) (mCons (mC (.int 3)) (mNil)))) (mNil)))) (mNil))))) (mCons (mCallT 3 M_work_of T_work_of (mCons (mV 9) (mCons (mN oTup (mNil)) (mCons (mN oTup (mCons (mV 4) (mCons (mV 5) (mNil)))) (mNil))))) (mCons (mCallT 3 M_work_sums T_work_sums (mCons (mV 9) (mCons (mN oTup (mNil)) (mCons (mN oTup (mNil)) (mNil))))) (mNil)))))))) (sSeq (sSet 1 (m2 oAdd (mV 1) (mN oLst (mCons (mN oTup (mCons (mN oTup (mCons (mC (.int 0)) (mCons (mC (.int 1)) (mNil)))) (mCons (mN oTup (mCons (m1 oNeg (mC (.int 1))) (mCons (mC (.int 1)) (mNil)))) (mCons (mN oTup (mCons (m1 oNeg (mC (.int 1))) (mCons (mC (.int 1)) (mNil)))) (mNil))))) (mCons (mN oTup (mCons (mN oTup (mCons (mC (.int 10)) (mCons (mC (.int 1)) (mNil)))) (mCons (mN oTup (mCons (mC (.int 32)) (mCons (mC (.int 3)) (mNil)))) (mNil)))) (mCons (mN oTup (mCons (mC (.int 5)) (mCons (mC (.int 2)) (mNil)))) (mCons (mN oTup (mNil)) (mNil)))))))) (sSeq (sSet 0 (m2 oAdd (mV 0) (mN oLst (mCons (mCallT 3 M_work_sums T_work_sums (mCons (mV 10) (mCons (mN oTup (mCons (mV 3) (mNil))) (mCons (mN oTup (mCons (mV 4) (mCons (mV 4) (mCons (mV 6) (mNil))))) (mNil))))) (mCons (mCallT 3 M_work_of T_work_of (mCons (mV 10) (mCons (mN oTup (mCons (mV 4) (mNil))) (mCons (mN oTup (mCons (mV 3) (mCons (mV 3) (mNil)))) (mNil))))) (mCons (mCallT 3 M_work_of T_work_of (mCons (mV 7) (mCons (mN oTup (mCons (mV 3) (mNil))) (mCons (mN oTup (mNil)) (mNil))))) (mNil))))))) (sSeq (sSet 1 (m2 oAdd (mV 1) (mN oLst (mCons (mN oTup (mCons (mN oTup (mCons (mC (.int 3)) (mCons (mC (.int 2)) (mNil)))) (mCons (mN oTup (mCons (mC (.int 1)) (mCons (mC (.int 1)) (mNil)))) (mCons (mN oTup (mCons (mC (.int 5)) (mCons (mC (.int 2)) (mNil)))) (mNil))))) (mCons (mN oTup (mCons (mC (.int 0)) (mCons (mC (.int 1)) (mNil)))) (mCons (mN oTup (mCons (mC (.int 0)) (mCons (mC (.int 1)) (mNil)))) (mNil))))))) (sSeq (sSet 0 (m2 oAdd (mV 0) (mN oLst (mCons (mCallT 1 M_even_table T_even_table (mCons (mN oTup (mCons (mV 4) (mCons (mN oTup (mCons (mC (.int 1)) (mCons (mC (.int 3)) (mNil)))) (mNil)))) (mNil))) (mCons (mCallT 1 M_even_table T_even_table (mCons (mN oTup (mCons (mV 3) (mNil))) (mNil))) (mCons (mCallT 2 M_work_by_table T_work_by_table (mCons (mN oTup (mCons (mV 4) (mCons (mV 5) (mCons (mV 5) (mNil))))) (mCons (mN oTup (mCons (mV 4) (mCons (mV 6) (mNil)))) (mNil)))) (mCons (mCallT 2 M_work_by_table T_work_by_table (mCons (mN oTup (mCons (mV 4) (mCons (mV 5) (mCons (mV 5) (mNil))))) (mCons (mN oTup (mCons (mV 4) (mCons (mV 4) (mCons (mV 4) (mNil))))) (mNil)))) (mNil)))))))) (sSeq (sSet 1 (m2 oAdd (mV 1) (mN oLst (mCons (mN oTup (mCons (mN oTup (mCons (mN oTup (mCons (mC (.int 2)) (mCons (mC (.int 1)) (mNil)))) (mCons (mN oTup (mCons (mC (.int 1)) (mCons (mC (.int 3)) (mNil)))) (mNil)))) (mCons (mN oTup (mCons (mN oTup (mCons (mC (.int 1)) (mCons (mC (.int 3)) (mNil)))) (mCons (mN oTup (mCons (mC (.int 2)) (mCons (mC (.int 1)) (mNil)))) (mNil)))) (mNil)))) (mCons (mN oTup (mCons (mN oTup (mCons (mN oTup (mCons (mC (.int 0)) (mCons (mC (.int 1)) (mNil)))) (mNil))) (mNil))) (mCons (mN oTup (mCons (mC (.int 0)) (mCons (mC (.int 1)) (mNil)))) (mCons (mN oTup (mCons (mC (.int 9)) (mCons (mC (.int 1)) (mNil)))) (mNil)))))))) (sSeq (sSet 0 (m2 oAdd (mV 0) (mN oLst (mCons (mCallT 2 M_work_by_table T_work_by_table (mCons (mN oTup (mCons (mV 6) (mNil))) (mCons (mN oTup (mCons (mN oTup (mCons (mC (.int 1)) (mCons (mC (.int 2)) (mNil)))) (mNil))) (mNil)))) (mCons (mCallT 2 M_work_by_table T_work_by_table (mCons (mN oTup (mCons (mV 6) (mNil))) (mCons (mN oTup (mNil)) (mNil)))) (mCons (mCallT 1 M_even_table T_even_table (mCons (mN oTup (mCons (mV 6) (mCons (mV 3) (mCons (mV 5) (mNil))))) (mNil))) (mCons (mCallT 1 M_even_table T_even_table (mCons (m2 oMul (mN oTup (mCons (mV 4) (mNil))) (mC (.int 12))) (mNil))) (mNil)))))))) (sSeq (sSet 2 (mN oTup (mCons (m1 oNeg (mC (.int 2))) (mCons (mC (.int 1)) (mNil))))) (sSeq (sSet 1 (m2 oAdd (mV 1) (mN oLst (mCons (mN oTup (mCons (m1 oNeg (mC (.int 1))) (mCons (mC (.int 4)) (mNil)))) (mCons (mN oTup (mCons (mC (.int 0)) (mCons (mC (.int 1)) (mNil)))) (mCons (mN oTup (mCons (mN oTup (mCons (mV 2) (mCons (mV 3) (mCons (mV 5) (mNil))))) (mCons (mN oTup (mCons (mV 3) (mCons (mV 2) (mCons (mV 3) (mNil))))) (mCons (mN oTup (mCons (mV 5) (mCons (mV 3) (mCons (mV 2) (mNil))))) (mNil))))) (mNil))))))) (sRet (mCall 2 M_law_same (mCons (mV 0) (mCons (m2 oAdd (mV 1) (mN oLst (mCons (mN oTuple (mCons (mLc (rng1 (mCons (mC (.int 12)) (mNil))) nfR (gNm 11) (mYes) (mN oTuple (mCons (mLc (rng1 (mCons (mC (.int 12)) (mNil))) nfR (gNm 12) (mYes) (mIf (m2 oEqL (mV 11) (mV 12)) (mV 5) (mV 4)) [12]) (mNil))) [11]) (mNil))) (mNil)))) (mNil))))))))))))))))))
theorem ev_law_works_right : isT (M_law_works_right [] L0) = true := by decide +kernel
theorem fo_law_works_right {P : Program} {w : World} {K : PySem.W.Frag} {mg : Str → Option Value} {base : Heap} (G : Gf K mg) (h_law_boxes : Kn P w K mg base (pm K) 1 "_law_boxes" 0 M_law_boxes) (h_law_same : Kn P w K mg base (pm K) 12 "_law_same" 2 M_law_same) (h_work_of : Kn P w K mg base (pm K) 11 "work_of" 3 M_work_of) (h_work_sums : Kn P w K mg base (pm K) 11 "work_sums" 3 M_work_sums) (h_even_table : Kn P w K mg base (pm K) 10 "even_table" 1 M_even_table) (h_work_by_table : Kn P w K mg base (pm K) 10 "work_by_table" 2 M_work_by_table) {fd : FuncData} (F : FunD K "_law_works_right" "_law_works_right" (defArgs (top 81)) (defBody (top 81)) (defScope (top 81)) [] [] (He.ga K "_law_works_right") fd) : FnOk P w K mg base (L2.CX P w) 13 (He.ga K "_law_works_right") fd [] (spM (pm K) 0 M_law_works_right) := by
  refine fn_ok (k := 12) (N := N_law_works_right) (tl := [none, none, none, none, none, none, none, none, none, none, none, none, none]) (b := sSeq (sAs (mN oTup (mCons (mN oTup (mCons (mC (.int 0)) (mCons (mC (.int 1)) (mNil)))) (mCons (mN oTup (mCons (mC (.int 1)) (mCons (mC (.int 1)) (mNil)))) (mCons (mN oTup (mCons (mC (.int 2)) (mCons (mC (.int 1)) (mNil)))) (mCons (mN oTup (mCons (m1 oNeg (mC (.int 1))) (mCons (mC (.int 1)) (mNil)))) (mNil)))))) (gEnd (gTL 4 (gCn (gNm 3) (gCn (gNm 4) (gCn (gNm 5) (gCn (gNm 6) (gNl)))))))) (sSeq (sAs ((fun _ L => M_law_boxes [] L)) (gEnd (gTL 4 (gCn (gNm 7) (gCn (gNm 8) (gCn (gNm 9) (gCn (gNm 10) (gNl)))))))) (sSeq (sSet 0 (mN oLst (mCons (mCallT 3 M_work_of T_work_of (mCons (mV 7) (mCons (mN oTup (mCons (mV 3) (mNil))) (mCons (mN oTup (mCons (mV 4) (mCons (mV 4) (mNil)))) (mNil))))) (mCons (mCallT 3 M_work_of T_work_of (mCons (mV 7) (mCons (mN oTup (mCons (mV 4) (mNil))) (mCons (mN oTup (mCons (mV 6) (mNil))) (mNil))))) (mCons (mCallT 3 M_work_of T_work_of (mCons (mV 7) (mCons (mN oTup (mCons (mN oTup (mCons (mC (.int 1)) (mCons (mC (.int 2)) (mNil)))) (mNil))) (mCons (mN oTup (mCons (mV 4) (mCons (mV 6) (mCons (mN oTup (mCons (m1 oNeg (mC (.int 1))) (mCons (mC (.int 2)) (mNil)))) (mNil))))) (mNil))))) (mNil)))))) (sSeq (sSet 1 (mN oLst (mCons (mN oTup (mCons (mC (.int 4)) (mCons (mC (.int 1)) (mNil)))) (mCons (mN oTup (mCons (m1 oNeg (mC (.int 1))) (mCons (mC (.int 1)) (mNil)))) (mCons (mN oTup (mCons (m1 oNeg (mC (.int 1))) (mCons (mC (.int 4)) (mNil)))) (mNil)))))) (sSeq (sSet 0 (m2 oAdd (mV 0) (mN oLst (mCons (mCallT 3 M_work_sums T_work_sums (mCons (mV 8) (mCons (mN oTup (mCons (mV 3) (mNil))) (mCons (mN oTup (mCons (mV 4) (mCons (mV 6) (mCons (mV 3) (mNil))))) (mNil))))) (mCons (mCallT 3 M_work_sums T_work_sums (mCons (mV 8) (mCons (mN oTup (mCons (mN oTup (mCons (mC (.int 5)) (mCons (mC (.int 1)) (mNil)))) (mNil))) (mCons (mN oTup (mCons (mV 5) (mCons (mN oTup (mCons (mC (.int 1)) (mCons (mC (.int 3)) (mNil)))) (mNil)))) (mNil))))) (mCons (mCallT 3 M_work_of T_work_of (mCons (mV 9) (mCons (mN oTup (mNil)) (mCons (mN oTup (mCons (mV 4) (mCons (mV 5) (mNil)))) (mNil))))) (mCons (mCallT 3 M_work_sums T_work_sums (mCons (mV 9) (mCons (mN oTup (mNil)) (mCons (mN oTup (mNil)) (mNil))))) (mNil)))))))) (sSeq (sSet 1 (m2 oAdd (mV 1) (mN oLst (mCons (mN oTup (mCons (mN oTup (mCons (mC (.int 0)) (mCons (mC (.int 1)) (mNil)))) (mCons (mN oTup (mCons (m1 oNeg (mC (.int 1))) (mCons (mC (.int 1)) (mNil)))) (mCons (mN oTup (mCons (m1 oNeg (mC (.int 1))) (mCons (mC (.int 1)) (mNil)))) (mNil))))) (mCons (mN oTup (mCons (mN oTup (mCons (mC (.int 10)) (mCons (mC (.int 1)) (mNil)))) (mCons (mN oTup (mCons (mC (.int 32)) (mCons (mC (.int 3)) (mNil)))) (mNil)))) (mCons (mN oTup (mCons (mC (.int 5)) (mCons (mC (.int 2)) (mNil)))) (mCons (mN oTup (mNil)) (mNil)))))))) (sSeq (sSet 0 (m2 oAdd (mV 0) (mN oLst (mCons (mCallT 3 M_work_sums T_work_sums (mCons (mV 10) (mCons (mN oTup (mCons (mV 3) (mNil))) (mCons (mN oTup (mCons (mV 4) (mCons (mV 4) (mCons (mV 6) (mNil))))) (mNil))))) (mCons (mCallT 3 M_work_of T_work_of (mCons (mV 10) (mCons (mN oTup (mCons (mV 4) (mNil))) (mCons (mN oTup (mCons (mV 3) (mCons (mV 3) (mNil)))) (mNil))))) (mCons (mCallT 3 M_work_of T_work_of (mCons (mV 7) (mCons (mN oTup (mCons (mV 3) (mNil))) (mCons (mN oTup (mNil)) (mNil))))) (mNil))))))) (sSeq (sSet 1 (m2 oAdd (mV 1) (mN oLst (mCons (mN oTup (mCons (mN oTup (mCons (mC (.int 3)) (mCons (mC (.int 2)) (mNil)))) (mCons (mN oTup (mCons (mC (.int 1)) (mCons (mC (.int 1)) (mNil)))) (mCons (mN oTup (mCons (mC (.int 5)) (mCons (mC (.int 2)) (mNil)))) (mNil))))) (mCons (mN oTup (mCons (mC (.int 0)) (mCons (mC (.int 1)) (mNil)))) (mCons (mN oTup (mCons (mC (.int 0)) (mCons (mC (.int 1)) (mNil)))) (mNil))))))) (sSeq (sSet 0 (m2 oAdd (mV 0) (mN oLst (mCons (mCallT 1 M_even_table T_even_table (mCons (mN oTup (mCons (mV 4) (mCons (mN oTup (mCons (mC (.int 1)) (mCons (mC (.int 3)) (mNil)))) (mNil)))) (mNil))) (mCons (mCallT 1 M_even_table T_even_table (mCons (mN oTup (mCons (mV 3) (mNil))) (mNil))) (mCons (mCallT 2 M_work_by_table T_work_by_table (mCons (mN oTup (mCons (mV 4) (mCons (mV 5) (mCons (mV 5) (mNil))))) (mCons (mN oTup (mCons (mV 4) (mCons (mV 6) (mNil)))) (mNil)))) (mCons (mCallT 2 M_work_by_table T_work_by_table (mCons (mN oTup (mCons (mV 4) (mCons (mV 5) (mCons (mV 5) (mNil))))) (mCons (mN oTup (mCons (mV 4) (mCons (mV 4) (mCons (mV 4) (mNil))))) (mNil)))) (mNil)))))))) (sSeq (sSet 1 (m2 oAdd (mV 1) (mN oLst (mCons (mN oTup (mCons (mN oTup (mCons (mN oTup (mCons (mC (.int 2)) (mCons (mC (.int 1)) (mNil)))) (mCons (mN oTup (mCons (mC (.int 1)) (mCons (mC (.int 3)) (mNil)))) (mNil)))) (mCons (mN oTup (mCons (mN oTup (mCons (mC (.int 1)) (mCons (mC (.int 3)) (mNil)))) (mCons (mN oTup (mCons (mC (.int 2)) (mCons (mC (.int 1)) (mNil)))) (mNil)))) (mNil)))) (mCons (mN oTup (mCons (mN oTup (mCons (mN oTup (mCons (mC (.int 0)) (mCons (mC (.int 1)) (mNil)))) (mNil))) (mNil))) (mCons (mN oTup (mCons (mC (.int 0)) (mCons (mC (.int 1)) (mNil)))) (mCons (mN oTup (mCons (mC (.int 9)) (mCons (mC (.int 1)) (mNil)))) (mNil)))))))) (sSeq (sSet 0 (m2 oAdd (mV 0) (mN oLst (mCons (mCallT 2 M_work_by_table T_work_by_table (mCons (mN oTup (mCons (mV 6) (mNil))) (mCons (mN oTup (mCons (mN oTup (mCons (mC (.int 1)) (mCons (mC (.int 2)) (mNil)))) (mNil))) (mNil)))) (mCons (mCallT 2 M_work_by_table T_work_by_table (mCons (mN oTup (mCons (mV 6) (mNil))) (mCons (mN oTup (mNil)) (mNil)))) (mCons (mCallT 1 M_even_table T_even_table (mCons (mN oTup (mCons (mV 6) (mCons (mV 3) (mCons (mV 5) (mNil))))) (mNil))) (mCons (mCallT 1 M_even_table T_even_table (mCons (m2 oMul (mN oTup (mCons (mV 4) (mNil))) (mC (.int 12))) (mNil))) (mNil)))))))) (sSeq (sSet 2 (mN oTup (mCons (m1 oNeg (mC (.int 2))) (mCons (mC (.int 1)) (mNil))))) (sSeq (sSet 1 (m2 oAdd (mV 1) (mN oLst (mCons (mN oTup (mCons (m1 oNeg (mC (.int 1))) (mCons (mC (.int 4)) (mNil)))) (mCons (mN oTup (mCons (mC (.int 0)) (mCons (mC (.int 1)) (mNil)))) (mCons (mN oTup (mCons (mN oTup (mCons (mV 2) (mCons (mV 3) (mCons (mV 5) (mNil))))) (mCons (mN oTup (mCons (mV 3) (mCons (mV 2) (mCons (mV 3) (mNil))))) (mCons (mN oTup (mCons (mV 5) (mCons (mV 3) (mCons (mV 2) (mNil))))) (mNil))))) (mNil))))))) (sRet (mCall 2 M_law_same (mCons (mV 0) (mCons (m2 oAdd (mV 1) (mN oLst (mCons (mN oTuple (mCons (mLc (rng1 (mCons (mC (.int 12)) (mNil))) nfR (gNm 11) (mYes) (mN oTuple (mCons (mLc (rng1 (mCons (mC (.int 12)) (mNil))) nfR (gNm 12) (mYes) (mIf (m2 oEqL (mV 11) (mV 12)) (mV 5) (mV 4)) [12]) (mNil))) [11]) (mNil))) (mNil)))) (mNil)))))))))))))))))) F sc_law_works_right rfl rfl (fun cdv A outer s H E hr => ?_)
  have nd : N_law_works_right.Nodup := sc_law_works_right.nd
  have tk : Takes (cxOf (L2.CX P w) P w K mg base N_law_works_right "_law_works_right" (defScope (top 81)) (He.ga K "_law_works_right") cdv A outer s H E) (fun cls d _ H' => E cls d H') := takes_of rfl rfl rfl rfl
  have po : PassesOwn (model P w) (cxOf (L2.CX P w) P w K mg base N_law_works_right "_law_works_right" (defScope (top 81)) (He.ga K "_law_works_right") cdv A outer s H E).A (cxOf (L2.CX P w) P w K mg base N_law_works_right "_law_works_right" (defScope (top 81)) (He.ga K "_law_works_right") cdv A outer s H E).env (cxOf (L2.CX P w) P w K mg base N_law_works_right "_law_works_right" (defScope (top 81)) (He.ga K "_law_works_right") cdv A outer s H E).xe := passes_of (X := cxOf (L2.CX P w) P w K mg base N_law_works_right "_law_works_right" (defScope (top 81)) (He.ga K "_law_works_right") cdv A outer s H E) rfl
  exact (es_cons (es_asg (ee_tup (ea_cons (ee_tup (ea_cons ee_int (ea_cons ee_int ea_nil))) (ea_cons (ee_tup (ea_cons ee_int (ea_cons ee_int ea_nil))) (ea_cons (ee_tup (ea_cons ee_int (ea_cons ee_int ea_nil))) (ea_cons (ee_tup (ea_cons (b_neg ee_int) (ea_cons ee_int ea_nil))) ea_nil))))) (eg_tl rfl rfl (egs_cons (eg_name (g_name nd)) (egs_cons (eg_name (g_name nd)) (egs_cons (eg_name (g_name nd)) (egs_cons (eg_name (g_name nd)) egs_nil))))))
    (es_cons (es_asg (ee_call0 h_law_boxes hr (by decide) tk) (eg_tl rfl rfl (egs_cons (eg_name (g_name nd)) (egs_cons (eg_name (g_name nd)) (egs_cons (eg_name (g_name nd)) (egs_cons (eg_name (g_name nd)) egs_nil))))))
    (es_cons (s_set nd (ee_lst (ea_cons (ee_callT kt_work_of h_work_of hr (by decide) tk (ea_cons (ee_var 7 (pv 7)) (ea_cons (ee_tup (ea_cons (ee_var 3 (pv 3)) ea_nil)) (ea_cons (ee_tup (ea_cons (ee_var 4 (pv 4)) (ea_cons (ee_var 4 (pv 4)) ea_nil))) ea_nil)))) (ea_cons (ee_callT kt_work_of h_work_of hr (by decide) tk (ea_cons (ee_var 7 (pv 7)) (ea_cons (ee_tup (ea_cons (ee_var 4 (pv 4)) ea_nil)) (ea_cons (ee_tup (ea_cons (ee_var 6 (pv 6)) ea_nil)) ea_nil)))) (ea_cons (ee_callT kt_work_of h_work_of hr (by decide) tk (ea_cons (ee_var 7 (pv 7)) (ea_cons (ee_tup (ea_cons (ee_tup (ea_cons ee_int (ea_cons ee_int ea_nil))) ea_nil)) (ea_cons (ee_tup (ea_cons (ee_var 4 (pv 4)) (ea_cons (ee_var 6 (pv 6)) (ea_cons (ee_tup (ea_cons (b_neg ee_int) (ea_cons ee_int ea_nil))) ea_nil)))) ea_nil)))) ea_nil)))))
    (es_cons (s_set nd (ee_lst (ea_cons (ee_tup (ea_cons ee_int (ea_cons ee_int ea_nil))) (ea_cons (ee_tup (ea_cons (b_neg ee_int) (ea_cons ee_int ea_nil))) (ea_cons (ee_tup (ea_cons (b_neg ee_int) (ea_cons ee_int ea_nil))) ea_nil)))))
    (es_cons (s_set nd (b_add rfl (ee_var 0 (pv 0)) (ee_lst (ea_cons (ee_callT kt_work_sums h_work_sums hr (by decide) tk (ea_cons (ee_var 8 (pv 8)) (ea_cons (ee_tup (ea_cons (ee_var 3 (pv 3)) ea_nil)) (ea_cons (ee_tup (ea_cons (ee_var 4 (pv 4)) (ea_cons (ee_var 6 (pv 6)) (ea_cons (ee_var 3 (pv 3)) ea_nil)))) ea_nil)))) (ea_cons (ee_callT kt_work_sums h_work_sums hr (by decide) tk (ea_cons (ee_var 8 (pv 8)) (ea_cons (ee_tup (ea_cons (ee_tup (ea_cons ee_int (ea_cons ee_int ea_nil))) ea_nil)) (ea_cons (ee_tup (ea_cons (ee_var 5 (pv 5)) (ea_cons (ee_tup (ea_cons ee_int (ea_cons ee_int ea_nil))) ea_nil))) ea_nil)))) (ea_cons (ee_callT kt_work_of h_work_of hr (by decide) tk (ea_cons (ee_var 9 (pv 9)) (ea_cons (ee_tup ea_nil) (ea_cons (ee_tup (ea_cons (ee_var 4 (pv 4)) (ea_cons (ee_var 5 (pv 5)) ea_nil))) ea_nil)))) (ea_cons (ee_callT kt_work_sums h_work_sums hr (by decide) tk (ea_cons (ee_var 9 (pv 9)) (ea_cons (ee_tup ea_nil) (ea_cons (ee_tup ea_nil) ea_nil)))) ea_nil)))))))
    (es_cons (s_set nd (b_add rfl (ee_var 1 (pv 1)) (ee_lst (ea_cons (ee_tup (ea_cons (ee_tup (ea_cons ee_int (ea_cons ee_int ea_nil))) (ea_cons (ee_tup (ea_cons (b_neg ee_int) (ea_cons ee_int ea_nil))) (ea_cons (ee_tup (ea_cons (b_neg ee_int) (ea_cons ee_int ea_nil))) ea_nil)))) (ea_cons (ee_tup (ea_cons (ee_tup (ea_cons ee_int (ea_cons ee_int ea_nil))) (ea_cons (ee_tup (ea_cons ee_int (ea_cons ee_int ea_nil))) ea_nil))) (ea_cons (ee_tup (ea_cons ee_int (ea_cons ee_int ea_nil))) (ea_cons (ee_tup ea_nil) ea_nil)))))))
    (es_cons (s_set nd (b_add rfl (ee_var 0 (pv 0)) (ee_lst (ea_cons (ee_callT kt_work_sums h_work_sums hr (by decide) tk (ea_cons (ee_var 10 (pv 10)) (ea_cons (ee_tup (ea_cons (ee_var 3 (pv 3)) ea_nil)) (ea_cons (ee_tup (ea_cons (ee_var 4 (pv 4)) (ea_cons (ee_var 4 (pv 4)) (ea_cons (ee_var 6 (pv 6)) ea_nil)))) ea_nil)))) (ea_cons (ee_callT kt_work_of h_work_of hr (by decide) tk (ea_cons (ee_var 10 (pv 10)) (ea_cons (ee_tup (ea_cons (ee_var 4 (pv 4)) ea_nil)) (ea_cons (ee_tup (ea_cons (ee_var 3 (pv 3)) (ea_cons (ee_var 3 (pv 3)) ea_nil))) ea_nil)))) (ea_cons (ee_callT kt_work_of h_work_of hr (by decide) tk (ea_cons (ee_var 7 (pv 7)) (ea_cons (ee_tup (ea_cons (ee_var 3 (pv 3)) ea_nil)) (ea_cons (ee_tup ea_nil) ea_nil)))) ea_nil))))))
    (es_cons (s_set nd (b_add rfl (ee_var 1 (pv 1)) (ee_lst (ea_cons (ee_tup (ea_cons (ee_tup (ea_cons ee_int (ea_cons ee_int ea_nil))) (ea_cons (ee_tup (ea_cons ee_int (ea_cons ee_int ea_nil))) (ea_cons (ee_tup (ea_cons ee_int (ea_cons ee_int ea_nil))) ea_nil)))) (ea_cons (ee_tup (ea_cons ee_int (ea_cons ee_int ea_nil))) (ea_cons (ee_tup (ea_cons ee_int (ea_cons ee_int ea_nil))) ea_nil))))))
    (es_cons (s_set nd (b_add rfl (ee_var 0 (pv 0)) (ee_lst (ea_cons (ee_callT kt_even_table h_even_table hr (by decide) tk (ea_cons (ee_tup (ea_cons (ee_var 4 (pv 4)) (ea_cons (ee_tup (ea_cons ee_int (ea_cons ee_int ea_nil))) ea_nil))) ea_nil)) (ea_cons (ee_callT kt_even_table h_even_table hr (by decide) tk (ea_cons (ee_tup (ea_cons (ee_var 3 (pv 3)) ea_nil)) ea_nil)) (ea_cons (ee_callT kt_work_by_table h_work_by_table hr (by decide) tk (ea_cons (ee_tup (ea_cons (ee_var 4 (pv 4)) (ea_cons (ee_var 5 (pv 5)) (ea_cons (ee_var 5 (pv 5)) ea_nil)))) (ea_cons (ee_tup (ea_cons (ee_var 4 (pv 4)) (ea_cons (ee_var 6 (pv 6)) ea_nil))) ea_nil))) (ea_cons (ee_callT kt_work_by_table h_work_by_table hr (by decide) tk (ea_cons (ee_tup (ea_cons (ee_var 4 (pv 4)) (ea_cons (ee_var 5 (pv 5)) (ea_cons (ee_var 5 (pv 5)) ea_nil)))) (ea_cons (ee_tup (ea_cons (ee_var 4 (pv 4)) (ea_cons (ee_var 4 (pv 4)) (ea_cons (ee_var 4 (pv 4)) ea_nil)))) ea_nil))) ea_nil)))))))
    (es_cons (s_set nd (b_add rfl (ee_var 1 (pv 1)) (ee_lst (ea_cons (ee_tup (ea_cons (ee_tup (ea_cons (ee_tup (ea_cons ee_int (ea_cons ee_int ea_nil))) (ea_cons (ee_tup (ea_cons ee_int (ea_cons ee_int ea_nil))) ea_nil))) (ea_cons (ee_tup (ea_cons (ee_tup (ea_cons ee_int (ea_cons ee_int ea_nil))) (ea_cons (ee_tup (ea_cons ee_int (ea_cons ee_int ea_nil))) ea_nil))) ea_nil))) (ea_cons (ee_tup (ea_cons (ee_tup (ea_cons (ee_tup (ea_cons ee_int (ea_cons ee_int ea_nil))) ea_nil)) ea_nil)) (ea_cons (ee_tup (ea_cons ee_int (ea_cons ee_int ea_nil))) (ea_cons (ee_tup (ea_cons ee_int (ea_cons ee_int ea_nil))) ea_nil)))))))
    (es_cons (s_set nd (b_add rfl (ee_var 0 (pv 0)) (ee_lst (ea_cons (ee_callT kt_work_by_table h_work_by_table hr (by decide) tk (ea_cons (ee_tup (ea_cons (ee_var 6 (pv 6)) ea_nil)) (ea_cons (ee_tup (ea_cons (ee_tup (ea_cons ee_int (ea_cons ee_int ea_nil))) ea_nil)) ea_nil))) (ea_cons (ee_callT kt_work_by_table h_work_by_table hr (by decide) tk (ea_cons (ee_tup (ea_cons (ee_var 6 (pv 6)) ea_nil)) (ea_cons (ee_tup ea_nil) ea_nil))) (ea_cons (ee_callT kt_even_table h_even_table hr (by decide) tk (ea_cons (ee_tup (ea_cons (ee_var 6 (pv 6)) (ea_cons (ee_var 3 (pv 3)) (ea_cons (ee_var 5 (pv 5)) ea_nil)))) ea_nil)) (ea_cons (ee_callT kt_even_table h_even_table hr (by decide) tk (ea_cons (b_mul rfl (ee_tup (ea_cons (ee_var 4 (pv 4)) ea_nil)) ee_int) ea_nil)) ea_nil)))))))
    (es_cons (s_set nd (ee_tup (ea_cons (b_neg ee_int) (ea_cons ee_int ea_nil))))
    (es_cons (s_set nd (b_add rfl (ee_var 1 (pv 1)) (ee_lst (ea_cons (ee_tup (ea_cons (b_neg ee_int) (ea_cons ee_int ea_nil))) (ea_cons (ee_tup (ea_cons ee_int (ea_cons ee_int ea_nil))) (ea_cons (ee_tup (ea_cons (ee_tup (ea_cons (ee_var 2 (pv 2)) (ea_cons (ee_var 3 (pv 3)) (ea_cons (ee_var 5 (pv 5)) ea_nil)))) (ea_cons (ee_tup (ea_cons (ee_var 3 (pv 3)) (ea_cons (ee_var 2 (pv 2)) (ea_cons (ee_var 3 (pv 3)) ea_nil)))) (ea_cons (ee_tup (ea_cons (ee_var 5 (pv 5)) (ea_cons (ee_var 3 (pv 3)) (ea_cons (ee_var 2 (pv 2)) ea_nil)))) ea_nil)))) ea_nil))))))
    (es_one (es_ret (ee_call h_law_same hr (by decide) tk (ea_cons (ee_var 0 (pv 0)) (ea_cons (b_add rfl (ee_var 1 (pv 1)) (ee_lst (ea_cons (f_tuple rfl G.b_tuple (ea_cons (ee_lc rfl nd (own := [("i", 11)]) (ei_rng1 G.b_range (ea_cons ee_int ea_nil)) (blkOk_by (N := N_law_works_right) (sc := defScope (top 81)) (by decide +kernel)) (fun _ _ _ _ _ => (ct_name (g_name nd) (by decide))) (fun _ _ _ _ _ => ets_nil) (fun _ _ _ _ _ => (f_tuple rfl G.b_tuple (ea_cons (ee_lc rfl nd (own := [("j", 12)]) (ei_rng1 G.b_range (ea_cons ee_int ea_nil)) (blkOk_by (by kernel_rfl)) (fun _ _ _ _ _ => (ct_name (g_name nd) (by decide))) (fun _ _ _ _ _ => ets_nil) (fun _ _ _ _ _ => (ee_if (t_eqL rfl hr.units (ee_var 11 (pv 11)) (ee_var 12 (pv 12))) (ee_var 5 (pv 5)) (ee_var 4 (pv 4))))) ea_nil)))) ea_nil)) ea_nil))) ea_nil))))))))))))))))))
theorem ok_law_works_right {P : Program} {w : World} {K : PySem.W.Frag} {mg : Str → Option Value} {base : Heap} (G : Gf K mg) (h_law_boxes : Kn P w K mg base (pm K) 1 "_law_boxes" 0 M_law_boxes) (h_law_same : Kn P w K mg base (pm K) 12 "_law_same" 2 M_law_same) (h_work_of : Kn P w K mg base (pm K) 11 "work_of" 3 M_work_of) (h_work_sums : Kn P w K mg base (pm K) 11 "work_sums" 3 M_work_sums) (h_even_table : Kn P w K mg base (pm K) 10 "even_table" 1 M_even_table) (h_work_by_table : Kn P w K mg base (pm K) 10 "work_by_table" 2 M_work_by_table) : Kn P w K mg base (pm K) 13 "_law_works_right" 0 M_law_works_right := by
  obtain ⟨fd, F⟩ := G.d__law_works_right
  exact ⟨_, fd, _, fo_law_works_right G h_law_boxes h_law_same h_work_of h_work_sums h_even_table h_work_by_table  F, G.a__law_works_right, F.kp, (F.bindsN fun _ _ _ _ _ _ us hl => match us, hl with | [], _ => rfl)⟩
abbrev N_law_gifts_right : List Str := ["got", "due", "push", "things", "none", "one", "two", "less", "spring", "lag", "rub", "mass", "k", "own"]
theorem sc_law_gifts_right : FnScope N_law_gifts_right [] (defScope (top 82)) := ⟨rfl, rfl, rfl, by decide +kernel, rfl, by decide +kernel, by decide +kernel⟩
noncomputable def M_law_gifts_right : Fn' := fnM [none, none, none, none, none, none, none, none, none, none, none, none, none, none] (sSeq (sAs (mN oTup (mCons (mN oTup (mCons (mC (.int 0)) (mCons (mC (.int 1)) (mNil)))) (mCons (mN oTup (mCons (mC (.int 1)) (mCons (mC (.int 1)) (mNil)))) (mCons (mN oTup (mCons (mC (.int 2)) (mCons (mC (.int 1)) (mNil)))) (mCons (mN oTup (mCons (m1 oNeg (mC (.int 1))) (mCons (mC (.int 1)) (mNil)))) (mNil)))))) (gEnd (gTL 4 (gCn (gNm 4) (gCn (gNm 5) (gCn (gNm 6) (gCn (gNm 7) (gNl)))))))) (sSeq (sAs ((fun _ L => M_law_boxes [] L)) (gEnd (gTL 4 (gCn (gNm 8) (gCn (gNm 9) (gCn (gNm 10) (gCn (gNm 11) (gNl)))))))) (sSeq (sSet 0 (mN oLst (mCons (mLc (onlyA (mN oTup (mCons (mC (.int 0)) (mCons (mC (.int 1)) (mCons (mC (.int 2)) (mCons (mC (.int 3)) (mNil))))))) nfA (gNm 12) (mYes) (mCallT 2 M_gives_within T_gives_within (mCons (mV 9) (mCons (mV 12) (mNil)))) [12]) (mCons (mCallT 2 M_gives_within T_gives_within (mCons (mV 8) (mCons (mC (.int 9)) (mNil)))) (mCons (mCallT 2 M_first_gift T_first_gift (mCons (mV 9) (mCons (mC (.int 5)) (mNil)))) (mCons (mCallT 2 M_first_gift T_first_gift (mCons (mV 9) (mCons (mC (.int 1)) (mNil)))) (mCons (mCallT 2 M_first_gift T_first_gift (mCons (mV 8) (mCons (mC (.int 9)) (mNil)))) (mCons (mCallT 2 M_first_gift T_first_gift (mCons (mV 9) (mCons (mC (.int 0)) (mNil)))) (mNil))))))))) (sSeq (sSet 0 (m2 oAdd (mV 0) (mN oLst (mCons (mCallT 2 M_first_gift T_first_gift (mCons (mV 9) (mCons (mC (.int 2)) (mNil)))) (mCons (mCallT 2 M_first_gift T_first_gift (mCons (mV 9) (mCons (mC (.int 12)) (mNil)))) (mNil)))))) (sSeq (sSet 1 (mN oLst (mCons (mN oLst (mCons (mC (.bl false)) (mCons (mC (.bl false)) (mCons (mC (.bl true)) (mCons (mC (.bl true)) (mNil)))))) (mCons (mC (.bl false)) (mCons (mC (.int 2)) (mCons (mC .non) (mCons (mC .non) (mCons (mC .non) (mCons (mC (.int 2)) (mCons (mC (.int 2)) (mNil))))))))))) (sSeq (sSet 2 (mN oTup (mCons (mN oTup (mCons (mV 7) (mNil))) (mCons (mN oTup (mCons (mV 5) (mNil))) (mNil))))) (sSeq (sSet 0 (m2 oAdd (mV 0) (mN oLst (mCons (mCallT 2 M_first_gift T_first_gift (mCons (mV 2) (mCons (mC (.int 3)) (mNil)))) (mCons (mCallT 2 M_gives_within T_gives_within (mCons (mV 2) (mCons (mC (.int 1)) (mNil)))) (mCons (mCallT 2 M_first_gift T_first_gift (mCons (mV 11) (mCons (mC (.int 12)) (mNil)))) (mCons (mCallT 2 M_first_gift T_first_gift (mCons (mN oTup (mCons (mN oTup (mCons (mN oTup (mCons (mC (.int 1)) (mCons (mC (.int 1)) (mNil)))) (mCons (mN oTup (mCons (mC (.int 3)) (mCons (mC (.int 2)) (mNil)))) (mNil)))) (mCons (mN oTup (mCons (mV 5) (mCons (mV 4) (mNil)))) (mNil)))) (mCons (mC (.int 9)) (mNil)))) (mNil)))))))) (sSeq (sSet 1 (m2 oAdd (mV 1) (mN oLst (mCons (mC (.int 1)) (mCons (mC (.bl true)) (mCons (mC .non) (mCons (mC (.int 3)) (mNil)))))))) (sSeq (sSet 0 (m2 oAdd (mV 0) (mN oLst (mCons (mCallT 2 M_is_giving_row T_is_giving_row (mCons (mV 9) (mCons (mCallT 2 M_giving_row T_giving_row (mCons (mV 9) (mCons (mC (.int 2)) (mNil)))) (mNil)))) (mCons (mCallT 2 M_is_giving_row T_is_giving_row (mCons (mV 9) (mCons (mCallT 2 M_giving_row T_giving_row (mCons (mV 9) (mCons (mC (.int 12)) (mNil)))) (mNil)))) (mCons (mCallT 2 M_is_giving_row T_is_giving_row (mCons (mV 2) (mCons (mCallT 2 M_giving_row T_giving_row (mCons (mV 2) (mCons (mC (.int 1)) (mNil)))) (mNil)))) (mNil))))))) (sSeq (sSet 1 (m2 oAdd (mV 1) (mN oLst (mCons (mC (.bl true)) (mCons (mC (.bl true)) (mCons (mC (.bl true)) (mNil))))))) (sSeq (sSet 3 (mN oLst (mCons (mN oTup (mCons (mV 5) (mCons (mV 7) (mNil)))) (mCons (mN oTup (mCons (mV 5) (mCons (mV 5) (mNil)))) (mCons (mN oTup (mNil)) (mCons (mN oTup (mCons (mV 5) (mCons (mN oLst (mCons (m1 oNeg (mC (.int 1))) (mCons (mC (.int 1)) (mNil)))) (mNil)))) (mCons (mN oTup (mCons (mV 7) (mCons (mV 5) (mNil)))) (mCons (mN oTup (mCons (mV 5) (mCons (mV 4) (mCons (mV 7) (mNil))))) (mCons (mN oLst (mCons (mV 5) (mCons (mV 7) (mNil)))) (mCons (mN oTup (mCons (mN oTup (mCons (mC (.int 2)) (mCons (mC (.int 2)) (mNil)))) (mCons (mV 7) (mNil)))) (mCons (mC .non) (mCons (mN oTup (mCons (mN oTup (mCons (m1 oNeg (mC (.int 1))) (mCons (m1 oNeg (mC (.int 1))) (mNil)))) (mCons (mV 7) (mNil)))) (mCons (mN oTup (mCons (mC (.int 1)) (mCons (m1 oNeg (mC (.int 1))) (mNil)))) (mNil)))))))))))))) (sSeq (sSet 0 (m2 oAdd (mV 0) (mN oLst (mCons (mLc (onlyA (mV 3)) nfA (gNm 13) (mYes) (mCallT 2 M_is_giving_row T_is_giving_row (mCons (mV 9) (mCons (mV 13) (mNil)))) [13]) (mCons (mCallT 2 M_is_giving_row T_is_giving_row (mCons (mV 9) (mCons (m2 oAdd (m2 oMul (mN oTup (mCons (mV 4) (mNil))) (mC (.int 40))) (mN oTup (mCons (mV 5) (mCons (mV 7) (mNil))))) (mNil)))) (mCons (mCallT 2 M_is_giving_row T_is_giving_row (mCons (mV 2) (mCons (mN oTup (mCons (mN oTup (mCons (mC (.int 1)) (mCons (mC (.int 9)) (mNil)))) (mNil))) (mNil)))) (mNil))))))) (sSeq (sSet 1 (m2 oAdd (mV 1) (mN oLst (mCons (mN oLst (mCons (mC (.bl true)) (mCons (mC (.bl false)) (mCons (mC (.bl false)) (mCons (mC (.bl false)) (mCons (mC (.bl true)) (mCons (mC (.bl false)) (mCons (mC (.bl false)) (mCons (mC (.bl false)) (mCons (mC (.bl false)) (mCons (mC (.bl false)) (mCons (mC (.bl false)) (mNil))))))))))))) (mCons (mC (.bl true)) (mCons (mC (.bl true)) (mNil))))))) (sSeq (sSet 0 (m2 oAdd (mV 0) (mN oLst (mCons (mCallT 2 M_gives_within T_gives_within (mCons (mV 2) (mCons (mC (.int 0)) (mNil)))) (mCons (mCallT 2 M_first_gift T_first_gift (mCons (mV 2) (mCons (mC (.int 0)) (mNil)))) (mCons (m2 oEqL (mN oLen (mCons (mCall 1 M_law_lists (mCons (mCallT 2 M_giving_row T_giving_row (mCons (mV 2) (mCons (mC (.int 1)) (mNil)))) (mNil))) (mNil))) (mC (.int 1))) (mCons (m2 oEqL (mN oLen (mCons (mCall 1 M_law_lists (mCons (mCallT 2 M_giving_row T_giving_row (mCons (mV 9) (mCons (mC (.int 2)) (mNil)))) (mNil))) (mNil))) (mC (.int 2))) (mNil)))))))) (sSeq (sSet 1 (m2 oAdd (mV 1) (mN oLst (mCons (mC (.bl false)) (mCons (mC .non) (mCons (mC (.bl true)) (mCons (mC (.bl true)) (mNil)))))))) (sSeq (sSet 0 (m2 oAdd (mV 0) (mN oLst (mCons (mCallT 2 M_gives_within T_gives_within (mCons (mV 9) (mCons (mC (.int 12)) (mNil)))) (mCons (mCallT 2 M_gives_within T_gives_within (mCons (mV 11) (mCons (mC (.int 12)) (mNil)))) (mCons (mCallT 2 M_is_giving_row T_is_giving_row (mCons (mV 8) (mCons (mN oTup (mCons (mV 5) (mCons (mV 7) (mNil)))) (mNil)))) (mCons (mCallT 2 M_is_giving_row T_is_giving_row (mCons (mV 11) (mCons (mN oTup (mCons (mV 5) (mCons (mV 5) (mNil)))) (mNil)))) (mNil)))))))) (sSeq (sSet 1 (m2 oAdd (mV 1) (mN oLst (mCons (mC (.bl true)) (mCons (mC (.bl false)) (mCons (mC (.bl false)) (mCons (mC (.bl false)) (mNil)))))))) (sSeq (sSet 0 (m2 oAdd (mV 0) (mN oLst (mCons (mCall 4 M_law_heard (mCons (mC (.int 3)) (mCons (mN oTup (mCons (mV 8) (mCons (mC (.int 4)) (mNil)))) (mCons (mC .non) (mCons (mC (.int 1)) (mNil)))))) (mCons (mCall 4 M_law_heard (mCons (mC (.int 3)) (mCons (mN oTup (mCons (mV 9) (mCons (mC (.int 1)) (mNil)))) (mCons (mC .non) (mCons (mC (.int 1)) (mNil)))))) (mCons (mCall 4 M_law_heard (mCons (mC (.int 3)) (mCons (mN oTup (mCons (mV 9) (mCons (mC (.int 0)) (mNil)))) (mCons (mC .non) (mCons (mC (.int 1)) (mNil)))))) (mCons (mCall 4 M_law_heard (mCons (mC (.int 3)) (mCons (mN oTup (mCons (mV 2) (mCons (mC (.int 0)) (mNil)))) (mCons (mC .non) (mCons (mC (.int 1)) (mNil)))))) (mNil)))))))) (sRet (mCall 2 M_law_same (mCons (mV 0) (mCons (m2 oAdd (mV 1) (m2 oMul (mN oLst (mCons (mN oLst (mCons (mC (.str [110, 111, 32, 112, 97, 112, 101, 114])) (mCons (mC (.bl true)) (mNil)))) (mNil))) (mC (.int 4)))) (mNil)))))))))))))))))))))))
theorem ev_law_gifts_right : isT (M_law_gifts_right [] L0) = true := by decide +kernel
theorem fo_law_gifts_right {P : Program} {w : World} {K : PySem.W.Frag} {mg : Str → Option Value} {base : Heap} (G : Gf K mg) (h_law_boxes : Kn P w K mg base (pm K) 1 "_law_boxes" 0 M_law_boxes) (h_law_same : Kn P w K mg base (pm K) 12 "_law_same" 2 M_law_same) (h_gives_within : Kn P w K mg base (pm K) 9 "gives_within" 2 M_gives_within) (h_first_gift : Kn P w K mg base (pm K) 9 "first_gift" 2 M_first_gift) (h_is_giving_row : Kn P w K mg base (pm K) 9 "is_giving_row" 2 M_is_giving_row) (h_law_heard : Kn P w K mg base (pm K) 12 "_law_heard" 4 M_law_heard) (h_giving_row : Kn P w K mg base (pm K) 9 "giving_row" 2 M_giving_row) (h_law_lists : Kn P w K mg base (pm K) 8 "_law_lists" 1 M_law_lists) {fd : FuncData} (F : FunD K "_law_gifts_right" "_law_gifts_right" (defArgs (top 82)) (defBody (top 82)) (defScope (top 82)) [] [] (He.ga K "_law_gifts_right") fd) : FnOk P w K mg base (L2.CX P w) 13 (He.ga K "_law_gifts_right") fd [] (spM (pm K) 0 M_law_gifts_right) := by
  refine fn_ok (k := 12) (N := N_law_gifts_right) (tl := [none, none, none, none, none, none, none, none, none, none, none, none, none, none]) (b := sSeq (sAs (mN oTup (mCons (mN oTup (mCons (mC (.int 0)) (mCons (mC (.int 1)) (mNil)))) (mCons (mN oTup (mCons (mC (.int 1)) (mCons (mC (.int 1)) (mNil)))) (mCons (mN oTup (mCons (mC (.int 2)) (mCons (mC (.int 1)) (mNil)))) (mCons (mN oTup (mCons (m1 oNeg (mC (.int 1))) (mCons (mC (.int 1)) (mNil)))) (mNil)))))) (gEnd (gTL 4 (gCn (gNm 4) (gCn (gNm 5) (gCn (gNm 6) (gCn (gNm 7) (gNl)))))))) (sSeq (sAs ((fun _ L => M_law_boxes [] L)) (gEnd (gTL 4 (gCn (gNm 8) (gCn (gNm 9) (gCn (gNm 10) (gCn (gNm 11) (gNl)))))))) (sSeq (sSet 0 (mN oLst (mCons (mLc (onlyA (mN oTup (mCons (mC (.int 0)) (mCons (mC (.int 1)) (mCons (mC (.int 2)) (mCons (mC (.int 3)) (mNil))))))) nfA (gNm 12) (mYes) (mCallT 2 M_gives_within T_gives_within (mCons (mV 9) (mCons (mV 12) (mNil)))) [12]) (mCons (mCallT 2 M_gives_within T_gives_within (mCons (mV 8) (mCons (mC (.int 9)) (mNil)))) (mCons (mCallT 2 M_first_gift T_first_gift (mCons (mV 9) (mCons (mC (.int 5)) (mNil)))) (mCons (mCallT 2 M_first_gift T_first_gift (mCons (mV 9) (mCons (mC (.int 1)) (mNil)))) (mCons (mCallT 2 M_first_gift T_first_gift (mCons (mV 8) (mCons (mC (.int 9)) (mNil)))) (mCons (mCallT 2 M_first_gift T_first_gift (mCons (mV 9) (mCons (mC (.int 0)) (mNil)))) (mNil))))))))) (sSeq (sSet 0 (m2 oAdd (mV 0) (mN oLst (mCons (mCallT 2 M_first_gift T_first_gift (mCons (mV 9) (mCons (mC (.int 2)) (mNil)))) (mCons (mCallT 2 M_first_gift T_first_gift (mCons (mV 9) (mCons (mC (.int 12)) (mNil)))) (mNil)))))) (sSeq (sSet 1 (mN oLst (mCons (mN oLst (mCons (mC (.bl false)) (mCons (mC (.bl false)) (mCons (mC (.bl true)) (mCons (mC (.bl true)) (mNil)))))) (mCons (mC (.bl false)) (mCons (mC (.int 2)) (mCons (mC .non) (mCons (mC .non) (mCons (mC .non) (mCons (mC (.int 2)) (mCons (mC (.int 2)) (mNil))))))))))) (sSeq (sSet 2 (mN oTup (mCons (mN oTup (mCons (mV 7) (mNil))) (mCons (mN oTup (mCons (mV 5) (mNil))) (mNil))))) (sSeq (sSet 0 (m2 oAdd (mV 0) (mN oLst (mCons (mCallT 2 M_first_gift T_first_gift (mCons (mV 2) (mCons (mC (.int 3)) (mNil)))) (mCons (mCallT 2 M_gives_within T_gives_within (mCons (mV 2) (mCons (mC (.int 1)) (mNil)))) (mCons (mCallT 2 M_first_gift T_first_gift (mCons (mV 11) (mCons (mC (.int 12)) (mNil)))) (mCons (mCallT 2 M_first_gift T_first_gift (mCons (mN oTup (mCons (mN oTup (mCons (mN oTup (mCons (mC (.int 1)) (mCons (mC (.int 1)) (mNil)))) (mCons (mN oTup (mCons (mC (.int 3)) (mCons (mC (.int 2)) (mNil)))) (mNil)))) (mCons (mN oTup (mCons (mV 5) (mCons (mV 4) (mNil)))) (mNil)))) (mCons (mC (.int 9)) (mNil)))) (mNil)))))))) (sSeq (sSet 1 (m2 oAdd (mV 1) (mN oLst (mCons (mC (.int 1)) (mCons (mC (.bl true)) (mCons (mC .non) (mCons (mC (.int 3)) (mNil)))))))) (sSeq (sSet 0 (m2 oAdd (mV 0) (mN oLst (mCons (mCallT 2 M_is_giving_row T_is_giving_row (mCons (mV 9) (mCons (mCallT 2 M_giving_row T_giving_row (mCons (mV 9) (mCons (mC (.int 2)) (mNil)))) (mNil)))) (mCons (mCallT 2 M_is_giving_row T_is_giving_row (mCons (mV 9) (mCons (mCallT 2 M_giving_row T_giving_row (mCons (mV 9) (mCons (mC (.int 12)) (mNil)))) (mNil)))) (mCons (mCallT 2 M_is_giving_row T_is_giving_row (mCons (mV 2) (mCons (mCallT 2 M_giving_row T_giving_row (mCons (mV 2) (mCons (mC (.int 1)) (mNil)))) (mNil)))) (mNil))))))) (sSeq (sSet 1 (m2 oAdd (mV 1) (mN oLst (mCons (mC (.bl true)) (mCons (mC (.bl true)) (mCons (mC (.bl true)) (mNil))))))) (sSeq (sSet 3 (mN oLst (mCons (mN oTup (mCons (mV 5) (mCons (mV 7) (mNil)))) (mCons (mN oTup (mCons (mV 5) (mCons (mV 5) (mNil)))) (mCons (mN oTup (mNil)) (mCons (mN oTup (mCons (mV 5) (mCons (mN oLst (mCons (m1 oNeg (mC (.int 1))) (mCons (mC (.int 1)) (mNil)))) (mNil)))) (mCons (mN oTup (mCons (mV 7) (mCons (mV 5) (mNil)))) (mCons (mN oTup (mCons (mV 5) (mCons (mV 4) (mCons (mV 7) (mNil))))) (mCons (mN oLst (mCons (mV 5) (mCons (mV 7) (mNil)))) (mCons (mN oTup (mCons (mN oTup (mCons (mC (.int 2)) (mCons (mC (.int 2)) (mNil)))) (mCons (mV 7) (mNil)))) (mCons (mC .non) (mCons (mN oTup (mCons (mN oTup (mCons (m1 oNeg (mC (.int 1))) (mCons (m1 oNeg (mC (.int 1))) (mNil)))) (mCons (mV 7) (mNil)))) (mCons (mN oTup (mCons (mC (.int 1)) (mCons (m1 oNeg (mC (.int 1))) (mNil)))) (mNil)))))))))))))) (sSeq (sSet 0 (m2 oAdd (mV 0) (mN oLst (mCons (mLc (onlyA (mV 3)) nfA (gNm 13) (mYes) (mCallT 2 M_is_giving_row T_is_giving_row (mCons (mV 9) (mCons (mV 13) (mNil)))) [13]) (mCons (mCallT 2 M_is_giving_row T_is_giving_row (mCons (mV 9) (mCons (m2 oAdd (m2 oMul (mN oTup (mCons (mV 4) (mNil))) (mC (.int 40))) (mN oTup (mCons (mV 5) (mCons (mV 7) (mNil))))) (mNil)))) (mCons (mCallT 2 M_is_giving_row T_is_giving_row (mCons (mV 2) (mCons (mN oTup (mCons (mN oTup (mCons (mC (.int 1)) (mCons (mC (.int 9)) (mNil)))) (mNil))) (mNil)))) (mNil))))))) (sSeq (sSet 1 (m2 oAdd (mV 1) (mN oLst (mCons (mN oLst (mCons (mC (.bl true)) (mCons (mC (.bl false)) (mCons (mC (.bl false)) (mCons (mC (.bl false)) (mCons (mC (.bl true)) (mCons (mC (.bl false)) (mCons (mC (.bl false)) (mCons (mC (.bl false)) (mCons (mC (.bl false)) (mCons (mC (.bl false)) (mCons (mC (.bl false)) (mNil))))))))))))) (mCons (mC (.bl true)) (mCons (mC (.bl true)) (mNil))))))) (sSeq (sSet 0 (m2 oAdd (mV 0) (mN oLst (mCons (mCallT 2 M_gives_within T_gives_within (mCons (mV 2) (mCons (mC (.int 0)) (mNil)))) (mCons (mCallT 2 M_first_gift T_first_gift (mCons (mV 2) (mCons (mC (.int 0)) (mNil)))) (mCons (m2 oEqL (mN oLen (mCons (mCall 1 M_law_lists (mCons (mCallT 2 M_giving_row T_giving_row (mCons (mV 2) (mCons (mC (.int 1)) (mNil)))) (mNil))) (mNil))) (mC (.int 1))) (mCons (m2 oEqL (mN oLen (mCons (mCall 1 M_law_lists (mCons (mCallT 2 M_giving_row T_giving_row (mCons (mV 9) (mCons (mC (.int 2)) (mNil)))) (mNil))) (mNil))) (mC (.int 2))) (mNil)))))))) (sSeq (sSet 1 (m2 oAdd (mV 1) (mN oLst (mCons (mC (.bl false)) (mCons (mC .non) (mCons (mC (.bl true)) (mCons (mC (.bl true)) (mNil)))))))) (sSeq (sSet 0 (m2 oAdd (mV 0) (mN oLst (mCons (mCallT 2 M_gives_within T_gives_within (mCons (mV 9) (mCons (mC (.int 12)) (mNil)))) (mCons (mCallT 2 M_gives_within T_gives_within (mCons (mV 11) (mCons (mC (.int 12)) (mNil)))) (mCons (mCallT 2 M_is_giving_row T_is_giving_row (mCons (mV 8) (mCons (mN oTup (mCons (mV 5) (mCons (mV 7) (mNil)))) (mNil)))) (mCons (mCallT 2 M_is_giving_row T_is_giving_row (mCons (mV 11) (mCons (mN oTup (mCons (mV 5) (mCons (mV 5) (mNil)))) (mNil)))) (mNil)))))))) (sSeq (sSet 1 (m2 oAdd (mV 1) (mN oLst (mCons (mC (.bl true)) (mCons (mC (.bl false)) (mCons (mC (.bl false)) (mCons (mC (.bl false)) (mNil)))))))) (sSeq (sSet 0 (m2 oAdd (mV 0) (mN oLst (mCons (mCall 4 M_law_heard (mCons (mC (.int 3)) (mCons (mN oTup (mCons (mV 8) (mCons (mC (.int 4)) (mNil)))) (mCons (mC .non) (mCons (mC (.int 1)) (mNil)))))) (mCons (mCall 4 M_law_heard (mCons (mC (.int 3)) (mCons (mN oTup (mCons (mV 9) (mCons (mC (.int 1)) (mNil)))) (mCons (mC .non) (mCons (mC (.int 1)) (mNil)))))) (mCons (mCall 4 M_law_heard (mCons (mC (.int 3)) (mCons (mN oTup (mCons (mV 9) (mCons (mC (.int 0)) (mNil)))) (mCons (mC .non) (mCons (mC (.int 1)) (mNil)))))) (mCons (mCall 4 M_law_heard (mCons (mC (.int 3)) (mCons (mN oTup (mCons (mV 2) (mCons (mC (.int 0)) (mNil)))) (mCons (mC .non) (mCons (mC (.int 1)) (mNil)))))) (mNil)))))))) (sRet (mCall 2 M_law_same (mCons (mV 0) (mCons (m2 oAdd (mV 1) (m2 oMul (mN oLst (mCons (mN oLst (mCons (mC (.str [110, 111, 32, 112, 97, 112, 101, 114])) (mCons (mC (.bl true)) (mNil)))) (mNil))) (mC (.int 4)))) (mNil))))))))))))))))))))))) F sc_law_gifts_right rfl rfl (fun cdv A outer s H E hr => ?_)
  have nd : N_law_gifts_right.Nodup := sc_law_gifts_right.nd
  have tk : Takes (cxOf (L2.CX P w) P w K mg base N_law_gifts_right "_law_gifts_right" (defScope (top 82)) (He.ga K "_law_gifts_right") cdv A outer s H E) (fun cls d _ H' => E cls d H') := takes_of rfl rfl rfl rfl
  have po : PassesOwn (model P w) (cxOf (L2.CX P w) P w K mg base N_law_gifts_right "_law_gifts_right" (defScope (top 82)) (He.ga K "_law_gifts_right") cdv A outer s H E).A (cxOf (L2.CX P w) P w K mg base N_law_gifts_right "_law_gifts_right" (defScope (top 82)) (He.ga K "_law_gifts_right") cdv A outer s H E).env (cxOf (L2.CX P w) P w K mg base N_law_gifts_right "_law_gifts_right" (defScope (top 82)) (He.ga K "_law_gifts_right") cdv A outer s H E).xe := passes_of (X := cxOf (L2.CX P w) P w K mg base N_law_gifts_right "_law_gifts_right" (defScope (top 82)) (He.ga K "_law_gifts_right") cdv A outer s H E) rfl
  exact (es_cons (es_asg (ee_tup (ea_cons (ee_tup (ea_cons ee_int (ea_cons ee_int ea_nil))) (ea_cons (ee_tup (ea_cons ee_int (ea_cons ee_int ea_nil))) (ea_cons (ee_tup (ea_cons ee_int (ea_cons ee_int ea_nil))) (ea_cons (ee_tup (ea_cons (b_neg ee_int) (ea_cons ee_int ea_nil))) ea_nil))))) (eg_tl rfl rfl (egs_cons (eg_name (g_name nd)) (egs_cons (eg_name (g_name nd)) (egs_cons (eg_name (g_name nd)) (egs_cons (eg_name (g_name nd)) egs_nil))))))
    (es_cons (es_asg (ee_call0 h_law_boxes hr (by decide) tk) (eg_tl rfl rfl (egs_cons (eg_name (g_name nd)) (egs_cons (eg_name (g_name nd)) (egs_cons (eg_name (g_name nd)) (egs_cons (eg_name (g_name nd)) egs_nil))))))
    (es_cons (s_set nd (ee_lst (ea_cons (ee_lc rfl nd (own := [("k", 12)]) (ei_any rfl (ee_tup (ea_cons ee_int (ea_cons ee_int (ea_cons ee_int (ea_cons ee_int ea_nil)))))) (blkOk_by (N := N_law_gifts_right) (sc := defScope (top 82)) (by decide +kernel)) (fun _ _ _ _ _ => (ct_name (g_name nd) (by decide))) (fun _ _ _ _ _ => ets_nil) (fun _ _ _ _ _ => (ee_callT kt_gives_within h_gives_within hr (by decide) takes_blk (ea_cons (ee_var 9 (pv 9)) (ea_cons (ee_var 12 (pv 12)) ea_nil))))) (ea_cons (ee_callT kt_gives_within h_gives_within hr (by decide) tk (ea_cons (ee_var 8 (pv 8)) (ea_cons ee_int ea_nil))) (ea_cons (ee_callT kt_first_gift h_first_gift hr (by decide) tk (ea_cons (ee_var 9 (pv 9)) (ea_cons ee_int ea_nil))) (ea_cons (ee_callT kt_first_gift h_first_gift hr (by decide) tk (ea_cons (ee_var 9 (pv 9)) (ea_cons ee_int ea_nil))) (ea_cons (ee_callT kt_first_gift h_first_gift hr (by decide) tk (ea_cons (ee_var 8 (pv 8)) (ea_cons ee_int ea_nil))) (ea_cons (ee_callT kt_first_gift h_first_gift hr (by decide) tk (ea_cons (ee_var 9 (pv 9)) (ea_cons ee_int ea_nil))) ea_nil))))))))
    (es_cons (s_set nd (b_add rfl (ee_var 0 (pv 0)) (ee_lst (ea_cons (ee_callT kt_first_gift h_first_gift hr (by decide) tk (ea_cons (ee_var 9 (pv 9)) (ea_cons ee_int ea_nil))) (ea_cons (ee_callT kt_first_gift h_first_gift hr (by decide) tk (ea_cons (ee_var 9 (pv 9)) (ea_cons ee_int ea_nil))) ea_nil)))))
    (es_cons (s_set nd (ee_lst (ea_cons (ee_lst (ea_cons ee_bl (ea_cons ee_bl (ea_cons ee_bl (ea_cons ee_bl ea_nil))))) (ea_cons ee_bl (ea_cons ee_int (ea_cons ee_non (ea_cons ee_non (ea_cons ee_non (ea_cons ee_int (ea_cons ee_int ea_nil))))))))))
    (es_cons (s_set nd (ee_tup (ea_cons (ee_tup (ea_cons (ee_var 7 (pv 7)) ea_nil)) (ea_cons (ee_tup (ea_cons (ee_var 5 (pv 5)) ea_nil)) ea_nil))))
    (es_cons (s_set nd (b_add rfl (ee_var 0 (pv 0)) (ee_lst (ea_cons (ee_callT kt_first_gift h_first_gift hr (by decide) tk (ea_cons (ee_var 2 (pv 2)) (ea_cons ee_int ea_nil))) (ea_cons (ee_callT kt_gives_within h_gives_within hr (by decide) tk (ea_cons (ee_var 2 (pv 2)) (ea_cons ee_int ea_nil))) (ea_cons (ee_callT kt_first_gift h_first_gift hr (by decide) tk (ea_cons (ee_var 11 (pv 11)) (ea_cons ee_int ea_nil))) (ea_cons (ee_callT kt_first_gift h_first_gift hr (by decide) tk (ea_cons (ee_tup (ea_cons (ee_tup (ea_cons (ee_tup (ea_cons ee_int (ea_cons ee_int ea_nil))) (ea_cons (ee_tup (ea_cons ee_int (ea_cons ee_int ea_nil))) ea_nil))) (ea_cons (ee_tup (ea_cons (ee_var 5 (pv 5)) (ea_cons (ee_var 4 (pv 4)) ea_nil))) ea_nil))) (ea_cons ee_int ea_nil))) ea_nil)))))))
    (es_cons (s_set nd (b_add rfl (ee_var 1 (pv 1)) (ee_lst (ea_cons ee_int (ea_cons ee_bl (ea_cons ee_non (ea_cons ee_int ea_nil)))))))
    (es_cons (s_set nd (b_add rfl (ee_var 0 (pv 0)) (ee_lst (ea_cons (ee_callT kt_is_giving_row h_is_giving_row hr (by decide) tk (ea_cons (ee_var 9 (pv 9)) (ea_cons (ee_callT kt_giving_row h_giving_row hr (by decide) tk (ea_cons (ee_var 9 (pv 9)) (ea_cons ee_int ea_nil))) ea_nil))) (ea_cons (ee_callT kt_is_giving_row h_is_giving_row hr (by decide) tk (ea_cons (ee_var 9 (pv 9)) (ea_cons (ee_callT kt_giving_row h_giving_row hr (by decide) tk (ea_cons (ee_var 9 (pv 9)) (ea_cons ee_int ea_nil))) ea_nil))) (ea_cons (ee_callT kt_is_giving_row h_is_giving_row hr (by decide) tk (ea_cons (ee_var 2 (pv 2)) (ea_cons (ee_callT kt_giving_row h_giving_row hr (by decide) tk (ea_cons (ee_var 2 (pv 2)) (ea_cons ee_int ea_nil))) ea_nil))) ea_nil))))))
    (es_cons (s_set nd (b_add rfl (ee_var 1 (pv 1)) (ee_lst (ea_cons ee_bl (ea_cons ee_bl (ea_cons ee_bl ea_nil))))))
    (es_cons (s_set nd (ee_lst (ea_cons (ee_tup (ea_cons (ee_var 5 (pv 5)) (ea_cons (ee_var 7 (pv 7)) ea_nil))) (ea_cons (ee_tup (ea_cons (ee_var 5 (pv 5)) (ea_cons (ee_var 5 (pv 5)) ea_nil))) (ea_cons (ee_tup ea_nil) (ea_cons (ee_tup (ea_cons (ee_var 5 (pv 5)) (ea_cons (ee_lst (ea_cons (b_neg ee_int) (ea_cons ee_int ea_nil))) ea_nil))) (ea_cons (ee_tup (ea_cons (ee_var 7 (pv 7)) (ea_cons (ee_var 5 (pv 5)) ea_nil))) (ea_cons (ee_tup (ea_cons (ee_var 5 (pv 5)) (ea_cons (ee_var 4 (pv 4)) (ea_cons (ee_var 7 (pv 7)) ea_nil)))) (ea_cons (ee_lst (ea_cons (ee_var 5 (pv 5)) (ea_cons (ee_var 7 (pv 7)) ea_nil))) (ea_cons (ee_tup (ea_cons (ee_tup (ea_cons ee_int (ea_cons ee_int ea_nil))) (ea_cons (ee_var 7 (pv 7)) ea_nil))) (ea_cons ee_non (ea_cons (ee_tup (ea_cons (ee_tup (ea_cons (b_neg ee_int) (ea_cons (b_neg ee_int) ea_nil))) (ea_cons (ee_var 7 (pv 7)) ea_nil))) (ea_cons (ee_tup (ea_cons ee_int (ea_cons (b_neg ee_int) ea_nil))) ea_nil)))))))))))))
    (es_cons (s_set nd (b_add rfl (ee_var 0 (pv 0)) (ee_lst (ea_cons (ee_lc rfl nd (own := [("own", 13)]) (ei_any rfl (ee_var 3 (pv 3))) (blkOk_by (N := N_law_gifts_right) (sc := defScope (top 82)) (by decide +kernel)) (fun _ _ _ _ _ => (ct_name (g_name nd) (by decide))) (fun _ _ _ _ _ => ets_nil) (fun _ _ _ _ _ => (ee_callT kt_is_giving_row h_is_giving_row hr (by decide) takes_blk (ea_cons (ee_var 9 (pv 9)) (ea_cons (ee_var 13 (pv 13)) ea_nil))))) (ea_cons (ee_callT kt_is_giving_row h_is_giving_row hr (by decide) tk (ea_cons (ee_var 9 (pv 9)) (ea_cons (b_add rfl (b_mul rfl (ee_tup (ea_cons (ee_var 4 (pv 4)) ea_nil)) ee_int) (ee_tup (ea_cons (ee_var 5 (pv 5)) (ea_cons (ee_var 7 (pv 7)) ea_nil)))) ea_nil))) (ea_cons (ee_callT kt_is_giving_row h_is_giving_row hr (by decide) tk (ea_cons (ee_var 2 (pv 2)) (ea_cons (ee_tup (ea_cons (ee_tup (ea_cons ee_int (ea_cons ee_int ea_nil))) ea_nil)) ea_nil))) ea_nil))))))
    (es_cons (s_set nd (b_add rfl (ee_var 1 (pv 1)) (ee_lst (ea_cons (ee_lst (ea_cons ee_bl (ea_cons ee_bl (ea_cons ee_bl (ea_cons ee_bl (ea_cons ee_bl (ea_cons ee_bl (ea_cons ee_bl (ea_cons ee_bl (ea_cons ee_bl (ea_cons ee_bl (ea_cons ee_bl ea_nil)))))))))))) (ea_cons ee_bl (ea_cons ee_bl ea_nil))))))
    (es_cons (s_set nd (b_add rfl (ee_var 0 (pv 0)) (ee_lst (ea_cons (ee_callT kt_gives_within h_gives_within hr (by decide) tk (ea_cons (ee_var 2 (pv 2)) (ea_cons ee_int ea_nil))) (ea_cons (ee_callT kt_first_gift h_first_gift hr (by decide) tk (ea_cons (ee_var 2 (pv 2)) (ea_cons ee_int ea_nil))) (ea_cons (c_eqL rfl hr.units (f_len rfl G.b_len (ea_cons (ee_call h_law_lists hr (by decide) tk (ea_cons (ee_callT kt_giving_row h_giving_row hr (by decide) tk (ea_cons (ee_var 2 (pv 2)) (ea_cons ee_int ea_nil))) ea_nil)) ea_nil)) ee_int) (ea_cons (c_eqL rfl hr.units (f_len rfl G.b_len (ea_cons (ee_call h_law_lists hr (by decide) tk (ea_cons (ee_callT kt_giving_row h_giving_row hr (by decide) tk (ea_cons (ee_var 9 (pv 9)) (ea_cons ee_int ea_nil))) ea_nil)) ea_nil)) ee_int) ea_nil)))))))
    (es_cons (s_set nd (b_add rfl (ee_var 1 (pv 1)) (ee_lst (ea_cons ee_bl (ea_cons ee_non (ea_cons ee_bl (ea_cons ee_bl ea_nil)))))))
    (es_cons (s_set nd (b_add rfl (ee_var 0 (pv 0)) (ee_lst (ea_cons (ee_callT kt_gives_within h_gives_within hr (by decide) tk (ea_cons (ee_var 9 (pv 9)) (ea_cons ee_int ea_nil))) (ea_cons (ee_callT kt_gives_within h_gives_within hr (by decide) tk (ea_cons (ee_var 11 (pv 11)) (ea_cons ee_int ea_nil))) (ea_cons (ee_callT kt_is_giving_row h_is_giving_row hr (by decide) tk (ea_cons (ee_var 8 (pv 8)) (ea_cons (ee_tup (ea_cons (ee_var 5 (pv 5)) (ea_cons (ee_var 7 (pv 7)) ea_nil))) ea_nil))) (ea_cons (ee_callT kt_is_giving_row h_is_giving_row hr (by decide) tk (ea_cons (ee_var 11 (pv 11)) (ea_cons (ee_tup (ea_cons (ee_var 5 (pv 5)) (ea_cons (ee_var 5 (pv 5)) ea_nil))) ea_nil))) ea_nil)))))))
    (es_cons (s_set nd (b_add rfl (ee_var 1 (pv 1)) (ee_lst (ea_cons ee_bl (ea_cons ee_bl (ea_cons ee_bl (ea_cons ee_bl ea_nil)))))))
    (es_cons (s_set nd (b_add rfl (ee_var 0 (pv 0)) (ee_lst (ea_cons (ee_call h_law_heard hr (by decide) tk (ea_cons ee_int (ea_cons (ee_tup (ea_cons (ee_var 8 (pv 8)) (ea_cons ee_int ea_nil))) (ea_cons ee_non (ea_cons ee_int ea_nil))))) (ea_cons (ee_call h_law_heard hr (by decide) tk (ea_cons ee_int (ea_cons (ee_tup (ea_cons (ee_var 9 (pv 9)) (ea_cons ee_int ea_nil))) (ea_cons ee_non (ea_cons ee_int ea_nil))))) (ea_cons (ee_call h_law_heard hr (by decide) tk (ea_cons ee_int (ea_cons (ee_tup (ea_cons (ee_var 9 (pv 9)) (ea_cons ee_int ea_nil))) (ea_cons ee_non (ea_cons ee_int ea_nil))))) (ea_cons (ee_call h_law_heard hr (by decide) tk (ea_cons ee_int (ea_cons (ee_tup (ea_cons (ee_var 2 (pv 2)) (ea_cons ee_int ea_nil))) (ea_cons ee_non (ea_cons ee_int ea_nil))))) ea_nil)))))))
    (es_one (es_ret (ee_call h_law_same hr (by decide) tk (ea_cons (ee_var 0 (pv 0)) (ea_cons (b_add rfl (ee_var 1 (pv 1)) (b_mul rfl (ee_lst (ea_cons (ee_lst (ea_cons (ee_str rfl) (ea_cons ee_bl ea_nil))) ea_nil)) ee_int)) ea_nil)))))))))))))))))))))))
theorem ok_law_gifts_right {P : Program} {w : World} {K : PySem.W.Frag} {mg : Str → Option Value} {base : Heap} (G : Gf K mg) (h_law_boxes : Kn P w K mg base (pm K) 1 "_law_boxes" 0 M_law_boxes) (h_law_same : Kn P w K mg base (pm K) 12 "_law_same" 2 M_law_same) (h_gives_within : Kn P w K mg base (pm K) 9 "gives_within" 2 M_gives_within) (h_first_gift : Kn P w K mg base (pm K) 9 "first_gift" 2 M_first_gift) (h_is_giving_row : Kn P w K mg base (pm K) 9 "is_giving_row" 2 M_is_giving_row) (h_law_heard : Kn P w K mg base (pm K) 12 "_law_heard" 4 M_law_heard) (h_giving_row : Kn P w K mg base (pm K) 9 "giving_row" 2 M_giving_row) (h_law_lists : Kn P w K mg base (pm K) 8 "_law_lists" 1 M_law_lists) : Kn P w K mg base (pm K) 13 "_law_gifts_right" 0 M_law_gifts_right := by
  obtain ⟨fd, F⟩ := G.d__law_gifts_right
  exact ⟨_, fd, _, fo_law_gifts_right G h_law_boxes h_law_same h_gives_within h_first_gift h_is_giving_row h_law_heard h_giving_row h_law_lists  F, G.a__law_gifts_right, F.kp, (F.bindsN fun _ _ _ _ _ _ us hl => match us, hl with | [], _ => rfl)⟩
abbrev N_law_far_right : List Str := ["lag", "got", "due", "none", "one", "two", "less", "slow", "four"]
theorem sc_law_far_right : FnScope N_law_far_right [] (defScope (top 83)) := ⟨rfl, rfl, rfl, by decide +kernel, rfl, by decide +kernel, by decide +kernel⟩
noncomputable def M_law_far_right : Fn' := fnM [none, none, none, none, none, none, none, none, none] (sSeq (sAs (mN oTup (mCons (mN oTup (mCons (mC (.int 0)) (mCons (mC (.int 1)) (mNil)))) (mCons (mN oTup (mCons (mC (.int 1)) (mCons (mC (.int 1)) (mNil)))) (mCons (mN oTup (mCons (mC (.int 2)) (mCons (mC (.int 1)) (mNil)))) (mCons (mN oTup (mCons (m1 oNeg (mC (.int 1))) (mCons (mC (.int 1)) (mNil)))) (mNil)))))) (gEnd (gTL 4 (gCn (gNm 3) (gCn (gNm 4) (gCn (gNm 5) (gCn (gNm 6) (gNl)))))))) (sSeq (sSet 0 (m2 oIx ((fun _ L => M_law_boxes [] L)) (mC (.int 1)))) (sSeq (sPar 7 8 (mCons (mN oTup (mCons (mN oTup (mCons (mV 4) (mCons (mN oTup (mCons (mC (.int 26)) (mCons (mC (.int 25)) (mNil)))) (mNil)))) (mCons (mN oTup (mCons (mV 4) (mCons (mV 3) (mNil)))) (mNil)))) (mCons (mN oTup (mCons (mN oTup (mCons (mV 4) (mCons (mV 5) (mCons (mN oTup (mCons (mC (.int 3)) (mCons (mC (.int 1)) (mNil)))) (mCons (mN oTup (mCons (mC (.int 4)) (mCons (mC (.int 1)) (mNil)))) (mCons (mN oTup (mCons (mC (.int 5)) (mCons (mC (.int 1)) (mNil)))) (mNil))))))) (mCons (mN oTup (mCons (mV 4) (mCons (mV 3) (mCons (mV 3) (mCons (mV 3) (mCons (mV 3) (mNil))))))) (mNil)))) (mNil)))) (sSeq (sSet 1 (mN oLst (mCons (mCallT 2 M_first_gift T_first_gift (mCons (mV 7) (mCons (mC (.int 12)) (mNil)))) (mCons (mCallT 2 M_first_gift T_first_gift (mCons (mV 7) (mCons (mC (.int 10)) (mNil)))) (mCons (mCallT 2 M_gives_within T_gives_within (mCons (mV 7) (mCons (mC (.int 10)) (mNil)))) (mCons (mCallT 2 M_gives_within T_gives_within (mCons (mV 7) (mCons (mC (.int 11)) (mNil)))) (mCons (mCallT 2 M_is_giving_row T_is_giving_row (mCons (mV 7) (mCons (mCallT 2 M_giving_row T_giving_row (mCons (mV 7) (mCons (mC (.int 12)) (mNil)))) (mNil)))) (mNil)))))))) (sSeq (sSet 2 (mN oLst (mCons (mC (.int 11)) (mCons (mC .non) (mCons (mC (.bl false)) (mCons (mC (.bl true)) (mCons (mC (.bl true)) (mNil)))))))) (sSeq (sSet 1 (m2 oAdd (mV 1) (mN oLst (mCons (mCall 4 M_law_heard (mCons (mC (.int 3)) (mCons (mN oTup (mCons (mV 7) (mCons (mC (.int 10)) (mNil)))) (mCons (mC .non) (mCons (mC (.int 1)) (mNil)))))) (mCons (mCallT 2 M_is_giving_row T_is_giving_row (mCons (mV 0) (mCons (mN oTup (mCons (mN oTup (mCons (mC (.bl true)) (mCons (mC (.int 1)) (mNil)))) (mCons (mV 6) (mNil)))) (mNil)))) (mCons (mCallT 2 M_is_giving_row T_is_giving_row (mCons (mV 0) (mCons (mN oTup (mCons (mN oTup (mCons (mC (.int 1)) (mCons (mC (.bl true)) (mNil)))) (mCons (mV 6) (mNil)))) (mNil)))) (mNil))))))) (sSeq (sSet 2 (m2 oAdd (mV 2) (mN oLst (mCons (mN oLst (mCons (mC (.str [110, 111, 32, 112, 97, 112, 101, 114])) (mCons (mC (.bl true)) (mNil)))) (mCons (mC (.bl false)) (mCons (mC (.bl false)) (mNil))))))) (sSeq (sSet 1 (m2 oAdd (mV 1) (mN oLst (mCons (mCallT 3 M_work_sums T_work_sums (mCons (mV 8) (mCons (mN oTup (mCons (mV 3) (mCons (mV 3) (mCons (mV 3) (mCons (mV 3) (mNil)))))) (mCons (mN oTup (mCons (mV 4) (mCons (mV 3) (mCons (mV 6) (mCons (mV 5) (mCons (mV 4) (mCons (mV 6) (mCons (mV 3) (mCons (mV 4) (mCons (mV 4) (mNil))))))))))) (mNil))))) (mCons (mCallT 3 M_work_of T_work_of (mCons (mV 8) (mCons (mN oTup (mCons (mV 4) (mCons (mV 5) (mCons (mV 3) (mCons (mV 6) (mNil)))))) (mCons (mN oTup (mCons (mV 4) (mCons (mV 5) (mNil)))) (mNil))))) (mNil)))))) (sRet (mCall 2 M_law_same (mCons (mV 1) (mCons (m2 oAdd (mV 2) (mN oLst (mCons (mN oTup (mCons (mN oTup (mCons (mC (.int 1)) (mCons (mC (.int 1)) (mNil)))) (mCons (mN oTup (mCons (mC (.int 1)) (mCons (mC (.int 1)) (mNil)))) (mCons (mN oTup (mCons (m1 oNeg (mC (.int 1))) (mCons (mC (.int 1)) (mNil)))) (mCons (mN oTup (mCons (mC (.int 7)) (mCons (mC (.int 1)) (mNil)))) (mCons (mN oTup (mCons (mC (.int 14)) (mCons (mC (.int 1)) (mNil)))) (mCons (mN oTup (mCons (mC (.int 11)) (mCons (mC (.int 1)) (mNil)))) (mCons (mN oTup (mCons (mC (.int 11)) (mCons (mC (.int 1)) (mNil)))) (mCons (mN oTup (mCons (mC (.int 23)) (mCons (mC (.int 1)) (mNil)))) (mCons (mN oTup (mCons (mC (.int 27)) (mCons (mC (.int 1)) (mNil)))) (mNil))))))))))) (mCons (mN oTup (mCons (mC (.int 34)) (mCons (mC (.int 1)) (mNil)))) (mNil))))) (mNil)))))))))))))
theorem ev_law_far_right : isT (M_law_far_right [] L0) = true := by decide +kernel
theorem fo_law_far_right {P : Program} {w : World} {K : PySem.W.Frag} {mg : Str → Option Value} {base : Heap} (G : Gf K mg) (h_law_same : Kn P w K mg base (pm K) 12 "_law_same" 2 M_law_same) (h_law_boxes : Kn P w K mg base (pm K) 1 "_law_boxes" 0 M_law_boxes) (h_first_gift : Kn P w K mg base (pm K) 9 "first_gift" 2 M_first_gift) (h_gives_within : Kn P w K mg base (pm K) 9 "gives_within" 2 M_gives_within) (h_is_giving_row : Kn P w K mg base (pm K) 9 "is_giving_row" 2 M_is_giving_row) (h_giving_row : Kn P w K mg base (pm K) 9 "giving_row" 2 M_giving_row) (h_law_heard : Kn P w K mg base (pm K) 12 "_law_heard" 4 M_law_heard) (h_work_sums : Kn P w K mg base (pm K) 11 "work_sums" 3 M_work_sums) (h_work_of : Kn P w K mg base (pm K) 11 "work_of" 3 M_work_of) {fd : FuncData} (F : FunD K "_law_far_right" "_law_far_right" (defArgs (top 83)) (defBody (top 83)) (defScope (top 83)) [] [] (He.ga K "_law_far_right") fd) : FnOk P w K mg base (L2.CX P w) 13 (He.ga K "_law_far_right") fd [] (spM (pm K) 0 M_law_far_right) := by
  refine fn_ok (k := 12) (N := N_law_far_right) (tl := [none, none, none, none, none, none, none, none, none]) (b := sSeq (sAs (mN oTup (mCons (mN oTup (mCons (mC (.int 0)) (mCons (mC (.int 1)) (mNil)))) (mCons (mN oTup (mCons (mC (.int 1)) (mCons (mC (.int 1)) (mNil)))) (mCons (mN oTup (mCons (mC (.int 2)) (mCons (mC (.int 1)) (mNil)))) (mCons (mN oTup (mCons (m1 oNeg (mC (.int 1))) (mCons (mC (.int 1)) (mNil)))) (mNil)))))) (gEnd (gTL 4 (gCn (gNm 3) (gCn (gNm 4) (gCn (gNm 5) (gCn (gNm 6) (gNl)))))))) (sSeq (sSet 0 (m2 oIx ((fun _ L => M_law_boxes [] L)) (mC (.int 1)))) (sSeq (sPar 7 8 (mCons (mN oTup (mCons (mN oTup (mCons (mV 4) (mCons (mN oTup (mCons (mC (.int 26)) (mCons (mC (.int 25)) (mNil)))) (mNil)))) (mCons (mN oTup (mCons (mV 4) (mCons (mV 3) (mNil)))) (mNil)))) (mCons (mN oTup (mCons (mN oTup (mCons (mV 4) (mCons (mV 5) (mCons (mN oTup (mCons (mC (.int 3)) (mCons (mC (.int 1)) (mNil)))) (mCons (mN oTup (mCons (mC (.int 4)) (mCons (mC (.int 1)) (mNil)))) (mCons (mN oTup (mCons (mC (.int 5)) (mCons (mC (.int 1)) (mNil)))) (mNil))))))) (mCons (mN oTup (mCons (mV 4) (mCons (mV 3) (mCons (mV 3) (mCons (mV 3) (mCons (mV 3) (mNil))))))) (mNil)))) (mNil)))) (sSeq (sSet 1 (mN oLst (mCons (mCallT 2 M_first_gift T_first_gift (mCons (mV 7) (mCons (mC (.int 12)) (mNil)))) (mCons (mCallT 2 M_first_gift T_first_gift (mCons (mV 7) (mCons (mC (.int 10)) (mNil)))) (mCons (mCallT 2 M_gives_within T_gives_within (mCons (mV 7) (mCons (mC (.int 10)) (mNil)))) (mCons (mCallT 2 M_gives_within T_gives_within (mCons (mV 7) (mCons (mC (.int 11)) (mNil)))) (mCons (mCallT 2 M_is_giving_row T_is_giving_row (mCons (mV 7) (mCons (mCallT 2 M_giving_row T_giving_row (mCons (mV 7) (mCons (mC (.int 12)) (mNil)))) (mNil)))) (mNil)))))))) (sSeq (sSet 2 (mN oLst (mCons (mC (.int 11)) (mCons (mC .non) (mCons (mC (.bl false)) (mCons (mC (.bl true)) (mCons (mC (.bl true)) (mNil)))))))) (sSeq (sSet 1 (m2 oAdd (mV 1) (mN oLst (mCons (mCall 4 M_law_heard (mCons (mC (.int 3)) (mCons (mN oTup (mCons (mV 7) (mCons (mC (.int 10)) (mNil)))) (mCons (mC .non) (mCons (mC (.int 1)) (mNil)))))) (mCons (mCallT 2 M_is_giving_row T_is_giving_row (mCons (mV 0) (mCons (mN oTup (mCons (mN oTup (mCons (mC (.bl true)) (mCons (mC (.int 1)) (mNil)))) (mCons (mV 6) (mNil)))) (mNil)))) (mCons (mCallT 2 M_is_giving_row T_is_giving_row (mCons (mV 0) (mCons (mN oTup (mCons (mN oTup (mCons (mC (.int 1)) (mCons (mC (.bl true)) (mNil)))) (mCons (mV 6) (mNil)))) (mNil)))) (mNil))))))) (sSeq (sSet 2 (m2 oAdd (mV 2) (mN oLst (mCons (mN oLst (mCons (mC (.str [110, 111, 32, 112, 97, 112, 101, 114])) (mCons (mC (.bl true)) (mNil)))) (mCons (mC (.bl false)) (mCons (mC (.bl false)) (mNil))))))) (sSeq (sSet 1 (m2 oAdd (mV 1) (mN oLst (mCons (mCallT 3 M_work_sums T_work_sums (mCons (mV 8) (mCons (mN oTup (mCons (mV 3) (mCons (mV 3) (mCons (mV 3) (mCons (mV 3) (mNil)))))) (mCons (mN oTup (mCons (mV 4) (mCons (mV 3) (mCons (mV 6) (mCons (mV 5) (mCons (mV 4) (mCons (mV 6) (mCons (mV 3) (mCons (mV 4) (mCons (mV 4) (mNil))))))))))) (mNil))))) (mCons (mCallT 3 M_work_of T_work_of (mCons (mV 8) (mCons (mN oTup (mCons (mV 4) (mCons (mV 5) (mCons (mV 3) (mCons (mV 6) (mNil)))))) (mCons (mN oTup (mCons (mV 4) (mCons (mV 5) (mNil)))) (mNil))))) (mNil)))))) (sRet (mCall 2 M_law_same (mCons (mV 1) (mCons (m2 oAdd (mV 2) (mN oLst (mCons (mN oTup (mCons (mN oTup (mCons (mC (.int 1)) (mCons (mC (.int 1)) (mNil)))) (mCons (mN oTup (mCons (mC (.int 1)) (mCons (mC (.int 1)) (mNil)))) (mCons (mN oTup (mCons (m1 oNeg (mC (.int 1))) (mCons (mC (.int 1)) (mNil)))) (mCons (mN oTup (mCons (mC (.int 7)) (mCons (mC (.int 1)) (mNil)))) (mCons (mN oTup (mCons (mC (.int 14)) (mCons (mC (.int 1)) (mNil)))) (mCons (mN oTup (mCons (mC (.int 11)) (mCons (mC (.int 1)) (mNil)))) (mCons (mN oTup (mCons (mC (.int 11)) (mCons (mC (.int 1)) (mNil)))) (mCons (mN oTup (mCons (mC (.int 23)) (mCons (mC (.int 1)) (mNil)))) (mCons (mN oTup (mCons (mC (.int 27)) (mCons (mC (.int 1)) (mNil)))) (mNil))))))))))) (mCons (mN oTup (mCons (mC (.int 34)) (mCons (mC (.int 1)) (mNil)))) (mNil))))) (mNil))))))))))))) F sc_law_far_right rfl rfl (fun cdv A outer s H E hr => ?_)
  have nd : N_law_far_right.Nodup := sc_law_far_right.nd
  have tk : Takes (cxOf (L2.CX P w) P w K mg base N_law_far_right "_law_far_right" (defScope (top 83)) (He.ga K "_law_far_right") cdv A outer s H E) (fun cls d _ H' => E cls d H') := takes_of rfl rfl rfl rfl
  have po : PassesOwn (model P w) (cxOf (L2.CX P w) P w K mg base N_law_far_right "_law_far_right" (defScope (top 83)) (He.ga K "_law_far_right") cdv A outer s H E).A (cxOf (L2.CX P w) P w K mg base N_law_far_right "_law_far_right" (defScope (top 83)) (He.ga K "_law_far_right") cdv A outer s H E).env (cxOf (L2.CX P w) P w K mg base N_law_far_right "_law_far_right" (defScope (top 83)) (He.ga K "_law_far_right") cdv A outer s H E).xe := passes_of (X := cxOf (L2.CX P w) P w K mg base N_law_far_right "_law_far_right" (defScope (top 83)) (He.ga K "_law_far_right") cdv A outer s H E) rfl
  exact (es_cons (es_asg (ee_tup (ea_cons (ee_tup (ea_cons ee_int (ea_cons ee_int ea_nil))) (ea_cons (ee_tup (ea_cons ee_int (ea_cons ee_int ea_nil))) (ea_cons (ee_tup (ea_cons ee_int (ea_cons ee_int ea_nil))) (ea_cons (ee_tup (ea_cons (b_neg ee_int) (ea_cons ee_int ea_nil))) ea_nil))))) (eg_tl rfl rfl (egs_cons (eg_name (g_name nd)) (egs_cons (eg_name (g_name nd)) (egs_cons (eg_name (g_name nd)) (egs_cons (eg_name (g_name nd)) egs_nil))))))
    (es_cons (s_set nd (b_ix rfl (ee_call0 h_law_boxes hr (by decide) tk) ee_int))
    (es_cons (s_par rfl nd (ea_cons (ee_tup (ea_cons (ee_tup (ea_cons (ee_var 4 (pv 4)) (ea_cons (ee_tup (ea_cons ee_int (ea_cons ee_int ea_nil))) ea_nil))) (ea_cons (ee_tup (ea_cons (ee_var 4 (pv 4)) (ea_cons (ee_var 3 (pv 3)) ea_nil))) ea_nil))) (ea_cons (ee_tup (ea_cons (ee_tup (ea_cons (ee_var 4 (pv 4)) (ea_cons (ee_var 5 (pv 5)) (ea_cons (ee_tup (ea_cons ee_int (ea_cons ee_int ea_nil))) (ea_cons (ee_tup (ea_cons ee_int (ea_cons ee_int ea_nil))) (ea_cons (ee_tup (ea_cons ee_int (ea_cons ee_int ea_nil))) ea_nil)))))) (ea_cons (ee_tup (ea_cons (ee_var 4 (pv 4)) (ea_cons (ee_var 3 (pv 3)) (ea_cons (ee_var 3 (pv 3)) (ea_cons (ee_var 3 (pv 3)) (ea_cons (ee_var 3 (pv 3)) ea_nil)))))) ea_nil))) ea_nil)) (by decide))
    (es_cons (s_set nd (ee_lst (ea_cons (ee_callT kt_first_gift h_first_gift hr (by decide) tk (ea_cons (ee_var 7 (pv 7)) (ea_cons ee_int ea_nil))) (ea_cons (ee_callT kt_first_gift h_first_gift hr (by decide) tk (ea_cons (ee_var 7 (pv 7)) (ea_cons ee_int ea_nil))) (ea_cons (ee_callT kt_gives_within h_gives_within hr (by decide) tk (ea_cons (ee_var 7 (pv 7)) (ea_cons ee_int ea_nil))) (ea_cons (ee_callT kt_gives_within h_gives_within hr (by decide) tk (ea_cons (ee_var 7 (pv 7)) (ea_cons ee_int ea_nil))) (ea_cons (ee_callT kt_is_giving_row h_is_giving_row hr (by decide) tk (ea_cons (ee_var 7 (pv 7)) (ea_cons (ee_callT kt_giving_row h_giving_row hr (by decide) tk (ea_cons (ee_var 7 (pv 7)) (ea_cons ee_int ea_nil))) ea_nil))) ea_nil)))))))
    (es_cons (s_set nd (ee_lst (ea_cons ee_int (ea_cons ee_non (ea_cons ee_bl (ea_cons ee_bl (ea_cons ee_bl ea_nil)))))))
    (es_cons (s_set nd (b_add rfl (ee_var 1 (pv 1)) (ee_lst (ea_cons (ee_call h_law_heard hr (by decide) tk (ea_cons ee_int (ea_cons (ee_tup (ea_cons (ee_var 7 (pv 7)) (ea_cons ee_int ea_nil))) (ea_cons ee_non (ea_cons ee_int ea_nil))))) (ea_cons (ee_callT kt_is_giving_row h_is_giving_row hr (by decide) tk (ea_cons (ee_var 0 (pv 0)) (ea_cons (ee_tup (ea_cons (ee_tup (ea_cons ee_bl (ea_cons ee_int ea_nil))) (ea_cons (ee_var 6 (pv 6)) ea_nil))) ea_nil))) (ea_cons (ee_callT kt_is_giving_row h_is_giving_row hr (by decide) tk (ea_cons (ee_var 0 (pv 0)) (ea_cons (ee_tup (ea_cons (ee_tup (ea_cons ee_int (ea_cons ee_bl ea_nil))) (ea_cons (ee_var 6 (pv 6)) ea_nil))) ea_nil))) ea_nil))))))
    (es_cons (s_set nd (b_add rfl (ee_var 2 (pv 2)) (ee_lst (ea_cons (ee_lst (ea_cons (ee_str rfl) (ea_cons ee_bl ea_nil))) (ea_cons ee_bl (ea_cons ee_bl ea_nil))))))
    (es_cons (s_set nd (b_add rfl (ee_var 1 (pv 1)) (ee_lst (ea_cons (ee_callT kt_work_sums h_work_sums hr (by decide) tk (ea_cons (ee_var 8 (pv 8)) (ea_cons (ee_tup (ea_cons (ee_var 3 (pv 3)) (ea_cons (ee_var 3 (pv 3)) (ea_cons (ee_var 3 (pv 3)) (ea_cons (ee_var 3 (pv 3)) ea_nil))))) (ea_cons (ee_tup (ea_cons (ee_var 4 (pv 4)) (ea_cons (ee_var 3 (pv 3)) (ea_cons (ee_var 6 (pv 6)) (ea_cons (ee_var 5 (pv 5)) (ea_cons (ee_var 4 (pv 4)) (ea_cons (ee_var 6 (pv 6)) (ea_cons (ee_var 3 (pv 3)) (ea_cons (ee_var 4 (pv 4)) (ea_cons (ee_var 4 (pv 4)) ea_nil)))))))))) ea_nil)))) (ea_cons (ee_callT kt_work_of h_work_of hr (by decide) tk (ea_cons (ee_var 8 (pv 8)) (ea_cons (ee_tup (ea_cons (ee_var 4 (pv 4)) (ea_cons (ee_var 5 (pv 5)) (ea_cons (ee_var 3 (pv 3)) (ea_cons (ee_var 6 (pv 6)) ea_nil))))) (ea_cons (ee_tup (ea_cons (ee_var 4 (pv 4)) (ea_cons (ee_var 5 (pv 5)) ea_nil))) ea_nil)))) ea_nil)))))
    (es_one (es_ret (ee_call h_law_same hr (by decide) tk (ea_cons (ee_var 1 (pv 1)) (ea_cons (b_add rfl (ee_var 2 (pv 2)) (ee_lst (ea_cons (ee_tup (ea_cons (ee_tup (ea_cons ee_int (ea_cons ee_int ea_nil))) (ea_cons (ee_tup (ea_cons ee_int (ea_cons ee_int ea_nil))) (ea_cons (ee_tup (ea_cons (b_neg ee_int) (ea_cons ee_int ea_nil))) (ea_cons (ee_tup (ea_cons ee_int (ea_cons ee_int ea_nil))) (ea_cons (ee_tup (ea_cons ee_int (ea_cons ee_int ea_nil))) (ea_cons (ee_tup (ea_cons ee_int (ea_cons ee_int ea_nil))) (ea_cons (ee_tup (ea_cons ee_int (ea_cons ee_int ea_nil))) (ea_cons (ee_tup (ea_cons ee_int (ea_cons ee_int ea_nil))) (ea_cons (ee_tup (ea_cons ee_int (ea_cons ee_int ea_nil))) ea_nil)))))))))) (ea_cons (ee_tup (ea_cons ee_int (ea_cons ee_int ea_nil))) ea_nil)))) ea_nil)))))))))))))
theorem ok_law_far_right {P : Program} {w : World} {K : PySem.W.Frag} {mg : Str → Option Value} {base : Heap} (G : Gf K mg) (h_law_same : Kn P w K mg base (pm K) 12 "_law_same" 2 M_law_same) (h_law_boxes : Kn P w K mg base (pm K) 1 "_law_boxes" 0 M_law_boxes) (h_first_gift : Kn P w K mg base (pm K) 9 "first_gift" 2 M_first_gift) (h_gives_within : Kn P w K mg base (pm K) 9 "gives_within" 2 M_gives_within) (h_is_giving_row : Kn P w K mg base (pm K) 9 "is_giving_row" 2 M_is_giving_row) (h_giving_row : Kn P w K mg base (pm K) 9 "giving_row" 2 M_giving_row) (h_law_heard : Kn P w K mg base (pm K) 12 "_law_heard" 4 M_law_heard) (h_work_sums : Kn P w K mg base (pm K) 11 "work_sums" 3 M_work_sums) (h_work_of : Kn P w K mg base (pm K) 11 "work_of" 3 M_work_of) : Kn P w K mg base (pm K) 13 "_law_far_right" 0 M_law_far_right := by
  obtain ⟨fd, F⟩ := G.d__law_far_right
  exact ⟨_, fd, _, fo_law_far_right G h_law_same h_law_boxes h_first_gift h_gives_within h_is_giving_row h_giving_row h_law_heard h_work_sums h_work_of  F, G.a__law_far_right, F.kp, (F.bindsN fun _ _ _ _ _ _ us hl => match us, hl with | [], _ => rfl)⟩
abbrev N_law_turned_right : List Str := ["got", "due", "none", "one", "two", "less", "spring", "lag", "rub", "mass"]
theorem sc_law_turned_right : FnScope N_law_turned_right [] (defScope (top 84)) := ⟨rfl, rfl, rfl, by decide +kernel, rfl, by decide +kernel, by decide +kernel⟩
noncomputable def M_law_turned_right : Fn' := fnM [none, none, none, none, none, none, none, none, none, none] (sSeq (sAs (mN oTup (mCons (mN oTup (mCons (mC (.int 0)) (mCons (mC (.int 1)) (mNil)))) (mCons (mN oTup (mCons (mC (.int 1)) (mCons (mC (.int 1)) (mNil)))) (mCons (mN oTup (mCons (mC (.int 2)) (mCons (mC (.int 1)) (mNil)))) (mCons (mN oTup (mCons (m1 oNeg (mC (.int 1))) (mCons (mC (.int 1)) (mNil)))) (mNil)))))) (gEnd (gTL 4 (gCn (gNm 2) (gCn (gNm 3) (gCn (gNm 4) (gCn (gNm 5) (gNl)))))))) (sSeq (sAs ((fun _ L => M_law_boxes [] L)) (gEnd (gTL 4 (gCn (gNm 6) (gCn (gNm 7) (gCn (gNm 8) (gCn (gNm 9) (gNl)))))))) (sSeq (sSet 0 (mN oLst (mCons (mCallT 2 M_turned_row T_turned_row (mCons (mV 6) (mCons (mN oTup (mCons (mV 3) (mCons (mV 2) (mCons (mV 2) (mNil))))) (mNil)))) (mCons (mCallT 2 M_turned_row T_turned_row (mCons (mV 8) (mCons (mN oTup (mCons (mV 4) (mNil))) (mNil)))) (mCons (mCallT 2 M_turned_row T_turned_row (mCons (mV 6) (mCons (mN oTup (mNil)) (mNil)))) (mCons (mCall 4 M_law_heard (mCons (mC (.int 3)) (mCons (mN oTup (mCons (mV 7) (mCons (mN oTup (mCons (mV 3) (mNil))) (mNil)))) (mCons (mC .non) (mCons (mC (.int 4)) (mNil)))))) (mNil))))))) (sSeq (sEx (mMethL (mV 0) (mCons (mCall 4 M_law_heard (mCons (mC (.int 3)) (mCons (mN oTup (mCons (mV 7) (mCons (mN oTup (mNil)) (mNil)))) (mCons (mC .non) (mCons (mC (.int 4)) (mNil)))))) (mNil)) oApp)) (sSeq (sSet 1 (m2 oAdd (mN oLst (mCons (mN oTup (mCons (mN oTup (mCons (mC (.int 1)) (mCons (mC (.int 1)) (mNil)))) (mCons (mN oTup (mCons (mC (.int 2)) (mCons (mC (.int 1)) (mNil)))) (mCons (mN oTup (mCons (mC (.int 2)) (mCons (mC (.int 1)) (mNil)))) (mNil))))) (mCons (mN oTup (mCons (mN oTup (mCons (mC (.int 1)) (mCons (mC (.int 1)) (mNil)))) (mNil))) (mCons (mN oTup (mNil)) (mNil))))) (m2 oMul (mN oLst (mCons (mN oLst (mCons (mC (.str [99, 97, 110, 32, 110, 111, 116])) (mCons (mC (.bl true)) (mNil)))) (mNil))) (mC (.int 2))))) (sSeq (sSet 0 (m2 oAdd (mV 0) (mN oLst (mCons (mCallT 3 M_work_of_sum T_work_of_sum (mCons (mV 6) (mCons (mV 7) (mCons (mN oTup (mCons (mV 3) (mCons (mV 5) (mNil)))) (mNil))))) (mCons (mCallT 3 M_work_of_sum T_work_of_sum (mCons (mV 7) (mCons (mV 7) (mCons (mN oTup (mCons (mV 3) (mCons (mV 3) (mNil)))) (mNil))))) (mCons (mCallT 3 M_work_of_sum T_work_of_sum (mCons (mV 8) (mCons (mV 6) (mCons (mN oTup (mNil)) (mNil))))) (mNil))))))) (sRet (mCall 2 M_law_same (mCons (mV 0) (mCons (m2 oAdd (mV 1) (mN oLst (mCons (mN oTup (mCons (mN oTup (mCons (mC (.int 0)) (mCons (mC (.int 1)) (mNil)))) (mCons (mN oTup (mCons (m1 oNeg (mC (.int 1))) (mCons (mC (.int 1)) (mNil)))) (mNil)))) (mCons (mN oTup (mCons (mN oTup (mCons (mC (.int 1)) (mCons (mC (.int 1)) (mNil)))) (mCons (mN oTup (mCons (mC (.int 1)) (mCons (mC (.int 1)) (mNil)))) (mNil)))) (mCons (mN oTup (mCons (mN oTup (mCons (mC (.int 0)) (mCons (mC (.int 1)) (mNil)))) (mCons (mN oTup (mCons (mC (.int 0)) (mCons (mC (.int 1)) (mNil)))) (mNil)))) (mNil)))))) (mNil)))))))))))
theorem ev_law_turned_right : isT (M_law_turned_right [] L0) = true := by decide +kernel
theorem fo_law_turned_right {P : Program} {w : World} {K : PySem.W.Frag} {mg : Str → Option Value} {base : Heap} (G : Gf K mg) (h_law_boxes : Kn P w K mg base (pm K) 1 "_law_boxes" 0 M_law_boxes) (h_law_same : Kn P w K mg base (pm K) 12 "_law_same" 2 M_law_same) (h_turned_row : Kn P w K mg base (pm K) 9 "turned_row" 2 M_turned_row) (h_law_heard : Kn P w K mg base (pm K) 12 "_law_heard" 4 M_law_heard) (h_work_of_sum : Kn P w K mg base (pm K) 9 "work_of_sum" 3 M_work_of_sum) {fd : FuncData} (F : FunD K "_law_turned_right" "_law_turned_right" (defArgs (top 84)) (defBody (top 84)) (defScope (top 84)) [] [] (He.ga K "_law_turned_right") fd) : FnOk P w K mg base (L2.CX P w) 13 (He.ga K "_law_turned_right") fd [] (spM (pm K) 0 M_law_turned_right) := by
  refine fn_ok (k := 12) (N := N_law_turned_right) (tl := [none, none, none, none, none, none, none, none, none, none]) (b := sSeq (sAs (mN oTup (mCons (mN oTup (mCons (mC (.int 0)) (mCons (mC (.int 1)) (mNil)))) (mCons (mN oTup (mCons (mC (.int 1)) (mCons (mC (.int 1)) (mNil)))) (mCons (mN oTup (mCons (mC (.int 2)) (mCons (mC (.int 1)) (mNil)))) (mCons (mN oTup (mCons (m1 oNeg (mC (.int 1))) (mCons (mC (.int 1)) (mNil)))) (mNil)))))) (gEnd (gTL 4 (gCn (gNm 2) (gCn (gNm 3) (gCn (gNm 4) (gCn (gNm 5) (gNl)))))))) (sSeq (sAs ((fun _ L => M_law_boxes [] L)) (gEnd (gTL 4 (gCn (gNm 6) (gCn (gNm 7) (gCn (gNm 8) (gCn (gNm 9) (gNl)))))))) (sSeq (sSet 0 (mN oLst (mCons (mCallT 2 M_turned_row T_turned_row (mCons (mV 6) (mCons (mN oTup (mCons (mV 3) (mCons (mV 2) (mCons (mV 2) (mNil))))) (mNil)))) (mCons (mCallT 2 M_turned_row T_turned_row (mCons (mV 8) (mCons (mN oTup (mCons (mV 4) (mNil))) (mNil)))) (mCons (mCallT 2 M_turned_row T_turned_row (mCons (mV 6) (mCons (mN oTup (mNil)) (mNil)))) (mCons (mCall 4 M_law_heard (mCons (mC (.int 3)) (mCons (mN oTup (mCons (mV 7) (mCons (mN oTup (mCons (mV 3) (mNil))) (mNil)))) (mCons (mC .non) (mCons (mC (.int 4)) (mNil)))))) (mNil))))))) (sSeq (sEx (mMethL (mV 0) (mCons (mCall 4 M_law_heard (mCons (mC (.int 3)) (mCons (mN oTup (mCons (mV 7) (mCons (mN oTup (mNil)) (mNil)))) (mCons (mC .non) (mCons (mC (.int 4)) (mNil)))))) (mNil)) oApp)) (sSeq (sSet 1 (m2 oAdd (mN oLst (mCons (mN oTup (mCons (mN oTup (mCons (mC (.int 1)) (mCons (mC (.int 1)) (mNil)))) (mCons (mN oTup (mCons (mC (.int 2)) (mCons (mC (.int 1)) (mNil)))) (mCons (mN oTup (mCons (mC (.int 2)) (mCons (mC (.int 1)) (mNil)))) (mNil))))) (mCons (mN oTup (mCons (mN oTup (mCons (mC (.int 1)) (mCons (mC (.int 1)) (mNil)))) (mNil))) (mCons (mN oTup (mNil)) (mNil))))) (m2 oMul (mN oLst (mCons (mN oLst (mCons (mC (.str [99, 97, 110, 32, 110, 111, 116])) (mCons (mC (.bl true)) (mNil)))) (mNil))) (mC (.int 2))))) (sSeq (sSet 0 (m2 oAdd (mV 0) (mN oLst (mCons (mCallT 3 M_work_of_sum T_work_of_sum (mCons (mV 6) (mCons (mV 7) (mCons (mN oTup (mCons (mV 3) (mCons (mV 5) (mNil)))) (mNil))))) (mCons (mCallT 3 M_work_of_sum T_work_of_sum (mCons (mV 7) (mCons (mV 7) (mCons (mN oTup (mCons (mV 3) (mCons (mV 3) (mNil)))) (mNil))))) (mCons (mCallT 3 M_work_of_sum T_work_of_sum (mCons (mV 8) (mCons (mV 6) (mCons (mN oTup (mNil)) (mNil))))) (mNil))))))) (sRet (mCall 2 M_law_same (mCons (mV 0) (mCons (m2 oAdd (mV 1) (mN oLst (mCons (mN oTup (mCons (mN oTup (mCons (mC (.int 0)) (mCons (mC (.int 1)) (mNil)))) (mCons (mN oTup (mCons (m1 oNeg (mC (.int 1))) (mCons (mC (.int 1)) (mNil)))) (mNil)))) (mCons (mN oTup (mCons (mN oTup (mCons (mC (.int 1)) (mCons (mC (.int 1)) (mNil)))) (mCons (mN oTup (mCons (mC (.int 1)) (mCons (mC (.int 1)) (mNil)))) (mNil)))) (mCons (mN oTup (mCons (mN oTup (mCons (mC (.int 0)) (mCons (mC (.int 1)) (mNil)))) (mCons (mN oTup (mCons (mC (.int 0)) (mCons (mC (.int 1)) (mNil)))) (mNil)))) (mNil)))))) (mNil))))))))))) F sc_law_turned_right rfl rfl (fun cdv A outer s H E hr => ?_)
  have nd : N_law_turned_right.Nodup := sc_law_turned_right.nd
  have tk : Takes (cxOf (L2.CX P w) P w K mg base N_law_turned_right "_law_turned_right" (defScope (top 84)) (He.ga K "_law_turned_right") cdv A outer s H E) (fun cls d _ H' => E cls d H') := takes_of rfl rfl rfl rfl
  have po : PassesOwn (model P w) (cxOf (L2.CX P w) P w K mg base N_law_turned_right "_law_turned_right" (defScope (top 84)) (He.ga K "_law_turned_right") cdv A outer s H E).A (cxOf (L2.CX P w) P w K mg base N_law_turned_right "_law_turned_right" (defScope (top 84)) (He.ga K "_law_turned_right") cdv A outer s H E).env (cxOf (L2.CX P w) P w K mg base N_law_turned_right "_law_turned_right" (defScope (top 84)) (He.ga K "_law_turned_right") cdv A outer s H E).xe := passes_of (X := cxOf (L2.CX P w) P w K mg base N_law_turned_right "_law_turned_right" (defScope (top 84)) (He.ga K "_law_turned_right") cdv A outer s H E) rfl
  exact (es_cons (es_asg (ee_tup (ea_cons (ee_tup (ea_cons ee_int (ea_cons ee_int ea_nil))) (ea_cons (ee_tup (ea_cons ee_int (ea_cons ee_int ea_nil))) (ea_cons (ee_tup (ea_cons ee_int (ea_cons ee_int ea_nil))) (ea_cons (ee_tup (ea_cons (b_neg ee_int) (ea_cons ee_int ea_nil))) ea_nil))))) (eg_tl rfl rfl (egs_cons (eg_name (g_name nd)) (egs_cons (eg_name (g_name nd)) (egs_cons (eg_name (g_name nd)) (egs_cons (eg_name (g_name nd)) egs_nil))))))
    (es_cons (es_asg (ee_call0 h_law_boxes hr (by decide) tk) (eg_tl rfl rfl (egs_cons (eg_name (g_name nd)) (egs_cons (eg_name (g_name nd)) (egs_cons (eg_name (g_name nd)) (egs_cons (eg_name (g_name nd)) egs_nil))))))
    (es_cons (s_set nd (ee_lst (ea_cons (ee_callT kt_turned_row h_turned_row hr (by decide) tk (ea_cons (ee_var 6 (pv 6)) (ea_cons (ee_tup (ea_cons (ee_var 3 (pv 3)) (ea_cons (ee_var 2 (pv 2)) (ea_cons (ee_var 2 (pv 2)) ea_nil)))) ea_nil))) (ea_cons (ee_callT kt_turned_row h_turned_row hr (by decide) tk (ea_cons (ee_var 8 (pv 8)) (ea_cons (ee_tup (ea_cons (ee_var 4 (pv 4)) ea_nil)) ea_nil))) (ea_cons (ee_callT kt_turned_row h_turned_row hr (by decide) tk (ea_cons (ee_var 6 (pv 6)) (ea_cons (ee_tup ea_nil) ea_nil))) (ea_cons (ee_call h_law_heard hr (by decide) tk (ea_cons ee_int (ea_cons (ee_tup (ea_cons (ee_var 7 (pv 7)) (ea_cons (ee_tup (ea_cons (ee_var 3 (pv 3)) ea_nil)) ea_nil))) (ea_cons ee_non (ea_cons ee_int ea_nil))))) ea_nil))))))
    (es_cons (es_ex (ee_append (ee_var 0 (pv 0)) (ea_cons (ee_call h_law_heard hr (by decide) tk (ea_cons ee_int (ea_cons (ee_tup (ea_cons (ee_var 7 (pv 7)) (ea_cons (ee_tup ea_nil) ea_nil))) (ea_cons ee_non (ea_cons ee_int ea_nil))))) ea_nil)))
    (es_cons (s_set nd (b_add rfl (ee_lst (ea_cons (ee_tup (ea_cons (ee_tup (ea_cons ee_int (ea_cons ee_int ea_nil))) (ea_cons (ee_tup (ea_cons ee_int (ea_cons ee_int ea_nil))) (ea_cons (ee_tup (ea_cons ee_int (ea_cons ee_int ea_nil))) ea_nil)))) (ea_cons (ee_tup (ea_cons (ee_tup (ea_cons ee_int (ea_cons ee_int ea_nil))) ea_nil)) (ea_cons (ee_tup ea_nil) ea_nil)))) (b_mul rfl (ee_lst (ea_cons (ee_lst (ea_cons (ee_str rfl) (ea_cons ee_bl ea_nil))) ea_nil)) ee_int)))
    (es_cons (s_set nd (b_add rfl (ee_var 0 (pv 0)) (ee_lst (ea_cons (ee_callT kt_work_of_sum h_work_of_sum hr (by decide) tk (ea_cons (ee_var 6 (pv 6)) (ea_cons (ee_var 7 (pv 7)) (ea_cons (ee_tup (ea_cons (ee_var 3 (pv 3)) (ea_cons (ee_var 5 (pv 5)) ea_nil))) ea_nil)))) (ea_cons (ee_callT kt_work_of_sum h_work_of_sum hr (by decide) tk (ea_cons (ee_var 7 (pv 7)) (ea_cons (ee_var 7 (pv 7)) (ea_cons (ee_tup (ea_cons (ee_var 3 (pv 3)) (ea_cons (ee_var 3 (pv 3)) ea_nil))) ea_nil)))) (ea_cons (ee_callT kt_work_of_sum h_work_of_sum hr (by decide) tk (ea_cons (ee_var 8 (pv 8)) (ea_cons (ee_var 6 (pv 6)) (ea_cons (ee_tup ea_nil) ea_nil)))) ea_nil))))))
    (es_one (es_ret (ee_call h_law_same hr (by decide) tk (ea_cons (ee_var 0 (pv 0)) (ea_cons (b_add rfl (ee_var 1 (pv 1)) (ee_lst (ea_cons (ee_tup (ea_cons (ee_tup (ea_cons ee_int (ea_cons ee_int ea_nil))) (ea_cons (ee_tup (ea_cons (b_neg ee_int) (ea_cons ee_int ea_nil))) ea_nil))) (ea_cons (ee_tup (ea_cons (ee_tup (ea_cons ee_int (ea_cons ee_int ea_nil))) (ea_cons (ee_tup (ea_cons ee_int (ea_cons ee_int ea_nil))) ea_nil))) (ea_cons (ee_tup (ea_cons (ee_tup (ea_cons ee_int (ea_cons ee_int ea_nil))) (ea_cons (ee_tup (ea_cons ee_int (ea_cons ee_int ea_nil))) ea_nil))) ea_nil))))) ea_nil)))))))))))
theorem ok_law_turned_right {P : Program} {w : World} {K : PySem.W.Frag} {mg : Str → Option Value} {base : Heap} (G : Gf K mg) (h_law_boxes : Kn P w K mg base (pm K) 1 "_law_boxes" 0 M_law_boxes) (h_law_same : Kn P w K mg base (pm K) 12 "_law_same" 2 M_law_same) (h_turned_row : Kn P w K mg base (pm K) 9 "turned_row" 2 M_turned_row) (h_law_heard : Kn P w K mg base (pm K) 12 "_law_heard" 4 M_law_heard) (h_work_of_sum : Kn P w K mg base (pm K) 9 "work_of_sum" 3 M_work_of_sum) : Kn P w K mg base (pm K) 13 "_law_turned_right" 0 M_law_turned_right := by
  obtain ⟨fd, F⟩ := G.d__law_turned_right
  exact ⟨_, fd, _, fo_law_turned_right G h_law_boxes h_law_same h_turned_row h_law_heard h_work_of_sum  F, G.a__law_turned_right, F.kp, (F.bindsN fun _ _ _ _ _ _ us hl => match us, hl with | [], _ => rfl)⟩
abbrev N_law_whole : List Str := ["script"]
theorem sc_law_whole : FnScope N_law_whole ["script"] (defScope (top 87)) := ⟨rfl, rfl, rfl, by decide +kernel, rfl, by decide +kernel, by decide +kernel⟩
noncomputable def M_law_whole : Fn' := fnM [] (sSeq (sIf (mOrB (mNotB (mTru (mC (.bl true)))) (mOrB (mNotB (mTru (mC (.bl true)))) (mOrB (mNotB (mTru (mC (.bl true)))) (mNotB (mTru (mC (.bl true))))))) (sRet (mC (.bl false))) (sNil)) (sRet (mAndV (mC (.bl true)) (mC (.bl true)))))
theorem fo_law_whole {P : Program} {w : World} {K : PySem.W.Frag} {mg : Str → Option Value} {base : Heap} (G : Gf K mg) (h_law_refused_right : Kn P w K mg base (pm K) 13 "_law_refused_right" 0 M_law_refused_right) (h_law_names_right : Kn P w K mg base (pm K) 13 "_law_names_right" 0 M_law_names_right) (h_law_works_right : Kn P w K mg base (pm K) 13 "_law_works_right" 0 M_law_works_right) (h_law_gifts_right : Kn P w K mg base (pm K) 13 "_law_gifts_right" 0 M_law_gifts_right) (h_law_far_right : Kn P w K mg base (pm K) 13 "_law_far_right" 0 M_law_far_right) (h_law_turned_right : Kn P w K mg base (pm K) 13 "_law_turned_right" 0 M_law_turned_right) {fd : FuncData} (F : FunD K "_law_whole" "_law_whole" (defArgs (top 87)) (defBody (top 87)) (defScope (top 87)) [] [] (He.ga K "_law_whole") fd) : FnOk P w K mg base (L2.CX P w) 14 (He.ga K "_law_whole") fd ["script"] (spM (pm K) 1 M_law_whole) := by
  refine fn_ok (k := 13) (N := N_law_whole) (tl := []) (b := sSeq (sIf (mOrB (mNotB (mTru (mC (.bl true)))) (mOrB (mNotB (mTru (mC (.bl true)))) (mOrB (mNotB (mTru (mC (.bl true)))) (mNotB (mTru (mC (.bl true))))))) (sRet (mC (.bl false))) (sNil)) (sRet (mAndV (mC (.bl true)) (mC (.bl true))))) F sc_law_whole rfl rfl (fun cdv A outer s H E hr => ?_)
  have nd : N_law_whole.Nodup := sc_law_whole.nd
  have tk : Takes (cxOf (L2.CX P w) P w K mg base N_law_whole "_law_whole" (defScope (top 87)) (He.ga K "_law_whole") cdv A outer s H E) (fun cls d _ H' => E cls d H') := takes_of rfl rfl rfl rfl
  have po : PassesOwn (model P w) (cxOf (L2.CX P w) P w K mg base N_law_whole "_law_whole" (defScope (top 87)) (He.ga K "_law_whole") cdv A outer s H E).A (cxOf (L2.CX P w) P w K mg base N_law_whole "_law_whole" (defScope (top 87)) (He.ga K "_law_whole") cdv A outer s H E).env (cxOf (L2.CX P w) P w K mg base N_law_whole "_law_whole" (defScope (top 87)) (He.ga K "_law_whole") cdv A outer s H E).xe := passes_of (X := cxOf (L2.CX P w) P w K mg base N_law_whole "_law_whole" (defScope (top 87)) (He.ga K "_law_whole") cdv A outer s H E) rfl
  exact (es_cons (es_if (et_w (ew_or (et_not (et_tru rfl (ee_call0T ev_law_works_right h_law_works_right hr (by decide) tk))) (ew_or (et_not (et_tru rfl (ee_call0T ev_law_gifts_right h_law_gifts_right hr (by decide) tk))) (ew_or (et_not (et_tru rfl (ee_call0T ev_law_far_right h_law_far_right hr (by decide) tk))) (ew_or1 (et_not (et_tru rfl (ee_call0T ev_law_turned_right h_law_turned_right hr (by decide) tk)))))))) (es_one (es_ret ee_bl)) es_nil)
    (es_one (es_ret (ee_and rfl (ee_call0T ev_law_refused_right h_law_refused_right hr (by decide) tk) (ee_one (ee_call0T ev_law_names_right h_law_names_right hr (by decide) tk))))))
theorem ok_law_whole {P : Program} {w : World} {K : PySem.W.Frag} {mg : Str → Option Value} {base : Heap} (G : Gf K mg) (h_law_refused_right : Kn P w K mg base (pm K) 13 "_law_refused_right" 0 M_law_refused_right) (h_law_names_right : Kn P w K mg base (pm K) 13 "_law_names_right" 0 M_law_names_right) (h_law_works_right : Kn P w K mg base (pm K) 13 "_law_works_right" 0 M_law_works_right) (h_law_gifts_right : Kn P w K mg base (pm K) 13 "_law_gifts_right" 0 M_law_gifts_right) (h_law_far_right : Kn P w K mg base (pm K) 13 "_law_far_right" 0 M_law_far_right) (h_law_turned_right : Kn P w K mg base (pm K) 13 "_law_turned_right" 0 M_law_turned_right) : Kn P w K mg base (pm K) 14 "_law_whole" 1 M_law_whole := by
  obtain ⟨fd, F⟩ := G.d__law_whole
  exact ⟨_, fd, _, fo_law_whole G h_law_refused_right h_law_names_right h_law_works_right h_law_gifts_right h_law_far_right h_law_turned_right  F, G.a__law_whole, F.kp, (F.bindsN fun _ _ _ _ _ _ us hl => match us, hl with | [_], _ => rfl)⟩
abbrev N_law : List Str := ["script", "told"]
theorem sc_law : FnScope N_law ["script"] (defScope (top 88)) := ⟨rfl, rfl, rfl, by decide +kernel, rfl, by decide +kernel, by decide +kernel⟩
noncomputable def M_law : Fn' := fnM [none] (sSeq (sSet 1 (mC (.bl false))) (sSeq (sTry 4 (sSet 1 (mCall 1 M_law_whole (mCons (mV 0) (mNil)))) [(0, sSet 1 (mC (.bl false))), (1, sSet 1 (mC (.bl false))), (2, sSet 1 (mC (.bl false))), (3, sSet 1 (mC (.bl false)))]) (sRet (mV 1))))
theorem fo_law {P : Program} {w : World} {K : PySem.W.Frag} {mg : Str → Option Value} {base : Heap} (G : Gf K mg) (h_law_whole : Kn P w K mg base (pm K) 14 "_law_whole" 1 M_law_whole) {fd : FuncData} (F : FunD K "law" "law" (defArgs (top 88)) (defBody (top 88)) (defScope (top 88)) [] [] (He.ga K "law") fd) : FnOk P w K mg base (L2.CX P w) 15 (He.ga K "law") fd ["script"] (spM (pm K) 1 M_law) := by
  refine fn_ok (k := 14) (N := N_law) (tl := [none]) (b := sSeq (sSet 1 (mC (.bl false))) (sSeq (sTry 4 (sSet 1 (mCall 1 M_law_whole (mCons (mV 0) (mNil)))) [(0, sSet 1 (mC (.bl false))), (1, sSet 1 (mC (.bl false))), (2, sSet 1 (mC (.bl false))), (3, sSet 1 (mC (.bl false)))]) (sRet (mV 1)))) F sc_law rfl rfl (fun cdv A outer s H E hr => ?_)
  have nd : N_law.Nodup := sc_law.nd
  have tk : Takes (cxOf (L2.CX P w) P w K mg base N_law "law" (defScope (top 88)) (He.ga K "law") cdv A outer s H E) (fun cls d _ H' => E cls d H') := takes_of rfl rfl rfl rfl
  have po : PassesOwn (model P w) (cxOf (L2.CX P w) P w K mg base N_law "law" (defScope (top 88)) (He.ga K "law") cdv A outer s H E).A (cxOf (L2.CX P w) P w K mg base N_law "law" (defScope (top 88)) (He.ga K "law") cdv A outer s H E).env (cxOf (L2.CX P w) P w K mg base N_law "law" (defScope (top 88)) (He.ga K "law") cdv A outer s H E).xe := passes_of (X := cxOf (L2.CX P w) P w K mg base N_law "law" (defScope (top 88)) (He.ga K "law") cdv A outer s H E) rfl
  exact (es_cons (s_set nd ee_bl)
    (es_cons (es_try rfl rfl tk G.xm (by simp) (fun _ _ _ tk' po' => (es_one (s_set nd (ee_call h_law_whole hr (by decide) tk' (ea_cons (ee_var 0 (pv 0)) ea_nil))))) (.cons ⟨rfl, by decide, .inl G.x_Unfit.gC⟩ (fun _ _ _ _ _ => (es_one (s_set nd ee_bl))) (.cons ⟨rfl, by decide, .inl G.x_CanNot.gC⟩ (fun _ _ _ _ _ => (es_one (s_set nd ee_bl))) (.cons ⟨rfl, by decide, .inl G.x_NoPaper.gC⟩ (fun _ _ _ _ _ => (es_one (s_set nd ee_bl))) (.cons ⟨rfl, by decide, .inl G.x_TooMany.gC⟩ (fun _ _ _ _ _ => (es_one (s_set nd ee_bl))) .nil)))))
    (es_one (es_ret (ee_var 1 (pv 1))))))
theorem ok_law {P : Program} {w : World} {K : PySem.W.Frag} {mg : Str → Option Value} {base : Heap} (G : Gf K mg) (h_law_whole : Kn P w K mg base (pm K) 14 "_law_whole" 1 M_law_whole) : Kn P w K mg base (pm K) 15 "law" 1 M_law := by
  obtain ⟨fd, F⟩ := G.d_law
  exact ⟨_, fd, _, fo_law G h_law_whole  F, G.a_law, F.kp, (F.bindsN fun _ _ _ _ _ _ us hl => match us, hl with | [_], _ => rfl)⟩
section
variable {P : Program} {w : World} {K : PySem.W.Frag} {mg : Str → Option Value} {base : Heap}
theorem kk_even_table_heard (G : Gf K mg) (h : ∀ {fd : FuncData}, FunD K "even_table" "even_table" (defArgs (top 67)) (defBody (top 67)) (defScope (top 67)) [] [] (He.ga K "even_table") fd → FnOk P w K mg base (L2.CX P w) 10 (He.ga K "even_table") fd ["heard"] (spM (pm K) 1 M_even_table)) : KnK P w K mg base (pm K) 10 "even_table" 1 M_even_table ["heard"] [0] := by
  obtain ⟨fd, F⟩ := G.d_even_table
  exact ⟨_, fd, _, h F, G.a_even_table, F.kp, kbp F fun _ _ _ _ _ _ ws hl => match ws, hl with | a0 :: _, _ => rfl | [], h => absurd h (by simp [pick])⟩
theorem kk_first_gift_bound_box (G : Gf K mg) (h : ∀ {fd : FuncData}, FunD K "first_gift" "first_gift" (defArgs (top 72)) (defBody (top 72)) (defScope (top 72)) [] [] (He.ga K "first_gift") fd → FnOk P w K mg base (L2.CX P w) 9 (He.ga K "first_gift") fd ["box", "bound"] (spM (pm K) 2 M_first_gift)) : KnK P w K mg base (pm K) 9 "first_gift" 2 M_first_gift ["bound", "box"] [1, 0] := by
  obtain ⟨fd, F⟩ := G.d_first_gift
  exact ⟨_, fd, _, h F, G.a_first_gift, F.kp, kbp F fun _ _ _ _ _ _ ws hl => match ws, hl with | a0 :: a1 :: _, _ => rfl | [], h => absurd h (by simp [pick]) | [a0], h => absurd h (by simp [pick])⟩
theorem kk_gives_within_k_box (G : Gf K mg) (h : ∀ {fd : FuncData}, FunD K "gives_within" "gives_within" (defArgs (top 69)) (defBody (top 69)) (defScope (top 69)) [] [] (He.ga K "gives_within") fd → FnOk P w K mg base (L2.CX P w) 9 (He.ga K "gives_within") fd ["box", "k"] (spM (pm K) 2 M_gives_within)) : KnK P w K mg base (pm K) 9 "gives_within" 2 M_gives_within ["k", "box"] [1, 0] := by
  obtain ⟨fd, F⟩ := G.d_gives_within
  exact ⟨_, fd, _, h F, G.a_gives_within, F.kp, kbp F fun _ _ _ _ _ _ ws hl => match ws, hl with | a0 :: a1 :: _, _ => rfl | [], h => absurd h (by simp [pick]) | [a0], h => absurd h (by simp [pick])⟩
theorem kk_giving_row_k_box (G : Gf K mg) (h : ∀ {fd : FuncData}, FunD K "giving_row" "giving_row" (defArgs (top 70)) (defBody (top 70)) (defScope (top 70)) [] [] (He.ga K "giving_row") fd → FnOk P w K mg base (L2.CX P w) 9 (He.ga K "giving_row") fd ["box", "k"] (spM (pm K) 2 M_giving_row)) : KnK P w K mg base (pm K) 9 "giving_row" 2 M_giving_row ["k", "box"] [1, 0] := by
  obtain ⟨fd, F⟩ := G.d_giving_row
  exact ⟨_, fd, _, h F, G.a_giving_row, F.kp, kbp F fun _ _ _ _ _ _ ws hl => match ws, hl with | a0 :: a1 :: _, _ => rfl | [], h => absurd h (by simp [pick]) | [a0], h => absurd h (by simp [pick])⟩
theorem kk_is_giving_row_thing_box (G : Gf K mg) (h : ∀ {fd : FuncData}, FunD K "is_giving_row" "is_giving_row" (defArgs (top 71)) (defBody (top 71)) (defScope (top 71)) [] [] (He.ga K "is_giving_row") fd → FnOk P w K mg base (L2.CX P w) 9 (He.ga K "is_giving_row") fd ["box", "thing"] (spM (pm K) 2 M_is_giving_row)) : KnK P w K mg base (pm K) 9 "is_giving_row" 2 M_is_giving_row ["thing", "box"] [1, 0] := by
  obtain ⟨fd, F⟩ := G.d_is_giving_row
  exact ⟨_, fd, _, h F, G.a_is_giving_row, F.kp, kbp F fun _ _ _ _ _ _ ws hl => match ws, hl with | a0 :: a1 :: _, _ => rfl | [], h => absurd h (by simp [pick]) | [a0], h => absurd h (by simp [pick])⟩
theorem kk_turned_row_pushes_box (G : Gf K mg) (h : ∀ {fd : FuncData}, FunD K "turned_row" "turned_row" (defArgs (top 73)) (defBody (top 73)) (defScope (top 73)) [] [] (He.ga K "turned_row") fd → FnOk P w K mg base (L2.CX P w) 9 (He.ga K "turned_row") fd ["box", "pushes"] (spM (pm K) 2 M_turned_row)) : KnK P w K mg base (pm K) 9 "turned_row" 2 M_turned_row ["pushes", "box"] [1, 0] := by
  obtain ⟨fd, F⟩ := G.d_turned_row
  exact ⟨_, fd, _, h F, G.a_turned_row, F.kp, kbp F fun _ _ _ _ _ _ ws hl => match ws, hl with | a0 :: a1 :: _, _ => rfl | [], h => absurd h (by simp [pick]) | [a0], h => absurd h (by simp [pick])⟩
theorem kk_work_by_table_pushes_heard (G : Gf K mg) (h : ∀ {fd : FuncData}, FunD K "work_by_table" "work_by_table" (defArgs (top 68)) (defBody (top 68)) (defScope (top 68)) [] [] (He.ga K "work_by_table") fd → FnOk P w K mg base (L2.CX P w) 10 (He.ga K "work_by_table") fd ["heard", "pushes"] (spM (pm K) 2 M_work_by_table)) : KnK P w K mg base (pm K) 10 "work_by_table" 2 M_work_by_table ["pushes", "heard"] [1, 0] := by
  obtain ⟨fd, F⟩ := G.d_work_by_table
  exact ⟨_, fd, _, h F, G.a_work_by_table, F.kp, kbp F fun _ _ _ _ _ _ ws hl => match ws, hl with | a0 :: a1 :: _, _ => rfl | [], h => absurd h (by simp [pick]) | [a0], h => absurd h (by simp [pick])⟩
theorem kk_work_of_pushes_cells_box (G : Gf K mg) (h : ∀ {fd : FuncData}, FunD K "work_of" "work_of" (defArgs (top 63)) (defBody (top 63)) (defScope (top 63)) [] [] (He.ga K "work_of") fd → FnOk P w K mg base (L2.CX P w) 11 (He.ga K "work_of") fd ["box", "cells", "pushes"] (spM (pm K) 3 M_work_of)) : KnK P w K mg base (pm K) 11 "work_of" 3 M_work_of ["pushes", "cells", "box"] [2, 1, 0] := by
  obtain ⟨fd, F⟩ := G.d_work_of
  exact ⟨_, fd, _, h F, G.a_work_of, F.kp, kbp F fun _ _ _ _ _ _ ws hl => match ws, hl with | a0 :: a1 :: a2 :: _, _ => rfl | [], h => absurd h (by simp [pick]) | [a0], h => absurd h (by simp [pick]) | [a0, a1], h => absurd h (by simp [pick])⟩
theorem kk_work_of_sum_pushes_other_box (G : Gf K mg) (h : ∀ {fd : FuncData}, FunD K "work_of_sum" "work_of_sum" (defArgs (top 74)) (defBody (top 74)) (defScope (top 74)) [] [] (He.ga K "work_of_sum") fd → FnOk P w K mg base (L2.CX P w) 9 (He.ga K "work_of_sum") fd ["box", "other", "pushes"] (spM (pm K) 3 M_work_of_sum)) : KnK P w K mg base (pm K) 9 "work_of_sum" 3 M_work_of_sum ["pushes", "other", "box"] [2, 1, 0] := by
  obtain ⟨fd, F⟩ := G.d_work_of_sum
  exact ⟨_, fd, _, h F, G.a_work_of_sum, F.kp, kbp F fun _ _ _ _ _ _ ws hl => match ws, hl with | a0 :: a1 :: a2 :: _, _ => rfl | [], h => absurd h (by simp [pick]) | [a0], h => absurd h (by simp [pick]) | [a0, a1], h => absurd h (by simp [pick])⟩
theorem kk_work_sums_pushes_box_cells (G : Gf K mg) (h : ∀ {fd : FuncData}, FunD K "work_sums" "work_sums" (defArgs (top 64)) (defBody (top 64)) (defScope (top 64)) [] [] (He.ga K "work_sums") fd → FnOk P w K mg base (L2.CX P w) 11 (He.ga K "work_sums") fd ["box", "cells", "pushes"] (spM (pm K) 3 M_work_sums)) : KnK P w K mg base (pm K) 11 "work_sums" 3 M_work_sums ["pushes", "box", "cells"] [1, 2, 0] := by
  obtain ⟨fd, F⟩ := G.d_work_sums
  exact ⟨_, fd, _, h F, G.a_work_sums, F.kp, kbp F fun _ _ _ _ _ _ ws hl => match ws, hl with | a0 :: a1 :: a2 :: _, _ => rfl | [], h => absurd h (by simp [pick]) | [a0], h => absurd h (by simp [pick]) | [a0, a1], h => absurd h (by simp [pick])⟩
end
theorem all_ok {P : Program} {w : World} {K : PySem.W.Frag} {mg : Str → Option Value} {base : Heap} (G : Gf K mg) {fd : FuncData} (F : FunD K "law" "law" (defArgs (top 88)) (defBody (top 88)) (defScope (top 88)) [] [] (He.ga K "law") fd) : FnOk P w K mg base (L2.CX P w) 15 (He.ga K "law") fd ["script"] (spM (pm K) 1 M_law) := by
  have h_law_boxes : Kn P w K mg base (pm K) 1 "_law_boxes" 0 M_law_boxes := ok_law_boxes G  
  have h_law_same : Kn P w K mg base (pm K) 12 "_law_same" 2 M_law_same := ok_law_same G   12
  have h_tupled : Kn P w K mg base (pm K) 6 "tupled" 2 M_tupled := ok_tupled G   6
  have h_is_number : Kn P w K mg base (pm K) 1 "is_number" 1 M_is_number := ok_is_number G  
  have h_is_fraction : Kn P w K mg base (pm K) 2 "is_fraction" 1 M_is_fraction := ok_is_fraction G h_is_number 
  have h_is_row : Kn P w K mg base (pm K) 3 "is_row" 1 M_is_row := ok_is_row G h_is_fraction 
  have h_box_shaped : Kn P w K mg base (pm K) 4 "box_shaped" 1 M_box_shaped := ok_box_shaped G h_is_row 
  have h_trimmed : Kn P w K mg base (pm K) 1 "trimmed" 1 M_trimmed := ok_trimmed G  
  have h_polys_of : Kn P w K mg base (pm K) 2 "polys_of" 1 M_polys_of := ok_polys_of G h_trimmed 
  have h_bare : Kn P w K mg base (pm K) 1 "bare" 1 M_bare := ok_bare G  
  have h_cut : Kn P w K mg base (pm K) 1 "cut" 1 M_cut := ok_cut G  
  have h_remainder : Kn P w K mg base (pm K) 2 "remainder" 2 M_remainder := ok_remainder G h_bare h_cut 
  have h_divisor : Kn P w K mg base (pm K) 3 "divisor" 2 M_divisor := ok_divisor G h_bare h_remainder 
  have h_wholes : Kn P w K mg base (pm K) 1 "wholes" 1 M_wholes := ok_wholes G  
  have h_shared_of : Kn P w K mg base (pm K) 4 "shared_of" 1 M_shared_of := ok_shared_of G h_polys_of h_divisor h_wholes 
  have h_small_shaped : Kn P w K mg base (pm K) 5 "small_shaped" 1 M_small_shaped := ok_small_shaped G h_box_shaped h_shared_of 
  have h_taken : Kn P w K mg base (pm K) 7 "taken" 3 M_taken := ok_taken G h_tupled h_is_row h_small_shaped 
  have h_taken_small : Kn P w K mg base (pm K) 8 "taken_small" 1 M_taken_small := ok_taken_small G h_taken h_small_shaped 
  have h_reduced : Kn P w K mg base (pm K) 1 "reduced" 2 M_reduced := ok_reduced G  
  have h_dot : Kn P w K mg base (pm K) 2 "dot" 2 M_dot := ok_dot G h_wholes h_reduced 
  have h_taken_row : Kn P w K mg base (pm K) 8 "taken_row" 1 M_taken_row := ok_taken_row G h_taken h_is_row 
  have h_taken_row_of : Kn P w K mg base (pm K) 9 "taken_row_of" 2 M_taken_row_of := ok_taken_row_of G h_taken_row 
  have h_cells_of : Kn P w K mg base (pm K) 1 "cells_of" 1 M_cells_of := ok_cells_of G  
  have h_taken_cells : Kn P w K mg base (pm K) 10 "taken_cells" 2 M_taken_cells := ok_taken_cells G h_taken_row_of h_cells_of 
  have h_fractions : Kn P w K mg base (pm K) 2 "fractions" 2 M_fractions := ok_fractions G h_reduced 
  have h_rolled : Kn P w K mg base (pm K) 3 "rolled" 3 M_rolled := ok_rolled G h_wholes h_fractions 
  have h_mult : Kn P w K mg base (pm K) 2 "mult" 2 M_mult := ok_mult G h_reduced 
  have h_times_row : Kn P w K mg base (pm K) 3 "times_row" 2 M_times_row := ok_times_row G h_mult 
  have h_minus : Kn P w K mg base (pm K) 2 "minus" 2 M_minus := ok_minus G h_reduced 
  have h_held_row : Kn P w K mg base (pm K) 3 "held_row" 1 M_held_row := ok_held_row G h_minus h_mult 
  have h_unit_at : Kn P w K mg base (pm K) 1 "unit_at" 2 M_unit_at := ok_unit_at G  
  have h_kept_rows : Kn P w K mg base (pm K) 2 "kept_rows" 3 M_kept_rows := ok_kept_rows G h_unit_at 
  have h_machine_of : Kn P w K mg base (pm K) 4 "machine_of" 1 M_machine_of := ok_machine_of G h_times_row h_held_row h_kept_rows 
  have h_moved : Kn P w K mg base (pm K) 5 "moved" 3 M_moved := ok_moved G h_rolled h_machine_of 
  have h_work_of : Kn P w K mg base (pm K) 11 "work_of" 3 M_work_of := ok_work_of G h_taken_small h_dot h_taken_cells h_taken_row h_moved 
  have h_plus : Kn P w K mg base (pm K) 2 "plus" 2 M_plus := ok_plus G h_reduced 
  have h_work_sums : Kn P w K mg base (pm K) 11 "work_sums" 3 M_work_sums := ok_work_sums G h_taken_small h_taken_cells h_taken_row h_plus h_moved h_mult 
  have h_taken_heard : Kn P w K mg base (pm K) 9 "taken_heard" 1 M_taken_heard := ok_taken_heard G h_taken_row 
  have h_work_by_table : Kn P w K mg base (pm K) 10 "work_by_table" 2 M_work_by_table := ok_work_by_table G h_dot h_taken_heard h_taken_row 
  have h_table_of_echoes : Kn P w K mg base (pm K) 3 "table_of_echoes" 1 M_table_of_echoes := ok_table_of_echoes G h_plus 
  have h_even_table : Kn P w K mg base (pm K) 10 "even_table" 1 M_even_table := ok_even_table G h_table_of_echoes h_taken_heard 
  have h_freed : Kn P w K mg base (pm K) 1 "freed" 3 M_freed := ok_freed G  
  have h_first_fall : Kn P w K mg base (pm K) 2 "first_fall" 1 M_first_fall := ok_first_fall G h_wholes h_freed 
  have h_table_sum : Kn P w K mg base (pm K) 3 "table_sum" 2 M_table_sum := ok_table_sum G h_dot 
  have h_rounded_below : Kn P w K mg base (pm K) 4 "rounded_below" 2 M_rounded_below := ok_rounded_below G h_fractions h_table_sum 
  have h_swept : Kn P w K mg base (pm K) 1 "swept" 4 M_swept := ok_swept G  
  have h_whole_solved : Kn P w K mg base (pm K) 2 "whole_solved" 1 M_whole_solved := ok_whole_solved G h_swept 
  have h_completed : Kn P w K mg base (pm K) 3 "completed" 3 M_completed := ok_completed G h_whole_solved h_wholes 
  have h_below_row : Kn P w K mg base (pm K) 5 "below_row" 1 M_below_row := ok_below_row G h_first_fall h_rounded_below h_completed 
  have h_rest_of : Kn P w K mg base (pm K) 2 "rest_of" 1 M_rest_of := ok_rest_of G h_cells_of 
  have h_answers_of : Kn P w K mg base (pm K) 6 "answers_of" 2 M_answers_of := ok_answers_of G h_moved h_rest_of 
  have h_first_echoes : Kn P w K mg base (pm K) 7 "first_echoes" 2 M_first_echoes := ok_first_echoes G h_answers_of 
  have h_table_up_to : Kn P w K mg base (pm K) 8 "table_up_to" 2 M_table_up_to := ok_table_up_to G h_table_of_echoes h_first_echoes 
  have h_taken_number : Kn P w K mg base (pm K) 2 "taken_number" 3 M_taken_number := ok_taken_number G h_is_number 
  have h_giving_row : Kn P w K mg base (pm K) 9 "giving_row" 2 M_giving_row := ok_giving_row G h_taken_small h_below_row h_table_up_to h_taken_number 
  have h_gives_within : Kn P w K mg base (pm K) 9 "gives_within" 2 M_gives_within := ok_gives_within G h_taken_small h_first_fall h_table_up_to h_taken_number 
  have h_first_gift : Kn P w K mg base (pm K) 9 "first_gift" 2 M_first_gift := ok_first_gift G h_taken_small h_first_fall h_table_up_to h_taken_number 
  have h_turned_row : Kn P w K mg base (pm K) 9 "turned_row" 2 M_turned_row := ok_turned_row G h_taken_small h_taken_row h_answers_of 
  have h_is_giving_row : Kn P w K mg base (pm K) 9 "is_giving_row" 2 M_is_giving_row := ok_is_giving_row G h_taken_small h_is_row h_dot h_answers_of 
  have h_law_one_of : Kn P w K mg base (pm K) 11 "_law_one_of" 2 M_law_one_of := ok_law_one_of G h_even_table h_giving_row h_gives_within h_first_gift h_turned_row h_is_giving_row 
  have h_work_of_sum : Kn P w K mg base (pm K) 9 "work_of_sum" 3 M_work_of_sum := ok_work_of_sum G h_taken_small h_taken_row h_dot h_answers_of 
  have h_law_heard : Kn P w K mg base (pm K) 12 "_law_heard" 4 M_law_heard := ok_law_heard G h_work_of h_work_sums h_work_by_table h_law_one_of h_work_of_sum 
  have h_law_refused_right : Kn P w K mg base (pm K) 13 "_law_refused_right" 0 M_law_refused_right := ok_law_refused_right G h_law_boxes h_law_same h_law_heard 
  have h_law_lists : Kn P w K mg base (pm K) 8 "_law_lists" 1 M_law_lists := ok_law_lists G   8
  have kn_even_table_heard := kk_even_table_heard (P := P) (w := w) (base := base) G (fun F => fo_even_table G h_table_of_echoes h_taken_heard  F)
  have kn_first_gift_bound_box := kk_first_gift_bound_box (P := P) (w := w) (base := base) G (fun F => fo_first_gift G h_taken_small h_first_fall h_table_up_to h_taken_number  F)
  have kn_gives_within_k_box := kk_gives_within_k_box (P := P) (w := w) (base := base) G (fun F => fo_gives_within G h_taken_small h_first_fall h_table_up_to h_taken_number  F)
  have kn_giving_row_k_box := kk_giving_row_k_box (P := P) (w := w) (base := base) G (fun F => fo_giving_row G h_taken_small h_below_row h_table_up_to h_taken_number  F)
  have kn_is_giving_row_thing_box := kk_is_giving_row_thing_box (P := P) (w := w) (base := base) G (fun F => fo_is_giving_row G h_taken_small h_is_row h_dot h_answers_of  F)
  have kn_turned_row_pushes_box := kk_turned_row_pushes_box (P := P) (w := w) (base := base) G (fun F => fo_turned_row G h_taken_small h_taken_row h_answers_of  F)
  have kn_work_by_table_pushes_heard := kk_work_by_table_pushes_heard (P := P) (w := w) (base := base) G (fun F => fo_work_by_table G h_dot h_taken_heard h_taken_row  F)
  have kn_work_of_pushes_cells_box := kk_work_of_pushes_cells_box (P := P) (w := w) (base := base) G (fun F => fo_work_of G h_taken_small h_dot h_taken_cells h_taken_row h_moved  F)
  have kn_work_of_sum_pushes_other_box := kk_work_of_sum_pushes_other_box (P := P) (w := w) (base := base) G (fun F => fo_work_of_sum G h_taken_small h_taken_row h_dot h_answers_of  F)
  have kn_work_sums_pushes_box_cells := kk_work_sums_pushes_box_cells (P := P) (w := w) (base := base) G (fun F => fo_work_sums G h_taken_small h_taken_cells h_taken_row h_plus h_moved h_mult  F)
  have h_law_names_right : Kn P w K mg base (pm K) 13 "_law_names_right" 0 M_law_names_right := ok_law_names_right G h_law_boxes h_law_same h_law_lists h_work_of h_work_sums h_even_table h_work_by_table h_gives_within h_is_giving_row h_first_gift h_turned_row h_work_of_sum h_giving_row kn_even_table_heard kn_first_gift_bound_box kn_gives_within_k_box kn_giving_row_k_box kn_is_giving_row_thing_box kn_turned_row_pushes_box kn_work_by_table_pushes_heard kn_work_of_pushes_cells_box kn_work_of_sum_pushes_other_box kn_work_sums_pushes_box_cells
  have h_law_works_right : Kn P w K mg base (pm K) 13 "_law_works_right" 0 M_law_works_right := ok_law_works_right G h_law_boxes h_law_same h_work_of h_work_sums h_even_table h_work_by_table 
  have h_law_gifts_right : Kn P w K mg base (pm K) 13 "_law_gifts_right" 0 M_law_gifts_right := ok_law_gifts_right G h_law_boxes h_law_same h_gives_within h_first_gift h_is_giving_row h_law_heard h_giving_row h_law_lists 
  have h_law_far_right : Kn P w K mg base (pm K) 13 "_law_far_right" 0 M_law_far_right := ok_law_far_right G h_law_same h_law_boxes h_first_gift h_gives_within h_is_giving_row h_giving_row h_law_heard h_work_sums h_work_of 
  have h_law_turned_right : Kn P w K mg base (pm K) 13 "_law_turned_right" 0 M_law_turned_right := ok_law_turned_right G h_law_boxes h_law_same h_turned_row h_law_heard h_work_of_sum 
  have h_law_whole : Kn P w K mg base (pm K) 14 "_law_whole" 1 M_law_whole := ok_law_whole G h_law_refused_right h_law_names_right h_law_works_right h_law_gifts_right h_law_far_right h_law_turned_right 
  exact fo_law G h_law_whole  F
end Mr.K05

namespace Mr.K05
open PySem PySem.Spec PyProof.Rows L2 Mr
theorem gf {K : PySem.W.Frag} {h : Heap} {mg : Str → Option Value} {w : World} (X : K.In h) (G : h.Ns mainGlobals mg) (c : He.SaysX fa fn [] [] ex w h K) : Gf K mg := by
  have hx : (He.eqO (PySem.W.nsIn K mainGlobals "gcd") (some (some (.builtin "math.gcd"))) && (He.eqO (PySem.W.nsIn K mainGlobals "lcm") (some (some (.builtin "math.lcm"))) && (excB K "CanNot" && (excB K "NoPaper" && (excB K "Unfit" && (tupD K "ONE" [.int (1), .int (1)] && (tupD K "ZERO" [.int (0), .int (1)] && true))))))) = true := c.more
  exact {
    b_ValueError := He.free_ok X G (c.t.d.fact 0 (f := .free "ValueError") rfl)
    b_abs := He.free_ok X G (c.t.d.fact 1 (f := .free "abs") rfl)
    b_all := He.free_ok X G (c.t.d.fact 2 (f := .free "all") rfl)
    b_any := He.free_ok X G (c.t.d.fact 3 (f := .free "any") rfl)
    b_bool := He.free_ok X G (c.t.d.fact 4 (f := .free "bool") rfl)
    b_enumerate := He.free_ok X G (c.t.d.fact 5 (f := .free "enumerate") rfl)
    b_int := He.free_ok X G (c.t.d.fact 6 (f := .free "int") rfl)
    b_isinstance := He.free_ok X G (c.t.d.fact 7 (f := .free "isinstance") rfl)
    b_len := He.free_ok X G (c.t.d.fact 8 (f := .free "len") rfl)
    b_list := He.free_ok X G (c.t.d.fact 9 (f := .free "list") rfl)
    b_max := He.free_ok X G (c.t.d.fact 10 (f := .free "max") rfl)
    b_range := He.free_ok X G (c.t.d.fact 11 (f := .free "range") rfl)
    b_str := He.free_ok X G (c.t.d.fact 12 (f := .free "str") rfl)
    b_sum := He.free_ok X G (c.t.d.fact 13 (f := .free "sum") rfl)
    b_tuple := He.free_ok X G (c.t.d.fact 14 (f := .free "tuple") rfl)
    b_zip := He.free_ok X G (c.t.d.fact 15 (f := .free "zip") rfl)
    bf_gcd := PySem.W.mg_of X G (He.eqO_ok (and1 hx))
    bf_lcm := PySem.W.mg_of X G (He.eqO_ok (and1 (and2 hx)))
    e_CanNot := (excB_ok (and1 (and2 (and2 hx)))).1
    k_CanNot := (excB_ok (and1 (and2 (and2 hx)))).2
    e_NoPaper := (excB_ok (and1 (and2 (and2 (and2 hx))))).1
    k_NoPaper := (excB_ok (and1 (and2 (and2 (and2 hx))))).2
    e_Unfit := (excB_ok (and1 (and2 (and2 (and2 (and2 hx)))))).1
    k_Unfit := (excB_ok (and1 (and2 (and2 (and2 (and2 hx)))))).2
    m_ONE := He.glo_ok X G (c.t.d.fact 112 (f := .glo "ONE") rfl)
    z_ONE := tupD_ok (p := pm K) rfl (and1 (and2 (and2 (and2 (and2 (and2 hx))))))
    m_ZERO := He.glo_ok X G (c.t.d.fact 113 (f := .glo "ZERO") rfl)
    z_ZERO := tupD_ok (p := pm K) rfl (and1 (and2 (and2 (and2 (and2 (and2 (and2 hx)))))))
    a__law_boxes := He.glo_ok X G (c.t.d.fact 16 (f := .glo "_law_boxes") rfl)
    d__law_boxes := c.t.d.def_ 0 (d := d_law_boxes) rfl
    a__law_same := He.glo_ok X G (c.t.d.fact 17 (f := .glo "_law_same") rfl)
    d__law_same := c.t.d.def_ 1 (d := d_law_same) rfl
    a_tupled := He.glo_ok X G (c.t.d.fact 18 (f := .glo "tupled") rfl)
    d_tupled := c.t.d.def_ 2 (d := d_tupled) rfl
    a_is_number := He.glo_ok X G (c.t.d.fact 19 (f := .glo "is_number") rfl)
    d_is_number := c.t.d.def_ 3 (d := d_is_number) rfl
    a_is_fraction := He.glo_ok X G (c.t.d.fact 20 (f := .glo "is_fraction") rfl)
    d_is_fraction := c.t.d.def_ 4 (d := d_is_fraction) rfl
    a_is_row := He.glo_ok X G (c.t.d.fact 21 (f := .glo "is_row") rfl)
    d_is_row := c.t.d.def_ 5 (d := d_is_row) rfl
    a_box_shaped := He.glo_ok X G (c.t.d.fact 22 (f := .glo "box_shaped") rfl)
    d_box_shaped := c.t.d.def_ 6 (d := d_box_shaped) rfl
    a_trimmed := He.glo_ok X G (c.t.d.fact 23 (f := .glo "trimmed") rfl)
    d_trimmed := c.t.d.def_ 7 (d := d_trimmed) rfl
    a_polys_of := He.glo_ok X G (c.t.d.fact 24 (f := .glo "polys_of") rfl)
    d_polys_of := c.t.d.def_ 8 (d := d_polys_of) rfl
    a_bare := He.glo_ok X G (c.t.d.fact 25 (f := .glo "bare") rfl)
    d_bare := c.t.d.def_ 9 (d := d_bare) rfl
    a_cut := He.glo_ok X G (c.t.d.fact 26 (f := .glo "cut") rfl)
    d_cut := c.t.d.def_ 10 (d := d_cut) rfl
    a_remainder := He.glo_ok X G (c.t.d.fact 27 (f := .glo "remainder") rfl)
    d_remainder := c.t.d.def_ 11 (d := d_remainder) rfl
    a_divisor := He.glo_ok X G (c.t.d.fact 28 (f := .glo "divisor") rfl)
    d_divisor := c.t.d.def_ 12 (d := d_divisor) rfl
    a_wholes := He.glo_ok X G (c.t.d.fact 29 (f := .glo "wholes") rfl)
    d_wholes := c.t.d.def_ 13 (d := d_wholes) rfl
    a_shared_of := He.glo_ok X G (c.t.d.fact 30 (f := .glo "shared_of") rfl)
    d_shared_of := c.t.d.def_ 14 (d := d_shared_of) rfl
    a_small_shaped := He.glo_ok X G (c.t.d.fact 31 (f := .glo "small_shaped") rfl)
    d_small_shaped := c.t.d.def_ 15 (d := d_small_shaped) rfl
    a_taken := He.glo_ok X G (c.t.d.fact 32 (f := .glo "taken") rfl)
    d_taken := c.t.d.def_ 16 (d := d_taken) rfl
    a_taken_small := He.glo_ok X G (c.t.d.fact 33 (f := .glo "taken_small") rfl)
    d_taken_small := c.t.d.def_ 17 (d := d_taken_small) rfl
    a_reduced := He.glo_ok X G (c.t.d.fact 34 (f := .glo "reduced") rfl)
    d_reduced := c.t.d.def_ 18 (d := d_reduced) rfl
    a_dot := He.glo_ok X G (c.t.d.fact 35 (f := .glo "dot") rfl)
    d_dot := c.t.d.def_ 19 (d := d_dot) rfl
    a_taken_row := He.glo_ok X G (c.t.d.fact 36 (f := .glo "taken_row") rfl)
    d_taken_row := c.t.d.def_ 20 (d := d_taken_row) rfl
    a_taken_row_of := He.glo_ok X G (c.t.d.fact 37 (f := .glo "taken_row_of") rfl)
    d_taken_row_of := c.t.d.def_ 21 (d := d_taken_row_of) rfl
    a_cells_of := He.glo_ok X G (c.t.d.fact 38 (f := .glo "cells_of") rfl)
    d_cells_of := c.t.d.def_ 22 (d := d_cells_of) rfl
    a_taken_cells := He.glo_ok X G (c.t.d.fact 39 (f := .glo "taken_cells") rfl)
    d_taken_cells := c.t.d.def_ 23 (d := d_taken_cells) rfl
    a_fractions := He.glo_ok X G (c.t.d.fact 40 (f := .glo "fractions") rfl)
    d_fractions := c.t.d.def_ 24 (d := d_fractions) rfl
    a_rolled := He.glo_ok X G (c.t.d.fact 41 (f := .glo "rolled") rfl)
    d_rolled := c.t.d.def_ 25 (d := d_rolled) rfl
    a_mult := He.glo_ok X G (c.t.d.fact 42 (f := .glo "mult") rfl)
    d_mult := c.t.d.def_ 26 (d := d_mult) rfl
    a_times_row := He.glo_ok X G (c.t.d.fact 43 (f := .glo "times_row") rfl)
    d_times_row := c.t.d.def_ 27 (d := d_times_row) rfl
    a_minus := He.glo_ok X G (c.t.d.fact 44 (f := .glo "minus") rfl)
    d_minus := c.t.d.def_ 28 (d := d_minus) rfl
    a_held_row := He.glo_ok X G (c.t.d.fact 45 (f := .glo "held_row") rfl)
    d_held_row := c.t.d.def_ 29 (d := d_held_row) rfl
    a_unit_at := He.glo_ok X G (c.t.d.fact 46 (f := .glo "unit_at") rfl)
    d_unit_at := c.t.d.def_ 30 (d := d_unit_at) rfl
    a_kept_rows := He.glo_ok X G (c.t.d.fact 47 (f := .glo "kept_rows") rfl)
    d_kept_rows := c.t.d.def_ 31 (d := d_kept_rows) rfl
    a_machine_of := He.glo_ok X G (c.t.d.fact 48 (f := .glo "machine_of") rfl)
    d_machine_of := c.t.d.def_ 32 (d := d_machine_of) rfl
    a_moved := He.glo_ok X G (c.t.d.fact 49 (f := .glo "moved") rfl)
    d_moved := c.t.d.def_ 33 (d := d_moved) rfl
    a_work_of := He.glo_ok X G (c.t.d.fact 50 (f := .glo "work_of") rfl)
    d_work_of := c.t.d.def_ 34 (d := d_work_of) rfl
    a_plus := He.glo_ok X G (c.t.d.fact 51 (f := .glo "plus") rfl)
    d_plus := c.t.d.def_ 35 (d := d_plus) rfl
    a_work_sums := He.glo_ok X G (c.t.d.fact 52 (f := .glo "work_sums") rfl)
    d_work_sums := c.t.d.def_ 36 (d := d_work_sums) rfl
    a_taken_heard := He.glo_ok X G (c.t.d.fact 53 (f := .glo "taken_heard") rfl)
    d_taken_heard := c.t.d.def_ 37 (d := d_taken_heard) rfl
    a_work_by_table := He.glo_ok X G (c.t.d.fact 54 (f := .glo "work_by_table") rfl)
    d_work_by_table := c.t.d.def_ 38 (d := d_work_by_table) rfl
    a_table_of_echoes := He.glo_ok X G (c.t.d.fact 55 (f := .glo "table_of_echoes") rfl)
    d_table_of_echoes := c.t.d.def_ 39 (d := d_table_of_echoes) rfl
    a_even_table := He.glo_ok X G (c.t.d.fact 56 (f := .glo "even_table") rfl)
    d_even_table := c.t.d.def_ 40 (d := d_even_table) rfl
    a_freed := He.glo_ok X G (c.t.d.fact 57 (f := .glo "freed") rfl)
    d_freed := c.t.d.def_ 41 (d := d_freed) rfl
    a_first_fall := He.glo_ok X G (c.t.d.fact 58 (f := .glo "first_fall") rfl)
    d_first_fall := c.t.d.def_ 42 (d := d_first_fall) rfl
    a_table_sum := He.glo_ok X G (c.t.d.fact 59 (f := .glo "table_sum") rfl)
    d_table_sum := c.t.d.def_ 43 (d := d_table_sum) rfl
    a_rounded_below := He.glo_ok X G (c.t.d.fact 60 (f := .glo "rounded_below") rfl)
    d_rounded_below := c.t.d.def_ 44 (d := d_rounded_below) rfl
    a_swept := He.glo_ok X G (c.t.d.fact 61 (f := .glo "swept") rfl)
    d_swept := c.t.d.def_ 45 (d := d_swept) rfl
    a_whole_solved := He.glo_ok X G (c.t.d.fact 62 (f := .glo "whole_solved") rfl)
    d_whole_solved := c.t.d.def_ 46 (d := d_whole_solved) rfl
    a_completed := He.glo_ok X G (c.t.d.fact 63 (f := .glo "completed") rfl)
    d_completed := c.t.d.def_ 47 (d := d_completed) rfl
    a_below_row := He.glo_ok X G (c.t.d.fact 64 (f := .glo "below_row") rfl)
    d_below_row := c.t.d.def_ 48 (d := d_below_row) rfl
    a_rest_of := He.glo_ok X G (c.t.d.fact 65 (f := .glo "rest_of") rfl)
    d_rest_of := c.t.d.def_ 49 (d := d_rest_of) rfl
    a_answers_of := He.glo_ok X G (c.t.d.fact 66 (f := .glo "answers_of") rfl)
    d_answers_of := c.t.d.def_ 50 (d := d_answers_of) rfl
    a_first_echoes := He.glo_ok X G (c.t.d.fact 67 (f := .glo "first_echoes") rfl)
    d_first_echoes := c.t.d.def_ 51 (d := d_first_echoes) rfl
    a_table_up_to := He.glo_ok X G (c.t.d.fact 68 (f := .glo "table_up_to") rfl)
    d_table_up_to := c.t.d.def_ 52 (d := d_table_up_to) rfl
    a_taken_number := He.glo_ok X G (c.t.d.fact 69 (f := .glo "taken_number") rfl)
    d_taken_number := c.t.d.def_ 53 (d := d_taken_number) rfl
    a_giving_row := He.glo_ok X G (c.t.d.fact 70 (f := .glo "giving_row") rfl)
    d_giving_row := c.t.d.def_ 54 (d := d_giving_row) rfl
    a_gives_within := He.glo_ok X G (c.t.d.fact 71 (f := .glo "gives_within") rfl)
    d_gives_within := c.t.d.def_ 55 (d := d_gives_within) rfl
    a_first_gift := He.glo_ok X G (c.t.d.fact 72 (f := .glo "first_gift") rfl)
    d_first_gift := c.t.d.def_ 56 (d := d_first_gift) rfl
    a_turned_row := He.glo_ok X G (c.t.d.fact 73 (f := .glo "turned_row") rfl)
    d_turned_row := c.t.d.def_ 57 (d := d_turned_row) rfl
    a_is_giving_row := He.glo_ok X G (c.t.d.fact 74 (f := .glo "is_giving_row") rfl)
    d_is_giving_row := c.t.d.def_ 58 (d := d_is_giving_row) rfl
    a__law_one_of := He.glo_ok X G (c.t.d.fact 75 (f := .glo "_law_one_of") rfl)
    d__law_one_of := c.t.d.def_ 59 (d := d_law_one_of) rfl
    a_work_of_sum := He.glo_ok X G (c.t.d.fact 76 (f := .glo "work_of_sum") rfl)
    d_work_of_sum := c.t.d.def_ 60 (d := d_work_of_sum) rfl
    a__law_heard := He.glo_ok X G (c.t.d.fact 77 (f := .glo "_law_heard") rfl)
    d__law_heard := c.t.d.def_ 61 (d := d_law_heard) rfl
    a__law_refused_right := He.glo_ok X G (c.t.d.fact 78 (f := .glo "_law_refused_right") rfl)
    d__law_refused_right := c.t.d.def_ 62 (d := d_law_refused_right) rfl
    a__law_lists := He.glo_ok X G (c.t.d.fact 79 (f := .glo "_law_lists") rfl)
    d__law_lists := c.t.d.def_ 63 (d := d_law_lists) rfl
    a__law_names_right := He.glo_ok X G (c.t.d.fact 80 (f := .glo "_law_names_right") rfl)
    d__law_names_right := c.t.d.def_ 64 (d := d_law_names_right) rfl
    a__law_works_right := He.glo_ok X G (c.t.d.fact 81 (f := .glo "_law_works_right") rfl)
    d__law_works_right := c.t.d.def_ 65 (d := d_law_works_right) rfl
    a__law_gifts_right := He.glo_ok X G (c.t.d.fact 82 (f := .glo "_law_gifts_right") rfl)
    d__law_gifts_right := c.t.d.def_ 66 (d := d_law_gifts_right) rfl
    a__law_far_right := He.glo_ok X G (c.t.d.fact 83 (f := .glo "_law_far_right") rfl)
    d__law_far_right := c.t.d.def_ 67 (d := d_law_far_right) rfl
    a__law_turned_right := He.glo_ok X G (c.t.d.fact 84 (f := .glo "_law_turned_right") rfl)
    d__law_turned_right := c.t.d.def_ 68 (d := d_law_turned_right) rfl
    a__law_whole := He.glo_ok X G (c.t.d.fact 85 (f := .glo "_law_whole") rfl)
    d__law_whole := c.t.d.def_ 69 (d := d_law_whole) rfl
    a_law := He.glo_ok X G (c.t.d.fact 86 (f := .glo "law") rfl)
    d_law := c.t.d.def_ 70 (d := d_law) rfl
    x_Unfit := exk_of rfl (He.glo_ok X G (c.t.d.fact 87 (f := .glo "Unfit") rfl)) (c.t.d.fact 88 (f := .exc "Unfit") rfl)
    x_CanNot := exk_of rfl (He.glo_ok X G (c.t.d.fact 89 (f := .glo "CanNot") rfl)) (c.t.d.fact 90 (f := .exc "CanNot") rfl)
    x_NoPaper := exk_of rfl (He.glo_ok X G (c.t.d.fact 91 (f := .glo "NoPaper") rfl)) (c.t.d.fact 92 (f := .exc "NoPaper") rfl)
    x_TooMany := exk_of rfl (He.glo_ok X G (c.t.d.fact 93 (f := .glo "TooMany") rfl)) (c.t.d.fact 94 (f := .exc "TooMany") rfl)
    xm := fun c0 k0 hc0 hk0 => match c0, k0, hc0, hk0 with
      | 0, 0, _, _ => He.exm_ok (c.t.d.fact 95 (f := .exm "Unfit" "Unfit" true) rfl)
      | 0, 1, _, _ => He.exm_ok (c.t.d.fact 96 (f := .exm "Unfit" "CanNot" false) rfl)
      | 0, 2, _, _ => He.exm_ok (c.t.d.fact 97 (f := .exm "Unfit" "NoPaper" false) rfl)
      | 0, 3, _, _ => He.exm_ok (c.t.d.fact 98 (f := .exm "Unfit" "TooMany" false) rfl)
      | 0, m + 4, _, z => absurd z (by omega)
      | 1, 0, _, _ => He.exm_ok (c.t.d.fact 99 (f := .exm "CanNot" "Unfit" false) rfl)
      | 1, 1, _, _ => He.exm_ok (c.t.d.fact 100 (f := .exm "CanNot" "CanNot" true) rfl)
      | 1, 2, _, _ => He.exm_ok (c.t.d.fact 101 (f := .exm "CanNot" "NoPaper" false) rfl)
      | 1, 3, _, _ => He.exm_ok (c.t.d.fact 102 (f := .exm "CanNot" "TooMany" false) rfl)
      | 1, m + 4, _, z => absurd z (by omega)
      | 2, 0, _, _ => He.exm_ok (c.t.d.fact 103 (f := .exm "NoPaper" "Unfit" false) rfl)
      | 2, 1, _, _ => He.exm_ok (c.t.d.fact 104 (f := .exm "NoPaper" "CanNot" false) rfl)
      | 2, 2, _, _ => He.exm_ok (c.t.d.fact 105 (f := .exm "NoPaper" "NoPaper" true) rfl)
      | 2, 3, _, _ => He.exm_ok (c.t.d.fact 106 (f := .exm "NoPaper" "TooMany" false) rfl)
      | 2, m + 4, _, z => absurd z (by omega)
      | 3, 0, _, _ => He.exm_ok (c.t.d.fact 107 (f := .exm "TooMany" "Unfit" false) rfl)
      | 3, 1, _, _ => He.exm_ok (c.t.d.fact 108 (f := .exm "TooMany" "CanNot" false) rfl)
      | 3, 2, _, _ => He.exm_ok (c.t.d.fact 109 (f := .exm "TooMany" "NoPaper" false) rfl)
      | 3, 3, _, _ => He.exm_ok (c.t.d.fact 110 (f := .exm "TooMany" "TooMany" true) rfl)
      | 3, m + 4, _, z => absurd z (by omega)
      | m + 4, _, z, _ => absurd z (by omega)
    i_MOST_PUSHES := He.int_ok X G (c.t.d.fact 111 (f := .int "MOST_PUSHES" 12) rfl)
  }
theorem ev : isT (M_law [.any] L0) = true := by decide +kernel
end Mr.K05
open PySem PySem.W PySem.Calls PyProof.Rows Mr
theorem PySem.Challenge.cw_keepcompany_k05_works_by_hand_and_refuse_holds : PySem.Challenge.rw_keepcompany_k05_works_by_hand_and_refuse.Holds := by
  w_on; o_law
  refine HandSHeadRun.head_imp (r := OpenLaw.row PySem.Challenge.rw_keepcompany_k05_works_by_hand_and_refuse) (q := view (OpenLaw.row PySem.Challenge.rw_keepcompany_k05_works_by_hand_and_refuse).prog [0, 88]) (H := Mr.K05.hk) (ob := Mr.K05.ob) (M := 6000) (loose := Mr.K05.loose) (d := HandSHeadRun.topDef (OpenLaw.row PySem.Challenge.rw_keepcompany_k05_works_by_hand_and_refuse).prog 88) (kwd := []) Mr.K05.ob_eq
    Mr.K05.run (by kernel_rfl) (by kernel_rfl) (by kernel_rfl) (by rfl) (by first | assumption | decide +kernel) (by decide +kernel) ⟨rfl, rfl, rfl, rfl, rfl, by decide +kernel⟩ ?hw ?hc
  case hw => w_witness2
  case hc =>
    refine L2.walk_ofE (l := PySem.Challenge.rw_keepcompany_k05_works_by_hand_and_refuse) (n := 63) (k := 15) (x := "script") (CX := fun o H s E u t => ∃ (P : Program) (w : World), L2.CX P w o H s E u t) rfl (by decide) (by kernel_rfl) ⟨rfl, by decide, by decide⟩ ?F (fun H s e s' ⟨_, _, z⟩ => cx_none H s e s' z)
    intro w mg fa h Y G hmg0
    obtain ⟨K, KX, c⟩ := Y
    have GF := Mr.K05.gf KX G c
    have hmg : mg ("law" : PySem.Str) = some (.ref fa) := by
      have e : (HandSHeadRun.topDef (OpenLaw.row PySem.Challenge.rw_keepcompany_k05_works_by_hand_and_refuse).prog 88).name = ("law" : PySem.Str) := by kernel_rfl
      rw [← e]
      exact hmg0
    obtain ⟨fd, F⟩ := GF.d_law
    have e := hmg.symm.trans GF.a_law
    cases e
    have b := L2.FunD.bindsA (ps := ["script"]) F fun _ _ _ _ _ _ us hl => match us, hl with | [_], _ => rfl
    refine ⟨K, fd, spM (Mr.K05.pm K) 1 Mr.K05.M_law, KX, fun s v => b s [v] rfl, fun H a ns hl _ hS => law_any Mr.K05.ev, fun base kb gb => ?_⟩
    exact fn_cx (Mr.K05.all_ok (P := (PySem.Challenge.rw_keepcompany_k05_works_by_hand_and_refuse).prog) (w := w) GF F)
