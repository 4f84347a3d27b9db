import PyProof.Rows.All
import Wide.All
import OpenK.AllK
import Wide.FinOn
import HandS.ForMost
import HandS.Wide
import HandS.Gcd
import HandS.Evl
import PySem.Challenge.RW_neverjammed_k01_fractions_put_together
set_option Elab.async false
set_option linter.all false
set_option maxRecDepth 100000
namespace DL
open PySem PySem.Spec PyProof.Rows L2

/-! ### heaps with some addresses out of sight -/
def hide (hs : List Addr) (H : Hp) : Hp := fun a => if a ∈ hs then none else H a
theorem hide_some {hs : List Addr} {H : Hp} {a : Addr} {o : HO} (h : hide hs H a = some o) : a ∉ hs ∧ H a = some o := by
  unfold hide at h
  split at h
  · cases h
  · exact ⟨by assumption, h⟩
theorem hide_of {hs : List Addr} {H : Hp} {a : Addr} {o : HO} (n : a ∉ hs) (h : H a = some o) : hide hs H a = some o := by
  unfold hide
  rw [if_neg n]
  exact h
theorem hide_same {hs : List Addr} {H : Hp} : Same (hide hs H) H := fun a o h => (hide_some h).2
theorem hide_sub {hs ks : List Addr} {H : Hp} (s : ∀ a ∈ ks, a ∈ hs) : Same (hide hs H) (hide ks H) := fun a o h =>
  hide_of (fun q => (hide_some h).1 (s a q)) (hide_some h).2
theorem sqT_same {K : PySem.W.Frag} {H H' : Hp} {a : Addr} {xs : List V} (e : Same H H') (h : SqT K H a xs) : SqT K H' a xs := by
  rcases h with (h | ⟨o, h⟩) | h
  · exact .inl (.inl (e _ _ h))
  · exact .inl (.inr ⟨o, e _ _ h⟩)
  · exact .inr h

mutual
theorem dp_same {K : PySem.W.Frag} {H H' : Hp} (e : Same H H') : ∀ (d : PyData) (v : V), Dp K H v d → Dp K H' v d
  | .none, _, h => by cases h; exact .non
  | .bool b, _, h => by cases h; exact .bl b
  | .int i, _, h => by cases h; exact .int i
  | .str x, _, h => by cases h; exact .str x
  | .list ds, _, h => by
    cases h with
    | lst hs ha => exact .lst (e.seq hs) (dpAll_same e ds _ ha)
  | .tuple ds, _, h => by
    cases h with
    | tup hs ha => exact .tup (sqT_same e hs) (dpAll_same e ds _ ha)
  | .dict _, _, h => by cases h
theorem dpAll_same {K : PySem.W.Frag} {H H' : Hp} (e : Same H H') : ∀ (ds : List PyData) (vs : List V), DpAll K H vs ds → DpAll K H' vs ds
  | [], _, h => by cases h; exact .nil
  | d :: ds, _, h => by
    cases h with
    | cons h1 h2 => exact .cons (dp_same e d _ h1) (dpAll_same e ds _ h2)
end
theorem dpAll_len {K : PySem.W.Frag} {H : Hp} : ∀ {ds : List PyData} {vs : List V}, DpAll K H vs ds → vs.length = ds.length
  | [], _, h => by cases h; rfl
  | d :: ds, _, h => by
    cases h with
    | cons h1 h2 => rw [List.length_cons, List.length_cons, dpAll_len h2]
theorem dpAll_get {K : PySem.W.Frag} {H : Hp} : ∀ {ds : List PyData} {vs : List V} {i : Nat} {d : PyData}, DpAll K H vs ds → ds[i]? = some d → ∃ v, vs[i]? = some v ∧ Dp K H v d
  | [], _, _, _, _, e => by simp at e
  | x :: ds, _, 0, d, h, e => by
    cases h with
    | cons h1 h2 =>
      have : x = d := by simpa using e
      subst this
      exact ⟨_, rfl, h1⟩
  | x :: ds, _, i + 1, d, h, e => by
    cases h with
    | cons h1 h2 =>
      obtain ⟨v, e1, q⟩ := dpAll_get (i := i) h2 (by simpa using e)
      exact ⟨v, by simpa using e1, q⟩
theorem dpAll_get' {K : PySem.W.Frag} {H : Hp} : ∀ {ds : List PyData} {vs : List V} {i : Nat} {v : V}, DpAll K H vs ds → vs[i]? = some v → ∃ d, ds[i]? = some d ∧ Dp K H v d
  | [], _, _, _, h, e => by cases h; simp at e
  | x :: ds, _, 0, v, h, e => by
    cases h with
    | cons h1 h2 =>
      rename_i w ws
      have : w = v := by simpa using e
      subst this
      exact ⟨_, rfl, h1⟩
  | x :: ds, _, i + 1, v, h, e => by
    cases h with
    | cons h1 h2 =>
      obtain ⟨d, e1, q⟩ := dpAll_get' (i := i) h2 (by simpa using e)
      exact ⟨d, by simpa using e1, q⟩
theorem dpAll_app {K : PySem.W.Frag} {H : Hp} {es : List PyData} {ws : List V} (q : DpAll K H ws es) : ∀ {ds : List PyData} {vs : List V}, DpAll K H vs ds → DpAll K H (vs ++ ws) (ds ++ es)
  | [], _, h => by cases h; exact q
  | d :: ds, _, h => by
    cases h with
    | cons h1 h2 => exact .cons h1 (dpAll_app q h2)
theorem dpAll_one {K : PySem.W.Frag} {H : Hp} {v : V} {d : PyData} (h : Dp K H v d) : DpAll K H [v] [d] := .cons h .nil
theorem dpAll_set {K : PySem.W.Frag} {H : Hp} {v : V} {d : PyData} (q : Dp K H v d) : ∀ {ds : List PyData} {vs : List V} (i : Nat), DpAll K H vs ds → DpAll K H (vs.set i v) (ds.set i d)
  | [], _, _, h => by cases h; exact .nil
  | x :: ds, _, 0, h => by
    cases h with
    | cons h1 h2 => exact .cons q h2
  | x :: ds, _, i + 1, h => by
    cases h with
    | cons h1 h2 => exact .cons h1 (dpAll_set q i h2)
theorem dpAll_take {K : PySem.W.Frag} {H : Hp} : ∀ {ds : List PyData} {vs : List V} (n : Nat), DpAll K H vs ds → DpAll K H (vs.take n) (ds.take n)
  | _, _, 0, _ => by simp only [List.take_zero]; exact .nil
  | [], _, _ + 1, h => by cases h; exact .nil
  | x :: ds, _, n + 1, h => by
    cases h with
    | cons h1 h2 => exact .cons h1 (dpAll_take n h2)
theorem dpAll_drop {K : PySem.W.Frag} {H : Hp} : ∀ {ds : List PyData} {vs : List V} (n : Nat), DpAll K H vs ds → DpAll K H (vs.drop n) (ds.drop n)
  | _, _, 0, h => h
  | [], _, _ + 1, h => by cases h; exact .nil
  | x :: ds, _, n + 1, h => by
    cases h with
    | cons h1 h2 => exact dpAll_drop n h2
theorem dpAll_rep {K : PySem.W.Frag} {H : Hp} {v : V} {d : PyData} (h : Dp K H v d) : ∀ n, DpAll K H (List.replicate n v) (List.replicate n d)
  | 0 => .nil
  | n + 1 => .cons h (dpAll_rep h n)
theorem dpAll_ints {K : PySem.W.Frag} {H : Hp} : ∀ ns : List Int, DpAll K H (ns.map V.int) (ns.map PyData.int)
  | [] => .nil
  | n :: ns => .cons (.int n) (dpAll_ints ns)
theorem dpAll_flat {K : PySem.W.Frag} {H : Hp} {ds : List PyData} {vs : List V} (h : DpAll K H vs ds) : ∀ n, DpAll K H (List.replicate n vs).flatten (List.replicate n ds).flatten
  | 0 => .nil
  | n + 1 => by
    rw [List.replicate_succ, List.flatten_cons, List.replicate_succ, List.flatten_cons]
    exact dpAll_app (dpAll_flat h n) h

/-! ### the state of a def's body, by data -/
/-- a slot: nothing is known; data; a list of the body's own, that nothing else reads; the bag -/
inductive S where
  | un | dat (d : PyData) | own (ds : List PyData) | bag
/-- a value: data; a list just made; a list of the body's own, lent; the bag -/
inductive R where
  | dat (d : PyData) | new (ds : List PyData) | bor (ds : List PyData) | bag
structure Yc where
  H0 : Hp
  hs : List Addr
  bg : Option (Addr × Addr)
def BagAt (H : Hp) (b c : Addr) : Prop := ∃ (x y z : Int) (ns : List Int), ns.length ≤ 63 ∧ H b = some (.lst [.int x, .int y, .int z, .ref c]) ∧ H c = some (.lst (ns.map V.int))
def BagNow (Y : Yc) (H : Hp) : Prop := ∀ b c, Y.bg = some (b, c) → b ∈ Y.hs ∧ c ∈ Y.hs ∧ b ≠ c ∧ BagAt H b c
/-- all is as it was, but the bag -/
def Gr (Y : Yc) (H H' : Hp) : Prop := ∀ a o, (∀ b c, Y.bg = some (b, c) → a ≠ b) → H a = some o → H' a = some o
def Tracked (hs : List Addr) (H : Hp) : Prop := ∀ a ∈ hs, H a ≠ none
theorem Gr.refl {Y : Yc} {H : Hp} : Gr Y H H := fun _ _ _ h => h
theorem Gr.trans {Y : Yc} {H H1 H2 : Hp} (a : Gr Y H H1) (b : Gr Y H1 H2) : Gr Y H H2 := fun x o n h => b x o n (a x o n h)
theorem Gr.of {Y : Yc} {H H' : Hp} (e : Same H H') : Gr Y H H' := fun a o _ h => e a o h
theorem Gr.hide {Y : Yc} {H H' : Hp} {hs : List Addr} (g : Gr Y H H') (hb : ∀ b c, Y.bg = some (b, c) → b ∈ hs) : Same (hide hs H) (hide hs H') := fun a o h => by
  obtain ⟨n, e⟩ := hide_some h
  exact hide_of n (g a o (fun b c q z => n (by rw [z]; exact hb b c q)) e)
theorem Gr.fresh {Y : Yc} {H H' : Hp} {a : Addr} (g : Gr Y H H') (hb : BagNow Y H') (h : H' a = none) : H a = none := by
  cases e : H a with
  | none => rfl
  | some o =>
    have : H' a = some o := g a o (fun b c q z => by
      obtain ⟨_, _, _, x, y, zz, ns, _, e1, _⟩ := hb b c q
      rw [← z, h] at e1
      cases e1) e
    rw [h] at this
    cases this
theorem BagNow.same {Y : Yc} {H H' : Hp} (e : Same H H') (h : BagNow Y H) : BagNow Y H' := fun b c q => by
  obtain ⟨h1, h2, h3, x, y, z, ns, nl, e1, e2⟩ := h b c q
  exact ⟨h1, h2, h3, x, y, z, ns, nl, e _ _ e1, e _ _ e2⟩

def SlotOk (K : PySem.W.Frag) (Y : Yc) (hs : List Addr) (H : Hp) (o : Option (Option V)) : S → Prop
  | .un => True
  | .dat d => ∃ v, o = some (some v) ∧ Dp K (hide hs H) v d
  | .own ds => ∃ a xs, o = some (some (.ref a)) ∧ a ∈ hs ∧ a ∉ Y.hs ∧ H a = some (.lst xs) ∧ DpAll K (hide hs H) xs ds
  | .bag => ∃ b c, Y.bg = some (b, c) ∧ o = some (some (.ref b))
def Res (K : PySem.W.Frag) (Y : Yc) (hs : List Addr) (H H' : Hp) (v : V) : R → Prop
  | .dat d => Dp K (hide hs H') v d
  | .new ds => ∃ a xs, v = .ref a ∧ H a = none ∧ a ∉ hs ∧ H' a = some (.lst xs) ∧ DpAll K (hide (a :: hs) H') xs ds
  | .bor ds => ∃ a xs, v = .ref a ∧ a ∈ hs ∧ a ∉ Y.hs ∧ H' a = some (.lst xs) ∧ DpAll K (hide hs H') xs ds
  | .bag => ∃ b c, Y.bg = some (b, c) ∧ v = .ref b

structure Rel (K : PySem.W.Frag) (Y : Yc) (hs : List Addr) (σ : L2.St) (H : Hp) (δ : List S) : Prop where
  len : σ.length = δ.length
  slot : ∀ (i : Nat) (s : S), δ[i]? = some s → SlotOk K Y hs H σ[i]? s
  dist : ∀ (i j : Nat) (ds es : List PyData), i ≠ j → δ[i]? = some (.own ds) → δ[j]? = some (.own es) → σ[i]? ≠ σ[j]?
  sub : ∀ a ∈ Y.hs, a ∈ hs
  new : ∀ a ∈ hs, a ∉ Y.hs → Y.H0 a = none
  tr : Tracked hs H
  bag : BagNow Y H
  gr : Gr Y Y.H0 H
  ls : ∀ a ∈ hs, a ∉ Y.hs → ∃ xs, H a = some (.lst xs)

section
variable {K : PySem.W.Frag} {Y : Yc} {hs : List Addr} {σ : L2.St} {H H1 H2 H' : Hp} {δ : List S} {v w : V} {r : R}
theorem Rel.bgIn (I : Rel K Y hs σ H δ) : ∀ b c, Y.bg = some (b, c) → b ∈ hs := fun b c q => I.sub _ (I.bag b c q).1
theorem Tracked.gr (t : Tracked hs H) (g : Gr Y H H') (hb : BagNow Y H') : Tracked hs H' := fun a ha z => t a ha (g.fresh hb z)
theorem SlotOk.gr {o : Option (Option V)} {s : S} (q : SlotOk K Y hs H o s) (g : Gr Y H H') (hb : ∀ b c, Y.bg = some (b, c) → b ∈ Y.hs ∧ b ∈ hs) : SlotOk K Y hs H' o s := by
  have e := g.hide fun b c z => (hb b c z).2
  cases s with
  | un => trivial
  | dat d => obtain ⟨v, e1, e2⟩ := q; exact ⟨v, e1, dp_same e _ _ e2⟩
  | own ds =>
    obtain ⟨a, xs, e1, e2, e3, e4, e5⟩ := q
    exact ⟨a, xs, e1, e2, e3, g a _ (fun b c z y => e3 (by rw [y]; exact (hb b c z).1)) e4, dpAll_same e _ _ e5⟩
  | bag => exact q
theorem Rel.grow (I : Rel K Y hs σ H δ) (g : Gr Y H H') (hb : BagNow Y H') : Rel K Y hs σ H' δ :=
  ⟨I.len, fun i s e => (I.slot i s e).gr g fun b c z => ⟨(I.bag b c z).1, I.bgIn b c z⟩, I.dist, I.sub, I.new, I.tr.gr g hb, hb, I.gr.trans g, fun a ha n => by
    obtain ⟨xs, e⟩ := I.ls a ha n
    exact ⟨xs, g a _ (fun b c z y => n (by rw [y]; exact (I.bag b c z).1)) e⟩⟩
theorem Res.grow (q : Res K Y hs H H1 v r) (g : Gr Y H1 H2) (hb : ∀ b c, Y.bg = some (b, c) → b ∈ Y.hs ∧ b ∈ hs) (hn : BagNow Y H1) : Res K Y hs H H2 v r := by
  have e := g.hide fun b c z => (hb b c z).2
  cases r with
  | dat d => exact dp_same e _ _ q
  | new ds =>
    obtain ⟨a, xs, e1, e2, e3, e4, e5⟩ := q
    exact ⟨a, xs, e1, e2, e3, g a _ (fun b c z y => e3 (by rw [y]; exact (hb b c z).2)) e4, dpAll_same (g.hide fun b c z => List.mem_cons_of_mem _ (hb b c z).2) _ _ e5⟩
  | bor ds =>
    obtain ⟨a, xs, e1, e2, e3, e4, e5⟩ := q
    exact ⟨a, xs, e1, e2, e3, g a _ (fun b c z y => e3 (by rw [y]; exact (hb b c z).1)) e4, dpAll_same e _ _ e5⟩
  | bag => exact q
theorem Res.back (q : Res K Y hs H1 H2 v r) (g : Gr Y H H1) (hb : BagNow Y H1) : Res K Y hs H H2 v r := by
  cases r with
  | dat d => exact q
  | new ds =>
    obtain ⟨a, xs, e1, e2, e3, e4, e5⟩ := q
    exact ⟨a, xs, e1, g.fresh hb e2, e3, e4, e5⟩
  | bor ds => exact q
  | bag => exact q

/-- the data of a value -/
def R.d : R → PyData
  | .dat d => d
  | .new ds => .list ds
  | .bor ds => .list ds
  | .bag => .none
/-- it may be kept -/
def R.solid : R → Prop
  | .dat _ => True
  | .new _ => True
  | _ => False
def R.plain : R → Prop
  | .bag => False
  | _ => True
theorem Res.read (q : Res K Y hs H H' v r) (p : r.plain) : Dp K H' v r.d := by
  cases r with
  | dat d => exact dp_same hide_same _ _ q
  | new ds =>
    obtain ⟨a, xs, rfl, _, _, e4, e5⟩ := q
    exact .lst (SqL.of e4) (dpAll_same hide_same _ _ e5)
  | bor ds =>
    obtain ⟨a, xs, rfl, _, _, e4, e5⟩ := q
    exact .lst (SqL.of e4) (dpAll_same hide_same _ _ e5)
  | bag => exact False.elim p
theorem Res.keep (q : Res K Y hs H H' v r) (p : r.solid) : Dp K (hide hs H') v r.d := by
  cases r with
  | dat d => exact q
  | new ds =>
    obtain ⟨a, xs, rfl, _, e3, e4, e5⟩ := q
    exact .lst (SqL.of (hide_of e3 e4)) (dpAll_same (hide_sub fun _ h => List.mem_cons_of_mem _ h) _ _ e5)
  | bor ds => exact False.elim p
  | bag => exact False.elim p
/-- a list's items -/
theorem Res.lst {ds : List PyData} (q : Res K Y hs H H' v r) (p : r.plain) (e : r.d = .list ds) : ∃ a xs, v = .ref a ∧ SqL K H' a xs ∧ DpAll K (hide hs H') xs ds := by
  cases r with
  | dat d =>
    have e' : d = .list ds := e
    subst e'
    have q' : Dp K (hide hs H') v (.list ds) := q
    cases q' with
    | lst hs ha => exact ⟨_, _, rfl, hide_same.seq hs, ha⟩
  | new es =>
    have e' : es = ds := PyData.list.inj e
    subst e'
    obtain ⟨a, xs, rfl, _, _, e4, e5⟩ := q
    exact ⟨a, xs, rfl, SqL.of e4, dpAll_same (hide_sub fun _ h => List.mem_cons_of_mem _ h) _ _ e5⟩
  | bor es =>
    have e' : es = ds := PyData.list.inj e
    subst e'
    obtain ⟨a, xs, rfl, _, _, e4, e5⟩ := q
    exact ⟨a, xs, rfl, SqL.of e4, e5⟩
  | bag => exact False.elim p
theorem Res.tup {ds : List PyData} (q : Res K Y hs H H' v (.dat (.tuple ds))) : ∃ a xs, v = .ref a ∧ SqT K (hide hs H') a xs ∧ DpAll K (hide hs H') xs ds := by
  have q' : Dp K (hide hs H') v (.tuple ds) := q
  cases q' with
  | tup hs ha => exact ⟨_, _, rfl, hs, ha⟩

theorem Rel.set (I : Rel K Y hs σ H δ) {i : Nat} {d : PyData} (q : Dp K (hide hs H) v d) : Rel K Y hs (σ.set i (some v)) H (δ.set i (.dat d)) := by
  refine ⟨by rw [List.length_set, List.length_set]; exact I.len, fun j s e => ?_, fun j k ds es n e1 e2 => ?_, I.sub, I.new, I.tr, I.bag, I.gr, I.ls⟩
  · by_cases h : i = j
    · subst h
      have hl : i < δ.length := by
        have := (List.getElem?_eq_some_iff.mp e).1
        rwa [List.length_set] at this
      rw [List.getElem?_set_self hl] at e
      cases e
      exact ⟨v, by rw [List.getElem?_set_self (by rw [I.len]; exact hl)], q⟩
    · rw [List.getElem?_set_ne h] at e
      rw [List.getElem?_set_ne h]
      exact I.slot j s e
  · have own_ne : ∀ {j : Nat} {ds : List PyData}, (δ.set i (S.dat d))[j]? = some (.own ds) → i ≠ j ∧ δ[j]? = some (.own ds) := fun {j ds} e => by
      by_cases h : i = j
      · subst h
        by_cases hl : i < δ.length
        · rw [List.getElem?_set_self hl] at e
          cases e
        · rw [List.getElem?_eq_none (by rw [List.length_set]; omega)] at e
          cases e
      · rw [List.getElem?_set_ne h] at e
        exact ⟨h, e⟩
    obtain ⟨n1, f1⟩ := own_ne e1
    obtain ⟨n2, f2⟩ := own_ne e2
    rw [List.getElem?_set_ne n1, List.getElem?_set_ne n2]
    exact I.dist j k ds es n f1 f2
/-- a list just made becomes the body's own -/
theorem Rel.setNew (I : Rel K Y hs σ H δ) (g : Gr Y H H') (hb : BagNow Y H') {i : Nat} {ds : List PyData} {a : Addr} {xs : List V} (n0 : H a = none) (e4 : H' a = some (.lst xs)) (e5 : DpAll K (hide (a :: hs) H') xs ds) :
    Rel K Y (a :: hs) (σ.set i (some (.ref a))) H' (δ.set i (.own ds)) ∧ Same (hide hs H) (hide (a :: hs) H') := by
  have na : a ∉ hs := fun h => I.tr a h n0
  have ex : Same (hide hs H) (hide (a :: hs) H') := fun b o h => by
    obtain ⟨n, e⟩ := hide_some h
    refine hide_of (fun z => ?_) (g b o (fun b' c q z => n (by rw [z]; exact I.bgIn b' c q)) e)
    rcases List.mem_cons.mp z with z | z
    · subst z
      rw [n0] at e
      cases e
    · exact n z
  have I' := I.grow g hb
  refine ⟨⟨by rw [List.length_set, List.length_set]; exact I.len, fun j s e => ?_, fun j k es fs n e1 e2 => ?_, fun b hb' => List.mem_cons_of_mem _ (I.sub b hb'), fun b hb' n => ?_, fun b hb' => ?_, hb, I'.gr, fun b hb' n => (List.mem_cons.mp hb').elim (fun z => ⟨xs, by rw [z]; exact e4⟩) fun z => I'.ls b z n⟩, ex⟩
  · by_cases h : i = j
    · subst h
      have hl : i < δ.length := by
        have := (List.getElem?_eq_some_iff.mp e).1
        rwa [List.length_set] at this
      rw [List.getElem?_set_self hl] at e
      cases e
      exact ⟨a, xs, by rw [List.getElem?_set_self (by rw [I.len]; exact hl)], List.mem_cons_self, fun z => na (I.sub a z), e4, e5⟩
    · rw [List.getElem?_set_ne h] at e
      rw [List.getElem?_set_ne h]
      have q := I.slot j s e
      cases s with
      | un => trivial
      | dat d => obtain ⟨v, e1, e2⟩ := q; exact ⟨v, e1, dp_same ex _ _ e2⟩
      | own ds =>
        obtain ⟨b, ys, e1, e2, e3, e6, e7⟩ := q
        exact ⟨b, ys, e1, List.mem_cons_of_mem _ e2, e3, g b _ (fun b' c z y => e3 (by rw [y]; exact (I.bag b' c z).1)) e6, dpAll_same ex _ _ e7⟩
      | bag => exact q
  · have at_new : ∀ {j : Nat} {ds : List PyData}, j ≠ i → (δ.set i (S.own ds))[i]? = some (.own ds) → ∀ {es : List PyData}, δ[j]? = some (.own es) → (σ.set i (some (V.ref a)))[i]? ≠ (σ.set i (some (V.ref a)))[j]? := fun {j ds} nj _ {es} ej z => by
      obtain ⟨b, ys, f1, f2, _⟩ := I.slot j _ ej
      have hi : (σ.set i (some (V.ref a)))[j]? = some (some (.ref b)) := by
        rw [List.getElem?_set_ne (Ne.symm nj)]
        exact f1
      rw [hi] at z
      by_cases hl : i < σ.length
      · rw [List.getElem?_set_self hl] at z
        cases z
        exact na f2
      · rw [List.getElem?_eq_none (by rw [List.length_set]; omega)] at z
        cases z
    have dec : ∀ {j : Nat} {es : List PyData}, (δ.set i (S.own ds))[j]? = some (.own es) → (j = i ∧ i < δ.length) ∨ (i ≠ j ∧ δ[j]? = some (.own es)) := fun {j es} e => by
      by_cases h : i = j
      · subst h
        have hl := (List.getElem?_eq_some_iff.mp e).1
        rw [List.length_set] at hl
        exact .inl ⟨rfl, hl⟩
      · rw [List.getElem?_set_ne h] at e
        exact .inr ⟨h, e⟩
    rcases dec e1 with ⟨z1, hl⟩ | ⟨n1, f1⟩
    · rcases dec e2 with ⟨z2, _⟩ | ⟨n2, f2⟩
      · exact absurd (z1.trans z2.symm) n
      · subst z1
        exact at_new (ds := ds) (Ne.symm n2) (List.getElem?_set_self hl) f2
    · rcases dec e2 with ⟨z2, hl⟩ | ⟨n2, f2⟩
      · subst z2
        exact fun z => at_new (ds := ds) (Ne.symm n1) (List.getElem?_set_self hl) f1 z.symm
      · rw [List.getElem?_set_ne n1, List.getElem?_set_ne n2]
        exact I.dist j k es fs n f1 f2
  · rcases List.mem_cons.mp hb' with z | z
    · subst z
      exact I.gr.fresh I.bag n0
    · exact I.new b z n
  · rcases List.mem_cons.mp hb' with z | z
    · subst z
      rw [e4]
      exact fun z => nomatch z
    · exact I'.tr b z
/-- the body's own list at i changes -/
theorem Rel.upd (I : Rel K Y hs σ H δ) {i : Nat} {ds es : List PyData} {a : Addr} {ys : List V} (e : δ[i]? = some (.own ds)) (ea : σ[i]? = some (some (.ref a))) (q : DpAll K (hide hs H) ys es) :
    Rel K Y hs σ (upd H a (.lst ys)) (δ.set i (.own es)) ∧ Same (hide hs H) (hide hs (upd H a (.lst ys))) := by
  obtain ⟨a', xs, f1, f2, f3, f4, f5⟩ := I.slot i _ e
  rw [ea] at f1
  cases f1
  have ex : Same (hide hs H) (hide hs (L2.upd H a (.lst ys))) := fun b o h => by
    obtain ⟨n, e⟩ := hide_some h
    refine hide_of n ?_
    rw [upd_ne (fun z => n (by rw [z]; exact f2))]
    exact e
  refine ⟨⟨by rw [List.length_set]; exact I.len, fun j s ej => ?_, fun j k gs hs' n e1 e2 => ?_, I.sub, I.new, fun b hb' => ?_, fun b c z => ?_, fun b o n h => ?_, fun b hb' n => ?_⟩, ex⟩
  · by_cases h : i = j
    · subst h
      rw [List.getElem?_set_self (List.getElem?_eq_some_iff.mp e).1] at ej
      cases ej
      exact ⟨a, ys, ea, f2, f3, upd_same, dpAll_same ex _ _ q⟩
    · rw [List.getElem?_set_ne h] at ej
      have p := I.slot j s ej
      cases s with
      | un => trivial
      | dat d => obtain ⟨v, e1, e2⟩ := p; exact ⟨v, e1, dp_same ex _ _ e2⟩
      | own gs =>
        obtain ⟨b, zs, e1, e2, e3, e6, e7⟩ := p
        have nb : b ≠ a := fun z => I.dist i j ds gs h e ej (by rw [ea, e1, z])
        exact ⟨b, zs, e1, e2, e3, by rw [upd_ne nb]; exact e6, dpAll_same ex _ _ e7⟩
      | bag => exact p
  · have dec : ∀ {j : Nat} {gs : List PyData}, (δ.set i (S.own es))[j]? = some (.own gs) → ∃ gs', δ[j]? = some (.own gs') := fun {j gs} ej => by
      by_cases h : i = j
      · subst h
        exact ⟨ds, e⟩
      · rw [List.getElem?_set_ne h] at ej
        exact ⟨gs, ej⟩
    obtain ⟨g1, h1⟩ := dec e1
    obtain ⟨g2, h2⟩ := dec e2
    exact I.dist j k g1 g2 n h1 h2
  · by_cases h : b = a
    · rw [h, upd_same]
      exact fun z => nomatch z
    · rw [upd_ne h]
      exact I.tr b hb'
  · obtain ⟨h1, h2, h3, x, y, zz, ns, nl, e1, e2⟩ := I.bag b c z
    refine ⟨h1, h2, h3, x, y, zz, ns, nl, ?_, ?_⟩
    · rw [upd_ne (fun q => f3 (by rw [← q]; exact h1))]
      exact e1
    · rw [upd_ne (fun q => f3 (by rw [← q]; exact h2))]
      exact e2
  · have hb := I.gr b o n h
    rw [upd_ne (fun z => ?_)]
    · exact hb
    · subst z
      rw [I.new b f2 f3] at h
      cases h
  · by_cases h : b = a
    · exact ⟨ys, by rw [h, upd_same]⟩
    · rw [upd_ne h]
      exact I.ls b hb' n
/-- all of the body's own lists are data from now on -/
def thaw : S → S
  | .own ds => .dat (.list ds)
  | s => s
theorem Rel.thaw (I : Rel K Y hs σ H δ) : Rel K Y Y.hs σ H (δ.map thaw) := by
  refine ⟨by rw [List.length_map]; exact I.len, fun i s e => ?_, fun i j ds es n e1 e2 => ?_, fun a h => h, fun a h n => absurd h n, fun a h => I.tr a (I.sub a h), I.bag, I.gr, fun a h n => absurd h n⟩
  · rw [List.getElem?_map] at e
    cases e0 : δ[i]? with
    | none => rw [e0] at e; cases e
    | some s0 =>
      rw [e0] at e
      have e' : DL.thaw s0 = s := Option.some.inj e
      subst e'
      have q := I.slot i s0 e0
      have ex : Same (hide hs H) (hide Y.hs H) := hide_sub I.sub
      cases s0 with
      | un => trivial
      | dat d => obtain ⟨v, e1, e2⟩ := q; exact ⟨v, e1, dp_same ex _ _ e2⟩
      | own ds =>
        obtain ⟨a, xs, e1, e2, e3, e4, e5⟩ := q
        exact ⟨.ref a, e1, .lst (SqL.of (hide_of e3 e4)) (dpAll_same ex _ _ e5)⟩
      | bag => exact q
  · rw [List.getElem?_map] at e1
    cases e0 : δ[i]? with
    | none => rw [e0] at e1; cases e1
    | some s0 =>
      rw [e0] at e1
      have e' : DL.thaw s0 = .own ds := Option.some.inj e1
      cases s0 <;> cases e'
end
end DL
set_option maxHeartbeats 1000000
namespace DL
open PySem PySem.Spec PyProof.Rows L2

abbrev DE := List S → (R → Prop) → Prop
abbrev DA := List S → (List R → Prop) → Prop
abbrev DT := List S → (Bool → Prop) → Prop
abbrev D2 := R → R → (R → Prop) → Prop
abbrev DC := List R → (R → Prop) → Prop
def ResAll (K : PySem.W.Frag) (Y : Yc) (hs : List Addr) (H H' : Hp) : List V → List R → Prop := Paired (fun v r => Res K Y hs H H' v r)

def tl (K : PySem.W.Frag) (Y : Yc) (t : DE) : TE := fun σ H Q => ∃ hs δ P, Rel K Y hs σ H δ ∧ t δ P ∧ ∀ r v H', P r → Gr Y H H' → BagNow Y H' → Res K Y hs H H' v r → Q v H'
def tla (K : PySem.W.Frag) (Y : Yc) (t : DA) : TA := fun σ H Q => ∃ hs δ P, Rel K Y hs σ H δ ∧ t δ P ∧ ∀ rs vs H', P rs → Gr Y H H' → BagNow Y H' → ResAll K Y hs H H' vs rs → Q vs H'
def tlt (K : PySem.W.Frag) (Y : Yc) (t : DT) : TT := fun σ H Q => ∃ hs δ P, Rel K Y hs σ H δ ∧ t δ P ∧ ∀ b H', P b → Gr Y H H' → BagNow Y H' → Q b H'

section
variable {X : Cx} {Y : Yc} {e a b c : Expr} {es : List Expr} {pos : Pos}

theorem pe_imp {t t' : TE} (h : PE X e t) (i : ∀ σ H Q, t' σ H Q → t σ H Q) : PE X e t' := ⟨fun pins s σ H Q I hq => h.run pins s σ H Q I (i σ H Q hq)⟩
theorem pt_imp {t t' : TT} (h : PT X e t) (i : ∀ σ H Q, t' σ H Q → t σ H Q) : PT X e t' := ⟨fun pins s σ H Q I hq => h.run pins s σ H Q I (i σ H Q hq)⟩
theorem pa_imp {t t' : TA} (h : PA X es t) (i : ∀ σ H Q, t' σ H Q → t σ H Q) : PA X es t' := ⟨fun pos pins s σ H Q I hq => h.run pos pins s σ H Q I (i σ H Q hq)⟩

/-! ### names, constants -/
def dVar (i : Nat) : DE := fun δ P => match δ[i]? with
  | some (.dat d) => P (.dat d)
  | some (.own ds) => P (.bor ds)
  | some .bag => P .bag
  | _ => False
theorem xe_var {i : Nat} (h : PE X e (tVar i)) : PE X e (tl X.K Y (dVar i)) := pe_imp h fun σ H Q ⟨hs, δ, P, I, q, k⟩ => by
  unfold dVar at q
  cases e1 : δ[i]? with
  | none => rw [e1] at q; exact False.elim q
  | some s =>
    rw [e1] at q
    have w := I.slot i s e1
    cases s with
    | un => exact False.elim q
    | dat d => obtain ⟨v, f1, f2⟩ := w; exact ⟨v, f1, k _ v H q .refl I.bag f2⟩
    | own ds => obtain ⟨a, xs, f1, f2, f3, f4, f5⟩ := w; exact ⟨_, f1, k _ _ H q .refl I.bag ⟨a, xs, rfl, f2, f3, f4, f5⟩⟩
    | bag => obtain ⟨b, c, f1, f2⟩ := w; exact ⟨_, f2, k _ _ H q .refl I.bag ⟨b, c, f1, rfl⟩⟩
def dC (d : PyData) : DE := fun _ P => P (.dat d)
theorem xe_int {i : Int} {j pos} : PE X (.Constant (.int i) j pos) (tl X.K Y (dC (.int i))) := pe_imp pe_int fun σ H Q ⟨hs, δ, P, I, q, k⟩ => k _ _ H q .refl I.bag (.int i)
theorem xe_bl {b j pos} : PE X (.Constant (.bool b) j pos) (tl X.K Y (dC (.bool b))) := pe_imp pe_bl fun σ H Q ⟨hs, δ, P, I, q, k⟩ => k _ _ H q .refl I.bag (.bl b)
theorem xe_non {j pos} : PE X (.Constant .none j pos) (tl X.K Y (dC .none)) := pe_imp pe_non fun σ H Q ⟨hs, δ, P, I, q, k⟩ => k _ _ H q .refl I.bag .non
theorem xe_str {x j pos} : PE X (.Constant (.str x) j pos) (tl X.K Y (dC (.str x))) := pe_imp pe_str fun σ H Q ⟨hs, δ, P, I, q, k⟩ => k _ _ H q .refl I.bag (.str x)

/-! ### two operands -/
structure At (K : PySem.W.Frag) (Y : Yc) (hs : List Addr) (H : Hp) : Prop where
  bg : ∀ b c, Y.bg = some (b, c) → b ∈ Y.hs ∧ b ∈ hs
  tr : Tracked hs H
  bag : BagNow Y H
theorem Rel.at {K : PySem.W.Frag} {hs : List Addr} {σ : L2.St} {H : Hp} {δ : List S} (I : Rel K Y hs σ H δ) : At K Y hs H := ⟨fun b c q => ⟨(I.bag b c q).1, I.bgIn b c q⟩, I.tr, I.bag⟩
def Lift2 (K : PySem.W.Frag) (Y : Yc) (r : R2) (g : D2) : Prop := ∀ (hs : List Addr) (H0 H : Hp) (v w : V) (x y : R) (P : R → Prop) (Q : VK), At K Y hs H → (∀ a, H a = none → H0 a = none) → Res K Y hs H0 H v x → Res K Y hs H0 H w y → g x y P →
  (∀ z u H', P z → Same H H' → Res K Y hs H0 H' u z → Q u H') → r v w H Q
def LiftC (K : PySem.W.Frag) (Y : Yc) (r : List V → Hp → VK → Prop) (g : DC) : Prop := ∀ (hs : List Addr) (H0 H : Hp) (vs : List V) (xs : List R) (P : R → Prop) (Q : VK), At K Y hs H → (∀ a, H a = none → H0 a = none) → ResAll K Y hs H0 H vs xs → g xs P →
  (∀ z u H', P z → Same H H' → Res K Y hs H0 H' u z → Q u H') → r vs H Q
def dOp (g : D2) (ta tb : DE) : DE := fun δ P => ta δ fun x => tb δ fun y => g x y P
theorem x_op {K : PySem.W.Frag} {r : R2} {g : D2} {ta tb : DE} (hg : Lift2 K Y r g) : ∀ σ H Q, tl K Y (dOp g ta tb) σ H Q → tOp r (tl K Y ta) (tl K Y tb) σ H Q := fun σ H Q ⟨hs, δ, P, I, q, k⟩ =>
  ⟨hs, δ, _, I, q, fun x v H1 q1 g1 b1 r1 => ⟨hs, δ, _, I.grow g1 b1, q1, fun y w H2 q2 g2 b2 r2 => by
    have I2 := (I.grow g1 b1).grow g2 b2
    refine hg hs H H2 v w x y P Q I2.at (fun a n => g1.fresh b1 (g2.fresh b2 n)) (r1.grow g2 I.at.bg b1) (r2.back g1 b1) q2 fun z u H3 p e rz => ?_
    exact k z u H3 p ((g1.trans g2).trans (.of e)) (b2.same e) rz⟩⟩
theorem xe_op {op : Operator} {r : R2} {g : D2} {ta tb : DE} (ho : OpR X (binaryOp op) r) (hg : Lift2 X.K Y r g) (ha : PE X a (tl X.K Y ta)) (hb : PE X b (tl X.K Y tb)) : PE X (.BinOp a op b pos) (tl X.K Y (dOp g ta tb)) :=
  pe_imp (pe_op ho ha hb) (x_op hg)
theorem xe_cmp {op : CmpOp} {r : R2} {g : D2} {ta tb : DE} (ho : OpR X (compareOp op) r) (hg : Lift2 X.K Y r g) (ha : PE X a (tl X.K Y ta)) (hb : PE X b (tl X.K Y tb)) (hm : behindInMarks op b = false) : PE X (.Compare a [op] [b] pos) (tl X.K Y (dOp g ta tb)) :=
  pe_imp (pe_cmpR ho ha hb hm) (x_op hg)
def dTest (t : DE) : DT := fun δ P => t δ fun r => match r with
  | .dat (.bool b) => P b
  | _ => False
theorem x_test {K : PySem.W.Frag} {t : DE} : ∀ σ H Q, tlt K Y (dTest t) σ H Q → tTest (tl K Y t) σ H Q := fun σ H Q ⟨hs, δ, P, I, q, k⟩ =>
  ⟨hs, δ, _, I, q, fun r v H1 q1 g1 b1 r1 => by
    cases r with
    | dat d =>
      cases d with
      | bool b => cases r1; exact ⟨b, rfl, k b H1 q1 g1 b1⟩
      | _ => exact False.elim q1
    | _ => exact False.elim q1⟩
theorem xt_cmp {op : CmpOp} {r : R2} {g : D2} {ta tb : DE} (ho : OpR X (compareOp op) r) (hg : Lift2 X.K Y r g) (ha : PE X a (tl X.K Y ta)) (hb : PE X b (tl X.K Y tb)) (hm : behindInMarks op b = false) : PT X (.Compare a [op] [b] pos) (tlt X.K Y (dTest (dOp g ta tb))) :=
  pt_imp (pt_cmpR ho ha hb hm) fun σ H Q h => by
    obtain ⟨hs, δ, P, I, q, k⟩ := x_test σ H Q h
    exact x_op hg σ H _ ⟨hs, δ, P, I, q, k⟩

/-! ### whole numbers -/
def gI (C : Int → Int → Prop) (f : Int → Int → PyData) : D2 := fun x y P => match x, y with
  | .dat (.int i), .dat (.int j) => C i j ∧ P (.dat (f i j))
  | _, _ => False
def vd : PyData → V
  | .int i => .int i
  | .bool b => .bl b
  | .str x => .str x
  | _ => .non
theorem lift_I {K : PySem.W.Frag} {C : Int → Int → Prop} {f : Int → Int → V} {g : Int → Int → PyData} (hf : ∀ i j K H, Dp K H (f i j) (g i j)) : Lift2 K Y (rI C f) (gI C g) := fun hs H0 H v w x y P Q _ _ rx ry q k => by
  unfold gI at q
  split at q
  · cases rx; cases ry
    exact ⟨_, _, rfl, rfl, q.1, k _ _ H q.2 (Same.refl H) (hf _ _ _ _)⟩
  · exact False.elim q
theorem lift_I0 {K : PySem.W.Frag} {f : Int → Int → V} {g : Int → Int → PyData} (hf : ∀ i j K H, Dp K H (f i j) (g i j)) : Lift2 K Y (rI0 f) (gI (fun _ _ => True) g) := fun hs H0 H v w x y P Q _ _ rx ry q k => by
  unfold gI at q
  split at q
  · cases rx; cases ry
    exact ⟨_, _, rfl, rfl, k _ _ H q.2 (Same.refl H) (hf _ _ _ _)⟩
  · exact False.elim q
/-- // by any divisor but 0, below 2 ^ 9000 in size -/
def CDivA (_ j : Int) : Prop := j ≠ 0 ∧ j.natAbs.log2 < 9000
theorem op_fdivA : OpR X (binaryOp .FloorDiv) (rI CDivA fun i j => .int (i.fdiv j)) := opI fun i j _ _ _ _ _ hc q =>
  floordiv_int hc.1 q (.inl (PyProof.noPylong_of_log2 hc.2))
/-! ### tuples and lists -/
theorem paired_len {α β : Type} {F : α → β → Prop} {xs : List α} {ys : List β} (h : Paired F xs ys) : xs.length = ys.length := Paired.length h
theorem resAll_solid {K : PySem.W.Frag} {hs : List Addr} {H0 H : Hp} : ∀ {vs : List V} {rs : List R}, ResAll K Y hs H0 H vs rs → (∀ r ∈ rs, r.solid) → DpAll K (hide hs H) vs (rs.map R.d)
  | _, _, .nil, _ => .nil
  | _, _, .cons h t, p => .cons (Res.keep h (p _ List.mem_cons_self)) (resAll_solid t fun r hr => p r (List.mem_cons_of_mem _ hr))
def R.isSolid : R → Bool
  | .dat _ => true
  | .new _ => true
  | _ => false
theorem R.solid_of {r : R} (h : r.isSolid = true) : r.solid := by cases r <;> first | trivial | cases h
def dNil : DA := fun _ P => P []
def dCons (t : DE) (u : DA) : DA := fun δ P => t δ fun r => u δ fun rs => P (r :: rs)
theorem xa_nil : PA X [] (tla X.K Y dNil) := pa_imp pa_nil fun σ H Q ⟨hs, δ, P, I, q, k⟩ => k _ _ H q .refl I.bag .nil
theorem resAll_grow {K : PySem.W.Frag} {hs : List Addr} {H H1 H2 : Hp} (g : Gr Y H1 H2) (hb : ∀ b c, Y.bg = some (b, c) → b ∈ Y.hs ∧ b ∈ hs) (hn : BagNow Y H1) : ∀ {vs : List V} {rs : List R}, ResAll K Y hs H H1 vs rs → ResAll K Y hs H H2 vs rs
  | _, _, .nil => .nil
  | _, _, .cons h t => .cons (Res.grow h g hb hn) (resAll_grow g hb hn t)
theorem resAll_back {K : PySem.W.Frag} {hs : List Addr} {H H1 H2 : Hp} (g : Gr Y H H1) (hb : BagNow Y H1) : ∀ {vs : List V} {rs : List R}, ResAll K Y hs H1 H2 vs rs → ResAll K Y hs H H2 vs rs
  | _, _, .nil => .nil
  | _, _, .cons h t => .cons (Res.back h g hb) (resAll_back g hb t)
theorem xa_cons {t : DE} {u : DA} (h : PE X e (tl X.K Y t)) (hr : PA X es (tla X.K Y u)) (hs : starEach (e :: es) X.env = (false, eval e X.env) :: starEach es X.env := by rfl) : PA X (e :: es) (tla X.K Y (dCons t u)) :=
  pa_imp (pa_cons h hr hs) fun σ H Q ⟨hs, δ, P, I, q, k⟩ => ⟨hs, δ, _, I, q, fun r v H1 q1 g1 b1 r1 => ⟨hs, δ, _, I.grow g1 b1, q1, fun rs vs H2 q2 g2 b2 r2 =>
    k (r :: rs) (v :: vs) H2 q2 (g1.trans g2) b2 (.cons (r1.grow g2 I.at.bg b1) (resAll_back g1 b1 r2))⟩⟩
def dTup (t : DA) : DE := fun δ P => t δ fun rs => (rs.all R.isSolid = true ∧ rs.length ≤ 1000) ∧ P (.dat (.tuple (rs.map R.d)))
theorem all_solid {rs : List R} (h : rs.all R.isSolid = true) : ∀ r ∈ rs, r.solid := fun r hr => R.solid_of (List.all_eq_true.mp h r hr)
theorem xe_tup {x1} {t : DA} (h : PA X es (tla X.K Y t)) : PE X (.Tuple es x1 pos) (tl X.K Y (dTup t)) := pe_imp (pe_tup h) fun σ H Q ⟨hs, δ, P, I, q, k⟩ =>
  ⟨hs, δ, _, I, q, fun rs vs H1 ⟨⟨q1, q2⟩, q3⟩ g1 b1 r1 => ⟨by rw [paired_len r1]; exact Nat.le_of_lt (small1000 q2), fun p hp => by
    have np : p ∉ hs := fun z => (I.grow g1 b1).tr p z hp
    have e : Same H1 (L2.upd H1 p (.tup vs)) := fun a o h => by rw [upd_ne (ne_of_none h hp)]; exact h
    have e2 : Same (hide hs H1) (hide hs (L2.upd H1 p (.tup vs))) := fun a o h => by
      obtain ⟨n, h⟩ := hide_some h
      exact hide_of n (e a o h)
    exact k _ _ _ q3 (g1.trans (.of e)) (b1.same e) (Dp.tup (SqT.of (hide_of np upd_same)) (dpAll_same e2 _ _ (resAll_solid r1 (all_solid q1))))⟩⟩
def dLst (t : DA) : DE := fun δ P => t δ fun rs => (rs.all R.isSolid = true ∧ rs.length ≤ 1000) ∧ P (.new (rs.map R.d))
theorem xe_lst {t : DA} (h : PA X es (tla X.K Y t)) : PE X (.List es pos) (tl X.K Y (dLst t)) := pe_imp (pe_lst h) fun σ H Q ⟨hs, δ, P, I, q, k⟩ =>
  ⟨hs, δ, _, I, q, fun rs vs H1 ⟨⟨q1, q2⟩, q3⟩ g1 b1 r1 => ⟨by rw [paired_len r1]; exact Nat.le_of_lt (small1000 q2), fun p hp => by
    have np : p ∉ hs := fun z => (I.grow g1 b1).tr p z hp
    have e : Same H1 (L2.upd H1 p (.lst vs)) := fun a o h => by rw [upd_ne (ne_of_none h hp)]; exact h
    have e2 : Same (hide hs H1) (hide (p :: hs) (L2.upd H1 p (.lst vs))) := fun a o h => by
      obtain ⟨n, h⟩ := hide_some h
      refine hide_of (fun z => ?_) (e a o h)
      rcases List.mem_cons.mp z with z | z
      · exact ne_of_none h hp z
      · exact n z
    exact k _ _ _ q3 (g1.trans (.of e)) (b1.same e) ⟨p, vs, rfl, g1.fresh b1 hp, np, upd_same, dpAll_same e2 _ _ (resAll_solid r1 (all_solid q1))⟩⟩⟩

/-! ### an item -/
def gIx : D2 := fun x y P => match x, y with
  | .dat (.tuple ds), .dat (.int i) => (match atI ds i with | some d => P (.dat d) | none => False)
  | .dat (.list ds), .dat (.int i) => (match atI ds i with | some d => P (.dat d) | none => False)
  | .new ds, .dat (.int i) => (match atI ds i with | some d => P (.dat d) | none => False)
  | .bor ds, .dat (.int i) => (match atI ds i with | some d => P (.dat d) | none => False)
  | _, _ => False
theorem dpAll_at {K : PySem.W.Frag} {H : Hp} {ds : List PyData} {vs : List V} {i : Int} {d : PyData} (h : DpAll K H vs ds) (e : atI ds i = some d) : ∃ v, atI vs i = some v ∧ Dp K H v d := by
  unfold atI at e ⊢
  rw [dpAll_len h]
  cases q : ixN ds.length i with
  | none => rw [q] at e; cases e
  | some j =>
    rw [q] at e
    exact dpAll_get h e
theorem lift_ix {K : PySem.W.Frag} : Lift2 K Y (rIx K) gIx := fun hs H0 H v w x y P Q A _ rx ry q k => by
  have lst : ∀ {ds : List PyData} {i : Int}, x.plain → x.d = .list ds → y = .dat (.int i) → (match atI ds i with | some d => P (.dat d) | none => False) → rIx K v w H Q := fun {ds i} p e ey q0 => by
    subst ey
    cases ry
    cases f : atI ds i with
    | none => rw [f] at q0; exact False.elim q0
    | some d =>
      rw [f] at q0
      obtain ⟨a, xs, rfl, h1, h2⟩ := Res.lst rx p e
      obtain ⟨u, h3, h4⟩ := dpAll_at h2 f
      exact .inl ⟨a, xs, i, u, rfl, rfl, h1, h3, k _ _ H q0 (Same.refl H) h4⟩
  unfold gIx at q
  split at q
  · cases ry
    rename_i ds i
    cases f : atI ds i with
    | none => rw [f] at q; exact False.elim q
    | some d =>
      rw [f] at q
      obtain ⟨a, xs, rfl, h1, h2⟩ := Res.tup rx
      obtain ⟨u, h3, h4⟩ := dpAll_at h2 f
      exact .inr (.inl ⟨a, xs, i, u, rfl, rfl, sqT_same hide_same h1, h3, k _ _ H q (Same.refl H) h4⟩)
  · exact lst trivial rfl rfl q
  · exact lst trivial rfl rfl q
  · exact lst trivial rfl rfl q
  · exact False.elim q
theorem xe_ix {ta tb : DE} (ha : PE X a (tl X.K Y ta)) (hb : PE X b (tl X.K Y tb)) (hs : PlainIx b) : PE X (.Subscript a b pos) (tl X.K Y (dOp gIx ta tb)) := pe_imp (pe_ix ix_seq ha hb hs) (x_op lift_ix)

/-! ### == of data -/
def gEq (n : Bool) : D2 := fun x y P => match x, y with
  | .dat (.str u), .dat (.str v) => P (.dat (.bool (decide (u = v) != n)))
  | .bag, _ => False
  | _, .bag => False
  | x, y => SeqAt.shaped x.d = true ∧ SeqAt.shaped y.d = true ∧ P (.dat (.bool (PyData.eqv x.d y.d != n)))
theorem op_eqA {X : Cx} (hu : X.A.units + 64 < cLine) : OpR X (compareOp .Eq) (fun x y H Q => rEq x y H Q ∨ rEqD X.K x y H Q) := by
  intro pins s σ H x y v u Q I rx ry hq
  rcases hq with hq | hq
  · exact op_eq pins s σ H x y v u Q I rx ry hq
  · exact op_eqD hu pins s σ H x y v u Q I rx ry hq
theorem op_neA {X : Cx} (hu : X.A.units + 64 < cLine) : OpR X (compareOp .NotEq) (fun x y H Q => rNe x y H Q ∨ rNeD X.K x y H Q) := by
  intro pins s σ H x y v u Q I rx ry hq
  rcases hq with hq | hq
  · exact op_ne pins s σ H x y v u Q I rx ry hq
  · exact op_neD hu pins s σ H x y v u Q I rx ry hq
theorem gEq_of {n : Bool} {x y : R} {P : R → Prop} (h : gEq n x y P) : (∃ u v, x = .dat (.str u) ∧ y = .dat (.str v) ∧ P (.dat (.bool (decide (u = v) != n)))) ∨ (x.plain ∧ y.plain ∧ SeqAt.shaped x.d = true ∧ SeqAt.shaped y.d = true ∧ P (.dat (.bool (PyData.eqv x.d y.d != n)))) := by
  unfold gEq at h
  split at h
  · exact .inl ⟨_, _, rfl, rfl, h⟩
  · exact False.elim h
  · exact False.elim h
  · rename_i h1 h2 h3
    refine .inr ⟨?_, ?_, h⟩
    · cases x <;> first | trivial | exact absurd rfl h2
    · cases y <;> first | trivial | exact absurd rfl h3
theorem str_dec {u v : Str} : decide (V.str u = V.str v) = decide (u = v) := by
  by_cases h : u = v
  · subst h
    rw [decide_eq_true rfl, decide_eq_true rfl]
  · rw [decide_eq_false h, decide_eq_false fun z => h (V.str.inj z)]
theorem lift_eq {K : PySem.W.Frag} : Lift2 K Y (fun x y H Q => rEq x y H Q ∨ rEqD K x y H Q) (gEq false) := fun hs H0 H v w x y P Q A _ rx ry q k => by
  rcases gEq_of q with ⟨u, t, rfl, rfl, q⟩ | ⟨p1, p2, s1, s2, q⟩
  · cases rx; cases ry
    refine .inl ⟨rfl, k _ _ H q (Same.refl H) ?_⟩
    rw [Bool.bne_false, str_dec]
    exact .bl _
  · refine .inr ⟨x.d, y.d, rx.read p1, ry.read p2, s1, s2, k _ _ H q (Same.refl H) ?_⟩
    rw [Bool.bne_false]
    exact .bl _
theorem lift_ne {K : PySem.W.Frag} : Lift2 K Y (fun x y H Q => rNe x y H Q ∨ rNeD K x y H Q) (gEq true) := fun hs H0 H v w x y P Q A _ rx ry q k => by
  rcases gEq_of q with ⟨u, t, rfl, rfl, q⟩ | ⟨p1, p2, s1, s2, q⟩
  · cases rx; cases ry
    refine .inl ⟨rfl, k _ _ H q (Same.refl H) ?_⟩
    rw [Bool.bne_true, str_dec]
    exact .bl _
  · refine .inr ⟨x.d, y.d, rx.read p1, ry.read p2, s1, s2, k _ _ H q (Same.refl H) ?_⟩
    rw [Bool.bne_true]
    exact .bl _

/-! ### built-in functions -/
def dCB (g : DC) (t : DA) : DE := fun δ P => t δ fun rs => g rs P
variable {p : Pos} {x : Str} {id T : String} {r : List V → Hp → VK → Prop} {g : DC} {t : DA}
theorem x_CB {K : PySem.W.Frag} (hg : LiftC K Y r g) : ∀ σ H Q, tl K Y (dCB g t) σ H Q → tCB r (tla K Y t) σ H Q := fun σ H Q ⟨hs, δ, P, I, q, k⟩ =>
  ⟨hs, δ, _, I, q, fun rs vs H1 q1 g1 b1 r1 => hg hs H H1 vs rs P Q (I.grow g1 b1).at (fun a n => g1.fresh b1 n) r1 q1 fun z u H2 pz e rz => k z u H2 pz (g1.trans (.of e)) (b1.same e) rz⟩
theorem xe_callB (hc : CallR X (.builtin id) r) (lg : LiftC X.K Y r g) (hg : Gl X x) (hm : X.mg x = none) (hv : bootBuiltins x = some (.builtin id)) (ha : PA X (e :: es) (tla X.K Y t)) (hn : x ≠ "__name__" := by decide) (hdb : (x == ("__debug__" : Str)) = false := by decide)
    (he : starEach (e :: es) X.env = (false, eval e X.env) :: starEach es X.env := by rfl) (hpl : (backTo pos (starEach es X.env)).any (·.1) = false := by rfl) : PE X (.Call (.Name x p) (e :: es) [] pos) (tl X.K Y (dCB g t)) :=
  pe_imp (pe_callB hc hg hm hv ha hn hdb he hpl) (x_CB lg)
theorem xe_callTy (hc : CallR X (.type T) r) (lg : LiftC X.K Y r g) (hg : Gl X x) (hm : X.mg x = none) (hv : bootBuiltins x = some (.type T)) (ha : PA X (e :: es) (tla X.K Y t)) (hn : x ≠ "__name__" := by decide) (hdb : (x == ("__debug__" : Str)) = false := by decide)
    (he : starEach (e :: es) X.env = (false, eval e X.env) :: starEach es X.env := by rfl) (hpl : (backTo pos (starEach es X.env)).any (·.1) = false := by rfl) : PE X (.Call (.Name x p) (e :: es) [] pos) (tl X.K Y (dCB g t)) :=
  pe_imp (pe_callTy hc hg hm hv ha hn hdb he hpl) (x_CB lg)
theorem xe_callF (hc : CallR X (.builtin id) r) (lg : LiftC X.K Y r g) (hg : Gl X x) (hm : X.mg x = some (.builtin id)) (ha : PA X (e :: es) (tla X.K Y t)) (hdb : (x == ("__debug__" : Str)) = false := by decide)
    (he : starEach (e :: es) X.env = (false, eval e X.env) :: starEach es X.env := by rfl) (hpl : (backTo pos (starEach es X.env)).any (·.1) = false := by rfl) : PE X (.Call (.Name x p) (e :: es) [] pos) (tl X.K Y (dCB g t)) :=
  pe_imp (pe_callBfun hc hg hm ha hdb he hpl) (x_CB lg)

def gInt1 (f : Int → PyData) : DC := fun rs P => match rs with
  | [.dat (.int i)] => P (.dat (f i))
  | _ => False
def gInt2 (f : Int → Int → PyData) : DC := fun rs P => match rs with
  | [.dat (.int i), .dat (.int j)] => P (.dat (f i j))
  | _ => False
theorem gInt1_of {f : Int → PyData} {rs : List R} {P : R → Prop} (h : gInt1 f rs P) : ∃ i, rs = [.dat (.int i)] ∧ P (.dat (f i)) := by
  unfold gInt1 at h
  split at h
  · exact ⟨_, rfl, h⟩
  · exact False.elim h
theorem gInt2_of {f : Int → Int → PyData} {rs : List R} {P : R → Prop} (h : gInt2 f rs P) : ∃ i j, rs = [.dat (.int i), .dat (.int j)] ∧ P (.dat (f i j)) := by
  unfold gInt2 at h
  split at h
  · exact ⟨_, _, rfl, h⟩
  · exact False.elim h
theorem resAll_1 {K : PySem.W.Frag} {hs : List Addr} {H0 H : Hp} {vs : List V} {x : R} (h : ResAll K Y hs H0 H vs [x]) : ∃ v, vs = [v] ∧ Res K Y hs H0 H v x := by
  cases h with
  | cons a b => cases b; exact ⟨_, rfl, a⟩
theorem resAll_2 {K : PySem.W.Frag} {hs : List Addr} {H0 H : Hp} {vs : List V} {x y : R} (h : ResAll K Y hs H0 H vs [x, y]) : ∃ v w, vs = [v, w] ∧ Res K Y hs H0 H v x ∧ Res K Y hs H0 H w y := by
  cases h with
  | cons a b => cases b with | cons a2 b2 => cases b2; exact ⟨_, _, rfl, a, a2⟩
theorem lift_abs {K : PySem.W.Frag} : LiftC K Y (fun xs H Q => ∃ i, xs = [.int i] ∧ Q (.int (if i < 0 then -i else i)) H) (gInt1 fun i => .int (if i < 0 then -i else i)) := fun hs H0 H vs xs P Q A _ rr q k => by
  obtain ⟨i, rfl, q⟩ := gInt1_of q
  obtain ⟨v, rfl, r1⟩ := resAll_1 rr
  cases r1
  exact ⟨i, rfl, k _ _ H q (Same.refl H) (Dp.int _)⟩
def gIntOf : DC := fun rs P => match rs with
  | [.dat (.int i)] => P (.dat (.int i))
  | [.dat (.bool b)] => P (.dat (.int (if b then 1 else 0)))
  | _ => False
theorem lift_int {K : PySem.W.Frag} : LiftC K Y (fun xs H Q => (∃ i, xs = [.int i] ∧ Q (.int i) H) ∨ ∃ k, xs = [.bl k] ∧ Q (.int (if k then 1 else 0)) H) gIntOf := fun hs H0 H vs xs P Q A _ rr q k => by
  unfold gIntOf at q
  split at q
  · obtain ⟨v, rfl, r1⟩ := resAll_1 rr
    cases r1
    exact .inl ⟨_, rfl, k _ _ H q (Same.refl H) (Dp.int _)⟩
  · obtain ⟨v, rfl, r1⟩ := resAll_1 rr
    cases r1
    exact .inr ⟨_, rfl, k _ _ H q (Same.refl H) (Dp.int _)⟩
  · exact False.elim q
theorem lift_min2 {K : PySem.W.Frag} : LiftC K Y (fun xs H Q => ∃ i j, xs = [.int i, .int j] ∧ Q (.int (if j < i then j else i)) H) (gInt2 fun i j => .int (if j < i then j else i)) := fun hs H0 H vs xs P Q A _ rr q k => by
  obtain ⟨i, j, rfl, q⟩ := gInt2_of q
  obtain ⟨v, w, rfl, r1, r2⟩ := resAll_2 rr
  cases r1; cases r2
  exact ⟨i, j, rfl, k _ _ H q (Same.refl H) (Dp.int _)⟩
theorem lift_gcd {K : PySem.W.Frag} : LiftC K Y rGcd (gInt2 fun i j => .int (((Nat.gcd i.natAbs j.natAbs : Nat) : Int))) := fun hs H0 H vs xs P Q A _ rr q k => by
  obtain ⟨i, j, rfl, q⟩ := gInt2_of q
  obtain ⟨v, w, rfl, r1, r2⟩ := resAll_2 rr
  cases r1; cases r2
  exact ⟨i, j, rfl, k _ _ H q (Same.refl H) (Dp.int _)⟩
def gLen : DC := fun rs P => match rs with
  | [.dat (.tuple ds)] => P (.dat (.int (ds.length : Int)))
  | [.dat (.list ds)] => P (.dat (.int (ds.length : Int)))
  | [.new ds] => P (.dat (.int (ds.length : Int)))
  | [.bor ds] => P (.dat (.int (ds.length : Int)))
  | _ => False
theorem lift_len {K : PySem.W.Frag} : LiftC K Y (fun xs H Q => ∃ p ys, xs = [.ref p] ∧ (SqL K H p ys ∨ SqT K H p ys) ∧ Q (.int ys.length) H) gLen := fun hs H0 H vs xs P Q A _ rr q k => by
  have lst : ∀ {x : R} {ds : List PyData}, xs = [x] → x.plain → x.d = .list ds → P (.dat (.int (ds.length : Int))) → ∃ p ys, vs = [.ref p] ∧ (SqL K H p ys ∨ SqT K H p ys) ∧ Q (.int ys.length) H := fun {x ds} ex p e q0 => by
    subst ex
    obtain ⟨v, rfl, r1⟩ := resAll_1 rr
    obtain ⟨a, ys, rfl, h1, h2⟩ := Res.lst r1 p e
    refine ⟨a, ys, rfl, .inl h1, ?_⟩
    rw [dpAll_len h2]
    exact k _ _ H q0 (Same.refl H) (Dp.int _)
  unfold gLen at q
  split at q
  · obtain ⟨v, rfl, r1⟩ := resAll_1 rr
    obtain ⟨a, ys, rfl, h1, h2⟩ := Res.tup r1
    refine ⟨a, ys, rfl, .inr (sqT_same hide_same h1), ?_⟩
    rw [dpAll_len h2]
    exact k _ _ H q (Same.refl H) (Dp.int _)
  · exact lst rfl trivial rfl q
  · exact lst rfl trivial rfl q
  · exact lst rfl trivial rfl q
  · exact False.elim q
/-- tuple(x) -/
def gTuple : DC := fun rs P => match rs with
  | [.dat (.tuple ds)] => P (.dat (.tuple ds))
  | [.dat (.list ds)] => P (.dat (.tuple ds))
  | [.new ds] => P (.dat (.tuple ds))
  | [.bor ds] => P (.dat (.tuple ds))
  | _ => False
theorem same_upd {H : Hp} {p : Addr} {o : HO} (h : H p = none) : Same H (L2.upd H p o) := fun b x e => by
  rw [upd_ne (ne_of_none e h)]
  exact e
theorem hide_upd {H : Hp} {hs : List Addr} {p : Addr} {o : HO} (h : H p = none) : Same (hide hs H) (hide hs (L2.upd H p o)) := fun a u e => by
  obtain ⟨n, e⟩ := hide_some e
  exact hide_of n (same_upd h a u e)
theorem hide_updC {H : Hp} {hs : List Addr} {p : Addr} {o : HO} (h : H p = none) : Same (hide hs H) (hide (p :: hs) (L2.upd H p o)) := fun a u e => by
  obtain ⟨n, e⟩ := hide_some e
  refine hide_of (fun z => ?_) (same_upd h a u e)
  rcases List.mem_cons.mp z with z | z
  · exact ne_of_none e h z
  · exact n z
theorem lift_tuple {K : PySem.W.Frag} : LiftC K Y (fun xs H Q => ∃ p ys, xs = [.ref p] ∧ ((SqL K H p ys ∧ ∀ l, H l = none → Q (.ref l) (L2.upd H l (.tup ys))) ∨ (SqT K H p ys ∧ Q (.ref p) H))) gTuple := fun hs H0 H vs xs P Q A _ rr q k => by
  have lst : ∀ {x : R} {ds : List PyData}, xs = [x] → x.plain → x.d = .list ds → P (.dat (.tuple ds)) → ∃ p ys, vs = [.ref p] ∧ ((SqL K H p ys ∧ ∀ l, H l = none → Q (.ref l) (L2.upd H l (.tup ys))) ∨ (SqT K H p ys ∧ Q (.ref p) H)) := fun {x ds} ex p e q0 => by
    subst ex
    obtain ⟨v, rfl, r1⟩ := resAll_1 rr
    obtain ⟨a, ys, rfl, h1, h2⟩ := Res.lst r1 p e
    refine ⟨a, ys, rfl, .inl ⟨h1, fun l hl => ?_⟩⟩
    exact k _ _ _ q0 (same_upd hl) (Dp.tup (SqT.of (hide_of (fun z => A.tr l z hl) upd_same)) (dpAll_same (hide_upd hl) _ _ h2))
  unfold gTuple at q
  split at q
  · obtain ⟨v, rfl, r1⟩ := resAll_1 rr
    obtain ⟨a, ys, rfl, h1, h2⟩ := Res.tup r1
    exact ⟨a, ys, rfl, .inr ⟨sqT_same hide_same h1, k _ _ H q (Same.refl H) r1⟩⟩
  · exact lst rfl trivial rfl q
  · exact lst rfl trivial rfl q
  · exact lst rfl trivial rfl q
  · exact False.elim q
/-- list(x) -/
def gList : DC := fun rs P => match rs with
  | [.dat (.tuple ds)] => P (.new ds)
  | [.dat (.list ds)] => P (.new ds)
  | [.new ds] => P (.new ds)
  | [.bor ds] => P (.new ds)
  | _ => False
theorem lift_list {K : PySem.W.Frag} : LiftC K Y (fun xs H Q => ∃ p ys, xs = [.ref p] ∧ (SqL K H p ys ∨ SqT K H p ys) ∧ ∀ l, H l = none → Q (.ref l) (L2.upd H l (.lst ys))) gList := fun hs H0 H vs xs P Q A fr rr q k => by
  have fin : ∀ {ys : List V} {ds : List PyData} (l : Addr), H l = none → DpAll K (hide hs H) ys ds → P (.new ds) → Q (.ref l) (L2.upd H l (.lst ys)) := fun {ys ds} l hl h q =>
    k _ _ _ q (same_upd hl) ⟨l, ys, rfl, fr l hl, fun z => A.tr l z hl, upd_same, dpAll_same (hide_updC hl) _ _ h⟩
  have lst : ∀ {x : R} {ds : List PyData}, xs = [x] → x.plain → x.d = .list ds → P (.new ds) → ∃ p ys, vs = [.ref p] ∧ (SqL K H p ys ∨ SqT K H p ys) ∧ ∀ l, H l = none → Q (.ref l) (L2.upd H l (.lst ys)) := fun {x ds} ex p e q0 => by
    subst ex
    obtain ⟨v, rfl, r1⟩ := resAll_1 rr
    obtain ⟨a, ys, rfl, h1, h2⟩ := Res.lst r1 p e
    exact ⟨a, ys, rfl, .inl h1, fun l hl => fin l hl h2 q0⟩
  unfold gList at q
  split at q
  · obtain ⟨v, rfl, r1⟩ := resAll_1 rr
    obtain ⟨a, ys, rfl, h1, h2⟩ := Res.tup r1
    exact ⟨a, ys, rfl, .inr (sqT_same hide_same h1), fun l hl => fin l hl h2 q⟩
  · exact lst rfl trivial rfl q
  · exact lst rfl trivial rfl q
  · exact lst rfl trivial rfl q
  · exact False.elim q
/-- sum(x) of whole numbers -/
def intsOf : List PyData → Option (List Int)
  | [] => some []
  | .int i :: r => (intsOf r).map (i :: ·)
  | _ :: _ => none
theorem intsOf_dp {K : PySem.W.Frag} {H : Hp} : ∀ {ds : List PyData} {vs : List V} {ns : List Int}, DpAll K H vs ds → intsOf ds = some ns → vs = ns.map V.int
  | [], _, ns, h, e => by
    cases h
    cases e
    rfl
  | d :: ds, _, ns, h, e => by
    cases h with
    | cons h1 h2 =>
      cases d with
      | int i =>
        cases h1
        cases q : intsOf ds with
        | none => rw [intsOf, q] at e; cases e
        | some ms =>
          rw [intsOf, q] at e
          cases e
          rw [intsOf_dp h2 q]
          rfl
      | _ => cases e
def gSum : DC := fun rs P => match rs with
  | [.dat (.list ds)] => (match intsOf ds with | some ns => P (.dat (.int ns.sum)) | none => False)
  | [.new ds] => (match intsOf ds with | some ns => P (.dat (.int ns.sum)) | none => False)
  | [.bor ds] => (match intsOf ds with | some ns => P (.dat (.int ns.sum)) | none => False)
  | _ => False
theorem lift_sum {K : PySem.W.Frag} : LiftC K Y (rSum K) gSum := fun hs H0 H vs xs P Q A _ rr q k => by
  have lst : ∀ {x : R} {ds : List PyData}, xs = [x] → x.plain → x.d = .list ds → (match intsOf ds with | some ns => P (.dat (.int ns.sum)) | none => False) → rSum K vs H Q := fun {x ds} ex p e q0 => by
    subst ex
    obtain ⟨v, rfl, r1⟩ := resAll_1 rr
    obtain ⟨a, ys, rfl, h1, h2⟩ := Res.lst r1 p e
    cases f : intsOf ds with
    | none => rw [f] at q0; exact False.elim q0
    | some ns =>
      rw [f] at q0
      have e := intsOf_dp h2 f
      subst e
      exact ⟨a, ns, rfl, h1, k _ _ H q0 (Same.refl H) (Dp.int _)⟩
  unfold gSum at q
  split at q
  · exact lst rfl trivial rfl q
  · exact lst rfl trivial rfl q
  · exact lst rfl trivial rfl q
  · exact False.elim q
/-- repr(x) -/
def rRepr (K : PySem.W.Frag) : List V → Hp → VK → Prop := fun vs H Q => ∃ v d, vs = [v] ∧ Dp K H v d ∧ d.showable = true ∧ d.canLay0 = true ∧ d.depth ≤ 64 ∧ d.shown.length ≤ sizeLine ∧ Q (.str d.shown) H
theorem call_repr (hg : X.A.guards = some []) (hu : X.A.units + 66 < cLine) : CallR X (.builtin "repr") (rRepr X.K) := by
  intro pins s σ H vs us Q I r h
  obtain ⟨v, d, rfl, hd, h1, h2, h3, h4, q⟩ := h
  obtain ⟨u, rfl, ru⟩ := vals1 r
  have h5 := PyData.hasDict_of_canLay d h2
  cases d with
  | none => cases hd; cases ru; exact PySem.P.repr_of_none ⟨.str _, H, I.tok _, ⟨_, rfl⟩, by simpa only [PyData.shown] using q⟩
  | bool b => cases hd; cases ru; exact PySem.P.repr_of_bool ⟨.str _, H, I.tok _, ⟨_, rfl⟩, by simpa only [PyData.shown] using q⟩
  | int i => cases hd; obtain ⟨t, rfl⟩ := ru; exact PySem.P.repr_of_int (by simpa [PyData.showable] using h1) ⟨.str _, H, I.tok _, ⟨_, rfl⟩, by simpa only [PyData.shown] using q⟩
  | str x => cases hd; obtain ⟨t, rfl⟩ := ru; exact PySem.P.repr_of_str ⟨.str _, H, I.tok _, ⟨_, rfl⟩, by simpa only [PyData.shown] using q⟩ (by simpa only [PyData.shown] using h4)
  | dict kvs => cases hd
  | list ds =>
    obtain ⟨as, rd⟩ := Dp.reads I _ _ _ hd ru
    cases hd
    cases ru
    exact PySem.repr_of_reads' rd h1 (PyData.noDict_hsm h5) hg (by omega) (fun _ _ e => e) (fun h' u' tk hk => ⟨.str _, H, I.kept hk, ⟨_, rfl⟩, q⟩) h4
  | tuple ds =>
    obtain ⟨as, rd⟩ := Dp.reads I _ _ _ hd ru
    cases hd
    cases ru
    exact PySem.repr_of_reads' rd h1 (PyData.noDict_hsm h5) hg (by omega) (fun _ _ e => e) (fun h' u' tk hk => ⟨.str _, H, I.kept hk, ⟨_, rfl⟩, q⟩) h4
def showsOk (d : PyData) : Prop := d.showable = true ∧ d.canLay0 = true ∧ d.depth ≤ 64 ∧ d.shown.length ≤ sizeLine
def gRepr : DC := fun rs P => match rs with
  | [.bag] => False
  | [x] => showsOk x.d ∧ P (.dat (.str x.d.shown))
  | _ => False
theorem lift_repr {K : PySem.W.Frag} : LiftC K Y (rRepr K) gRepr := fun hs H0 H vs xs P Q A _ rr q k => by
  have go : ∀ {x : R}, xs = [x] → x.plain → showsOk x.d ∧ P (.dat (.str x.d.shown)) → rRepr K vs H Q := fun {x} ex p q0 => by
    subst ex
    obtain ⟨v, rfl, r1⟩ := resAll_1 rr
    obtain ⟨⟨h1, h2, h3, h4⟩, q0⟩ := q0
    exact ⟨v, x.d, rfl, r1.read p, h1, h2, h3, h4, k _ _ H q0 (Same.refl H) (Dp.str _)⟩
  unfold gRepr at q
  split at q
  · exact False.elim q
  · rename_i x hx
    refine go rfl ?_ q
    cases x with
    | bag => exact absurd rfl hx
    | _ => trivial
  · exact False.elim q
end
end DL
set_option maxHeartbeats 1000000
namespace DL
open PySem PySem.Spec PyProof.Rows L2

/-! ### tests, choices -/
section
variable {X : Cx} {Y : Yc} {e a b c : Expr} {es rest : List Expr} {pos : Pos}
def dIf (c : DT) (t u : DE) : DE := fun δ P => c δ fun k => if k = true then t δ P else u δ P
theorem xe_if {tc : DT} {ta tb : DE} (hc : PT X c (tlt X.K Y tc)) (ha : PE X a (tl X.K Y ta)) (hb : PE X b (tl X.K Y tb)) : PE X (.IfExp c a b pos) (tl X.K Y (dIf tc ta tb)) :=
  pe_imp (pe_ifExp hc ha hb) fun σ H Q ⟨hs, δ, P, I, q, k⟩ => ⟨hs, δ, _, I, q, fun d H1 q1 g1 b1 => by
    cases d with
    | true => exact ⟨hs, δ, P, I.grow g1 b1, q1, fun r v H2 p g2 b2 r2 => k r v H2 p (g1.trans g2) b2 (r2.back g1 b1)⟩
    | false => exact ⟨hs, δ, P, I.grow g1 b1, q1, fun r v H2 p g2 b2 r2 => k r v H2 p (g1.trans g2) b2 (r2.back g1 b1)⟩⟩
def dtNot (t : DT) : DT := fun δ P => t δ fun b => P (!b)
theorem xt_not {t : DT} (h : PT X a (tlt X.K Y t)) : PT X (.UnaryOp .Not a pos) (tlt X.K Y (dtNot t)) :=
  pt_imp (pt_not h) fun σ H Q ⟨hs, δ, P, I, q, k⟩ => ⟨hs, δ, _, I, q, fun d H1 q1 g1 b1 => k _ H1 q1 g1 b1⟩
theorem xt_val {t : DE} (h : PE X a (tl X.K Y t)) (he : ∀ whole, isTrue a X.env whole = (do let v ← whole; standAt a.pos; holding [v] (truthy v)) := by intro _; rfl) : PT X a (tlt X.K Y (dTest t)) :=
  pt_imp (pt_val h he) fun σ H Q h => x_test σ H Q h
theorem pw_imp {t t' : TT} (h : PW X e t) (i : ∀ σ H Q, t' σ H Q → t σ H Q) : PW X e t' := ⟨fun wh pins s σ H Q I hq => h.run wh pins s σ H Q I (i σ H Q hq)⟩
def dtAnd (t u : DT) : DT := fun δ P => t δ fun b => if b = true then u δ P else P false
def dtOr (t u : DT) : DT := fun δ P => t δ fun b => if b = true then P true else u δ P
theorem xw_and1 {t : DT} (h : PT X a (tlt X.K Y t)) : PW X (.BoolOp .And [a] pos) (tlt X.K Y t) := pw_and1 h
theorem xw_or1 {t : DT} (h : PT X a (tlt X.K Y t)) : PW X (.BoolOp .Or [a] pos) (tlt X.K Y t) := pw_or1 h
theorem xw_and {t u : DT} (h : PT X a (tlt X.K Y t)) (h2 : PW X (.BoolOp .And (b :: rest) pos) (tlt X.K Y u)) : PW X (.BoolOp .And (a :: b :: rest) pos) (tlt X.K Y (dtAnd t u)) :=
  pw_imp (pw_and h h2) fun σ H Q ⟨hs, δ, P, I, q, k⟩ => ⟨hs, δ, _, I, q, fun d H1 q1 g1 b1 => by
    cases d with
    | true => exact ⟨hs, δ, P, I.grow g1 b1, q1, fun b' H2 p g2 b2 => k b' H2 p (g1.trans g2) b2⟩
    | false => exact k false H1 q1 g1 b1⟩
theorem xw_or {t u : DT} (h : PT X a (tlt X.K Y t)) (h2 : PW X (.BoolOp .Or (b :: rest) pos) (tlt X.K Y u)) : PW X (.BoolOp .Or (a :: b :: rest) pos) (tlt X.K Y (dtOr t u)) :=
  pw_imp (pw_or h h2) fun σ H Q ⟨hs, δ, P, I, q, k⟩ => ⟨hs, δ, _, I, q, fun d H1 q1 g1 b1 => by
    cases d with
    | false => exact ⟨hs, δ, P, I.grow g1 b1, q1, fun b' H2 p g2 b2 => k b' H2 p (g1.trans g2) b2⟩
    | true => exact k true H1 q1 g1 b1⟩
def dAnd (t u : DE) : DE := fun δ P => t δ fun r => match r with
  | .dat (.bool true) => u δ P
  | .dat (.bool false) => P (.dat (.bool false))
  | _ => False
def dOr (t u : DE) : DE := fun δ P => t δ fun r => match r with
  | .dat (.bool false) => u δ P
  | .dat (.bool true) => P (.dat (.bool true))
  | _ => False
def dNot (t : DE) : DE := fun δ P => t δ fun r => match r with
  | .dat (.bool b) => P (.dat (.bool (!b)))
  | _ => False
theorem xe_one {op} {t : DE} (h : PE X a (tl X.K Y t)) : PE X (.BoolOp op [a] pos) (tl X.K Y t) := pe_one h
theorem xe_and {t u : DE} (h : PE X a (tl X.K Y t)) (h2 : PE X (.BoolOp .And (b :: rest) pos) (tl X.K Y u)) : PE X (.BoolOp .And (a :: b :: rest) pos) (tl X.K Y (dAnd t u)) :=
  pe_imp (pe_and h h2) fun σ H Q ⟨hs, δ, P, I, q, k⟩ => ⟨hs, δ, _, I, q, fun r v H1 q1 g1 b1 r1 => by
    cases r with
    | dat d =>
      cases d with
      | bool x =>
        cases r1
        cases x with
        | true => exact ⟨true, rfl, ⟨hs, δ, P, I.grow g1 b1, q1, fun r v H2 p g2 b2 r2 => k r v H2 p (g1.trans g2) b2 (r2.back g1 b1)⟩⟩
        | false => exact ⟨false, rfl, k _ _ H1 q1 g1 b1 (Dp.bl false)⟩
      | _ => exact False.elim q1
    | _ => exact False.elim q1⟩
theorem xe_or {t u : DE} (h : PE X a (tl X.K Y t)) (h2 : PE X (.BoolOp .Or (b :: rest) pos) (tl X.K Y u)) : PE X (.BoolOp .Or (a :: b :: rest) pos) (tl X.K Y (dOr t u)) :=
  pe_imp (pe_or h h2) fun σ H Q ⟨hs, δ, P, I, q, k⟩ => ⟨hs, δ, _, I, q, fun r v H1 q1 g1 b1 r1 => by
    cases r with
    | dat d =>
      cases d with
      | bool x =>
        cases r1
        cases x with
        | false => exact ⟨false, rfl, ⟨hs, δ, P, I.grow g1 b1, q1, fun r v H2 p g2 b2 r2 => k r v H2 p (g1.trans g2) b2 (r2.back g1 b1)⟩⟩
        | true => exact ⟨true, rfl, k _ _ H1 q1 g1 b1 (Dp.bl true)⟩
      | _ => exact False.elim q1
    | _ => exact False.elim q1⟩
theorem xe_not {t : DE} (h : PE X a (tl X.K Y t)) : PE X (.UnaryOp .Not a pos) (tl X.K Y (dNot t)) :=
  pe_imp (pe_not h) fun σ H Q ⟨hs, δ, P, I, q, k⟩ => ⟨hs, δ, _, I, q, fun r v H1 q1 g1 b1 r1 => by
    cases r with
    | dat d =>
      cases d with
      | bool x => cases r1; exact ⟨x, rfl, k _ _ H1 q1 g1 b1 (Dp.bl _)⟩
      | _ => exact False.elim q1
    | _ => exact False.elim q1⟩
/-- -a -/
def dNeg (t : DE) : DE := fun δ P => t δ fun r => match r with
  | .dat (.int i) => P (.dat (.int (-i)))
  | _ => False
theorem xe_neg {t : DE} (h : PE X a (tl X.K Y t)) : PE X (.UnaryOp .USub a pos) (tl X.K Y (dNeg t)) :=
  pe_imp (pe_un un_neg h) fun σ H Q ⟨hs, δ, P, I, q, k⟩ => ⟨hs, δ, _, I, q, fun r v H1 q1 g1 b1 r1 => by
    cases r with
    | dat d =>
      cases d with
      | int x => cases r1; exact ⟨x, rfl, k _ _ H1 q1 g1 b1 (Dp.int _)⟩
      | _ => exact False.elim q1
    | _ => exact False.elim q1⟩
end

/-! ### statements -/
structure DEnds where
  nx : List S → Prop
  rt : R → Prop
  bk : List S → Prop := fun _ => False
  ct : List S → Prop := fun _ => False
abbrev DS := DEnds → List S → Prop
def sl (K : PySem.W.Frag) (Y : Yc) (t : DS) : TS := fun Dn σ H => ∃ hs δ P, Rel K Y hs σ H δ ∧ t P δ ∧
  (∀ hs' σ' H' δ', Rel K Y hs' σ' H' δ' → Same (hide hs H) (hide hs' H') → P.nx δ' → Dn.nx σ' H') ∧
  (∀ hs' σ' H' δ', Rel K Y hs' σ' H' δ' → Same (hide hs H) (hide hs' H') → P.bk δ' → Dn.bk σ' H') ∧
  (∀ hs' σ' H' δ', Rel K Y hs' σ' H' δ' → Same (hide hs H) (hide hs' H') → P.ct δ' → Dn.ct σ' H') ∧
  (∀ v H' r, Gr Y Y.H0 H' → BagNow Y H' → Res K Y Y.hs Y.H0 H' v r → P.rt r → Dn.rt v H')
def dNext : DS := fun P δ => P.nx δ
def dSeq (t u : DS) : DS := fun P δ => t { P with nx := u P } δ
section
variable {X : Cx} {Y : Yc} {e : Expr} {st : Stmt} {sts rest : List Stmt} {pos : Pos} {t u : DS}
theorem ps_imp {t t' : TS} (h : PS X st t) (i : ∀ D σ H, t' D σ H → t D σ H) : PS X st t' := ⟨fun pins s σ H D I hq => h.run pins s σ H D I (i D σ H hq)⟩
theorem pss_imp {t t' : TS} (h : PSs X sts t) (i : ∀ D σ H, t' D σ H → t D σ H) : PSs X sts t' := ⟨fun pins s σ H D I hq => h.run pins s σ H D I (i D σ H hq)⟩
theorem xss_nil : PSs X [] (sl X.K Y dNext) := pss_imp pss_nil fun Dn σ H ⟨hs, δ, P, I, q, k1, _⟩ => k1 hs σ H δ I (Same.refl _) q
theorem xss_cons (h1 : PS X st (sl X.K Y t)) (h2 : PSs X rest (sl X.K Y u)) : PSs X (st :: rest) (sl X.K Y (dSeq t u)) :=
  pss_imp (pss_cons h1 h2) fun Dn σ H ⟨hs, δ, P, I, q, k1, k2, k3, k4⟩ => ⟨hs, δ, { P with nx := u P }, I, q,
    fun hs' σ' H' δ' I' e' q' => ⟨hs', δ', P, I', q', fun _ _ _ _ i s => k1 _ _ _ _ i (e'.trans s), fun _ _ _ _ i s => k2 _ _ _ _ i (e'.trans s), fun _ _ _ _ i s => k3 _ _ _ _ i (e'.trans s), k4⟩, k2, k3, k4⟩
theorem xss_one (h1 : PS X st (sl X.K Y t)) : PSs X [st] (sl X.K Y t) := pss_one h1
theorem xs_pass : PS X (.Pass pos) (sl X.K Y dNext) := ps_imp ps_pass fun Dn σ H ⟨hs, δ, P, I, q, k1, _⟩ => k1 hs σ H δ I (Same.refl _) q
/-- name = e -/
def dAsg (i : Nat) (t : DE) : DS := fun P δ => t δ fun r => match r with
  | .dat d => P.nx (δ.set i (.dat d))
  | .new ds => P.nx (δ.set i (.own ds))
  | _ => False
theorem x_asg {K : PySem.W.Frag} {i : Nat} {t : DE} : ∀ Dn σ H, sl K Y (dAsg i t) Dn σ H → tAsg (tl K Y t) (gName i) Dn σ H := fun Dn σ H ⟨hs, δ, P, I, q, k1, _⟩ =>
  ⟨hs, δ, _, I, q, fun r v H1 q1 g1 b1 r1 => by
    have I1 := I.grow g1 b1
    cases r with
    | dat d => exact k1 _ _ _ _ (I1.set r1) (g1.hide I.bgIn) q1
    | new ds =>
      obtain ⟨a, xs, rfl, n0, _, e4, e5⟩ := r1
      obtain ⟨I2, ex⟩ := I.setNew (i := i) g1 b1 n0 e4 e5
      exact k1 _ _ _ _ I2 ex q1
    | _ => exact False.elim q1⟩
theorem xs_set {i : Nat} {x : Str} {t : DE} {pos' : Pos} (hN : X.N.Nodup) (hi : X.N[i]? = some x) (hx : Loc X.env.scope x) (he : PE X e (tl X.K Y t)) (hs : swapsWith e (some (.Name x pos')) pos.line X.env = pure false := by rfl) (hf : X.fn x = true ∨ X.env.scope.names.lookup x = some .local := by first | exact .inl rfl | exact .inr rfl | assumption) :
    PS X (.Assign [.Name x pos'] e pos) (sl X.K Y (dAsg i t)) := ps_imp (ps_set hN hi hx he hs hf) x_asg
/-- a, b = x, y -/
def toS : R → Option S
  | .dat d => some (.dat d)
  | .new ds => some (.own ds)
  | _ => none
def dPar (i j : Nat) (t : DA) : DS := fun P δ => t δ fun rs => match rs with
  | [.dat x, .dat y] => P.nx ((δ.set i (.dat x)).set j (.dat y))
  | _ => False
theorem xs_par {i j : Nat} {x y : Str} {a b : Expr} {t : DA} {px py pt : Pos} {kt k2 pt2} (hc : X.calm = true) (hN : X.N.Nodup) (hi : X.N[i]? = some x) (hj : X.N[j]? = some y) (hij : i ≠ j)
    (hx : X.env.scope.names.lookup x = some .local) (hy : X.env.scope.names.lookup y = some .local) (ha : PA X [a, b] (tla X.K Y t))
    (hw : swappedStores [.Tuple [.Name x px, .Name y py] kt pt] (.Tuple [a, b] k2 pt2) X.env = pure (some [x, y]))
    (hs : swapsWithSole [.Tuple [.Name x px, .Name y py] kt pt] (.Tuple [a, b] k2 pt2) pos.line X.env = pure false := by rfl) :
    PS X (.Assign [.Tuple [.Name x px, .Name y py] kt pt] (.Tuple [a, b] k2 pt2) pos) (sl X.K Y (dPar i j t)) :=
  ps_imp (ps_par hc hN hi hj hij hx hy ha hw hs) fun Dn σ H ⟨hs, δ, P, I, q, k1, _⟩ => ⟨hs, δ, _, I, q, fun rs vs H1 q1 g1 b1 r1 => by
    have I1 := I.grow g1 b1
    split at q1
    · obtain ⟨v, w, rfl, p1, p2⟩ := resAll_2 r1
      exact ⟨v, w, rfl, k1 _ _ _ _ ((I1.set p1).set p2) (g1.hide I.bgIn) q1⟩
    · exact False.elim q1⟩
/-- return e -/
def dRet (t : DE) : DS := fun P δ => t (δ.map thaw) P.rt
theorem xs_ret {t : DE} (he : PE X e (tl X.K Y t)) : PS X (.Return (some e) pos) (sl X.K Y (dRet t)) :=
  ps_imp (ps_ret he) fun Dn σ H ⟨hs, δ, P, I, q, _, _, _, k4⟩ => ⟨Y.hs, δ.map thaw, _, I.thaw, q, fun r v H1 q1 g1 b1 r1 => k4 v H1 r (I.gr.trans g1) b1 (r1.back I.gr I.bag) q1⟩
/-- return name: a list of the body's own goes out as a new one -/
def dRetV (i : Nat) : DS := fun P δ => match δ[i]? with
  | some (.own ds) => P.rt (.new ds)
  | some (.dat d) => P.rt (.dat d)
  | _ => False
theorem xs_retV {i : Nat} (he : PE X e (tVar i)) : PS X (.Return (some e) pos) (sl X.K Y (dRetV i)) :=
  ps_imp (ps_ret he) fun Dn σ H ⟨hs, δ, P, I, q, _, _, _, k4⟩ => by
    unfold dRetV at q
    split at q
    · obtain ⟨a, xs, f1, f2, f3, f4, f5⟩ := I.slot i _ (by assumption)
      refine ⟨_, f1, k4 _ H (.new _) I.gr I.bag ⟨a, xs, rfl, I.new a f2 f3, f3, f4, dpAll_same (hide_sub fun b hb => ?_) _ _ f5⟩ q⟩
      rcases List.mem_cons.mp hb with z | z
      · rw [z]; exact f2
      · exact I.sub b z
    · obtain ⟨v, f1, f2⟩ := I.slot i _ (by assumption)
      exact ⟨v, f1, k4 v H (.dat _) I.gr I.bag (dp_same (hide_sub I.sub) _ _ f2) q⟩
    · exact False.elim q
/-- if -/
def dIfS (c : DT) (t u : DS) : DS := fun P δ => c δ fun b => if b = true then t P δ else u P δ
theorem xs_if {c : Expr} {a b : List Stmt} {tc : DT} (hc : PT X c (tlt X.K Y tc)) (ha : PSs X a (sl X.K Y t)) (hb : PSs X b (sl X.K Y u)) : PS X (.If c a b pos) (sl X.K Y (dIfS tc t u)) :=
  ps_imp (ps_if hc ha hb) fun Dn σ H ⟨hs, δ, P, I, q, k1, k2, k3, k4⟩ => ⟨hs, δ, _, I, q, fun d H1 q1 g1 b1 => by
    have ex : Same (hide hs H) (hide hs H1) := g1.hide I.bgIn
    cases d with
    | true => exact ⟨hs, δ, P, I.grow g1 b1, q1, fun _ _ _ _ i s => k1 _ _ _ _ i (ex.trans s), fun _ _ _ _ i s => k2 _ _ _ _ i (ex.trans s), fun _ _ _ _ i s => k3 _ _ _ _ i (ex.trans s), k4⟩
    | false => exact ⟨hs, δ, P, I.grow g1 b1, q1, fun _ _ _ _ i s => k1 _ _ _ _ i (ex.trans s), fun _ _ _ _ i s => k2 _ _ _ _ i (ex.trans s), fun _ _ _ _ i s => k3 _ _ _ _ i (ex.trans s), k4⟩⟩
/-- name.append(e), the name a list of the body's own -/
def dApp (i : Nat) (t : DE) : DS := fun P δ => match δ[i]? with
  | some (.own ds) => ds.length ≤ 1000 ∧ t δ fun r => r.isSolid = true ∧ P.nx (δ.set i (.own (ds ++ [r.d])))
  | _ => False
theorem xs_app {o : Expr} {i : Nat} {t : DE} {apos cpos : Pos} (ho : PE X o (tVar i)) (he : PE X e (tl X.K Y t))
    (hbase : attributeBase o "append" X.env (eval o X.env) = eval o X.env := by rfl)
    (hfew : ((backTo cpos (starEach [e] X.env)).all (fun x => !x.1) && (backToKw cpos (keywordEach [] X.env)).all (fun x => x.1.isSome)
      && decide (([e] : List Expr).length + ([] : List Keyword).length + (if ([] : List Keyword).isEmpty then 0 else 1) < 30)) = true := by rfl)
    (hline : (apos.endLine == cpos.line) = true := by rfl) (hst : starEach [e] X.env = (false, eval e X.env) :: starEach [] X.env := by rfl) (hplain : (backTo cpos (starEach [] X.env)).any (·.1) = false := by rfl)
    (hsw : swapsWith (.Call (.Attribute o "append" apos) [e] [] cpos) none pos.line X.env = pure false := by rfl) :
    PS X (.Expr (.Call (.Attribute o "append" apos) [e] [] cpos) pos) (sl X.K Y (dApp i t)) :=
  ps_imp (ps_expr (pe_bm PySem.F.plainAttrs_list PySem.F.slot_list_append PySem.F.type_list_append mt_append ho (pa_cons he pa_nil hst) hbase hfew hline hst hplain) hsw) fun Dn σ H ⟨hs, δ, P, I, q, k1, _⟩ => by
    unfold dApp at q
    split at q
    · rename_i ds e1
      obtain ⟨q0, q1⟩ := q
      obtain ⟨a, xs, f1, f2, f3, f4, f5⟩ := I.slot i _ e1
      refine ⟨_, f1, .inl ⟨rfl, xs, SqL.of f4⟩, hs, δ, _, I, q1, fun r v H1 ⟨p, q2⟩ g1 b1 r1 => ?_⟩
      have I1 := I.grow g1 b1
      obtain ⟨a', xs', f1', f2', f3', f4', f5'⟩ := I1.slot i _ e1
      rw [f1] at f1'
      cases f1'
      obtain ⟨I2, ex⟩ := I1.upd e1 f1 (dpAll_app (dpAll_one (r1.keep (R.solid_of p))) f5')
      exact ⟨a, xs', v, rfl, rfl, f4', by rw [dpAll_len f5']; exact small1000 q0, k1 _ _ _ _ I2 ((g1.hide I.bgIn).trans ex) q2⟩
    · exact False.elim q
/-- name[e] = e2, the name a list of the body's own -/
def dSetI (i : Nat) (ti tv : DE) : DS := fun P δ => tv δ fun r => r.isSolid = true ∧ match δ[i]? with
  | some (.own ds) => ti δ fun ri => (match ri with
    | .dat (.int k) => (match ixN ds.length k with | some j => P.nx (δ.set i (.own (ds.set j r.d))) | none => False)
    | _ => False)
  | _ => False
theorem xs_setI {o ie : Expr} {i : Nat} {ti tv : DE} {tpos : Pos} (ho : PE X o (tVar i)) (hi : PE X ie (tl X.K Y ti)) (he : PE X e (tl X.K Y tv))
    (ha : ∀ v, assign (.Subscript o ie tpos) X.env v = (do
      let ov ← holding [v] (eval o X.env)
      let iv ← holding [v, ov] (eval ie X.env)
      standAt tpos
      holding [v, ov, iv] (setItem ov iv v)
      release [v, ov, iv] []) := by intro _; rfl)
    (hs : swapsWithSole [.Subscript o ie tpos] e pos.line X.env = pure false := by rfl) (hw : swappedStores [.Subscript o ie tpos] e X.env = pure none := by rfl)
    (h1 : (assignEach [.Subscript o ie tpos] X.env).map (·.2) = [assign (.Subscript o ie tpos) X.env] := by rfl) :
    PS X (.Assign [.Subscript o ie tpos] e pos) (sl X.K Y (dSetI i ti tv)) :=
  ps_imp (ps_asg he (pg_sub ho hi set_list ha) hs hw h1) fun Dn σ H ⟨hs, δ, P, I, q, k1, _⟩ => ⟨hs, δ, _, I, q, fun r v H1 ⟨p, q1⟩ g1 b1 r1 => by
    have I1 := I.grow g1 b1
    split at q1
    · rename_i ds e1
      obtain ⟨a, xs, f1, f2, f3, f4, f5⟩ := I1.slot i _ e1
      refine ⟨_, f1, hs, δ, _, I1, q1, fun ri vi H2 q2 g2 b2 r2 => ?_⟩
      have I2 := I1.grow g2 b2
      obtain ⟨a', xs', f1', f2', f3', f4', f5'⟩ := I2.slot i _ e1
      rw [f1] at f1'
      cases f1'
      split at q2
      · cases r2
        rename_i k
        cases ej : ixN ds.length k with
        | none => rw [ej] at q2; exact False.elim q2
        | some j =>
          rw [ej] at q2
          have r1' := (r1.grow g2 I.at.bg b1).keep (R.solid_of p)
          obtain ⟨I3, ex⟩ := I2.upd e1 f1 (dpAll_set r1' j f5')
          exact ⟨a, xs', k, j, rfl, rfl, f4', by rw [dpAll_len f5']; exact ej, k1 _ _ _ _ I3 (((g1.trans g2).hide I.bgIn).trans ex) q2⟩
      · exact False.elim q2
    · exact False.elim q1⟩
/-- while -/
def dWhile (c : DT) (t : DS) : DS := fun P δ => ∃ W : Nat → List S → Prop, (∃ m, W m δ) ∧ ∀ m δ', W m δ' → c δ' fun b => if b = true then t { P with nx := fun δ2 => ∃ m', m' < m ∧ W m' δ2, ct := fun δ2 => ∃ m', m' < m ∧ W m' δ2, bk := P.nx } δ' else P.nx δ'
theorem xs_while {c : Expr} {body : List Stmt} {tc : DT} (hp : PassesOwn (model X.prog X.w) X.A X.env X.xe) (hc : PT X c (tlt X.K Y tc)) (hb : PSs X body (sl X.K Y t)) : PS X (.While c body [] pos) (sl X.K Y (dWhile tc t)) :=
  ps_imp (ps_while hp hc hb) fun Dn σ H ⟨hs, δ, P, I, ⟨W, ⟨m0, w0⟩, turn⟩, k1, k2, k3, k4⟩ =>
    ⟨fun m σ' H' => ∃ hs' δ', Rel X.K Y hs' σ' H' δ' ∧ Same (hide hs H) (hide hs' H') ∧ W m δ', ⟨m0, hs, δ, I, Same.refl _, w0⟩, fun m σ1 H1 ⟨hs1, δ1, I1, s1, w1⟩ => ⟨hs1, δ1, _, I1, turn m δ1 w1, fun b H2 q2 g2 b2 => by
      have ex : Same (hide hs1 H1) (hide hs1 H2) := g2.hide I1.bgIn
      cases b with
      | true =>
        refine ⟨fun σ' H' => ∃ m', m' < m ∧ ∃ hs' δ', Rel X.K Y hs' σ' H' δ' ∧ Same (hide hs H) (hide hs' H') ∧ W m' δ', fun σ' H' h => h, ?_⟩
        exact ⟨hs1, δ1, _, I1.grow g2 b2, q2, fun _ _ _ δ' i s ⟨m', hm, hw⟩ => ⟨m', hm, _, δ', i, s1.trans (ex.trans s), hw⟩, fun _ _ _ _ i s p => k1 _ _ _ _ i (s1.trans (ex.trans s)) p,
          fun _ _ _ δ' i s ⟨m', hm, hw⟩ => ⟨m', hm, _, δ', i, s1.trans (ex.trans s), hw⟩, k4⟩
      | false => exact k1 _ _ _ _ (I1.grow g2 b2) (s1.trans ex) q2⟩⟩
end

/-! ### targets of loops -/
abbrev DG := PyData → List S → (List S → Prop) → Prop
abbrev DGs := List PyData → List S → (List S → Prop) → Prop
theorem wipe_get (σ : L2.St) (i : Nat) : ∀ vs : List Nat, (wipe σ vs)[i]? = if i ∈ vs then (σ[i]?).map (fun _ => none) else σ[i]?
  | [] => by
    rw [if_neg (by simp)]
    rfl
  | v :: vs => by
    show ((wipe σ vs).set v none)[i]? = _
    by_cases h : v = i
    · subst h
      rw [if_pos List.mem_cons_self]
      by_cases hl : v < σ.length
      · rw [List.getElem?_set_self (by rw [wipe_length]; exact hl), List.getElem?_eq_getElem hl]
        rfl
      · rw [List.getElem?_eq_none (by rw [List.length_set, wipe_length]; omega), List.getElem?_eq_none (by omega)]
        rfl
    · rw [List.getElem?_set_ne h, wipe_get σ i vs]
      by_cases hm : i ∈ vs
      · rw [if_pos hm, if_pos (List.mem_cons_of_mem _ hm)]
      · rw [if_neg hm, if_neg (fun z => (List.mem_cons.mp z).elim (fun q => h q.symm) hm)]
theorem wipe_set {σ : L2.St} {vs : List Nat} {j : Nat} {x : Option V} (h : j ∈ vs) : wipe (σ.set j x) vs = wipe σ vs := by
  apply List.ext_getElem?
  intro i
  rw [wipe_get, wipe_get]
  by_cases hm : i ∈ vs
  · rw [if_pos hm, if_pos hm]
    by_cases e : j = i
    · subst e
      by_cases hl : j < σ.length
      · rw [List.getElem?_set_self hl, List.getElem?_eq_getElem hl]
        rfl
      · rw [List.getElem?_eq_none (by rw [List.length_set]; omega), List.getElem?_eq_none (by omega)]
    · rw [List.getElem?_set_ne e]
  · rw [if_neg hm, if_neg hm, List.getElem?_set_ne (fun e => hm (by rw [← e]; exact h))]
theorem wipe_wipe {σ : L2.St} {vs : List Nat} : wipe (wipe σ vs) vs = wipe σ vs := by
  apply List.ext_getElem?
  intro i
  rw [wipe_get, wipe_get]
  by_cases hm : i ∈ vs
  · rw [if_pos hm, if_pos hm]
    cases σ[i]? <;> rfl
  · rw [if_neg hm, if_neg hm]
def wipeD (δ : List S) : List Nat → List S
  | [] => δ
  | v :: vs => (wipeD δ vs).set v .un
theorem wipeD_get (δ : List S) (i : Nat) : ∀ (vs : List Nat) (s : S), (wipeD δ vs)[i]? = some s → s = .un ∨ (i ∉ vs ∧ δ[i]? = some s)
  | [], s, h => .inr ⟨by simp, h⟩
  | v :: vs, s, h => by
    have h : ((wipeD δ vs).set v .un)[i]? = some s := h
    by_cases e : v = i
    · subst e
      by_cases hl : v < (wipeD δ vs).length
      · rw [List.getElem?_set_self hl] at h
        cases h
        exact .inl rfl
      · rw [List.getElem?_eq_none (by rw [List.length_set]; omega)] at h
        cases h
    · rw [List.getElem?_set_ne e] at h
      rcases wipeD_get δ i vs s h with z | ⟨z1, z2⟩
      · exact .inl z
      · exact .inr ⟨fun q => (List.mem_cons.mp q).elim (fun q => e q.symm) z1, z2⟩
theorem wipeD_len (δ : List S) : ∀ vs : List Nat, (wipeD δ vs).length = δ.length
  | [] => rfl
  | v :: vs => by
    show ((wipeD δ vs).set v .un).length = _
    rw [List.length_set, wipeD_len δ vs]
theorem Rel.wipe {K : PySem.W.Frag} {Y : Yc} {hs : List Addr} {σ : L2.St} {H : Hp} {δ : List S} (I : Rel K Y hs σ H δ) (vs : List Nat) : Rel K Y hs (L2.wipe σ vs) H (wipeD δ vs) := by
  refine ⟨by rw [wipe_length, wipeD_len]; exact I.len, fun i s e => ?_, fun i j ds es n e1 e2 => ?_, I.sub, I.new, I.tr, I.bag, I.gr, I.ls⟩
  · rcases wipeD_get δ i vs s e with z | ⟨z1, z2⟩
    · subst z
      trivial
    · rw [wipe_get, if_neg z1]
      exact I.slot i s z2
  · rcases wipeD_get δ i vs _ e1 with z | ⟨z1, z2⟩
    · cases z
    · rcases wipeD_get δ j vs _ e2 with z | ⟨y1, y2⟩
      · cases z
      · rw [wipe_get, wipe_get, if_neg z1, if_neg y1]
        exact I.dist i j ds es n z2 y2
/-- a target that only stores into the slots vs -/
def gl (K : PySem.W.Frag) (Y : Yc) (vs : List Nat) (g : DG) : TG := fun v σ H Q => ∃ hs δ P d, Rel K Y hs σ H δ ∧ Dp K (hide hs H) v d ∧ g d δ P ∧ ∀ σ' δ', Rel K Y hs σ' H δ' → L2.wipe σ' vs = L2.wipe σ vs → P δ' → Q σ' H
def gls (K : PySem.W.Frag) (Y : Yc) (vs : List Nat) (g : DGs) : TGs := fun us σ H Q => ∃ hs δ P ds, Rel K Y hs σ H δ ∧ DpAll K (hide hs H) us ds ∧ g ds δ P ∧ ∀ σ' δ', Rel K Y hs σ' H δ' → L2.wipe σ' vs = L2.wipe σ vs → P δ' → Q σ' H
def dgName (i : Nat) : DG := fun d δ P => P (δ.set i (.dat d))
def dgNil : DGs := fun ds δ P => ds = [] ∧ P δ
def dgCons (g : DG) (u : DGs) : DGs := fun ds δ P => match ds with
  | d :: r => g d δ fun δ' => u r δ' P
  | [] => False
def dgTup (n : Nat) (u : DGs) : DG := fun d δ P => match d with
  | .tuple ds => ds.length = n ∧ u ds δ P
  | _ => False
section
variable {X : Cx} {Y : Yc} {vs : List Nat} {e : Expr} {es : List Expr} {pos : Pos}
theorem pg_imp {g g' : TG} (h : PG X e g) (i : ∀ v σ H Q, g' v σ H Q → g v σ H Q) : PG X e g' := ⟨fun pins s σ H v u Q I r hq => h.run pins s σ H v u Q I r (i v σ H Q hq)⟩
theorem pgs_imp {g g' : TGs} (h : PGs X es g) (i : ∀ v σ H Q, g' v σ H Q → g v σ H Q) : PGs X es g' := ⟨fun pins s σ H v u Q I r hq => h.run pins s σ H v u Q I r (i v σ H Q hq)⟩
theorem xg_name {i : Nat} {x : Str} (hv : i ∈ vs) (hN : X.N.Nodup) (hi : X.N[i]? = some x) (hx : Loc X.env.scope x) (hf : X.fn x = true ∨ X.env.scope.names.lookup x = some .local := by first | exact .inl rfl | exact .inr rfl | assumption) : PG X (.Name x pos) (gl X.K Y vs (dgName i)) :=
  pg_imp (pg_name hN hi hx hf) fun v σ H Q ⟨hs, δ, P, d, I, q, g, k⟩ => k _ _ (I.set q) (wipe_set hv) g
theorem xgs_nil : PGs X [] (gls X.K Y vs dgNil) := pgs_imp pgs_nil fun us σ H Q ⟨hs, δ, P, ds, I, q, ⟨e, g⟩, k⟩ => by
  subst e
  cases q
  exact ⟨rfl, k σ δ I rfl g⟩
theorem xgs_cons {g : DG} {u : DGs} (h1 : PG X e (gl X.K Y vs g)) (h2 : PGs X es (gls X.K Y vs u))
    (hs : (assignEach (e :: es) X.env).map (·.2) = assign e X.env :: (assignEach es X.env).map (·.2) := by rfl) : PGs X (e :: es) (gls X.K Y vs (dgCons g u)) :=
  pgs_imp (pgs_cons h1 h2 hs) fun us σ H Q ⟨hs, δ, P, ds, I, q, gq, k⟩ => by
    cases ds with
    | nil => exact False.elim gq
    | cons d r =>
      cases q with
      | cons q1 q2 =>
        exact ⟨_, _, rfl, hs, δ, _, d, I, q1, gq, fun σ' δ' I' hw gq' => ⟨hs, δ', P, r, I', q2, gq', fun σ2 δ2 I2 hw2 p2 => k σ2 δ2 I2 (hw2.trans hw) p2⟩⟩
theorem xg_tup {k : Nat} {n : Nat} {u : DGs} (hc : X.calm = true) (h : PGs X es (gls X.K Y vs u)) (hn : (assignEach es X.env).length = n := by rfl) (hst : (assignEach es X.env).findIdx? (·.1) = none := by rfl) : PG X (.Tuple es k pos) (gl X.K Y vs (dgTup n u)) :=
  pg_imp (pg_tup hc h hn hst) fun v σ H Q ⟨hs, δ, P, d, I, q, gq, k⟩ => by
    cases d with
    | tuple ds =>
      cases q with
      | tup q1 q2 => exact ⟨_, _, rfl, sqT_same hide_same q1, by rw [dpAll_len q2]; exact gq.1, hs, δ, P, ds, I, q2, gq.2, k⟩
    | _ => exact False.elim gq
/-- target = e -/
def dAsgT (t : DE) (g : DG) : DS := fun P δ => t δ fun r => match r with
  | .dat d => g d δ P.nx
  | _ => False
theorem xs_asgT {tg : Expr} {t : DE} {g : DG} (he : PE X e (tl X.K Y t)) (hg : PG X tg (gl X.K Y vs g)) (hs : swapsWithSole [tg] e pos.line X.env = pure false := by rfl) (hw : swappedStores [tg] e X.env = pure none := by rfl)
    (h1 : (assignEach [tg] X.env).map (·.2) = [assign tg X.env] := by rfl) : PS X (.Assign [tg] e pos) (sl X.K Y (dAsgT t g)) :=
  ps_imp (ps_asg he hg hs hw h1) fun Dn σ H ⟨hs, δ, P, I, q, k1, _⟩ => ⟨hs, δ, _, I, q, fun r v H1 q1 g1 b1 r1 => by
    cases r with
    | dat d => exact ⟨hs, δ, _, d, I.grow g1 b1, r1, q1, fun σ' δ' I' _ p => k1 _ _ _ _ I' (g1.hide I.bgIn) p⟩
    | _ => exact False.elim q1⟩
end

/-! ### what is walked -/
/-- J walks the items; own: they stand in a list of the body's own -/
def Walks (K : PySem.W.Frag) (Y : Yc) (hs : List Addr) (H : Hp) (J : It) (own : Bool) (items : List PyData) : Prop :=
  ∀ hs2 H2, Tracked hs2 H2 → Same (hide hs H) (hide hs2 H2) → (own = true → ∀ a o, a ∈ hs → a ∉ Y.hs → H a = some o → H2 a = some o) → ∀ i : Nat,
    (∀ d, items[i]? = some d → J.go i H2 ∧ ∀ x H3, J.yld i H2 x H3 → Same H2 H3 ∧ Dp K (hide hs2 H3) x d) ∧ (items.length ≤ i → J.stop i H2)
abbrev DI := List S → (Bool → List PyData → Prop) → Prop
def il (K : PySem.W.Frag) (Y : Yc) (t : DI) : TI := fun σ H R => ∃ hs δ P, Rel K Y hs σ H δ ∧ t δ P ∧ ∀ w items J H', P w items → Gr Y H H' → BagNow Y H' → Walks K Y hs H' J w items → R J H'
def dFor (ti : DI) (g : DG) (tb : DS) : DS := fun P δ => ti δ fun w items => w = false ∧ ∃ Pv : Nat → List S → Prop, Pv 0 δ ∧ (∀ i d δ', items[i]? = some d → Pv i δ' → g d δ' fun δ2 => tb { P with nx := Pv (i + 1), ct := Pv (i + 1), bk := P.nx } δ2) ∧ ∀ δ', Pv items.length δ' → P.nx δ'
section
variable {X : Cx} {Y : Yc} {vs : List Nat} {e : Expr} {es : List Expr} {pos : Pos}
theorem pi_imp {tg iter : Expr} {w w' : TI} (h : PI X tg iter w) (i : ∀ σ H R, w' σ H R → w σ H R) : PI X tg iter w' := ⟨fun pins s σ H R I hq => h.run pins s σ H R I (i σ H R hq)⟩
theorem xs_for {tg iter : Expr} {body : List Stmt} {ti : DI} {g : DG} {tb : DS} (hp : PassesOwn (model X.prog X.w) X.A X.env X.xe) (hc : X.calm = true) (hi : PI X tg iter (il X.K Y ti)) (hg : PG X tg (gl X.K Y vs g)) (hb : PSs X body (sl X.K Y tb))
    (hs : ∀ x, foldedSetIterable iter X.env x = pure x := by intro _; rfl) : PS X (.For tg iter body [] pos) (sl X.K Y (dFor ti g tb)) :=
  ps_imp (ps_for hp hc hi hg hb hs) fun Dn σ H ⟨hs, δ, P, I, q, k1, k2, k3, k4⟩ => ⟨hs, δ, _, I, q, fun w items J H1 ⟨hw, Pv, p0, turn, done⟩ g1 b1 wk => by
    subst hw
    have ex1 : Same (hide hs H) (hide hs H1) := g1.hide I.bgIn
    refine ⟨fun i m σ' H' => m = items.length - i ∧ i ≤ items.length ∧ ∃ hs' δ', Rel X.K Y hs' σ' H' δ' ∧ Same (hide hs H1) (hide hs' H') ∧ Pv i δ', ⟨items.length, by simp, Nat.zero_le _, hs, δ, I.grow g1 b1, Same.refl _, p0⟩, ?_⟩
    rintro i m σ2 H2 ⟨rfl, hi, hs2, δ2, I2, s2, p2⟩
    have wk2 := wk hs2 H2 I2.tr s2 (fun z => nomatch z) i
    by_cases hlt : i < items.length
    · have ei : items[i]? = some items[i] := List.getElem?_eq_getElem hlt
      obtain ⟨go, yl⟩ := wk2.1 _ ei
      refine .inr ⟨go, fun σ' H' => ∃ m', m' < items.length - i ∧ (m' = items.length - (i + 1) ∧ i + 1 ≤ items.length ∧ ∃ hs' δ', Rel X.K Y hs' σ' H' δ' ∧ Same (hide hs H1) (hide hs' H') ∧ Pv (i + 1) δ'), fun σ' H' h => h, fun x H3 y => ?_⟩
      obtain ⟨s3, hd⟩ := yl x H3 y
      have I3 := I2.grow (.of s3) (I2.bag.same s3)
      have ex3 : Same (hide hs2 H2) (hide hs2 H3) := (Gr.of s3 : Gr Y H2 H3).hide I2.bgIn
      refine ⟨hs2, δ2, _, _, I3, hd, turn i _ δ2 ei p2, fun σ4 δ4 I4 _ q4 => ?_⟩
      have nxt : ∀ hs' σ' H' δ', Rel X.K Y hs' σ' H' δ' → Same (hide hs2 H3) (hide hs' H') → Pv (i + 1) δ' → ∃ m', m' < items.length - i ∧ (m' = items.length - (i + 1) ∧ i + 1 ≤ items.length ∧ ∃ hs' δ', Rel X.K Y hs' σ' H' δ' ∧ Same (hide hs H1) (hide hs' H') ∧ Pv (i + 1) δ') :=
        fun hs' σ' H' δ' i' s' p' => ⟨_, by omega, rfl, hlt, hs', δ', i', s2.trans (ex3.trans s'), p'⟩
      exact ⟨hs2, δ4, _, I4, q4, nxt, fun _ _ _ _ i' s' p' => k1 _ _ _ _ i' (ex1.trans (s2.trans (ex3.trans s'))) p', nxt, k4⟩
    · have e : i = items.length := by omega
      subst e
      exact .inl ⟨wk2.2 (Nat.le_refl _), k1 _ _ _ _ I2 (ex1.trans s2) (done δ2 p2)⟩⟩

/-! ### comprehensions -/
def dLc (ti : DI) (g : DG) (tt : DT) (te : DE) (vs : List Nat) : DE := fun δ P => ti δ fun _ items => ∃ Pv : Nat → List PyData → Prop, Pv 0 [] ∧ (∀ i d acc, items[i]? = some d → Pv i acc → acc.length ≤ i → g d (wipeD δ vs) fun δ2 => tt δ2 fun b => if b = true then te δ2 fun r => r.isSolid = true ∧ Pv (i + 1) (acc ++ [r.d]) else Pv (i + 1) acc) ∧
  items.length ≤ 1000 ∧ ∀ acc, Pv items.length acc → P (.new acc)
theorem x_lc {K : PySem.W.Frag} {ti : DI} {g : DG} {tt : DT} {te : DE} : ∀ σ H Q, tl K Y (dLc ti g tt te vs) σ H Q → tLc (il K Y ti) (gl K Y vs g) (tlt K Y tt) (tl K Y te) vs σ H Q := fun σ H Q ⟨hs, δ, P, I, q, k⟩ =>
  ⟨hs, δ, _, I, q, fun w items J H1 ⟨Pv, p0, turn, hz, done⟩ g1 b1 wk D hD => by
    have I1 := I.grow g1 b1
    have nD : D ∉ hs := fun z => I1.tr D z hD
    have gD : Gr Y H1 (L2.upd H1 D (.lst [])) := .of (same_upd hD)
    -- the list that is made stands at D, out of sight
    refine ⟨fun i m H' => m = items.length - i ∧ i ≤ items.length ∧ ∃ xs acc, Gr Y H1 H' ∧ BagNow Y H' ∧ H' D = some (.lst xs) ∧ DpAll K (hide (D :: hs) H') xs acc ∧ acc.length ≤ i ∧ Pv i acc,
      ⟨items.length, by simp, Nat.zero_le _, [], [], gD, b1.same (same_upd hD), upd_same, .nil, Nat.zero_le _, p0⟩, ?_⟩
    rintro i m H2 ⟨rfl, hi, xs, acc, g2, b2, eD, dA, lA, p2⟩
    have I2 : Rel K Y (D :: hs) (L2.wipe σ vs) H2 (wipeD δ vs) := by
      have J0 := (I1.grow g2 b2).wipe vs
      refine ⟨J0.len, fun j s e => ?_, J0.dist, fun a h => List.mem_cons_of_mem _ (J0.sub a h), fun a h n => ?_, fun a h => ?_, J0.bag, J0.gr, fun a h n => (List.mem_cons.mp h).elim (fun z => ⟨xs, by rw [z]; exact eD⟩) fun z => J0.ls a z n⟩
      · -- what stood ahead of D's making does not read D
        have J1 := I1.wipe vs
        have ex : Same (hide hs H1) (hide (D :: hs) H2) := fun a o h => by
          obtain ⟨n, h⟩ := hide_some h
          refine hide_of (fun z => ?_) (g2 a o (fun b c z y => n (by rw [y]; exact I1.bgIn b c z)) h)
          rcases List.mem_cons.mp z with z | z
          · exact ne_of_none h hD z
          · exact n z
        have q := J1.slot j s e
        cases s with
        | un => trivial
        | dat d => obtain ⟨v, f1, f2⟩ := q; exact ⟨v, f1, dp_same ex _ _ f2⟩
        | own ds =>
          obtain ⟨a, ys, f1, f2, f3, f4, f5⟩ := q
          exact ⟨a, ys, f1, List.mem_cons_of_mem _ f2, f3, g2 a _ (fun b c z y => f3 (by rw [y]; exact (I1.bag b c z).1)) f4, dpAll_same ex _ _ f5⟩
        | bag => exact q
      · rcases List.mem_cons.mp h with z | z
        · subst z
          exact I1.gr.fresh I1.bag hD
        · exact J0.new a z n
      · rcases List.mem_cons.mp h with z | z
        · subst z
          rw [eD]
          exact fun z => nomatch z
        · exact J0.tr a z
    have sD : Same (hide hs H1) (hide (D :: hs) H2) := fun a o h => by
      obtain ⟨n, h⟩ := hide_some h
      refine hide_of (fun z => ?_) (g2 a o (fun b c z y => n (by rw [y]; exact I1.bgIn b c z)) h)
      rcases List.mem_cons.mp z with z | z
      · exact ne_of_none h hD z
      · exact n z
    have wk2 := wk (D :: hs) H2 I2.tr sD (fun _ a o ha hn h => g2 a o (fun b c z y => hn (by rw [y]; exact (I1.bag b c z).1)) h) i
    by_cases hlt : i < items.length
    · have ei : items[i]? = some items[i] := List.getElem?_eq_getElem hlt
      obtain ⟨go, yl⟩ := wk2.1 _ ei
      refine .inr ⟨go, fun H' => ∃ m', m' < items.length - i ∧ (m' = items.length - (i + 1) ∧ i + 1 ≤ items.length ∧ ∃ xs acc, Gr Y H1 H' ∧ BagNow Y H' ∧ H' D = some (.lst xs) ∧ DpAll K (hide (D :: hs) H') xs acc ∧ acc.length ≤ i + 1 ∧ Pv (i + 1) acc), fun H' h => h, fun x H3 y => ?_⟩
      obtain ⟨s3, hd⟩ := yl x H3 y
      have I3 := I2.grow (.of s3) (b2.same s3)
      have nb : ∀ b c, Y.bg = some (b, c) → D ≠ b := fun b c z y => by
        obtain ⟨_, _, _, _, _, _, _, _, e, _⟩ := b1 b c z
        rw [← y, hD] at e
        cases e
      refine ⟨D :: hs, _, _, _, I3, hd, turn i _ acc ei p2 lA, fun σ4 δ4 I4 hw4 q4 => ⟨hw4.trans wipe_wipe, D :: hs, δ4, _, I4, q4, fun b H5 q5 g5 b5 => ?_⟩⟩
      have e5 : H5 D = some (.lst xs) := g5 D _ nb (s3 D _ eD)
      have gg5 : Gr Y H1 H5 := (g2.trans (.of s3)).trans g5
      have hide5 : Same (hide (D :: hs) H2) (hide (D :: hs) H5) := ((Gr.of s3 : Gr Y H2 H3).trans g5).hide I2.bgIn
      cases b with
      | true =>
        refine ⟨D :: hs, δ4, _, I4.grow g5 b5, q5, fun r v H6 ⟨p6, q6⟩ g6 b6 r6 => ?_⟩
        have e6 : H6 D = some (.lst xs) := g6 D _ nb e5
        refine ⟨xs, e6, ?_, _, by omega, rfl, hlt, xs ++ [v], acc ++ [r.d], fun a o n h => ?_, fun b c z => ?_, upd_same, ?_, ?_, q6⟩
        · rw [dpAll_len dA]
          exact small1000 (by omega)
        · rw [upd_ne (ne_of_none h hD)]
          exact (gg5.trans g6) a o n h
        · obtain ⟨h1, h2, h3, x1, x2, x3, ns, nl, f1, f2⟩ := b6 b c z
          refine ⟨h1, h2, h3, x1, x2, x3, ns, nl, ?_, ?_⟩
          · rw [upd_ne (fun y => nb b c z y.symm)]
            exact f1
          · rw [upd_ne (fun y => nD (by rw [← y]; exact I.sub _ h2))]
            exact f2
        · have ex6 : Same (hide (D :: hs) H6) (hide (D :: hs) (L2.upd H6 D (.lst (xs ++ [v])))) := fun a o h => by
            obtain ⟨n, h⟩ := hide_some h
            refine hide_of n ?_
            rw [upd_ne (fun y => n (by rw [y]; exact List.mem_cons_self))]
            exact h
          refine dpAll_same ex6 _ _ (dpAll_app (dpAll_one (r6.keep (R.solid_of p6))) (dpAll_same (hide5.trans (g6.hide I4.bgIn)) _ _ dA))
        · rw [List.length_append]
          show acc.length + 1 ≤ i + 1
          omega
      | false => exact ⟨_, by omega, rfl, hlt, xs, acc, gg5, b5, e5, dpAll_same hide5 _ _ dA, by omega, q5⟩
    · have e : i = items.length := by omega
      subst e
      exact .inl ⟨wk2.2 (Nat.le_refl _), k _ _ H2 (done acc p2) (g1.trans g2) b2 ⟨D, xs, rfl, g1.fresh b1 hD, nD, eD, dA⟩⟩⟩
theorem xe_lc {elt tg iter : Expr} {ifs : List Expr} {scope : Scope} {own : List (Str × Nat)} {ti : DI} {g : DG} {tt : DT} {te : DE} (hc : X.calm = true) (hN : X.N.Nodup) (hi : PI X tg iter (il X.K Y ti)) (ok : BlkOk X.N X.env.scope scope own)
    (hg : ∀ (s : Shared) (H : Hp) (C : Addr) (cl : List (Str × Addr)) (fp : List Addr), PG (X.blk s H scope (compEnvC scope cl C X.env) fp) tg (gl X.K Y (own.map (·.2)) g)) (ht : ∀ (s : Shared) (H : Hp) (C : Addr) (cl : List (Str × Addr)) (fp : List Addr), PTs (X.blk s H scope (compEnvC scope cl C X.env) fp) ifs (tlt X.K Y tt))
    (he : ∀ (s : Shared) (H : Hp) (C : Addr) (cl : List (Str × Addr)) (fp : List Addr), PE (X.blk s H scope (compEnvC scope cl C X.env) fp) elt (tl X.K Y te)) (hs : ∀ x, foldedSetIterable iter X.env x = pure x := by intro _; rfl) :
    PE X (.ListComp elt [⟨tg, iter, ifs, 0⟩] scope pos) (tl X.K Y (dLc ti g tt te (own.map (·.2)))) := pe_imp (pe_lc hc hN hi ok hg ht he hs) x_lc
theorem xs_setLc {i : Nat} {y : Str} {py : Pos} {elt tg iter : Expr} {ifs : List Expr} {scope : Scope} {own : List (Str × Nat)} {spos : Pos} {ti : DI} {g : DG} {tt : DT} {te : DE} (hc : X.calm = true) (hN : X.N.Nodup) (hy : X.N[i]? = some y) (hyl : X.env.scope.names.lookup y = some .local)
    (hsw : swapsWith (.ListComp elt [⟨tg, iter, ifs, 0⟩] scope pos) (some (.Name y py)) spos.line X.env = pure true) (hi : PI X tg iter (il X.K Y ti)) (ok : BlkOk X.N X.env.scope scope own)
    (hg : ∀ (s : Shared) (H : Hp) (C : Addr) (cl : List (Str × Addr)) (fp : List Addr), PG (X.blk s H scope (compEnvC scope cl C X.env) fp) tg (gl X.K Y (own.map (·.2)) g)) (ht : ∀ (s : Shared) (H : Hp) (C : Addr) (cl : List (Str × Addr)) (fp : List Addr), PTs (X.blk s H scope (compEnvC scope cl C X.env) fp) ifs (tlt X.K Y tt))
    (he : ∀ (s : Shared) (H : Hp) (C : Addr) (cl : List (Str × Addr)) (fp : List Addr), PE (X.blk s H scope (compEnvC scope cl C X.env) fp) elt (tl X.K Y te)) (hs : ∀ x, foldedSetIterable iter X.env x = pure x := by intro _; rfl) :
    PS X (.Assign [.Name y py] (.ListComp elt [⟨tg, iter, ifs, 0⟩] scope pos) spos) (sl X.K Y (dAsg i (dLc ti g tt te (own.map (·.2))))) :=
  ps_imp (ps_setLc hc hN hy hyl hsw hi ok hg ht he hs) fun Dn σ H h => by
    obtain ⟨hs, δ, P, I, q, k1, k2, k3, k4⟩ := h
    obtain ⟨hs, δ, P, I, q, k⟩ := x_asg Dn σ H ⟨hs, δ, P, I, q, k1, k2, k3, k4⟩
    exact x_lc σ H _ ⟨hs, δ, P, I, q, k⟩
def dtYes : DT := fun _ P => P true
theorem xts_nil : PTs X [] (tlt X.K Y dtYes) := ⟨fun pins s σ H Q I ⟨hs, δ, P, J, q, k⟩ => (pts_nil : PTs X [] tYes).run pins s σ H Q I (k true H q .refl J.bag)⟩
theorem xts_one {c : Expr} {t : DT} (h : PT X c (tlt X.K Y t)) : PTs X [c] (tlt X.K Y t) := pts_one h

/-! ### iterables -/
theorem walks_list {K : PySem.W.Frag} {hs : List Addr} {H : Hp} {a : Addr} {xs : List V} {ds : List PyData} (h : SqL K (hide hs H) a xs) (q : DpAll K (hide hs H) xs ds) : Walks K Y hs H (Itl K a) false ds := fun hs2 H2 _ s2 _ i => by
  have h2 : SqL K H2 a xs := hide_same.seq (s2.seq h)
  refine ⟨fun d e => ?_, fun hl => ⟨xs, h2, by rw [dpAll_len q]; exact hl⟩⟩
  obtain ⟨v, e1, e2⟩ := dpAll_get q e
  refine ⟨⟨xs, v, h2, e1⟩, fun x H3 y => ?_⟩
  obtain ⟨rfl, y⟩ := y
  cases e1.symm.trans (y xs h2)
  exact ⟨Same.refl _, dp_same s2 _ _ e2⟩
theorem walks_own {K : PySem.W.Frag} {hs : List Addr} {H : Hp} {a : Addr} {xs : List V} {ds : List PyData} (ha : a ∈ hs) (hn : a ∉ Y.hs) (h : H a = some (.lst xs)) (q : DpAll K (hide hs H) xs ds) : Walks K Y hs H (Itl K a) true ds := fun hs2 H2 _ s2 ow i => by
  have h2 : SqL K H2 a xs := SqL.of (ow rfl a _ ha hn h)
  refine ⟨fun d e => ?_, fun hl => ⟨xs, h2, by rw [dpAll_len q]; exact hl⟩⟩
  obtain ⟨v, e1, e2⟩ := dpAll_get q e
  refine ⟨⟨xs, v, h2, e1⟩, fun x H3 y => ?_⟩
  obtain ⟨rfl, y⟩ := y
  cases e1.symm.trans (y xs h2)
  exact ⟨Same.refl _, dp_same s2 _ _ e2⟩
theorem walks_tup {K : PySem.W.Frag} {hs : List Addr} {H : Hp} {a : Addr} {xs : List V} {ds : List PyData} (h : SqT K (hide hs H) a xs) (q : DpAll K (hide hs H) xs ds) : Walks K Y hs H (Itt K a) false ds := fun hs2 H2 _ s2 _ i => by
  have h2 : SqT K H2 a xs := sqT_same hide_same (sqT_same s2 h)
  refine ⟨fun d e => ?_, fun hl => ⟨xs, h2, by rw [dpAll_len q]; exact hl⟩⟩
  obtain ⟨v, e1, e2⟩ := dpAll_get q e
  refine ⟨⟨xs, v, h2, e1⟩, fun x H3 y => ?_⟩
  obtain ⟨rfl, y⟩ := y
  cases e1.symm.trans (y xs h2)
  exact ⟨Same.refl _, dp_same s2 _ _ e2⟩
/-- over a list -/
def diL (t : DE) : DI := fun δ P => t δ fun r => match r with
  | .dat (.list ds) => P false ds
  | .new ds => P false ds
  | .bor ds => P true ds
  | _ => False
theorem x_il {K : PySem.W.Frag} {t : DE} : ∀ σ H R, il K Y (diL t) σ H R → iList K (tl K Y t) σ H R := fun σ H R ⟨hs, δ, P, I, q, k⟩ => ⟨hs, δ, _, I, q, fun r v H1 q1 g1 b1 r1 => by
  split at q1
  · have r1' : Dp K (hide hs H1) v (.list _) := r1
    cases r1' with
    | lst h1 h2 => exact ⟨_, rfl, ⟨_, hide_same.seq h1⟩, k _ _ _ H1 q1 g1 b1 (walks_list h1 h2)⟩
  · have r1' := r1.keep (r := .new _) trivial
    cases r1' with
    | lst h1 h2 => exact ⟨_, rfl, ⟨_, hide_same.seq h1⟩, k _ _ _ H1 q1 g1 b1 (walks_list h1 h2)⟩
  · obtain ⟨a, xs, rfl, f2, f3, f4, f5⟩ := r1
    exact ⟨a, rfl, ⟨xs, SqL.of f4⟩, k _ _ _ H1 q1 g1 b1 (walks_own f2 f3 f4 f5)⟩
  · exact False.elim q1⟩
theorem xi_list {tg : Expr} {t : DE} (h : PE X e (tl X.K Y t)) : PI X tg e (il X.K Y (diL t)) := pi_imp (pi_list h) x_il
def diT (t : DE) : DI := fun δ P => t δ fun r => match r with
  | .dat (.tuple ds) => P false ds
  | _ => False
theorem x_it {K : PySem.W.Frag} {t : DE} : ∀ σ H R, il K Y (diT t) σ H R → iTup K (tl K Y t) σ H R := fun σ H R ⟨hs, δ, P, I, q, k⟩ => ⟨hs, δ, _, I, q, fun r v H1 q1 g1 b1 r1 => by
  split at q1
  · have r1' : Dp K (hide hs H1) v (.tuple _) := r1
    cases r1' with
    | tup h1 h2 => exact ⟨_, rfl, ⟨_, sqT_same hide_same h1⟩, k _ _ _ H1 q1 g1 b1 (walks_tup h1 h2)⟩
  · exact False.elim q1⟩
theorem xi_tup {tg : Expr} {t : DE} (h : PE X e (tl X.K Y t)) : PI X tg e (il X.K Y (diT t)) := pi_imp (pi_tup h) x_it
/-- over a name: a list or a tuple -/
def diV (i : Nat) : DI := fun δ P => match δ[i]? with
  | some (.dat (.tuple ds)) => P false ds
  | some (.dat (.list ds)) => P false ds
  | some (.own ds) => P true ds
  | _ => False
theorem xi_var {tg : Expr} {i : Nat} (h : PE X e (tVar i)) : PI X tg e (il X.K Y (diV i)) := ⟨fun pins s σ H R J hq => by
  obtain ⟨hs, δ, P, I, q, k⟩ := hq
  unfold diV at q
  split at q
  · rename_i ds e1
    refine (xi_tup (Y := Y) (xe_var h)).run pins s σ H R J ⟨hs, δ, P, I, ?_, k⟩
    show diT (dVar i) δ P
    unfold diT dVar
    rw [e1]
    exact q
  · rename_i ds e1
    refine (xi_list (Y := Y) (xe_var h)).run pins s σ H R J ⟨hs, δ, P, I, ?_, k⟩
    show diL (dVar i) δ P
    unfold diL dVar
    rw [e1]
    exact q
  · rename_i ds e1
    refine (xi_list (Y := Y) (xe_var h)).run pins s σ H R J ⟨hs, δ, P, I, ?_, k⟩
    show diL (dVar i) δ P
    unfold diL dVar
    rw [e1]
    exact q
  · exact False.elim q⟩
/-- over range(n) -/
def diR (t : DA) : DI := fun δ P => t δ fun rs => match rs with
  | [.dat (.int n)] => (-100000 ≤ n ∧ n ≤ 100000) ∧ P false ((List.range n.toNat).map fun k : Nat => PyData.int (k : Int))
  | _ => False
theorem walks_range {K : PySem.W.Frag} {hs : List Addr} {H : Hp} {n : Nat} : Walks K Y hs H (Itr 0 n) false ((List.range n).map fun k : Nat => PyData.int (k : Int)) := fun hs2 H2 _ s2 _ i => by
  refine ⟨fun d e => ?_, fun hl => ?_⟩
  · rw [List.getElem?_map] at e
    by_cases hi : i < n
    · rw [List.getElem?_eq_getElem (by rw [List.length_range]; exact hi), List.getElem_range] at e
      cases e
      refine ⟨hi, fun x H3 y => ?_⟩
      obtain ⟨rfl, rfl⟩ := y
      rw [Int.zero_add]
      exact ⟨Same.refl _, .int _⟩
    · rw [List.getElem?_eq_none (by rw [List.length_range]; omega)] at e
      cases e
  · rw [List.length_map, List.length_range] at hl
    exact hl
theorem xi_range {tg a : Expr} {t : DA} {p pos : Pos} (hg : Gl X "range") (hm : X.mg "range" = none) (ha : PA X [a] (tla X.K Y t)) (hs : starEach [a] X.env = [(false, eval a X.env)] := by rfl) : PI X tg (.Call (.Name "range" p) [a] [] pos) (il X.K Y (diR t)) :=
  pi_imp (pi_range1 hg hm ha hs) fun σ H R ⟨hs, δ, P, I, q, k⟩ => ⟨hs, δ, _, I, q, fun rs vs H1 q1 g1 b1 r1 => by
    split at q1
    · obtain ⟨v, rfl, r2⟩ := resAll_1 r1
      cases r2
      rename_i n
      obtain ⟨q0, q1⟩ := q1
      exact ⟨n, rfl, by omega, by omega, k _ _ _ H1 q1 g1 b1 walks_range⟩
    · exact False.elim q1⟩
end
end DL
set_option maxHeartbeats 1000000
namespace DL
open PySem PySem.Spec PyProof.Rows L2

/-! ### data without lists -/
mutual
def lstFree : PyData → Bool
  | .none => true
  | .bool _ => true
  | .int _ => true
  | .str _ => true
  | .tuple xs => lstFreeAll xs
  | .list _ => false
  | .dict _ => false
def lstFreeAll : List PyData → Bool
  | [] => true
  | x :: xs => lstFree x && lstFreeAll xs
end
mutual
theorem dp_more {K : PySem.W.Frag} {H : Hp} {hs ks : List Addr} (ls : ∀ a ∈ hs, a ∉ ks → ∃ xs, H a = some (.lst xs)) : ∀ (d : PyData) (v : V), lstFree d = true → Dp K (hide ks H) v d → Dp K (hide hs H) v d
  | .none, _, _, h => by cases h; exact .non
  | .bool b, _, _, h => by cases h; exact .bl b
  | .int i, _, _, h => by cases h; exact .int i
  | .str x, _, _, h => by cases h; exact .str x
  | .list ds, _, f, _ => by simp only [lstFree] at f; cases f
  | .dict _, _, f, _ => by simp only [lstFree] at f; cases f
  | .tuple ds, _, f, h => by
    simp only [lstFree] at f
    cases h with
    | tup h1 h2 =>
      refine .tup ?_ (dpAll_more ls ds _ f h2)
      have away : ∀ {a : Addr} {o : HO}, hide ks H a = some o → (∀ xs, o ≠ .lst xs) → hide hs H a = some o := fun {a o} e n => by
        obtain ⟨e1, e2⟩ := hide_some e
        refine hide_of (fun z => ?_) e2
        obtain ⟨xs, e3⟩ := ls a z e1
        rw [e2] at e3
        exact n xs (Option.some.inj e3)
      rcases h1 with (h1 | ⟨o, h1⟩) | h1
      · exact .inl (.inl (away h1 fun _ z => nomatch z))
      · exact .inl (.inr ⟨o, away h1 fun _ z => nomatch z⟩)
      · exact .inr h1
theorem dpAll_more {K : PySem.W.Frag} {H : Hp} {hs ks : List Addr} (ls : ∀ a ∈ hs, a ∉ ks → ∃ xs, H a = some (.lst xs)) : ∀ (ds : List PyData) (vs : List V), lstFreeAll ds = true → DpAll K (hide ks H) vs ds → DpAll K (hide hs H) vs ds
  | [], _, _, h => by cases h; exact .nil
  | d :: ds, _, f, h => by
    simp only [lstFreeAll, Bool.and_eq_true] at f
    cases h with
    | cons h1 h2 => exact .cons (dp_more ls d _ f.1 h1) (dpAll_more ls ds _ f.2 h2)
end

/-! ### promises by data -/
abbrev DT' := List R → (R → Prop) → Prop
def ArgOk (K : PySem.W.Frag) (hs : List Addr) (bg : Option (Addr × Addr)) (H : Hp) (v : V) : R → Prop
  | .dat d => Dp K (hide hs H) v d
  | .bag => ∃ b c, bg = some (b, c) ∧ v = .ref b
  | _ => False
def spD (K : PySem.W.Frag) (T : DT') : Sp := fun vs H Q _ => ∃ (hs : List Addr) (bg : Option (Addr × Addr)) (rs : List R) (P : R → Prop), Tracked hs H ∧ BagNow ⟨H, hs, bg⟩ H ∧ Paired (ArgOk K hs bg H) vs rs ∧ T rs P ∧
  ∀ v H' r, P r → Gr ⟨H, hs, bg⟩ H H' → BagNow ⟨H, hs, bg⟩ H' → Res K ⟨H, hs, bg⟩ hs H H' v r → r.isSolid = true → Q v H'
/-- a def's promise where no guard of a repr is up -/
structure FnG (P : Program) (w : World) (K : PySem.W.Frag) (mg : Str → Option Value) (base : Heap) (k : Nat) (f : Addr) (fd : FuncData) (ps : List Str) (sp : Sp) : Prop where
  len : ∀ vs H Q E, sp vs H Q E → vs.length = ps.length
  run : ∀ (A : Around) (outer : List Env) (s : Shared) (H : Hp) (args : Args) (us : List Value) (vs : List V) (Q : VK), Room k A → A.guards = some [] → Env0 P w K mg base A outer s H → BindsTo s fd args (ps.zip us) → Vals vs us → sp vs H Q E0 →
    codeAny (model P w) A (.call (.ref f) args) (CR CX0 outer P w H s Q E0) s
theorem FnOk.g {P : Program} {w : World} {K : PySem.W.Frag} {mg : Str → Option Value} {base : Heap} {k : Nat} {f : Addr} {fd : FuncData} {ps : List Str} {sp : Sp} (F : FnOk P w K mg base CX0 k f fd ps sp) : FnG P w K mg base k f fd ps sp :=
  ⟨F.len, fun A outer s H args us vs Q hr _ he hb hv h => F.run A outer s H args us vs Q E0 hr he hb hv h⟩
theorem FnG.mono {P : Program} {w : World} {K : PySem.W.Frag} {mg : Str → Option Value} {base : Heap} {j k : Nat} {f : Addr} {fd : FuncData} {ps : List Str} {sp : Sp} (F : FnG P w K mg base j f fd ps sp) (h : j ≤ k) : FnG P w K mg base k f fd ps sp :=
  ⟨F.len, fun A outer s H args us vs Q hr => F.run A outer s H args us vs Q (hr.mono h)⟩
section
variable {P : Program} {w : World} {K : PySem.W.Frag} {mg : Str → Option Value} {base : Heap}
/-- a def by its body, no guard up -/
theorem fnG_of {x qual : Str} {st : Stmt} {f : Addr} {fd : FuncData} {N ps : List Str} {k : Nat} {sp : Sp} (F : Fun K x qual st f fd) (S : FnScope N ps (defScope st))
    (len : ∀ vs H Q E, sp vs H Q E → vs.length = ps.length)
    (body : ∀ (cdv : Value) (A : Around) (outer : List Env) (s : Shared) (H : Hp) (vs : List V) (Q : VK), Room k (A.deeper (envOfC qual (defScope st) s.heap.objs.size f cdv)) → A.guards = some [] → sp vs H Q E0 →
      ∃ t, PSs (cxOf CX0 P w K mg base N qual (defScope st) f cdv A outer s H E0).nox (defBody st) t ∧ t { nx := fun _ H' => Q .non H', rt := Q } (start N vs) H) :
    FnG P w K mg base (k + 1) f fd ps sp := by
  obtain ⟨oc, od, kV, doc, pm, an, cdv, ct, osl, rfl, lk, hcd⟩ := F.ex
  constructor
  · exact len
  intro A outer s H args us vs Q hr hgd e0 hb hv hsp
  have kin : K.In s.heap := e0.mod.kin.keeps (fun b o e => (e0.bs b o e).1)
  have nol : s.heap.NoLimit := e0.mod.nolimit.keeps (fun b o e => (e0.bs b o e).1)
  apply codeAny_call_function hr.depth (kin _ _ lk) rfl S.co S.gen rfl (PySem.W.codeRec_of kin hcd)
  apply hb
  apply wpAny_newFunctionEnv_cells S.kind
  · rintro ⟨n, v⟩ hy
    rcases S.par n (List.of_mem_zip hy).1 with q | q
    · left
      exact q
    · right
      exact ⟨q, PySem.W.cellsFrom_some _ _ _ (.inl q)⟩
  rintro env he s1 hx
  subst he
  constructor
  · exact nol.keeps hx.toInCall.keep
  apply codeAny_func
  obtain ⟨t, ht, hq⟩ := body cdv A outer s H vs Q (hr.deeper _) hgd hsp
  have I := inv_start (CX := CX0) (E := E0) S hr.hd e0 (len _ _ _ _ hsp) hv hx
  have J := ht.nox.run [] s1 (start N vs) H _ I hq
  apply wpAny_mono J
  · rintro fl s2 h2
    cases fl with
    | ret u =>
      obtain ⟨v, σ2, H2, I2, r2, q2⟩ := h2
      exact ⟨v, H2, I2.os, I2.bare, I2.base, I2.hok, r2, q2⟩
    | next =>
      obtain ⟨σ2, H2, I2, q2⟩ := h2
      exact ⟨.non, H2, I2.os, I2.bare, I2.base, I2.hok, rfl, q2⟩
    | brk => obtain ⟨_, _, _, q2⟩ := h2; exact False.elim q2
    | cont => obtain ⟨_, _, _, q2⟩ := h2; exact False.elim q2
  · intro e s2 h2
    exact h2
/-- f(e, ..) where no guard is up -/
theorem pe_callG {X : Cx} {k : Nat} {f : Addr} {fd : FuncData} {ps : List Str} {sp : Sp} {x : Str} {p pos : Pos} {e : Expr} {es : List Expr} {t : TA}
    (F : FnG X.prog X.w X.K X.mg X.base k f fd ps sp) (hr : Room k X.A) (hgd : X.A.guards = some []) (hg : Gl X x) (hm : X.mg x = some (.ref f)) (hk : PySem.W.keepIn X.K (.ref f) = true) (hb : Binds X.K fd ps [])
    (ha : PA X (e :: es) t) (hdb : (x == ("__debug__" : Str)) = false := by decide) (he : starEach (e :: es) X.env = (false, eval e X.env) :: starEach es X.env := by rfl) (hpl : (backTo pos (starEach es X.env)).any (·.1) = false := by rfl) :
    PE X (.Call (.Name x p) (e :: es) [] pos) (fun σ H Q => t σ H fun vs H1 => sp vs H1 Q E0) := by
  constructor
  intro pins s σ H Q I h
  apply wpAny_Call_Name_kw
  apply ld_glob I hg hm _ hdb
  apply PySem.W.callWith_K (h₀ := X.base) I.ok.mod.kin hk _ he hpl
  apply thn (ha.run pos pins s σ H _ I h)
  rintro us s1 ⟨vs, H1, I1, rv, q⟩
  refine ⟨I1.kIn, wpAny_call ?_⟩
  have hl : (us ++ []).length = ps.length := by
    rw [List.append_nil, ← rv.length]
    exact F.len _ _ _ _ q
  have b := hb s1 us I1.kIn hl
  rw [List.append_nil] at b
  apply codeAny_mono (F.run X.A X.stack s1 H1 ⟨us, []⟩ us vs Q hr hgd I1.env0 b rv q)
  intro r s2 h2
  cases r with
  | error e => exact False.elim h2
  | ok fl =>
    cases fl with
    | ret u => exact I1.after h2
    | next => exact False.elim h2
    | brk => exact False.elim h2
    | cont => exact False.elim h2

def inS : R → S
  | .dat d => .dat d
  | .bag => .bag
  | _ => .un
def start0 (n : Nat) (rs : List R) : List S := rs.map inS ++ List.replicate (n - rs.length) .un
theorem paired_get {α β : Type} {F : α → β → Prop} : ∀ {xs : List α} {ys : List β} {i : Nat} {y : β}, Paired F xs ys → ys[i]? = some y → ∃ x, xs[i]? = some x ∧ F x y
  | _, _, _, _, .nil, e => by simp at e
  | _, _, 0, _, .cons r _, e => by
    simp at e
    subst e
    exact ⟨_, rfl, r⟩
  | _, _, i + 1, y, .cons _ t, e => by
    obtain ⟨x, h1, h2⟩ := paired_get (i := i) t (by simpa using e)
    exact ⟨x, by simpa using h1, h2⟩
theorem rel_start {N : List Str} {hs : List Addr} {bg : Option (Addr × Addr)} {H : Hp} {vs : List V} {rs : List R} (tr : Tracked hs H) (bn : BagNow ⟨H, hs, bg⟩ H) (ar : Paired (ArgOk K hs bg H) vs rs) : Rel K ⟨H, hs, bg⟩ hs (start N vs) H (start0 N.length rs) := by
  have hl := paired_len ar
  have sl : ∀ (i : Nat) (s : S), (start0 N.length rs)[i]? = some s → s = .un ∨ ∃ v r, (start N vs)[i]? = some (some v) ∧ s = inS r ∧ ArgOk K hs bg H v r := fun i s e => by
    unfold start0 at e
    by_cases hi : i < rs.length
    · rw [List.getElem?_append_left (by rw [List.length_map]; exact hi), List.getElem?_map, List.getElem?_eq_getElem hi] at e
      cases e
      obtain ⟨v, e1, q⟩ := paired_get ar (List.getElem?_eq_getElem hi)
      refine .inr ⟨v, _, ?_, rfl, q⟩
      unfold L2.start
      rw [List.getElem?_append_left (by rw [List.length_map]; omega), List.getElem?_map, e1]
      rfl
    · rw [List.getElem?_append_right (by rw [List.length_map]; omega)] at e
      exact .inl (List.eq_of_mem_replicate (List.mem_of_getElem? e))
  refine ⟨?_, fun i s e => ?_, fun i j ds es n e1 e2 => ?_, fun a h => h, fun a h n => absurd h n, tr, bn, .refl, fun a h n => absurd h n⟩
  · unfold L2.start start0
    rw [List.length_append, List.length_append, List.length_map, List.length_map, List.length_replicate, List.length_replicate, hl]
  · rcases sl i s e with rfl | ⟨v, r, e1, rfl, q⟩
    · trivial
    · cases r with
      | dat d => exact ⟨v, e1, q⟩
      | bag => obtain ⟨b, c, q1, q2⟩ := q; exact ⟨b, c, q1, by rw [e1, q2]⟩
      | new _ => exact False.elim q
      | bor _ => exact False.elim q
  · rcases sl i _ e1 with z | ⟨v, r, _, z, q⟩
    · cases z
    · cases r <;> cases z
/-- THE RULE for a def by data -/
theorem fnD {x qual : Str} {st : Stmt} {f : Addr} {fd : FuncData} {N ps : List Str} {k : Nat} {T : DT'} {tb : DS} (F : Fun K x qual st f fd) (S : FnScope N ps (defScope st)) (len : ∀ rs P, T rs P → rs.length = ps.length)
    (hd : ∀ (cdv : Value) (A : Around) (outer : List Env) (s : Shared) (H : Hp) (Y : Yc), Room k (A.deeper (envOfC qual (defScope st) s.heap.objs.size f cdv)) → A.guards = some [] →
      PSs (cxOf CX0 P w K mg base N qual (defScope st) f cdv A outer s H E0).nox (defBody st) (sl K Y tb))
    (h : ∀ rs P, T rs P → tb { nx := fun _ => P (.dat .none), rt := fun r => r.isSolid = true ∧ P r } (start0 N.length rs)) : FnG P w K mg base (k + 1) f fd ps (spD K T) := by
  refine fnG_of F S (fun vs H Q E ⟨hs, bg, rs, P, _, _, ar, ht, _⟩ => (paired_len ar).trans (len rs P ht)) fun cdv A outer s H vs Q hr hgd ⟨hs, bg, rs, P', tr, bn, ar, ht, k⟩ => ?_
  refine ⟨sl K ⟨H, hs, bg⟩ tb, hd cdv A outer s H ⟨H, hs, bg⟩ hr hgd, hs, _, _, rel_start tr bn ar, h rs P' ht, fun hs' σ' H' δ' I _ p => ?_, fun _ _ _ _ _ _ p => False.elim p, fun _ _ _ _ _ _ p => False.elim p, fun v H' r g b q ⟨p1, p2⟩ => k v H' r p2 g b q p1⟩
  exact k .non H' (.dat .none) p I.gr I.bag .non rfl
end

/-! ### calls by data -/
def R.isBor : R → Bool
  | .bor _ => true
  | _ => false
def toArg : R → R
  | .new ds => .dat (.list ds)
  | .bor ds => .dat (.list ds)
  | r => r
def R.free : R → Bool
  | .dat d => lstFree d
  | _ => false
def dCall (T : DT') (t : DA) : DE := fun δ P => t δ fun rs => T (rs.map toArg) fun r => (rs.any R.isBor = true → r.free = true) ∧ P r
section
variable {X : Cx} {Y : Yc} {k : Nat} {f : Addr} {fd : FuncData} {ps : List Str} {T : DT'} {x : Str} {p pos : Pos} {e : Expr} {es : List Expr} {t : DA}
theorem args_of {K : PySem.W.Frag} {hs ks : List Addr} {H0 H : Hp} (sub : ∀ a ∈ ks, a ∈ hs) : ∀ {vs : List V} {rs : List R}, ResAll K Y hs H0 H vs rs → (∀ r ∈ rs, r.isBor = true → ∀ a, a ∈ hs → a ∉ Y.hs → a ∉ ks) → Paired (ArgOk K ks Y.bg H) vs (rs.map toArg)
  | _, _, .nil, _ => .nil
  | _, _, .cons (a := v) (b := r) h t, hb => by
    refine .cons ?_ (args_of sub t fun r hr => hb r (List.mem_cons_of_mem _ hr))
    cases r with
    | dat d => exact dp_same (hide_sub sub) _ _ h
    | new ds => exact dp_same (hide_sub sub) _ _ (Res.keep (r := .new ds) h trivial)
    | bor ds =>
      obtain ⟨a, xs, rfl, f2, f3, f4, f5⟩ := h
      exact .lst (SqL.of (hide_of (hb _ List.mem_cons_self rfl a f2 f3) f4)) (dpAll_same (hide_sub sub) _ _ f5)
    | bag => exact h
theorem xe_call (F : FnG X.prog X.w X.K X.mg X.base k f fd ps (spD X.K T)) (hr : Room k X.A) (hgd : X.A.guards = some []) (hg : Gl X x) (hm : X.mg x = some (.ref f)) (hk : PySem.W.keepIn X.K (.ref f) = true) (hb : Binds X.K fd ps [])
    (ha : PA X (e :: es) (tla X.K Y t)) (hdb : (x == ("__debug__" : Str)) = false := by decide) (he : starEach (e :: es) X.env = (false, eval e X.env) :: starEach es X.env := by rfl) (hpl : (backTo pos (starEach es X.env)).any (·.1) = false := by rfl) :
    PE X (.Call (.Name x p) (e :: es) [] pos) (tl X.K Y (dCall T t)) :=
  pe_imp (pe_callG F hr hgd hg hm hk hb ha hdb he hpl) fun σ H Q ⟨hs, δ, P, I, q, kk⟩ => ⟨hs, δ, _, I, q, fun rs vs H1 q1 g1 b1 r1 => by
    have I1 := I.grow g1 b1
    by_cases bor : rs.any R.isBor = true
    · -- lists of the body's own are lent: what comes back holds no list
      refine ⟨Y.hs, Y.bg, rs.map toArg, _, fun a h => I1.tr a (I1.sub a h), fun b c z => ?_, args_of I1.sub r1 (fun r _ _ a _ hn => hn), q1, fun v H2 r ⟨pf, pr⟩ g2 b2 r2 sr => ?_⟩
      · obtain ⟨h1, h2, h3⟩ := b1 b c z
        exact ⟨h1, h2, h3⟩
      · have g2' : Gr Y H1 H2 := fun a o n h => g2 a o n h
        have b2' : BagNow Y H2 := fun b c z => by
          obtain ⟨h1, h2, h3⟩ := b2 b c z
          exact ⟨h1, h2, h3⟩
        refine kk r v H2 pr (g1.trans g2') b2' ?_
        cases r with
        | dat d => exact dp_more (I1.grow g2' b2').ls d v (pf bor) r2
        | _ => cases pf bor
    · refine ⟨hs, Y.bg, rs.map toArg, _, I1.tr, fun b c z => ?_, args_of (fun _ h => h) r1 (fun r hr z => absurd (List.any_eq_true.mpr ⟨r, hr, z⟩) bor), q1, fun v H2 r ⟨_, pr⟩ g2 b2 r2 sr => ?_⟩
      · obtain ⟨h1, h2, h3⟩ := b1 b c z
        exact ⟨I1.sub b h1, I1.sub c h2, h3⟩
      · have g2' : Gr Y H1 H2 := fun a o n h => g2 a o n h
        have b2' : BagNow Y H2 := fun b c z => by
          obtain ⟨h1, h2, _⟩ := b1 b c z
          obtain ⟨_, _, h3⟩ := b2 b c z
          exact ⟨h1, h2, h3⟩
        refine kk r v H2 pr (g1.trans g2') b2' ?_
        cases r with
        | dat d => exact r2
        | new ds =>
          obtain ⟨a, xs, e1, e2, e3, e4, e5⟩ := r2
          exact ⟨a, xs, e1, g1.fresh b1 e2, e3, e4, e5⟩
        | _ => cases sr⟩
end

/-! ### the law's head -/
theorem law_callG {P : Program} {w : World} {K : PySem.W.Frag} {mg mb : Str → Option Value} {k : Nat} {fa a : Addr} {fd : FuncData} {x : Str} {sp : Sp} {s₁ : Shared} {vs : List Value} {ns : List Int}
    (KX : K.In s₁.heap) (hns : s₁.heap.Ns mainGlobals mg) (hb : s₁.heap.Ns builtinsNs mb) (hbb : ∀ x : Str, x ≠ "__name__" → mb x = bootBuiltins x) (hlim : s₁.heap.NoLimit) (hg : s₁.gens = #[])
    (ha : s₁.heap.get? a = some { cls := .type "list", data := .seq vs.toArray }) (hi : IntsAre vs ns) (hl : ns.length ≤ sizeLine) (hr : Room k callerA)
    (F : ∀ base : Heap, K.In base → base.Ns mainGlobals mg → FnG P w K mg base k fa fd [x] sp) (hbind : ∀ (s : Shared) (u : Value), BindsTo s fd ⟨[u], []⟩ [(x, u)])
    (hsp : ∀ H : Hp, Only H → SqL K H a (ns.map V.int) → sp [.ref a] H (fun v _ => v = .bl true) E0) :
    codeAny (model P w) callerA (.call (.ref fa) ⟨[.ref a], []⟩) (fun r s' => r = .ok (.ret (.bool true)) ∧ OldK s₁.heap s'.heap ∧ s'.os = s₁.os ∧ AllBare s'.gens) s₁ := by
  -- a heap that tracks at most the script
  suffices core : ∀ H : Hp, Only H → SqL K H a (ns.map V.int) → HOk P w H s₁.heap → (∀ b o, H b = some o → b = a ∧ K.lookup a = none) →
      codeAny (model P w) callerA (.call (.ref fa) ⟨[.ref a], []⟩) (fun r s' => r = .ok (.ret (.bool true)) ∧ OldK s₁.heap s'.heap ∧ s'.os = s₁.os ∧ AllBare s'.gens) s₁ by
    have lv := hi.length
    have rv := vals_ints hi
    cases e : K.lookup a with
    | some o =>
      have e2 := (KX a o e).symm.trans ha
      cases e2
      apply core (fun _ => none) (fun _ => .inl rfl)
      · right
        exact ⟨_, vs.toArray, _, e, rfl, rfl, rfl, by rw [List.size_toArray, lv]; exact hl, by simpa using rv⟩
      · intro b u z
        cases (show (none : Option HO) = some u from z)
      · intro b u z
        cases (show (none : Option HO) = some u from z)
    | none =>
      let ob : Obj := { cls := .type "list", data := .seq vs.toArray }
      have at_a : ∀ b u, (if b = a then some (HO.frz ob (.lst (ns.map V.int))) else none) = some u → b = a ∧ u = .frz ob (.lst (ns.map V.int)) := by
        intro b u z
        by_cases h : b = a
        · rw [if_pos h] at z
          exact ⟨h, (Option.some.inj z).symm⟩
        · rw [if_neg h] at z
          cases z
      apply core (fun b => if b = a then some (.frz ob (.lst (ns.map V.int))) else none)
      · intro b
        by_cases h : b = a
        · right
          exact ⟨_, _, if_pos h⟩
        · left
          exact if_neg h
      · left; right
        exact ⟨ob, if_pos rfl⟩
      · intro b u z
        obtain ⟨h, rfl⟩ := at_a b u z
        subst h
        exact ⟨ha, by rw [List.length_map]; exact hl, vs, _, rv, ha⟩
      · intro b u z
        exact ⟨(at_a b u z).1, e⟩
  intro H hO hS hok only
  have tr_a : ∀ {b : Addr}, b ≠ a → H b = none := by
    intro b h
    cases q : H b with
    | none => rfl
    | some u => exact absurd (only b u q).1 h
  have free : ∀ {b : Addr} {o : Obj} {es : Array DictEntry} {n : Nat}, s₁.heap.get? b = some o → o.data = .dict es n → H b = none := by
    intro b o es n e d
    apply tr_a
    rintro rfl
    rw [ha] at e
    cases e
    cases (show Data.seq vs.toArray _ = Data.dict es n from d)
  have ns_at : ∀ {b : Addr} {m : Str → Option Value}, s₁.heap.Ns b m → (hidT s₁.heap H).Ns b m := by
    rintro b m ⟨o, es, n, e, d, r⟩
    exact ⟨o, es, n, hidT_get e (free e d), d, r⟩
  have kb : K.In (hidT s₁.heap H) := by
    intro b o e
    apply hidT_get (KX b o e)
    cases q : H b with
    | none => rfl
    | some u =>
      obtain ⟨rfl, z⟩ := only b u q
      rw [z] at e
      cases e
  have md : Mod K mg (hidT s₁.heap H) := by
    obtain ⟨mc, l1, l2⟩ := hlim
    exact ⟨kb, ns_at hns, ⟨mb, ns_at hb, hbb⟩, mc, ns_at l1, l2⟩
  have none_in : ∀ b : Addr, b ∉ ([] : List Addr) := fun b h => nomatch h
  have env : Env0 P w K mg (hidT s₁.heap H) callerA [] s₁ H := by
    refine ⟨rfl, md, fun b o e => of_hidT e, ?_, trivial, fun b h => absurd h (none_in b), hok, .of_eq hg⟩
    exact Nat.le_of_eq (hidT_size _ _)
  have run := (F _ kb (ns_at hns)).run callerA [] s₁ H ⟨[.ref a], []⟩ [.ref a] [.ref a] _ hr rfl env (hbind s₁ (.ref a)) (.cons rfl .nil) (hsp H hO hS)
  apply codeAny_mono run
  intro r s' h
  cases r with
  | error e => exact False.elim h
  | ok fl =>
    cases fl with
    | next => exact False.elim h
    | brk => exact False.elim h
    | cont => exact False.elim h
    | ret u =>
      obtain ⟨v, H', hos, hbare, hun, hok', hrel, hv⟩ := h
      have hv' : v = .bl true := hv
      subst hv'
      have hu : u = Value.bool true := hrel
      subst hu
      refine ⟨rfl, OldK.of_keep ?_, hos, hbare⟩
      intro b o e
      cases q : H b with
      | none => exact hun.keep b o e q (none_in b) (none_in b)
      | some u =>
        rcases hO b with z | ⟨ob, xs, z⟩
        · rw [q] at z
          cases z
        · have e1 := (hok b _ z).1
          have e2 := (hok' b _ (hun.frzs b ob _ z)).1
          rw [e] at e1
          cases e1
          exact e2
theorem walk_ofG {l : PySem.W.OpenLaw} {n k : Nat} {q : Program} {loose : List Str} {XP : (Str → Option Value) → Heap → Prop} {YP : World → Heap → Prop} {d : DefRec} {K : Params → PySem.W.Frag} {sp : World → Sp} {x : Str}
    (hn : l.most = some n) (hn2 : n ≤ sizeLine) (hdf : d.params.defaults = []) (hr : Room k callerA) (hY : ∀ (w : World) (h : Heap), YP w h → (K w.params).In h)
    (F : ∀ (w : World) (mg : Str → Option Value) (fa : Addr) (h : Heap), (K w.params).In h → h.Ns mainGlobals mg → mg d.name = some (.ref fa) →
      ∃ fd : FuncData, (∀ (s : Shared) (u : Value), BindsTo s fd ⟨[u], []⟩ [(x, u)]) ∧ ∀ base : Heap, (K w.params).In base → base.Ns mainGlobals mg → FnG l.prog w (K w.params) mg base k fa fd [x] (sp w))
    (hsp : ∀ (w : World) (H : Hp) (a : Addr) (ns : List Int), ns.length ≤ n → Only H → SqL (K w.params) H a (ns.map V.int) → sp w [.ref a] H (fun v _ => v = .bl true) E0) :
    PySem.W.WalkO q loose XP YP l.row.toRowW d [] (fun f vs => PySem.call f vs) := by
  apply Att.attach_call hn hdf
  intro w s₀ s₁ mg mb fa o pm cd doc a vs ns G Y ho hd hcd hmg hobj hints hlen hg
  obtain ⟨fd, hb, hF⟩ := F w mg fa _ (hY w _ Y) G.T.g hmg
  apply law_callG (hY w _ Y) G.T.g G.T.b G.T.builtins G.T.nolimit hg hobj hints (Nat.le_trans hlen hn2) hr hF hb
  intro H hO hS
  exact hsp w H a ns hlen hO hS
end DL
set_option maxHeartbeats 1000000
namespace DL
open PySem PySem.Spec PyProof.Rows L2
section
variable {X : Cx} {Y : Yc} {e a b : Expr} {es : List Expr} {pos : Pos}

theorem OpR.either {f : Value → Value → Sem Value} {r r' : R2} (h : OpR X f r) (h' : OpR X f r') : OpR X f (fun x y H Q => r x y H Q ∨ r' x y H Q) := by
  intro pins s σ H x y v u Q I rx ry hq
  rcases hq with hq | hq
  · exact h pins s σ H x y v u Q I rx ry hq
  · exact h' pins s σ H x y v u Q I rx ry hq
/-! ### + of numbers, of lists, of tuples, of texts -/
def mutL : R → Option (List PyData)
  | .new ds => some ds
  | .bor ds => some ds
  | _ => none
theorem mutL_at {K : PySem.W.Frag} {hs : List Addr} {H0 H : Hp} {v : V} {r : R} {ds : List PyData} (q : Res K Y hs H0 H v r) (e : mutL r = some ds) : ∃ a xs, v = .ref a ∧ H a = some (.lst xs) ∧ DpAll K (hide hs H) xs ds := by
  cases r with
  | new es =>
    cases e
    obtain ⟨a, xs, rfl, _, _, e4, e5⟩ := q
    exact ⟨a, xs, rfl, e4, dpAll_same (hide_sub fun _ h => List.mem_cons_of_mem _ h) _ _ e5⟩
  | bor es =>
    cases e
    obtain ⟨a, xs, rfl, _, _, e4, e5⟩ := q
    exact ⟨a, xs, rfl, e4, e5⟩
  | dat _ => cases e
  | bag => cases e
def gAdd : D2 := fun x y P => match x, y with
  | .dat (.int i), .dat (.int j) => P (.dat (.int (i + j)))
  | .dat (.tuple xs), .dat (.tuple ys) => (xs ≠ [] ∧ xs.length + ys.length ≤ 1000) ∧ P (.dat (.tuple (xs ++ ys)))
  | .dat (.str u), .dat (.str v) => u.length + v.length ≤ 100000 ∧ P (.dat (.str (u ++ v)))
  | x, y => (match mutL x, mutL y with
    | some xs, some ys => xs.length + ys.length ≤ 1000 ∧ P (.new (xs ++ ys))
    | _, _ => False)
def rAddI : R2 := rI0 fun i j => .int (i + j)
def rAddS : R2 := fun x y H Q => ∃ u v : Str, x = .str u ∧ y = .str v ∧ u.length + v.length ≤ sizeLine ∧ Q (.str (u ++ v)) H
theorem lift_add {K : PySem.W.Frag} : Lift2 K Y (fun x y H Q => (rAddI x y H Q ∨ rCat x y H Q) ∨ (rCatT K x y H Q ∨ rAddS x y H Q)) gAdd := fun hs H0 H v w x y P Q A fr rx ry q k => by
  unfold gAdd at q
  split at q
  · cases rx; cases ry
    exact .inl (.inl ⟨_, _, rfl, rfl, k _ _ H q (Same.refl H) (Dp.int _)⟩)
  · rename_i xs ys
    obtain ⟨a, us, rfl, h1, h2⟩ := Res.tup rx
    obtain ⟨b, ws, rfl, h3, h4⟩ := Res.tup ry
    obtain ⟨⟨q1, q2⟩, q3⟩ := q
    have l1 := dpAll_len h2
    have l2 := dpAll_len h4
    refine .inr (.inl ⟨a, b, us, ws, rfl, rfl, sqT_same hide_same h1, sqT_same hide_same h3, fun z => ?_, by rw [l1, l2]; exact Nat.le_of_lt (small1000 q2), fun z => ?_, fun z p hp => ?_⟩)
    · subst z
      exact q1 (List.length_eq_zero_iff.mp l1.symm)
    · subst z
      have : ys = [] := List.length_eq_zero_iff.mp l2.symm
      subst this
      rw [List.append_nil] at q3
      exact k _ _ H q3 (Same.refl H) rx
    · exact k _ _ _ q3 (same_upd hp) (Dp.tup (SqT.of (hide_of (fun z => A.tr p z hp) upd_same)) (dpAll_same (hide_upd hp) _ _ (dpAll_app h4 h2)))
  · cases rx; cases ry
    exact .inr (.inr ⟨_, _, rfl, rfl, Nat.le_trans q.1 (by decide), k _ _ H q.2 (Same.refl H) (Dp.str _)⟩)
  · split at q
    · rename_i xs ys ex ey
      obtain ⟨a, us, rfl, h1, h2⟩ := mutL_at rx ex
      obtain ⟨b, ws, rfl, h3, h4⟩ := mutL_at ry ey
      refine .inl (.inr ⟨a, b, us, ws, rfl, rfl, h1, h3, by rw [dpAll_len h2, dpAll_len h4]; exact Nat.le_of_lt (small1000 q.1), fun p hp => ?_⟩)
      exact k _ _ _ q.2 (same_upd hp) ⟨p, _, rfl, fr p hp, fun z => A.tr p z hp, upd_same, dpAll_same (hide_updC hp) _ _ (dpAll_app h4 h2)⟩
    · exact False.elim q
theorem op_addS : OpR X (binaryOp .Add) rAddS := op_add_str
theorem op_addI : OpR X (binaryOp .Add) rAddI := op_add
theorem xe_add {ta tb : DE} (ha : PE X a (tl X.K Y ta)) (hb : PE X b (tl X.K Y tb)) : PE X (.BinOp a .Add b pos) (tl X.K Y (dOp gAdd ta tb)) :=
  xe_op (OpR.either (OpR.either op_addI op_cat) (OpR.either op_catT op_addS)) lift_add ha hb
/-! ### *: numbers, a list some times -/
def gMul : D2 := fun x y P => match x, y with
  | .dat (.int i), .dat (.int j) => CMulW i j ∧ P (.dat (.int (i * j)))
  | x, .dat (.int j) => (match mutL x with
    | some xs => (j ≤ 1000 ∧ -1000 ≤ j ∧ xs.length * j.toNat ≤ 1000) ∧ P (.new (List.replicate j.toNat xs).flatten)
    | none => False)
  | _, _ => False
theorem lift_mul {K : PySem.W.Frag} : Lift2 K Y (fun x y H Q => rI CMulW (fun i j => .int (i * j)) x y H Q ∨ rRep x y H Q) gMul := fun hs H0 H v w x y P Q A fr rx ry q k => by
  unfold gMul at q
  split at q
  · cases rx; cases ry
    exact .inl ⟨_, _, rfl, rfl, q.1, k _ _ H q.2 (Same.refl H) (Dp.int _)⟩
  · cases ry
    rename_i j hx
    split at q
    · rename_i xs ex
      obtain ⟨a, us, rfl, h1, h2⟩ := mutL_at rx ex
      obtain ⟨⟨q1, q2, q3⟩, q⟩ := q
      refine .inr ⟨a, j, us, rfl, rfl, h1, by omega, by omega, by rw [dpAll_len h2]; exact Nat.le_of_lt (small1000 q3), fun p hp => ?_⟩
      exact k _ _ _ q (same_upd hp) ⟨p, _, rfl, fr p hp, fun z => A.tr p z hp, upd_same, dpAll_same (hide_updC hp) _ _ (dpAll_flat h2 _)⟩
    · exact False.elim q
  · exact False.elim q
theorem xe_mul {ta tb : DE} (ha : PE X a (tl X.K Y ta)) (hb : PE X b (tl X.K Y tb)) : PE X (.BinOp a .Mult b pos) (tl X.K Y (dOp gMul ta tb)) :=
  xe_op (OpR.either op_mulW op_rep) lift_mul ha hb
def gSub : D2 := gI (fun _ _ => True) fun i j => .int (i - j)
theorem xe_sub {ta tb : DE} (ha : PE X a (tl X.K Y ta)) (hb : PE X b (tl X.K Y tb)) : PE X (.BinOp a .Sub b pos) (tl X.K Y (dOp gSub ta tb)) :=
  xe_op op_sub (lift_I0 fun i j K H => .int _) ha hb
def gDiv : D2 := gI CDivA fun i j => .int (i.fdiv j)
theorem xe_div {ta tb : DE} (ha : PE X a (tl X.K Y ta)) (hb : PE X b (tl X.K Y tb)) : PE X (.BinOp a .FloorDiv b pos) (tl X.K Y (dOp gDiv ta tb)) :=
  xe_op op_fdivA (lift_I fun i j K H => .int _) ha hb
def gMod : D2 := gI (fun _ j => j ≠ 0) fun i j => .int (i.fmod j)
theorem op_modA : OpR X (binaryOp .Mod) (rI (fun _ j => j ≠ 0) fun i j => .int (i.fmod j)) := op_modN
theorem xe_mod {ta tb : DE} (ha : PE X a (tl X.K Y ta)) (hb : PE X b (tl X.K Y tb)) : PE X (.BinOp a .Mod b pos) (tl X.K Y (dOp gMod ta tb)) :=
  xe_op op_modA (lift_I fun i j K H => .int _) ha hb
def gPow : D2 := gI (fun i j => 0 ≤ j ∧ j ≤ 1000000 ∧ i.natAbs < 2 ^ 64) fun i j => .int (i ^ j.toNat)
theorem op_powA : OpR X (binaryOp .Pow) (rI (fun i j => 0 ≤ j ∧ j ≤ 1000000 ∧ i.natAbs < 2 ^ 64) fun i j => .int (i ^ j.toNat)) := op_pow
theorem xe_pow {ta tb : DE} (ha : PE X a (tl X.K Y ta)) (hb : PE X b (tl X.K Y tb)) : PE X (.BinOp a .Pow b pos) (tl X.K Y (dOp gPow ta tb)) :=
  xe_op op_powA (lift_I fun i j K H => .int _) ha hb
/-! ### comparisons -/
def gLt : D2 := gI (fun _ _ => True) fun i j => .bool (decide (i < j))
def gLe : D2 := gI (fun _ _ => True) fun i j => .bool (decide (i ≤ j))
def gGt : D2 := gI (fun _ _ => True) fun i j => .bool (decide (j < i))
def gGe : D2 := gI (fun _ _ => True) fun i j => .bool (decide (j ≤ i))
theorem lift_lt {K : PySem.W.Frag} : Lift2 K Y (rI0 fun i j => .bl (decide (i < j))) gLt := lift_I0 fun i j K H => .bl _
theorem lift_le {K : PySem.W.Frag} : Lift2 K Y (rI0 fun i j => .bl (decide (i ≤ j))) gLe := lift_I0 fun i j K H => .bl _
theorem lift_gt {K : PySem.W.Frag} : Lift2 K Y (rI0 fun i j => .bl (decide (j < i))) gGt := lift_I0 fun i j K H => .bl _
theorem lift_ge {K : PySem.W.Frag} : Lift2 K Y (rI0 fun i j => .bl (decide (j ≤ i))) gGe := lift_I0 fun i j K H => .bl _
theorem op_ltA : OpR X (compareOp .Lt) (rI0 fun i j => .bl (decide (i < j))) := op_lt
theorem op_leA : OpR X (compareOp .LtE) (rI0 fun i j => .bl (decide (i ≤ j))) := op_le
theorem op_gtA : OpR X (compareOp .Gt) (rI0 fun i j => .bl (decide (j < i))) := op_gt
theorem op_geA : OpR X (compareOp .GtE) (rI0 fun i j => .bl (decide (j ≤ i))) := op_ge
/-! ### lcm, of great numbers -/
def rLcm : List V → Hp → VK → Prop := fun vs H Q => ∃ a b : Int, vs = [.int a, .int b] ∧ (a.natAbs.log2 < 9000 ∧ b.natAbs.log2 < 9000) ∧ Q (.int ((Nat.lcm a.natAbs b.natAbs : Nat) : Int)) H
theorem lcm_log {a b : Nat} (ha : a.log2 < 9000) (hb : b.log2 < 9000) : (Nat.lcm a b).log2 < bitsLine := by
  by_cases z : Nat.lcm a b = 0
  · rw [z]
    decide
  · have h1 : a < 2 ^ 9000 := Nat.lt_of_lt_of_le Nat.lt_log2_self (Nat.pow_le_pow_right (by decide) ha)
    have h2 : b < 2 ^ 9000 := Nat.lt_of_lt_of_le Nat.lt_log2_self (Nat.pow_le_pow_right (by decide) hb)
    have h3 : Nat.lcm a b ≤ a * b := PySem.W.mc_lcm_le a b
    have h4 : a * b ≤ 2 ^ 9000 * 2 ^ 9000 := Nat.mul_le_mul (Nat.le_of_lt h1) (Nat.le_of_lt h2)
    rw [← Nat.pow_add] at h4
    have h5 : Nat.lcm a b < 2 ^ 18001 := Nat.lt_of_le_of_lt (Nat.le_trans h3 h4) (Nat.pow_lt_pow_right (by decide) (by decide))
    have h6 : (Nat.lcm a b).log2 < 18001 := (Nat.log2_lt z).mpr h5
    exact Nat.lt_trans h6 (by decide)
theorem call_lcm : CallR X (.builtin "math.lcm") rLcm := by
  intro pins s σ H vs us Q I r h
  obtain ⟨a, b, rfl, ⟨ha, hb⟩, q⟩ := h
  obtain ⟨t, u, rfl⟩ := Vals.int2 r
  have e : Nat.lcm 1 a.natAbs = a.natAbs := PySem.W.mc_lcm_one _
  have m1 : (max 1 a.natAbs).log2 < 9000 := by
    rcases Nat.le_total 1 a.natAbs with h | h
    · rw [Nat.max_eq_right h]; exact ha
    · rw [Nat.max_eq_left h]; decide
  have m2 : (max a.natAbs b.natAbs).log2 < 9000 := by
    rcases Nat.le_total a.natAbs b.natAbs with h | h
    · rw [Nat.max_eq_right h]; exact hb
    · rw [Nat.max_eq_left h]; exact ha
  have hz : ((((Nat.lcm 1 a.natAbs).lcm b.natAbs : Nat) : Int)).natAbs.log2 < bitsLine := by
    rw [e]
    exact lcm_log ha hb
  have run := PySem.W.mg_run_lcm a t b u (by omega) (by omega) hz
  rw [e] at run
  exact call_function_meets PySem.W.MGF.kind_lcm PySem.W.MGF.plain_lcm PySem.W.MGF.entry_lcm (PySem.W.MGF.args_lcm _ _) run.meets ⟨.int _, H, I.tok _, ⟨_, rfl⟩, q⟩
def gLcm : DC := fun rs P => match rs with
  | [.dat (.int i), .dat (.int j)] => (i.natAbs.log2 < 9000 ∧ j.natAbs.log2 < 9000) ∧ P (.dat (.int ((Nat.lcm i.natAbs j.natAbs : Nat) : Int)))
  | _ => False
theorem lift_lcm {K : PySem.W.Frag} : LiftC K Y rLcm gLcm := fun hs H0 H vs xs P Q A _ rr q k => by
  unfold gLcm at q
  split at q
  · obtain ⟨v, w, rfl, r1, r2⟩ := resAll_2 rr
    cases r1; cases r2
    exact ⟨_, _, rfl, q.1, k _ _ H q.2 (Same.refl H) (Dp.int _)⟩
  · exact False.elim q
/-! ### both names of a pair, lists among them as data -/
def dPar2 (i j : Nat) (t : DA) : DS := fun P δ => t δ fun rs => match rs with
  | [x, y] => (x.isSolid = true ∧ y.isSolid = true) ∧ P.nx ((δ.set i (.dat x.d)).set j (.dat y.d))
  | _ => False
theorem xs_par2 {i j : Nat} {x y : Str} {a b : Expr} {t : DA} {px py pt : Pos} {kt k2 pt2} (hc : X.calm = true) (hN : X.N.Nodup) (hi : X.N[i]? = some x) (hj : X.N[j]? = some y) (hij : i ≠ j)
    (hx : X.env.scope.names.lookup x = some .local) (hy : X.env.scope.names.lookup y = some .local) (ha : PA X [a, b] (tla X.K Y t))
    (hw : swappedStores [.Tuple [.Name x px, .Name y py] kt pt] (.Tuple [a, b] k2 pt2) X.env = pure (some [x, y]))
    (hs : swapsWithSole [.Tuple [.Name x px, .Name y py] kt pt] (.Tuple [a, b] k2 pt2) pos.line X.env = pure false := by rfl) :
    PS X (.Assign [.Tuple [.Name x px, .Name y py] kt pt] (.Tuple [a, b] k2 pt2) pos) (sl X.K Y (dPar2 i j t)) :=
  ps_imp (ps_par hc hN hi hj hij hx hy ha hw hs) fun Dn σ H ⟨hs, δ, P, I, q, k1, _⟩ => ⟨hs, δ, _, I, q, fun rs vs H1 q1 g1 b1 r1 => by
    have I1 := I.grow g1 b1
    split at q1
    · obtain ⟨v, w, rfl, p1, p2⟩ := resAll_2 r1
      obtain ⟨⟨s1, s2⟩, q1⟩ := q1
      exact ⟨v, w, rfl, k1 _ _ _ _ ((I1.set (p1.keep (R.solid_of s1))).set (p2.keep (R.solid_of s2))) (g1.hide I.bgIn) q1⟩
    · exact False.elim q1⟩
/-- name op= e, numbers -/
def dAug (i : Nat) (f : Int → Int → Int) (t : DE) : DS := fun P δ => match δ[i]? with
  | some (.dat (.int a)) => t δ fun r => (match r with
    | .dat (.int b) => P.nx (δ.set i (.dat (.int (f a b))))
    | _ => False)
  | _ => False
theorem xs_aug {i : Nat} {x : Str} {t : DE} {op : Operator} {f : Int → Int → Int} {pos' : Pos} (hN : X.N.Nodup) (hi : X.N[i]? = some x) (hx : Loc X.env.scope x) (he : PE X e (tl X.K Y t)) (ho : PIp X op (ipI f)) (hf : X.fn x = true ∨ X.env.scope.names.lookup x = some .local := by first | exact .inl rfl | exact .inr rfl | assumption) :
    PS X (.AugAssign (.Name x pos') op e pos) (sl X.K Y (dAug i f t)) :=
  ps_imp (ps_aug hN hi hx he ho hf) fun Dn σ H ⟨hs, δ, P, I, q, k1, _⟩ => by
    unfold dAug at q
    split at q
    · obtain ⟨v, f1, f2⟩ := I.slot i _ (by assumption)
      cases f2
      refine ⟨_, f1, hs, δ, _, I, q, fun r w H1 q1 g1 b1 r1 => ?_⟩
      split at q1
      · cases r1
        exact ⟨_, _, rfl, rfl, k1 _ _ _ _ ((I.grow g1 b1).set (.int _)) (g1.hide I.bgIn) q1⟩
      · exact False.elim q1
    · exact False.elim q
/-! ### a list's item for op= (for a text of one's own) -/
def rGetL (K : PySem.W.Frag) : V → V → Hp → VK → Prop := fun o i H Q => ∃ p xs k v, o = .ref p ∧ i = .int ((k : Nat) : Int) ∧ SqL K H p xs ∧ xs[k]? = some v ∧ Q v H
theorem get_list : PGet X (rGetL X.K) := by
  intro pins s σ H o i ov iv Q I ro ri h
  obtain ⟨p, xs, k, z, rfl, rfl, hq, he, q⟩ := h
  cases ro
  obtain ⟨t, rfl⟩ := ri
  obtain ⟨its, r, pl, hz⟩ := I.list hq
  obtain ⟨u, e1, r1⟩ := Vals.get r he
  have hk : k < xs.length := (List.getElem?_eq_some_iff.mp he).1
  have hn := line63
  exact wpAny_getItem_list pl.isList (by omega) (by omega) (by rw [Int.toNat_natCast]; simpa using e1) ⟨z, H, I, r1, q⟩
end
end DL
set_option maxHeartbeats 1000000
namespace DL
open PySem PySem.Spec PyProof.Rows L2
/-! ### the draws' bag -/
def spBag (K : PySem.W.Frag) : Sp := fun vs H Q _ => ∃ (a : Addr) (ns : List Int), vs = [.ref a] ∧ SqL K H a (ns.map V.int) ∧ ∀ H' b c, Same H H' → H b = none → H c = none → b ≠ c → BagAt H' b c → Q (.ref b) H'
theorem cut_ints (ns : List Int) (lo hi : Option Int) : ∃ ms : List Int, cutV (ns.map V.int) lo hi = ms.map V.int := by
  unfold cutV
  rw [← List.map_drop, ← List.map_take]
  exact ⟨_, rfl⟩
theorem cut_at (ms : List Int) (z : Int) : ∃ m, atI (cutV (ms.map V.int) (some z) none ++ [.int 0]) 0 = some (.int m) := by
  obtain ⟨os, e⟩ := cut_ints ms (some z) none
  rw [e]
  cases os with
  | nil => exact ⟨0, rfl⟩
  | cons m r => exact ⟨m, atI_nat (j := 0) rfl⟩
def T_l_take : DT' := fun rs P => ∃ m : Int, rs = [.bag, .dat (.int m)] ∧ 0 < m ∧ m < 1073741824 ∧ ∀ r : Int, 0 ≤ r → r < m → P (.dat (.int r))
theorem log_small {a : Int} (h0 : 0 < a) (h : a < 1073741824) : a.natAbs.log2 < 9000 :=
  Nat.lt_trans ((Nat.log2_lt (by omega)).mpr (show a.natAbs < 2 ^ 30 by omega)) (by decide)
theorem emod_lt' {a b : Int} (h : 0 < b) : 0 ≤ a.fmod b ∧ a.fmod b < b := by
  rw [Int.fmod_eq_emod_of_nonneg _ (Int.le_of_lt h)]
  exact ⟨Int.emod_nonneg _ (by omega), Int.emod_lt_of_pos _ h⟩
theorem hu66 {A : Around} {k : Nat} (hr : Room k A) : A.units + 66 < cLine := by
  have := hr.un
  omega
end DL
set_option maxHeartbeats 1000000
namespace DL
open PySem PySem.Spec PyProof.Rows L2

/-! ### sizes -/
def B (k : Nat) (i : Int) : Prop := i.natAbs < 2 ^ k
theorem B.mono {a b : Nat} {i : Int} (h : B a i) (l : a ≤ b) : B b i := Nat.lt_of_lt_of_le h (Nat.pow_le_pow_right (by decide) l)
theorem B.mul {a b : Nat} {i j : Int} (h : B a i) (g : B b j) : B (a + b) (i * j) := wide_lt h g
theorem B.mul' {a b c : Nat} {i j : Int} (h : B a i) (g : B b j) (e : a + b ≤ c) : B c (i * j) := (h.mul g).mono e
theorem B.add {a : Nat} {i j : Int} (h : B a i) (g : B a j) : B (a + 1) (i + j) := by
  unfold B at h g ⊢
  rw [Nat.pow_succ]
  omega
theorem B.add' {a b : Nat} {i j : Int} (h : B a i) (g : B a j) (e : a + 1 ≤ b) : B b (i + j) := (h.add g).mono e
theorem B.sub {a : Nat} {i j : Int} (h : B a i) (g : B a j) : B (a + 1) (i - j) := by
  unfold B at h g ⊢
  rw [Nat.pow_succ]
  omega
theorem B.sub' {a b : Nat} {i j : Int} (h : B a i) (g : B a j) (e : a + 1 ≤ b) : B b (i - j) := (h.sub g).mono e
theorem B.neg {a : Nat} {i : Int} (h : B a i) : B a (-i) := by
  unfold B at h ⊢
  omega
theorem B.log {a : Nat} {i : Int} (h : B a i) : i.natAbs.log2 < a + 1 := by
  by_cases z : i.natAbs = 0
  · rw [z]
    exact Nat.succ_pos _
  · exact Nat.lt_succ_of_lt ((Nat.log2_lt z).mpr h)
theorem B.cmul {a b : Nat} {i j : Int} (h : B a i) (g : B b j) (e : a + b ≤ 999990) : CMulW i j := by
  have h1 := h.log
  have h2 := g.log
  unfold CMulW
  omega
theorem B.log9 {a : Nat} {i : Int} (h : B a i) (e : a ≤ 8990) : i.natAbs.log2 < 9000 := by
  have := h.log
  omega
theorem B.le {a : Nat} {i j : Int} (h : B a j) (e : i.natAbs ≤ j.natAbs) : B a i := Nat.lt_of_le_of_lt e h
theorem B.lit {i : Int} {a : Nat} (h : decide (i.natAbs < 2 ^ a) = true) : B a i := by
  unfold B
  exact of_decide_eq_true h

/-! ### fractions -/
def fq (q : Rat) : PyData := .tuple [.int q.num, .int (q.den : Int)]
structure Sz (k : Nat) (q : Rat) : Prop where
  n : B k q.num
  d : B k (q.den : Int)
theorem Sz.mono {a b : Nat} {q : Rat} (h : Sz a q) (l : a ≤ b) : Sz b q := ⟨h.n.mono l, h.d.mono l⟩
theorem den_ne (q : Rat) : (q.den : Int) ≠ 0 := by
  have := q.den_nz
  omega
theorem den_pos (q : Rat) : (0 : Int) < (q.den : Int) := by
  have := q.den_nz
  omega
/-- the sign of the denominator with the common divisor -/
def by_ (n d : Int) : Int := if d < 0 then -((Nat.gcd n.natAbs d.natAbs : Nat) : Int) else ((Nat.gcd n.natAbs d.natAbs : Nat) : Int)
theorem gcd_ne {n d : Int} (h : d ≠ 0) : Nat.gcd n.natAbs d.natAbs ≠ 0 := fun z => h (by
  have := Nat.eq_zero_of_gcd_eq_zero_right z
  omega)
theorem by_ne {n d : Int} (h : d ≠ 0) : by_ n d ≠ 0 := by
  have := gcd_ne (n := n) h
  unfold by_
  split <;> omega
theorem by_le {n d : Int} (h : d ≠ 0) : (by_ n d).natAbs ≤ d.natAbs := by
  have : Nat.gcd n.natAbs d.natAbs ≤ d.natAbs := Nat.le_of_dvd (by omega) (Nat.gcd_dvd_right _ _)
  unfold by_
  split <;> omega
theorem fdiv_mul {a b : Int} (h : b ≠ 0) : (a * b).fdiv b = a := Int.mul_fdiv_cancel _ h
theorem red_fq {n d : Int} (h : d ≠ 0) : PyData.tuple [.int (n.fdiv (by_ n d)), .int (d.fdiv (by_ n d))] = fq (Rat.divInt n d) := by
  have hg := gcd_ne (n := n) h
  have c1 : d.gcd n = Nat.gcd n.natAbs d.natAbs := by
    unfold Int.gcd
    exact Nat.gcd_comm _ _
  obtain ⟨x, hx⟩ := Nat.gcd_dvd_left n.natAbs d.natAbs
  obtain ⟨y, hy⟩ := Nat.gcd_dvd_right n.natAbs d.natAbs
  unfold fq
  rw [Rat.num_divInt, Rat.den_divInt, if_neg h, c1]
  generalize hgg : Nat.gcd n.natAbs d.natAbs = g at *
  have hb : by_ n d = if d < 0 then -(g : Int) else (g : Int) := by
    unfold by_
    rw [hgg]
  have y0 : y ≠ 0 := fun z => by
    subst z
    omega
  have hd2 : d.natAbs / g = y := by
    rw [hy]
    exact Nat.mul_div_cancel_left _ (Nat.pos_of_ne_zero hg)
  rw [hd2, hb]
  have gi : (g : Int) ≠ 0 := by omega
  by_cases hn : d < 0
  · rw [if_pos hn, Int.sign_eq_neg_one_of_neg hn]
    have e2 : d = (y : Int) * (-(g : Int)) := by
      have : d = -(d.natAbs : Int) := by omega
      rw [this, hy, Int.natCast_mul, Int.mul_neg, Int.mul_comm]
    have f2 : d.fdiv (-(g : Int)) = (y : Int) := by
      rw [e2]
      exact fdiv_mul (by omega)
    rw [f2]
    obtain ⟨z, hz⟩ : ∃ z : Int, n = z * (g : Int) := by
      by_cases h0 : n < 0
      · refine ⟨-(x : Int), ?_⟩
        have : n = -(n.natAbs : Int) := by omega
        rw [this, hx, Int.natCast_mul, Int.neg_mul, Int.mul_comm]
      · refine ⟨(x : Int), ?_⟩
        have : n = (n.natAbs : Int) := by omega
        rw [this, hx, Int.natCast_mul, Int.mul_comm]
    have f1 : n.fdiv (-(g : Int)) = -z := by
      rw [hz, ← Int.neg_mul_neg]
      exact fdiv_mul (by omega)
    have f3 : -1 * n / (g : Int) = -z := by
      rw [hz, ← Int.mul_assoc, Int.mul_ediv_cancel _ gi]
      omega
    rw [f1, f3]
  · rw [if_neg hn, Int.sign_eq_one_of_pos (by omega)]
    have e2 : d = (y : Int) * (g : Int) := by
      have : d = (d.natAbs : Int) := by omega
      rw [this, hy, Int.natCast_mul, Int.mul_comm]
    have f2 : d.fdiv (g : Int) = (y : Int) := by
      rw [e2]
      exact fdiv_mul gi
    rw [f2]
    obtain ⟨z, hz⟩ : ∃ z : Int, n = z * (g : Int) := by
      by_cases h0 : n < 0
      · refine ⟨-(x : Int), ?_⟩
        have : n = -(n.natAbs : Int) := by omega
        rw [this, hx, Int.natCast_mul, Int.neg_mul, Int.mul_comm]
      · refine ⟨(x : Int), ?_⟩
        have : n = (n.natAbs : Int) := by omega
        rw [this, hx, Int.natCast_mul, Int.mul_comm]
    have f1 : n.fdiv (g : Int) = z := by
      rw [hz]
      exact fdiv_mul gi
    have f3 : 1 * n / (g : Int) = z := by
      rw [hz, Int.one_mul, Int.mul_ediv_cancel _ gi]
    rw [f1, f3]
theorem divInt_sz {k : Nat} {n d : Int} (h : d ≠ 0) (hn : B k n) (hd : B k d) : Sz k (Rat.divInt n d) := by
  refine ⟨?_, ?_⟩
  · rw [Rat.num_divInt]
    refine hn.le ?_
    refine Nat.le_trans (Int.natAbs_ediv_le_natAbs _ _) ?_
    rw [Int.natAbs_mul]
    have : d.sign.natAbs ≤ 1 := by
      rcases Int.lt_trichotomy d 0 with z | z | z
      · rw [Int.sign_eq_neg_one_of_neg z]; decide
      · exact absurd z h
      · rw [Int.sign_eq_one_of_pos z]; decide
    calc d.sign.natAbs * n.natAbs ≤ 1 * n.natAbs := Nat.mul_le_mul_right _ this
      _ = n.natAbs := Nat.one_mul _
  · rw [Rat.den_divInt, if_neg h]
    refine hd.le ?_
    show ((d.natAbs / d.gcd n : Nat) : Int).natAbs ≤ d.natAbs
    rw [Int.natAbs_natCast]
    exact Nat.div_le_self _ _
theorem rat_sub (x y : Rat) : Rat.divInt (x.num * (y.den : Int) - y.num * (x.den : Int)) ((x.den : Int) * (y.den : Int)) = x - y := by
  rw [← Rat.divInt_sub_divInt _ _ (den_ne x) (den_ne y), Rat.num_divInt_den, Rat.num_divInt_den]
theorem rat_add (x y : Rat) : Rat.divInt (x.num * (y.den : Int) + y.num * (x.den : Int)) ((x.den : Int) * (y.den : Int)) = x + y := by
  rw [← Rat.divInt_add_divInt _ _ (den_ne x) (den_ne y), Rat.num_divInt_den, Rat.num_divInt_den]
theorem rat_mul (x y : Rat) : Rat.divInt (x.num * y.num) ((x.den : Int) * (y.den : Int)) = x * y := by
  rw [← Rat.divInt_mul_divInt, Rat.num_divInt_den, Rat.num_divInt_den]
theorem rat_div (x y : Rat) (h : y.num ≠ 0) : Rat.divInt (x.num * (y.den : Int)) ((x.den : Int) * y.num) = x / y := by
  rw [← Rat.divInt_mul_divInt, Rat.num_divInt_den, ← Rat.inv_def, Rat.div_def]
/-! ### what can be shown -/
/-- leaves of at most k bits, weight at most w, depth at most dp -/
structure Tidy (k w dp : Nat) (d : PyData) : Prop where
  sh : d.leavesShort (k + 8) = true
  ok : d.showable = true
  lay : d.canLay0 = true
  dep : d.depth ≤ dp
  wt : d.weight ≤ w
theorem Tidy.shows {k w dp : Nat} {d : PyData} (h : Tidy k w dp d) (hd : dp ≤ 64) (hw : (k + 10) * w + (k + 8) ≤ 10000000) : showsOk d := by
  refine ⟨h.ok, h.lay, Nat.le_trans h.dep hd, ?_⟩
  have e := PyData.shown_le (k + 8) (by omega) d h.sh
  have e2 : (k + 8 + 2) * d.weight ≤ (k + 10) * w := Nat.mul_le_mul (by omega) h.wt
  have e3 : (10000000 : Nat) ≤ sizeLine := by decide
  omega
theorem Tidy.int {k : Nat} {i : Int} (h : B k i) (hk : k ≤ 1900) : Tidy k (k + 2) 0 (.int i) := by
  have hl := h.log
  refine ⟨?_, ?_, by simp only [PyData.canLay0], by simp only [PyData.depth]; exact Nat.le_refl _, ?_⟩
  · simp only [PyData.leavesShort]
    refine decide_eq_true ?_
    have e := int_text_length_le (k := k + 1) (by omega) hl
    show (Str.ofString (toString i)).length ≤ k + 8
    rw [PySem.ofString_length]
    omega
  · simp only [PyData.showable]
    exact decide_eq_true (by omega)
  · simp only [PyData.weight]
    split <;> omega
theorem Tidy.bool {k : Nat} (b : Bool) : Tidy k 0 0 (.bool b) :=
  ⟨by simp only [PyData.leavesShort], by simp only [PyData.showable], by simp only [PyData.canLay0], by simp only [PyData.depth]; exact Nat.le_refl _, by simp only [PyData.weight]; exact Nat.le_refl _⟩
theorem Tidy.mono {k w dp w' dp' : Nat} {d : PyData} (h : Tidy k w dp d) (hw : w ≤ w') (hd : dp ≤ dp') : Tidy k w' dp' d := ⟨h.sh, h.ok, h.lay, Nat.le_trans h.dep hd, Nat.le_trans h.wt hw⟩
theorem tidyAll {k w dp : Nat} : ∀ {ds : List PyData}, (∀ d ∈ ds, Tidy k w dp d) → PyData.leavesShortAll (k + 8) ds = true ∧ PyData.showableAll ds = true ∧ PyData.canLayAll0 ds = true ∧ PyData.depthAll ds ≤ dp ∧ PyData.weightAll ds ≤ ds.length * (w + 1)
  | [], _ => ⟨by simp only [PyData.leavesShortAll], by simp only [PyData.showableAll], by simp only [PyData.canLayAll0], by simp only [PyData.depthAll]; exact Nat.zero_le _, by simp only [PyData.weightAll]; exact Nat.zero_le _⟩
  | d :: ds, h => by
    obtain ⟨h1, h2, h3, h4, h5⟩ := tidyAll (ds := ds) fun x hx => h x (List.mem_cons_of_mem _ hx)
    have g := h d List.mem_cons_self
    refine ⟨by simp only [PyData.leavesShortAll, g.sh, h1, Bool.and_self], by simp only [PyData.showableAll, g.ok, h2, Bool.and_self], by simp only [PyData.canLayAll0, g.lay, h3, Bool.and_self], ?_, ?_⟩
    · simp only [PyData.depthAll]
      exact Nat.max_le.mpr ⟨g.dep, h4⟩
    · simp only [PyData.weightAll]
      have := g.wt
      rw [List.length_cons, Nat.succ_mul]
      omega
theorem Tidy.list {k w dp : Nat} {ds : List PyData} (h : ∀ d ∈ ds, Tidy k w dp d) : Tidy k (ds.length * (w + 1)) (dp + 1) (.list ds) := by
  obtain ⟨h1, h2, h3, h4, h5⟩ := tidyAll h
  refine ⟨by simp only [PyData.leavesShort, h1], by simp only [PyData.showable, h2], by simp only [PyData.canLay0, h3], ?_, by simp only [PyData.weight]; exact h5⟩
  simp only [PyData.depth]
  omega
theorem Tidy.tuple {k w dp : Nat} {ds : List PyData} (h : ∀ d ∈ ds, Tidy k w dp d) : Tidy k (ds.length * (w + 1)) (dp + 1) (.tuple ds) := by
  obtain ⟨h1, h2, h3, h4, h5⟩ := tidyAll h
  refine ⟨by simp only [PyData.leavesShort, h1], by simp only [PyData.showable, h2], by simp only [PyData.canLay0, h3], ?_, by simp only [PyData.weight]; exact h5⟩
  simp only [PyData.depth]
  omega
theorem Tidy.fq {k : Nat} {q : Rat} (h : Sz k q) (hk : k ≤ 1900) : Tidy k (2 * (k + 3)) 1 (fq q) := by
  refine Tidy.tuple (ds := [.int q.num, .int (q.den : Int)]) fun d hd => ?_
  simp only [List.mem_cons, List.not_mem_nil, or_false] at hd
  rcases hd with rfl | rfl
  · exact .int h.n hk
  · exact .int h.d hk
/-! ### sizes of sums and products -/
theorem Sz.sub {k : Nat} {x y : Rat} (h : Sz k x) (g : Sz k y) : Sz (k + k + 1) (x - y) := by
  rw [← rat_sub]
  exact divInt_sz (Int.mul_ne_zero (den_ne x) (den_ne y)) (((h.n.mul g.d)).sub (g.n.mul h.d)) ((h.d.mul g.d).mono (by omega))
theorem Sz.add {k : Nat} {x y : Rat} (h : Sz k x) (g : Sz k y) : Sz (k + k + 1) (x + y) := by
  rw [← rat_add]
  exact divInt_sz (Int.mul_ne_zero (den_ne x) (den_ne y)) (((h.n.mul g.d)).add (g.n.mul h.d)) ((h.d.mul g.d).mono (by omega))
theorem Sz.mul {k : Nat} {x y : Rat} (h : Sz k x) (g : Sz k y) : Sz (k + k) (x * y) := by
  rw [← rat_mul]
  exact divInt_sz (Int.mul_ne_zero (den_ne x) (den_ne y)) (h.n.mul g.n) (h.d.mul g.d)
theorem Sz.div {k : Nat} {x y : Rat} (h : Sz k x) (g : Sz k y) (h0 : y.num ≠ 0) : Sz (k + k) (x / y) := by
  rw [← rat_div x y h0]
  exact divInt_sz (Int.mul_ne_zero (den_ne x) h0) (h.n.mul g.d) (h.d.mul g.n)
theorem Sz.sum {k : Nat} : ∀ {qs : List Rat}, (∀ q ∈ qs, Sz k q) → Sz ((k + 1) * qs.length + 1) qs.sum
  | [], _ => ⟨(show B 1 0 from .lit rfl).mono (Nat.le_add_left _ _), (show B 1 1 from .lit rfl).mono (Nat.le_add_left _ _)⟩
  | q :: qs, h => by
    have ih := Sz.sum (qs := qs) fun p hp => h p (List.mem_cons_of_mem _ hp)
    have g := h q List.mem_cons_self
    rw [List.sum_cons, ← rat_add, List.length_cons, Nat.mul_succ]
    refine divInt_sz (Int.mul_ne_zero (den_ne _) (den_ne _)) ?_ ?_
    · exact (g.n.mul' ih.d (c := (k + 1) * qs.length + 1 + k) (by omega)).add' (ih.n.mul' g.d (by omega)) (by omega)
    · exact g.d.mul' ih.d (by omega)
end DL
set_option maxHeartbeats 1000000
namespace DL
open PySem PySem.Spec PyProof.Rows L2
/-! ### a law's body -/
def slAny (K : PySem.W.Frag) (t : DS) : TS := fun Dn σ H => ∃ Y, sl K Y t Dn σ H
theorem pss_any {X : Cx} {sts : List Stmt} {t : DS} (h : ∀ Y, PSs X sts (sl X.K Y t)) : PSs X sts (slAny X.K t) :=
  ⟨fun pins s σ H D I ⟨Y, hq⟩ => (h Y).run pins s σ H D I hq⟩
def spLaw (K : PySem.W.Frag) : Sp := fun vs H Q _ => ∃ (a : Addr) (ns : List Int), vs = [.ref a] ∧ SqL K H a (ns.map V.int) ∧ ∀ H', Q (.bl true) H'
def lawEnds : DEnds := { nx := fun _ => False, rt := fun r => r = .dat (.bool true) }
def bagSlots (n i : Nat) : List S := (List.replicate n S.un).set i .bag
theorem rel_bag {K : PySem.W.Frag} {n i : Nat} {σ : L2.St} {H : Hp} {b c : Addr} (hl : σ.length = n) (hs : σ[i]? = some (some (.ref b))) (bc : b ≠ c) (hb : BagAt H b c) : Rel K ⟨H, [b, c], some (b, c)⟩ [b, c] σ H (bagSlots n i) := by
  have only : ∀ (j : Nat) (s : S), (bagSlots n i)[j]? = some s → s = .un ∨ (s = .bag ∧ j = i) := fun j s e => by
    unfold bagSlots at e
    by_cases h : i = j
    · subst h
      by_cases hn : i < n
      · rw [List.getElem?_set_self (by rw [List.length_replicate]; exact hn)] at e
        cases e
        exact .inr ⟨rfl, rfl⟩
      · rw [List.getElem?_eq_none (by rw [List.length_set, List.length_replicate]; omega)] at e
        cases e
    · rw [List.getElem?_set_ne h] at e
      exact .inl (List.eq_of_mem_replicate (List.mem_of_getElem? e))
  refine ⟨by unfold bagSlots; rw [List.length_set, List.length_replicate]; exact hl, fun j s e => ?_, fun j k ds es n' e1 e2 => ?_, fun a h => h, fun a h n' => absurd h n', fun a h => ?_, fun b' c' q => ?_, .refl, fun a h n' => absurd h n'⟩
  · rcases only j s e with rfl | ⟨rfl, rfl⟩
    · trivial
    · exact ⟨b, c, rfl, hs⟩
  · rcases only j _ e1 with z | ⟨z, _⟩
    · cases z
    · cases z
  · obtain ⟨x, y, z, ns, _, e1, e2⟩ := hb
    simp only [List.mem_cons, List.not_mem_nil, or_false] at h
    rcases h with rfl | rfl
    · rw [e1]
      exact fun z => nomatch z
    · rw [e2]
      exact fun z => nomatch z
  · cases q
    exact ⟨List.mem_cons_self, List.mem_cons_of_mem _ List.mem_cons_self, bc, hb⟩
/-- what the body's end is worth -/
theorem sl_law {K : PySem.W.Frag} {Y : Yc} {hs : List Addr} {σ : L2.St} {H : Hp} {δ : List S} {t : DS} {Dn : Ends} {Q : VK} (I : Rel K Y hs σ H δ) (h : t lawEnds δ) (hr : Dn.rt = Q) (q : ∀ H', Q (.bl true) H') : slAny K t Dn σ H := by
  refine ⟨Y, hs, δ, lawEnds, I, h, fun _ _ _ _ _ _ p => False.elim p, fun _ _ _ _ _ _ p => False.elim p, fun _ _ _ _ _ _ p => False.elim p, fun v H' r _ _ rr p => ?_⟩
  cases p
  cases rr
  rw [hr]
  exact q H'
/-- bag, rows = (bag of the script, []) -/
theorem law_open2 {K : PySem.W.Frag} {n i j : Nat} {σ : L2.St} {H1 : Hp} {b c l t0 : Addr} {tb : DS} {Dn : Ends} {Q : VK} (hl : σ.length = n) (hi : i < n) (bc : b ≠ c) (hb : BagAt H1 b c) (nl : H1 l = none) (nt : (L2.upd H1 l (.lst [])) t0 = none)
    (h : tb lawEnds ((bagSlots n i).set j (.own []))) (hr : Dn.rt = Q) (q : ∀ H', Q (.bl true) H') : slAny K tb Dn ((σ.set i (some (.ref b))).set j (some (.ref l))) (L2.upd (L2.upd H1 l (.lst [])) t0 (.tup [.ref b, .ref l])) := by
  have I1 := rel_bag (K := K) (n := n) (i := i) (σ := σ.set i (some (.ref b))) (by rw [List.length_set]; exact hl) (List.getElem?_set_self (by rw [hl]; exact hi)) bc hb
  have s1 : Same H1 (L2.upd (L2.upd H1 l (.lst [])) t0 (.tup [.ref b, .ref l])) := (same_upd nl).trans (same_upd nt)
  have nlt : l ≠ t0 := fun z => by
    rw [← z, upd_same] at nt
    cases nt
  have I2 := (I1.setNew (i := j) (ds := []) (a := l) (xs := []) (.of s1) (I1.bag.same s1) nl (by rw [upd_ne nlt, upd_same]) .nil).1
  exact sl_law I2 h hr q
/-- bag = the bag of the script -/
theorem law_open1 {K : PySem.W.Frag} {n i : Nat} {σ : L2.St} {H1 : Hp} {b c : Addr} {tb : DS} {Dn : Ends} {Q : VK} (hl : σ.length = n) (hi : i < n) (bc : b ≠ c) (hb : BagAt H1 b c)
    (h : tb lawEnds (bagSlots n i)) (hr : Dn.rt = Q) (q : ∀ H', Q (.bl true) H') : slAny K tb Dn (σ.set i (some (.ref b))) H1 :=
  sl_law (rel_bag (by rw [List.length_set]; exact hl) (List.getElem?_set_self (by rw [hl]; exact hi)) bc hb) h hr q
end DL
set_option maxHeartbeats 1000000
namespace DL
open PySem PySem.Spec PyProof.Rows L2
/-! reduced -/
def tb_p_reduced : DS := (dSeq (dAsg 2 (dCB (gInt2 fun i j => .int ((Nat.gcd i.natAbs j.natAbs : Nat) : Int)) (dCons (dVar 0) (dCons (dVar 1) dNil)))) (dSeq (dIfS (dTest (dOp gLt (dVar 1) (dC (.int 0)))) (dAsg 2 (dNeg (dVar 2))) dNext) (dRet (dTup (dCons (dOp gDiv (dVar 0) (dVar 2)) (dCons (dOp gDiv (dVar 1) (dVar 2)) dNil))))))
def T_p_reduced : DT' := fun rs P => ∃ n d : Int, rs = [.dat (.int n), .dat (.int d)] ∧ d ≠ 0 ∧ B 8000 d ∧ P (.dat (fq (Rat.divInt n d)))
theorem len_p_reduced : ∀ rs P, T_p_reduced rs P → rs.length = 2 := fun rs P ⟨n, d, e, _⟩ => by rw [e]; rfl
theorem spec_p_reduced : ∀ rs P, T_p_reduced rs P → tb_p_reduced { nx := fun _ => P (.dat .none), rt := fun r => r.isSolid = true ∧ P r } (start0 3 rs) := by
  rintro rs P ⟨n, d, rfl, hd, hB, hP⟩
  have fin : ∀ s : Int, s = by_ n d → (CDivA n s ∧ CDivA d s) ∧ P (.dat (.tuple [.int (n.fdiv s), .int (d.fdiv s)])) := fun s e => by
    subst e
    have h9 : (by_ n d).natAbs.log2 < 9000 := (hB.le (by_le hd)).log9 (by decide)
    rw [red_fq hd]
    exact ⟨⟨⟨by_ne hd, h9⟩, by_ne hd, h9⟩, hP⟩
  refine ⟨trivial, ite2 (fun h => ?_) (fun h => ?_)⟩
  · have h' : d < 0 := of_decide_eq_true h
    have e := fin (-((Nat.gcd n.natAbs d.natAbs : Nat) : Int)) (by unfold by_; rw [if_pos h'])
    exact ⟨e.1.1, e.1.2, ⟨rfl, Nat.le_of_ble_eq_true rfl⟩, rfl, e.2⟩
  · have h' : ¬ d < 0 := fun z => h (decide_eq_true z)
    have e := fin (((Nat.gcd n.natAbs d.natAbs : Nat) : Int)) (by unfold by_; rw [if_neg h'])
    exact ⟨e.1.1, e.1.2, ⟨rfl, Nat.le_of_ble_eq_true rfl⟩, rfl, e.2⟩
/-! common_den -/
def tb_p_common_den : DS := (dSeq (dAsg 1 (dC (.int 1))) (dSeq (dFor (diV 0) (dgName 2) (dAsg 1 (dCB gLcm (dCons (dVar 1) (dCons (dOp gIx (dVar 2) (dC (.int 1))) dNil))))) (dRetV 1)))
/-- a list or a tuple of fractions -/
def SeqR (ds : List PyData) (r : R) : Prop := r = .dat (.list ds) ∨ r = .dat (.tuple ds)
def lcmD (qs : List Rat) : Nat := qs.foldl (fun a q => Nat.lcm a q.den) 1
theorem lcmD_snoc (qs : List Rat) (q : Rat) : lcmD (qs ++ [q]) = Nat.lcm (lcmD qs) q.den := by
  unfold lcmD
  rw [List.foldl_append]
  rfl
theorem lcmD_take {qs : List Rat} {i : Nat} {q : Rat} (h : qs[i]? = some q) : lcmD (qs.take (i + 1)) = Nat.lcm (lcmD (qs.take i)) q.den := by
  rw [List.take_add_one, h]
  exact lcmD_snoc _ _
theorem lcmD_sz {k : Nat} : ∀ (i : Nat) (qs : List Rat), (∀ q ∈ qs, Sz k q) → 0 < lcmD (qs.take i) ∧ lcmD (qs.take i) ≤ 2 ^ (k * i)
  | 0, qs, _ => ⟨Nat.one_pos, by rw [Nat.mul_zero]; exact Nat.le_refl 1⟩
  | i + 1, qs, h => by
    obtain ⟨h1, h2⟩ := lcmD_sz i qs h
    cases e : qs[i]? with
    | none =>
      rw [List.take_add_one, e]
      show 0 < lcmD (qs.take i ++ []) ∧ lcmD (qs.take i ++ []) ≤ _
      rw [List.append_nil]
      exact ⟨h1, Nat.le_trans h2 (Nat.pow_le_pow_right (by decide) (Nat.mul_le_mul_left _ (Nat.le_succ _)))⟩
    | some q =>
      rw [lcmD_take e]
      have hq := (h q (List.mem_of_getElem? e)).d
      have hq' : q.den < 2 ^ k := hq
      refine ⟨Nat.lcm_pos h1 q.den_pos, Nat.le_trans (PySem.W.mc_lcm_le _ _) ?_⟩
      rw [Nat.mul_succ, Nat.pow_add]
      exact Nat.mul_le_mul h2 (Nat.le_of_lt hq')
theorem lcmD_B {k m : Nat} {qs : List Rat} (i : Nat) (h : ∀ q ∈ qs, Sz k q) (e : k * i + 1 ≤ m) : B m (lcmD (qs.take i) : Int) := by
  have := (lcmD_sz i qs h).2
  refine Nat.lt_of_le_of_lt (show (lcmD (qs.take i) : Int).natAbs ≤ 2 ^ (k * i) from this) (Nat.pow_lt_pow_right (by decide) (by omega))
def T_p_common_den : DT' := fun rs P => ∃ (qs : List Rat) (k : Nat) (r : R), rs = [r] ∧ SeqR (qs.map fq) r ∧ (∀ q ∈ qs, Sz k q) ∧ (k + 1) * (qs.length + 1) ≤ 7000 ∧ P (.dat (.int (lcmD qs : Int)))
theorem len_p_common_den : ∀ rs P, T_p_common_den rs P → rs.length = 1 := fun rs P ⟨_, _, _, e, _⟩ => by rw [e]; rfl
theorem len_le {k n : Nat} (h : (k + 1) * (n + 1) ≤ 7000) (hk : 0 < k ∨ n ≤ 1000) : n ≤ 7000 := by
  have : 1 * (n + 1) ≤ (k + 1) * (n + 1) := Nat.mul_le_mul_right _ (by omega)
  omega
theorem mul_lt7 {k n i : Nat} (h : (k + 1) * (n + 1) ≤ 7000) (hi : i ≤ n) : k * i + 1 ≤ 7000 ∧ k ≤ 7000 ∧ n ≤ 7000 ∧ (k + 1) * i + 1 ≤ 7000 := by
  have h1 : (k + 1) * i ≤ (k + 1) * n := Nat.mul_le_mul_left _ hi
  have h2 : (k + 1) * (n + 1) = (k + 1) * n + (k + 1) := Nat.mul_succ _ _
  have h3 : k * i ≤ (k + 1) * i := Nat.mul_le_mul_right _ (by omega)
  have h4 : 1 * n ≤ (k + 1) * n := Nat.mul_le_mul_right _ (by omega)
  omega
theorem map_get {α β : Type} {f : α → β} {xs : List α} {i : Nat} {y : β} (h : (xs.map f)[i]? = some y) : ∃ x, xs[i]? = some x ∧ y = f x := by
  rw [List.getElem?_map] at h
  cases e : xs[i]? with
  | none => rw [e] at h; cases h
  | some x => rw [e] at h; exact ⟨x, rfl, (Option.some.inj h).symm⟩
theorem spec_p_common_den : ∀ rs P, T_p_common_den rs P → tb_p_common_den { nx := fun _ => P (.dat .none), rt := fun r => r.isSolid = true ∧ P r } (start0 3 rs) := by
  rintro rs P ⟨qs, k, r, rfl, hr, hs, hz, hP⟩
  have loop : ∀ L : PyData, ∃ Pv : Nat → List S → Prop, Pv 0 [.dat L, .dat (.int 1), .un] ∧ (∀ i d δ', (qs.map fq)[i]? = some d → Pv i δ' → dgName 2 d δ' fun δ2 => dAsg 1 (dCB gLcm (dCons (dVar 1) (dCons (dOp gIx (dVar 2) (dC (.int 1))) dNil))) { nx := Pv (i + 1), rt := fun r => r.isSolid = true ∧ P r, ct := Pv (i + 1), bk := fun δ => dRetV 1 { nx := fun _ => P (.dat .none), rt := fun r => r.isSolid = true ∧ P r } δ } δ2) ∧
      ∀ δ', Pv (qs.map fq).length δ' → dRetV 1 { nx := fun _ => P (.dat .none), rt := fun r => r.isSolid = true ∧ P r } δ' := fun L => by
    refine ⟨fun i δ' => ∃ s, δ' = [S.dat L, S.dat (.int (lcmD (qs.take i) : Int)), s], ⟨_, rfl⟩, ?_, ?_⟩
    · rintro i d δ' hd ⟨s, rfl⟩
      obtain ⟨q, hq, rfl⟩ := map_get hd
      have hi : i < qs.length := (List.getElem?_eq_some_iff.mp hq).1
      have hm := mul_lt7 hz (Nat.le_of_lt hi)
      refine ⟨⟨(lcmD_B i hs (Nat.le_refl _)).log9 (by omega), (hs q (List.mem_of_getElem? hq)).d.log9 (by omega)⟩, S.dat (fq q), ?_⟩
      rw [lcmD_take hq]
      rfl
    · rintro δ' ⟨s, rfl⟩
      rw [List.length_map, List.take_length]
      exact ⟨rfl, hP⟩
  rcases hr with rfl | rfl
  · exact ⟨rfl, loop _⟩
  · exact ⟨rfl, loop _⟩
/-! added -/
def tb_p_added : DS := (dSeq (dAsg 1 (dCall T_p_common_den (dCons (dVar 0) dNil))) (dRet (dCall T_p_reduced (dCons (dCB gSum (dCons (dLc (diV 0) (dgTup 2 (dgCons (dgName 2) (dgCons (dgName 3) dgNil))) dtYes (dOp gMul (dVar 2) (dOp gDiv (dVar 1) (dVar 3))) [2, 3]) dNil)) (dCons (dVar 1) dNil)))))
theorem lcm_dvd {qs : List Rat} : ∀ {i : Nat} {q : Rat}, qs[i]? = some q → q.den ∣ lcmD qs := by
  have key : ∀ (n i : Nat) (q : Rat), i < n → qs[i]? = some q → q.den ∣ lcmD (qs.take n) := by
    intro n
    induction n with
    | zero => intro i q h; omega
    | succ n ih =>
      intro i q hi hq
      cases e : qs[n]? with
      | none =>
        rw [List.take_add_one, e]
        show q.den ∣ lcmD (qs.take n ++ [])
        rw [List.append_nil]
        refine ih i q ?_ hq
        have h1 := (List.getElem?_eq_some_iff.mp hq).1
        have h2 := List.getElem?_eq_none_iff.mp e
        omega
      | some p =>
        rw [lcmD_take e]
        by_cases h : i = n
        · subst h
          rw [hq] at e
          cases e
          exact Nat.dvd_lcm_right _ _
        · exact Nat.dvd_trans (ih i q (by omega) hq) (Nat.dvd_lcm_left _ _)
  intro i q hq
  have := key qs.length i q (List.getElem?_eq_some_iff.mp hq).1 hq
  rwa [List.take_length] at this
theorem frac_at {q : Rat} {L : Nat} (hL : 0 < L) (hd : q.den ∣ L) : Rat.divInt (q.num * ((L : Int).fdiv (q.den : Int))) (L : Int) = q := by
  obtain ⟨c, rfl⟩ := hd
  have e : (((q.den * c : Nat) : Int)).fdiv (q.den : Int) = (c : Int) := by
    rw [Int.natCast_mul, Int.mul_comm]
    exact fdiv_mul (den_ne q)
  have hc : c ≠ 0 := fun z => by
    subst z
    omega
  rw [e, Int.natCast_mul, Rat.divInt_mul_right (by omega : (c : Int) ≠ 0), Rat.num_divInt_den]
theorem divInt_add {a b L : Int} (h : L ≠ 0) : Rat.divInt (a + b) L = Rat.divInt a L + Rat.divInt b L := by
  rw [Rat.divInt_add_divInt _ _ h h, ← Int.add_mul, Rat.divInt_mul_right h]
theorem sum_fracs {L : Nat} (hL : 0 < L) : ∀ qs : List Rat, (∀ q ∈ qs, q.den ∣ L) → Rat.divInt ((qs.map fun q => q.num * ((L : Int).fdiv (q.den : Int))).sum) (L : Int) = qs.sum
  | [], _ => by
    show Rat.divInt 0 (L : Int) = 0
    exact Rat.zero_divInt _
  | q :: qs, h => by
    rw [List.map_cons, List.sum_cons, divInt_add (by omega), frac_at hL (h q List.mem_cons_self), sum_fracs hL qs fun p hp => h p (List.mem_cons_of_mem _ hp), List.sum_cons]
theorem ints_map {α : Type} {f : α → Int} : ∀ xs : List α, intsOf (xs.map fun x => PyData.int (f x)) = some (xs.map f)
  | [] => rfl
  | x :: xs => by
    show (intsOf (xs.map fun x => PyData.int (f x))).map _ = _
    rw [ints_map xs]
    rfl
def Parts (k : Nat) (qs : List Rat) (r : R) : Prop := SeqR (qs.map fq) r ∧ (∀ q ∈ qs, Sz k q) ∧ (k + 1) * (qs.length + 1) ≤ 7000 ∧ qs.length ≤ 1000
def T_p_added : DT' := fun rs P => ∃ (qs : List Rat) (k : Nat) (r : R), rs = [r] ∧ Parts k qs r ∧ P (.dat (fq qs.sum))
theorem len_p_added : ∀ rs P, T_p_added rs P → rs.length = 1 := fun rs P ⟨_, _, _, e, _⟩ => by rw [e]; rfl
theorem spec_p_added : ∀ rs P, T_p_added rs P → tb_p_added { nx := fun _ => P (.dat .none), rt := fun r => r.isSolid = true ∧ P r } (start0 4 rs) := by
  rintro rs P ⟨qs, k, r, rfl, ⟨hr, hs, hz, hn⟩, hP⟩
  have hL := lcmD_sz qs.length qs hs
  rw [List.take_length] at hL
  have hB : B 7000 (lcmD qs : Int) := by
    have := lcmD_B (m := 7000) qs.length hs (mul_lt7 hz (Nat.le_refl _)).1
    rwa [List.take_length] at this
  have turn : ∀ (i : Nat) (d : PyData) (acc : List PyData) (L0 : PyData), (qs.map fq)[i]? = some d → acc = (qs.take i).map (fun q => PyData.int (q.num * ((lcmD qs : Int).fdiv (q.den : Int)))) →
      dgTup 2 (dgCons (dgName 2) (dgCons (dgName 3) dgNil)) d [S.dat L0, S.dat (.int (lcmD qs : Int)), S.un, S.un] fun δ2 => dtYes δ2 fun b => if b = true then (dOp gMul (dVar 2) (dOp gDiv (dVar 1) (dVar 3))) δ2 fun r => r.isSolid = true ∧ acc ++ [r.d] = (qs.take (i + 1)).map (fun q => PyData.int (q.num * ((lcmD qs : Int).fdiv (q.den : Int)))) else False := by
    rintro i d acc L0 hd rfl
    obtain ⟨q, hq, rfl⟩ := map_get hd
    have hi : i < qs.length := (List.getElem?_eq_some_iff.mp hq).1
    have sq := hs q (List.mem_of_getElem? hq)
    have hm := mul_lt7 hz (Nat.le_of_lt hi)
    refine ⟨rfl, ?_⟩
    have hq2 : B 7000 ((lcmD qs : Int).fdiv (q.den : Int)) := hB.le (by
      rw [Int.fdiv_eq_ediv_of_nonneg _ (Int.le_of_lt (den_pos q))]
      exact Int.natAbs_ediv_le_natAbs _ _)
    refine ⟨rfl, ⟨den_ne q, sq.d.log9 (by omega)⟩, sq.n.cmul hq2 (by omega), rfl, ?_⟩
    rw [List.take_add_one, hq]
    show _ = List.map _ (_ ++ [q])
    rw [List.map_append]
    rfl
  have fin : ∀ acc : List PyData, acc = (qs.take (qs.map fq).length).map (fun q => PyData.int (q.num * ((lcmD qs : Int).fdiv (q.den : Int)))) → gSum [R.new acc] fun x => T_p_reduced [toArg x, .dat (.int (lcmD qs : Int))] fun r => (([x, R.dat (.int (lcmD qs : Int))] : List R).any R.isBor = true → r.free = true) ∧ (r.isSolid = true ∧ P r) := by
    rintro acc rfl
    rw [List.length_map, List.take_length]
    show (match intsOf _ with | some ns => _ | none => False)
    rw [ints_map]
    refine ⟨_, _, rfl, by omega, hB.mono (by decide), (fun z => nomatch z), rfl, ?_⟩
    rw [sum_fracs hL.1 qs fun q hq => by
      obtain ⟨i, hi⟩ := List.getElem?_of_mem hq
      exact lcm_dvd hi]
    exact hP
  rcases hr with rfl | rfl
  · refine ⟨qs, k, _, rfl, .inl rfl, hs, hz, (fun z => nomatch z), ?_⟩
    exact ⟨fun i acc => acc = (qs.take i).map (fun q => PyData.int (q.num * ((lcmD qs : Int).fdiv (q.den : Int)))), rfl, fun i d acc hd hp _ => turn i d acc _ hd hp, by rw [List.length_map]; exact hn, fin⟩
  · refine ⟨qs, k, _, rfl, .inr rfl, hs, hz, (fun z => nomatch z), ?_⟩
    exact ⟨fun i acc => acc = (qs.take i).map (fun q => PyData.int (q.num * ((lcmD qs : Int).fdiv (q.den : Int)))), rfl, fun i d acc hd hp _ => turn i d acc _ hd hp, by rw [List.length_map]; exact hn, fin⟩
/-! less -/
def tb_p_less : DS := (dRet (dCall T_p_reduced (dCons (dOp gSub (dOp gMul (dOp gIx (dVar 0) (dC (.int 0))) (dOp gIx (dVar 1) (dC (.int 1)))) (dOp gMul (dOp gIx (dVar 1) (dC (.int 0))) (dOp gIx (dVar 0) (dC (.int 1))))) (dCons (dOp gMul (dOp gIx (dVar 0) (dC (.int 1))) (dOp gIx (dVar 1) (dC (.int 1)))) dNil))))
def T_p_less : DT' := fun rs P => ∃ x y : Rat, rs = [.dat (fq x), .dat (fq y)] ∧ Sz 3000 x ∧ Sz 3000 y ∧ P (.dat (fq (x - y)))
theorem len_p_less : ∀ rs P, T_p_less rs P → rs.length = 2 := fun rs P ⟨n, d, e, _⟩ => by rw [e]; rfl
theorem spec_p_less : ∀ rs P, T_p_less rs P → tb_p_less { nx := fun _ => P (.dat .none), rt := fun r => r.isSolid = true ∧ P r } (start0 2 rs) := by
  rintro rs P ⟨x, y, rfl, sx, sy, hP⟩
  refine ⟨sx.n.cmul sy.d (by decide), sy.n.cmul sx.d (by decide), trivial, sx.d.cmul sy.d (by decide), _, _, rfl, Int.mul_ne_zero (den_ne x) (den_ne y), sx.d.mul' sy.d (by decide), (fun z => nomatch z), rfl, ?_⟩
  rw [rat_sub]
  exact hP
/-! times -/
def tb_p_times : DS := (dRet (dCall T_p_reduced (dCons (dOp gMul (dOp gIx (dVar 0) (dC (.int 0))) (dOp gIx (dVar 1) (dC (.int 0)))) (dCons (dOp gMul (dOp gIx (dVar 0) (dC (.int 1))) (dOp gIx (dVar 1) (dC (.int 1)))) dNil))))
def T_p_times : DT' := fun rs P => ∃ x y : Rat, rs = [.dat (fq x), .dat (fq y)] ∧ Sz 3000 x ∧ Sz 3000 y ∧ P (.dat (fq (x * y)))
theorem len_p_times : ∀ rs P, T_p_times rs P → rs.length = 2 := fun rs P ⟨n, d, e, _⟩ => by rw [e]; rfl
theorem spec_p_times : ∀ rs P, T_p_times rs P → tb_p_times { nx := fun _ => P (.dat .none), rt := fun r => r.isSolid = true ∧ P r } (start0 2 rs) := by
  rintro rs P ⟨x, y, rfl, sx, sy, hP⟩
  refine ⟨sx.n.cmul sy.n (by decide), sx.d.cmul sy.d (by decide), _, _, rfl, Int.mul_ne_zero (den_ne x) (den_ne y), sx.d.mul' sy.d (by decide), (fun z => nomatch z), rfl, ?_⟩
  rw [rat_mul]
  exact hP
/-! over -/
def tb_p_over : DS := (dRet (dCall T_p_reduced (dCons (dOp gMul (dOp gIx (dVar 0) (dC (.int 0))) (dOp gIx (dVar 1) (dC (.int 1)))) (dCons (dOp gMul (dOp gIx (dVar 0) (dC (.int 1))) (dOp gIx (dVar 1) (dC (.int 0)))) dNil))))
def T_p_over : DT' := fun rs P => ∃ x y : Rat, rs = [.dat (fq x), .dat (fq y)] ∧ y.num ≠ 0 ∧ Sz 3000 x ∧ Sz 3000 y ∧ P (.dat (fq (x / y)))
theorem len_p_over : ∀ rs P, T_p_over rs P → rs.length = 2 := fun rs P ⟨n, d, e, _⟩ => by rw [e]; rfl
theorem spec_p_over : ∀ rs P, T_p_over rs P → tb_p_over { nx := fun _ => P (.dat .none), rt := fun r => r.isSolid = true ∧ P r } (start0 2 rs) := by
  rintro rs P ⟨x, y, rfl, h0, sx, sy, hP⟩
  refine ⟨sx.n.cmul sy.d (by decide), sx.d.cmul sy.n (by decide), _, _, rfl, Int.mul_ne_zero (den_ne x) h0, sx.d.mul' sy.n (by decide), (fun z => nomatch z), rfl, ?_⟩
  rw [rat_div x y h0]
  exact hP
/-! compared -/
def tb_p_compared : DS := (dSeq (dAsg 2 (dOp gMul (dOp gIx (dVar 0) (dC (.int 0))) (dOp gIx (dVar 1) (dC (.int 1))))) (dSeq (dAsg 3 (dOp gMul (dOp gIx (dVar 1) (dC (.int 0))) (dOp gIx (dVar 0) (dC (.int 1))))) (dSeq (dIfS (dTest (dOp gLt (dVar 2) (dVar 3))) (dRet (dNeg (dC (.int 1)))) dNext) (dSeq (dIfS (dTest (dOp gGt (dVar 2) (dVar 3))) (dRet (dC (.int 1))) dNext) (dRet (dC (.int 0)))))))
def cmpq (x y : Rat) : Int := if x.num * (y.den : Int) < y.num * (x.den : Int) then -1 else if y.num * (x.den : Int) < x.num * (y.den : Int) then 1 else 0
def T_p_compared : DT' := fun rs P => ∃ x y : Rat, rs = [.dat (fq x), .dat (fq y)] ∧ Sz 3000 x ∧ Sz 3000 y ∧ P (.dat (.int (cmpq x y)))
theorem len_p_compared : ∀ rs P, T_p_compared rs P → rs.length = 2 := fun rs P ⟨n, d, e, _⟩ => by rw [e]; rfl
theorem spec_p_compared : ∀ rs P, T_p_compared rs P → tb_p_compared { nx := fun _ => P (.dat .none), rt := fun r => r.isSolid = true ∧ P r } (start0 4 rs) := by
  rintro rs P ⟨x, y, rfl, sx, sy, hP⟩
  refine ⟨sx.n.cmul sy.d (by decide), sy.n.cmul sx.d (by decide), trivial, ite2 (fun h => ?_) (fun h => ⟨trivial, ite2 (fun h2 => ?_) (fun h2 => ?_)⟩)⟩
  · have e : cmpq x y = -1 := if_pos (of_decide_eq_true h)
    rw [e] at hP
    exact ⟨rfl, hP⟩
  · have e : cmpq x y = 1 := (if_neg fun z => h (decide_eq_true z)).trans (if_pos (of_decide_eq_true h2))
    rw [e] at hP
    exact ⟨rfl, hP⟩
  · have e : cmpq x y = 0 := (if_neg fun z => h (decide_eq_true z)).trans (if_neg fun z => h2 (decide_eq_true z))
    rw [e] at hP
    exact ⟨rfl, hP⟩
/-! least_of -/
def tb_p_least_of : DS := (dSeq (dAsg 1 (dOp gIx (dVar 0) (dC (.int 0)))) (dSeq (dFor (diV 0) (dgName 2) (dIfS (dTest (dOp gLt (dCall T_p_compared (dCons (dVar 2) (dCons (dVar 1) dNil))) (dC (.int 0)))) (dAsg 1 (dVar 2)) dNext)) (dRetV 1)))
def ltq (x y : Rat) : Bool := decide (x.num * (y.den : Int) < y.num * (x.den : Int))
theorem ltq_cmp (x y : Rat) : decide (cmpq x y < 0) = ltq x y := by
  unfold cmpq ltq
  by_cases h : x.num * (y.den : Int) < y.num * (x.den : Int)
  · rw [if_pos h, decide_eq_true h]
    rfl
  · rw [if_neg h, decide_eq_false h]
    split <;> rfl
theorem gtq_cmp (x y : Rat) : decide (0 < cmpq x y) = ltq y x := by
  unfold cmpq ltq
  by_cases h : y.num * (x.den : Int) < x.num * (y.den : Int)
  · rw [if_neg (by omega), if_pos h, decide_eq_true h]
    rfl
  · rw [decide_eq_false h]
    by_cases h2 : x.num * (y.den : Int) < y.num * (x.den : Int)
    · rw [if_pos h2]
      rfl
    · rw [if_neg h2, if_neg h]
      rfl
/-- the fold of least_of, greatest_of: up tells which -/
def pick (up : Bool) (q : Rat) (qs : List Rat) : Rat := qs.foldl (fun m p => if (if up then ltq m p else ltq p m) = true then p else m) q
theorem pick_snoc (up : Bool) (q : Rat) (qs : List Rat) (p : Rat) : pick up q (qs ++ [p]) = if (if up then ltq (pick up q qs) p else ltq p (pick up q qs)) = true then p else pick up q qs := by
  unfold pick
  rw [List.foldl_append]
  rfl
theorem pick_take {up : Bool} {q p : Rat} {qs : List Rat} {i : Nat} (h : qs[i]? = some p) : pick up q (qs.take (i + 1)) = if (if up then ltq (pick up q (qs.take i)) p else ltq p (pick up q (qs.take i))) = true then p else pick up q (qs.take i) := by
  rw [List.take_add_one, h]
  exact pick_snoc _ _ _ _
theorem pick_sz {k : Nat} {up : Bool} {q : Rat} (hq : Sz k q) : ∀ qs : List Rat, (∀ p ∈ qs, Sz k p) → ∀ i, Sz k (pick up q (qs.take i)) := by
  intro qs h i
  induction i with
  | zero => exact hq
  | succ i ih =>
    cases e : qs[i]? with
    | none =>
      rw [List.take_add_one, e]
      show Sz k (pick up q (qs.take i ++ []))
      rw [List.append_nil]
      exact ih
    | some p =>
      rw [pick_take e]
      generalize (if up = true then ltq (pick up q (qs.take i)) p else ltq p (pick up q (qs.take i))) = c
      cases c with
      | true => exact h p (List.mem_of_getElem? e)
      | false => exact ih
def T_pick (up : Bool) : DT' := fun rs P => ∃ (q : Rat) (qs : List Rat) (r : R), rs = [r] ∧ SeqR ((q :: qs).map fq) r ∧ (∀ p ∈ q :: qs, Sz 3000 p) ∧ P (.dat (fq (pick up q (q :: qs))))
theorem at0 {α : Type} {x : α} {xs : List α} : atI (x :: xs) 0 = some x := atI_nat (j := 0) rfl
def T_p_least_of : DT' := T_pick false
theorem len_p_least_of : ∀ rs P, T_p_least_of rs P → rs.length = 1 := fun rs P ⟨_, _, _, e, _⟩ => by rw [e]; rfl
theorem spec_p_least_of : ∀ rs P, T_p_least_of rs P → tb_p_least_of { nx := fun _ => P (.dat .none), rt := fun r => r.isSolid = true ∧ P r } (start0 3 rs) := by
  rintro rs P ⟨q, qs, r, rfl, hr, hs, hP⟩
  have turn : ∀ (i : Nat) (d : PyData) (δ' : List S) (L : PyData) (bk : List S → Prop), ((q :: qs).map fq)[i]? = some d → (∃ s, δ' = [S.dat L, S.dat (fq (pick false q ((q :: qs).take i))), s]) →
      dgName 2 d δ' fun δ2 => (dIfS (dTest (dOp gLt (dCall T_p_compared (dCons (dVar 2) (dCons (dVar 1) dNil))) (dC (.int 0)))) (dAsg 1 (dVar 2)) dNext) { nx := fun δ' => ∃ s, δ' = [S.dat L, S.dat (fq (pick false q ((q :: qs).take (i + 1)))), s], rt := fun r => r.isSolid = true ∧ P r, ct := fun δ' => ∃ s, δ' = [S.dat L, S.dat (fq (pick false q ((q :: qs).take (i + 1)))), s], bk := bk } δ2 := by
    rintro i d δ' L bk hd ⟨s, rfl⟩
    obtain ⟨p, hp, rfl⟩ := map_get hd
    refine ⟨p, pick false q ((q :: qs).take i), rfl, hs p (List.mem_of_getElem? hp), pick_sz (hs q List.mem_cons_self) _ hs i, (fun z => nomatch z), trivial, ?_⟩
    have e := pick_take (up := false) (q := q) hp
    show if decide (cmpq p (pick false q ((q :: qs).take i)) < 0) = true then _ else _
    rw [ltq_cmp]
    refine ite2 (fun h => ?_) (fun h => ?_)
    · refine ⟨S.dat (fq p), ?_⟩
      rw [e, if_pos (show (if false = true then _ else ltq p _) = true from h)]
      rfl
    · refine ⟨S.dat (fq p), ?_⟩
      rw [e, if_neg (show ¬ (if false = true then _ else ltq p _) = true from h)]
      rfl
  rcases hr with rfl | rfl
  · show (match atI ((q :: qs).map fq) 0 with | some d => _ | none => False)
    rw [List.map_cons, at0]
    refine ⟨rfl, fun i δ' => ∃ s, δ' = [S.dat (.list ((q :: qs).map fq)), S.dat (fq (pick false q ((q :: qs).take i))), s], ⟨_, rfl⟩, fun i d δ' hd hp => turn i d δ' _ _ hd hp, ?_⟩
    rintro δ' ⟨s, rfl⟩
    rw [← List.map_cons, List.length_map, List.take_length]
    exact ⟨rfl, hP⟩
  · show (match atI ((q :: qs).map fq) 0 with | some d => _ | none => False)
    rw [List.map_cons, at0]
    refine ⟨rfl, fun i δ' => ∃ s, δ' = [S.dat (.tuple ((q :: qs).map fq)), S.dat (fq (pick false q ((q :: qs).take i))), s], ⟨_, rfl⟩, fun i d δ' hd hp => turn i d δ' _ _ hd hp, ?_⟩
    rintro δ' ⟨s, rfl⟩
    rw [← List.map_cons, List.length_map, List.take_length]
    exact ⟨rfl, hP⟩
/-! greatest_of -/
def tb_p_greatest_of : DS := (dSeq (dAsg 1 (dOp gIx (dVar 0) (dC (.int 0)))) (dSeq (dFor (diV 0) (dgName 2) (dIfS (dTest (dOp gGt (dCall T_p_compared (dCons (dVar 2) (dCons (dVar 1) dNil))) (dC (.int 0)))) (dAsg 1 (dVar 2)) dNext)) (dRetV 1)))
def T_p_greatest_of : DT' := T_pick true
theorem len_p_greatest_of : ∀ rs P, T_p_greatest_of rs P → rs.length = 1 := fun rs P ⟨_, _, _, e, _⟩ => by rw [e]; rfl
theorem spec_p_greatest_of : ∀ rs P, T_p_greatest_of rs P → tb_p_greatest_of { nx := fun _ => P (.dat .none), rt := fun r => r.isSolid = true ∧ P r } (start0 3 rs) := by
  rintro rs P ⟨q, qs, r, rfl, hr, hs, hP⟩
  have turn : ∀ (i : Nat) (d : PyData) (δ' : List S) (L : PyData) (bk : List S → Prop), ((q :: qs).map fq)[i]? = some d → (∃ s, δ' = [S.dat L, S.dat (fq (pick true q ((q :: qs).take i))), s]) →
      dgName 2 d δ' fun δ2 => (dIfS (dTest (dOp gGt (dCall T_p_compared (dCons (dVar 2) (dCons (dVar 1) dNil))) (dC (.int 0)))) (dAsg 1 (dVar 2)) dNext) { nx := fun δ' => ∃ s, δ' = [S.dat L, S.dat (fq (pick true q ((q :: qs).take (i + 1)))), s], rt := fun r => r.isSolid = true ∧ P r, ct := fun δ' => ∃ s, δ' = [S.dat L, S.dat (fq (pick true q ((q :: qs).take (i + 1)))), s], bk := bk } δ2 := by
    rintro i d δ' L bk hd ⟨s, rfl⟩
    obtain ⟨p, hp, rfl⟩ := map_get hd
    refine ⟨p, pick true q ((q :: qs).take i), rfl, hs p (List.mem_of_getElem? hp), pick_sz (hs q List.mem_cons_self) _ hs i, (fun z => nomatch z), trivial, ?_⟩
    have e := pick_take (up := true) (q := q) hp
    show if decide (0 < cmpq p (pick true q ((q :: qs).take i))) = true then _ else _
    rw [gtq_cmp]
    refine ite2 (fun h => ?_) (fun h => ?_)
    · refine ⟨S.dat (fq p), ?_⟩
      rw [e, if_pos (show (if true = true then ltq _ p else _) = true from h)]
      rfl
    · refine ⟨S.dat (fq p), ?_⟩
      rw [e, if_neg (show ¬ (if true = true then ltq _ p else _) = true from h)]
      rfl
  rcases hr with rfl | rfl
  · show (match atI ((q :: qs).map fq) 0 with | some d => _ | none => False)
    rw [List.map_cons, at0]
    refine ⟨rfl, fun i δ' => ∃ s, δ' = [S.dat (.list ((q :: qs).map fq)), S.dat (fq (pick true q ((q :: qs).take i))), s], ⟨_, rfl⟩, fun i d δ' hd hp => turn i d δ' _ _ hd hp, ?_⟩
    rintro δ' ⟨s, rfl⟩
    rw [← List.map_cons, List.length_map, List.take_length]
    exact ⟨rfl, hP⟩
  · show (match atI ((q :: qs).map fq) 0 with | some d => _ | none => False)
    rw [List.map_cons, at0]
    refine ⟨rfl, fun i δ' => ∃ s, δ' = [S.dat (.tuple ((q :: qs).map fq)), S.dat (fq (pick true q ((q :: qs).take i))), s], ⟨_, rfl⟩, fun i d δ' hd hp => turn i d δ' _ _ hd hp, ?_⟩
    rintro δ' ⟨s, rfl⟩
    rw [← List.map_cons, List.length_map, List.take_length]
    exact ⟨rfl, hP⟩
/-! _law_one -/
def tb_l_one : DS := (dRet (dOp gIx (dVar 1) (dCall T_l_take (dCons (dVar 0) (dCons (dCB gLen (dCons (dVar 1) dNil)) dNil)))))
def T_l_one : DT' := fun rs P => ∃ (ds : List PyData) (r : R), rs = [.bag, r] ∧ SeqR ds r ∧ ds ≠ [] ∧ ds.length ≤ 1000 ∧ ∀ d ∈ ds, P (.dat d)
theorem len_l_one : ∀ rs P, T_l_one rs P → rs.length = 2 := fun rs P ⟨_, _, e, _⟩ => by rw [e]; rfl
theorem atI_mem {α : Type} {xs : List α} {r : Int} (h0 : 0 ≤ r) (h1 : r < (xs.length : Int)) : ∃ x, atI xs r = some x ∧ x ∈ xs := by
  obtain ⟨j, rfl⟩ := Int.eq_ofNat_of_zero_le h0
  have hj : j < xs.length := by omega
  exact ⟨xs[j], atI_nat (List.getElem?_eq_getElem hj), List.getElem_mem hj⟩
theorem spec_l_one : ∀ rs P, T_l_one rs P → tb_l_one { nx := fun _ => P (.dat .none), rt := fun r => r.isSolid = true ∧ P r } (start0 2 rs) := by
  rintro rs P ⟨ds, r, rfl, hr, h0, h1, hP⟩
  have hl : 0 < ds.length := List.length_pos_iff.mpr h0
  have fin : ∀ i : Int, 0 ≤ i → i < (ds.length : Int) → (match atI ds i with | some d => (fun r : R => r.isSolid = true ∧ P r) (.dat d) | none => False) := fun i i0 i1 => by
    obtain ⟨x, e, hx⟩ := atI_mem i0 i1
    rw [e]
    exact ⟨rfl, hP x hx⟩
  rcases hr with rfl | rfl
  · exact ⟨_, rfl, by omega, by omega, fun i i0 i1 => ⟨(fun z => nomatch z), fin i i0 i1⟩⟩
  · exact ⟨_, rfl, by omega, by omega, fun i i0 i1 => ⟨(fun z => nomatch z), fin i i0 i1⟩⟩
/-! _law_number -/
def tb_l_number : DS := (dRet (dCall T_l_one (dCons (dVar 0) (dCons (dLst (dCons (dC (.int 0)) (dCons (dC (.int 1)) (dCons (dNeg (dC (.int 1))) (dCons (dC (.int 2)) (dCons (dC (.int 6)) (dCons (dNeg (dC (.int 4))) (dCons (dOp gSub (dCall T_l_take (dCons (dVar 0) (dCons (dC (.int 100)) dNil))) (dC (.int 50))) (dCons (dOp gSub (dOp gPow (dC (.int 10)) (dC (.int 9))) (dC (.int 1))) (dCons (dOp gAdd (dOp gPow (dC (.int 10)) (dC (.int 8))) (dC (.int 7))) (dCons (dOp gSub (dC (.int 1)) (dOp gPow (dC (.int 10)) (dC (.int 9)))) dNil))))))))))) dNil))))
def T_l_number : DT' := fun rs P => rs = [.bag] ∧ ∀ n : Int, B 30 n → P (.dat (.int n))
theorem len_l_number : ∀ rs P, T_l_number rs P → rs.length = 1 := fun rs P ⟨e, _⟩ => by rw [e]; rfl
theorem spec_l_number : ∀ rs P, T_l_number rs P → tb_l_number { nx := fun _ => P (.dat .none), rt := fun r => r.isSolid = true ∧ P r } (start0 1 rs) := by
  rintro rs P ⟨rfl, hP⟩
  refine ⟨_, rfl, by decide, by decide, fun r r0 r1 => ⟨(fun z => nomatch z), trivial, ⟨by decide, by decide, by decide⟩, trivial, ⟨by decide, by decide, by decide⟩, ⟨by decide, by decide, by decide⟩, trivial, ⟨rfl, Nat.le_of_ble_eq_true rfl⟩, _, _, rfl, .inl rfl, (fun z => nomatch z), Nat.le_of_ble_eq_true rfl, fun d hd => ⟨(fun z => nomatch z), ?_⟩⟩⟩
  have hd' : d ∈ [PyData.int 0, .int 1, .int (-1), .int 2, .int 6, .int (-4), .int (r - 50), .int (10 ^ 9 - 1), .int (10 ^ 8 + 7), .int (1 - 10 ^ 9)] := hd
  have fin : ∀ n : Int, B 30 n → R.isSolid (.dat (.int n)) = true ∧ P (.dat (.int n)) := fun n h => ⟨rfl, hP n h⟩
  have hr : B 30 (r - 50) := by
    unfold B
    omega
  simp only [List.mem_cons, List.not_mem_nil, or_false] at hd'
  rcases hd' with rfl | rfl | rfl | rfl | rfl | rfl | rfl | rfl | rfl | rfl
  · exact fin _ (.lit rfl)
  · exact fin _ (.lit rfl)
  · exact fin _ (.lit rfl)
  · exact fin _ (.lit rfl)
  · exact fin _ (.lit rfl)
  · exact fin _ (.lit rfl)
  · exact fin _ hr
  · exact fin _ (.lit rfl)
  · exact fin _ (.lit rfl)
  · exact fin _ (.lit rfl)
/-! _law_alike -/
def tb_l_alike : DS := (dRet (dAnd (dOp (gEq false) (dVar 0) (dVar 1)) (dOp (gEq false) (dCB gRepr (dCons (dVar 0) dNil)) (dCB gRepr (dCons (dVar 1) dNil)))))
def T_l_alike : DT' := fun rs P => ∃ x : PyData, rs = [.dat x, .dat x] ∧ showsOk x ∧ P (.dat (.bool true))
theorem len_l_alike : ∀ rs P, T_l_alike rs P → rs.length = 2 := fun rs P ⟨_, e, _⟩ => by rw [e]; rfl
theorem shaped_of {x : PyData} (h : showsOk x) : SeqAt.shaped x = true := by
  unfold SeqAt.shaped
  rw [h.2.1, decide_eq_true h.2.2.1]
  rfl
theorem gEq_self {x : PyData} {P : R → Prop} (h : showsOk x) (q : P (.dat (.bool true))) : gEq false (.dat x) (.dat x) P := by
  have e : PyData.eqv x x = true := PySem.SeqAt.eqv_refl x h.2.1
  have s := shaped_of h
  have q' : P (.dat (.bool (PyData.eqv x x != false))) := by
    rw [e]
    exact q
  cases x with
  | str u =>
    show P (.dat (.bool (decide (u = u) != false)))
    rw [decide_eq_true rfl]
    exact q
  | _ => exact ⟨s, s, q'⟩
theorem spec_l_alike : ∀ rs P, T_l_alike rs P → tb_l_alike { nx := fun _ => P (.dat .none), rt := fun r => r.isSolid = true ∧ P r } (start0 2 rs) := by
  rintro rs P ⟨x, rfl, h, hP⟩
  show gEq false (.dat x) (.dat x) fun r => match r with
    | .dat (.bool true) => (dOp (gEq false) (dCB gRepr (dCons (dVar 0) dNil)) (dCB gRepr (dCons (dVar 1) dNil))) [S.dat x, S.dat x] fun r => r.isSolid = true ∧ P r
    | .dat (.bool false) => R.isSolid (.dat (.bool false)) = true ∧ P (.dat (.bool false))
    | _ => False
  refine gEq_self h ?_
  refine ⟨h, h, ?_⟩
  show R.isSolid (.dat (.bool (decide (x.shown = x.shown) != false))) = true ∧ P (.dat (.bool (decide (x.shown = x.shown) != false)))
  rw [decide_eq_true rfl]
  exact ⟨rfl, hP⟩
/-! _law_shared -/
def tb_l_shared : DS := (dSeq (dPar2 0 1 (dCons (dCB (gInt1 fun i => .int (if i < 0 then -i else i)) (dCons (dVar 0) dNil)) (dCons (dCB (gInt1 fun i => .int (if i < 0 then -i else i)) (dCons (dVar 1) dNil)) dNil))) (dSeq (dWhile (dTest (dOp (gEq true) (dVar 1) (dC (.int 0)))) (dPar2 0 1 (dCons (dVar 1) (dCons (dOp gMod (dCB gIntOf (dCons (dVar 0) dNil)) (dVar 1)) dNil)))) (dRetV 0)))
def T_l_shared : DT' := fun rs P => ∃ a b : Int, rs = [.dat (.int a), .dat (.int b)] ∧ P (.dat (.int ((Nat.gcd a.natAbs b.natAbs : Nat) : Int)))
theorem len_l_shared : ∀ rs P, T_l_shared rs P → rs.length = 2 := fun rs P ⟨_, _, e, _⟩ => by rw [e]; rfl
theorem abs_nat (a : Int) : (if a < 0 then -a else a) = (a.natAbs : Int) := by
  split <;> omega
theorem spec_l_shared : ∀ rs P, T_l_shared rs P → tb_l_shared { nx := fun _ => P (.dat .none), rt := fun r => r.isSolid = true ∧ P r } (start0 2 rs) := by
  rintro rs P ⟨a, b, rfl, hP⟩
  refine ⟨⟨rfl, rfl⟩, fun m δ' => ∃ x y : Nat, δ' = [S.dat (.int (x : Int)), S.dat (.int (y : Int))] ∧ Nat.gcd x y = Nat.gcd a.natAbs b.natAbs ∧ m = y, ⟨b.natAbs, a.natAbs, b.natAbs, ?_, rfl, rfl⟩, ?_⟩
  · show [S.dat (.int (if a < 0 then -a else a)), S.dat (.int (if b < 0 then -b else b))] = _
    rw [abs_nat, abs_nat]
  · rintro y δ' ⟨x, _, rfl, hg, rfl⟩
    refine ⟨rfl, rfl, ?_⟩
    show if (((y : Int) == 0) != true) = true then _ else _
    by_cases h : y = 0
    · subst h
      have hx : x = Nat.gcd a.natAbs b.natAbs := by rw [← hg, Nat.gcd_zero_right]
      subst hx
      exact ⟨rfl, hP⟩
    · have hb : ((((y : Int) == 0)) != true) = true := by
        have : ((y : Int) == 0) = false := by
          rw [beq_eq_false_iff_ne]
          omega
        rw [this]
        rfl
      rw [if_pos hb]
      refine ⟨by omega, ⟨rfl, rfl⟩, x % y, Nat.mod_lt _ (Nat.pos_of_ne_zero h), y, x % y, ?_, ?_, rfl⟩
      · show [S.dat (.int (y : Int)), S.dat (.int ((x : Int).fmod (y : Int)))] = _
        rw [Int.fmod_eq_emod_of_nonneg _ (Int.natCast_nonneg _), ← Int.natCast_emod]
      · rw [← hg, Nat.gcd_comm y, ← Nat.gcd_rec, Nat.gcd_comm]
/-! _law_ratio -/
def tb_l_ratio : DS := (dSeq (dAsg 2 (dOp gMul (dCall T_l_shared (dCons (dVar 0) (dCons (dVar 1) dNil))) (dIf (dTest (dOp gGt (dVar 1) (dC (.int 0)))) (dC (.int 1)) (dNeg (dC (.int 1)))))) (dRet (dTup (dCons (dOp gDiv (dCB gIntOf (dCons (dVar 0) dNil)) (dVar 2)) (dCons (dOp gDiv (dCB gIntOf (dCons (dVar 1) dNil)) (dVar 2)) dNil)))))
def T_l_ratio : DT' := fun rs P => ∃ n d : Int, rs = [.dat (.int n), .dat (.int d)] ∧ d ≠ 0 ∧ B 8000 d ∧ P (.dat (fq (Rat.divInt n d)))
theorem len_l_ratio : ∀ rs P, T_l_ratio rs P → rs.length = 2 := fun rs P ⟨n, d, e, _⟩ => by rw [e]; rfl
theorem spec_l_ratio : ∀ rs P, T_l_ratio rs P → tb_l_ratio { nx := fun _ => P (.dat .none), rt := fun r => r.isSolid = true ∧ P r } (start0 3 rs) := by
  rintro rs P ⟨n, d, rfl, hd, hB, hP⟩
  have hg : B 8001 ((Nat.gcd n.natAbs d.natAbs : Nat) : Int) := (hB.le (by
    show Nat.gcd n.natAbs d.natAbs ≤ d.natAbs
    exact Nat.le_of_dvd (by omega) (Nat.gcd_dvd_right _ _))).mono (by decide)
  have fin : ∀ s : Int, s = by_ n d → (CDivA n s ∧ CDivA d s) ∧ P (.dat (.tuple [.int (n.fdiv s), .int (d.fdiv s)])) := fun s e => by
    subst e
    have h9 : (by_ n d).natAbs.log2 < 9000 := (hB.le (by_le hd)).log9 (by decide)
    rw [red_fq hd]
    exact ⟨⟨⟨by_ne hd, h9⟩, by_ne hd, h9⟩, hP⟩
  refine ⟨n, d, rfl, (fun z => nomatch z), trivial, ite2 (fun h => ?_) (fun h => ?_)⟩
  · have h' : 0 < d := of_decide_eq_true h
    have e := fin (((Nat.gcd n.natAbs d.natAbs : Nat) : Int) * 1) (by unfold by_; rw [if_neg (by omega), Int.mul_one])
    exact ⟨hg.cmul (show B 1 1 from .lit rfl) (by decide), e.1.1, e.1.2, ⟨rfl, Nat.le_of_ble_eq_true rfl⟩, rfl, e.2⟩
  · have h' : d < 0 := by
      have : ¬ 0 < d := fun z => h (decide_eq_true z)
      omega
    have e := fin (((Nat.gcd n.natAbs d.natAbs : Nat) : Int) * (-1)) (by unfold by_; rw [if_pos h']; omega)
    exact ⟨hg.cmul (show B 1 (-1) from .lit rfl) (by decide), e.1.1, e.1.2, ⟨rfl, Nat.le_of_ble_eq_true rfl⟩, rfl, e.2⟩
/-! _law_minus -/
def tb_l_minus : DS := (dRet (dCall T_l_ratio (dCons (dOp gSub (dOp gMul (dOp gIx (dVar 0) (dC (.int 0))) (dOp gIx (dVar 1) (dC (.int 1)))) (dOp gMul (dOp gIx (dVar 1) (dC (.int 0))) (dOp gIx (dVar 0) (dC (.int 1))))) (dCons (dOp gMul (dOp gIx (dVar 0) (dC (.int 1))) (dOp gIx (dVar 1) (dC (.int 1)))) dNil))))
def T_l_minus : DT' := fun rs P => ∃ x y : Rat, rs = [.dat (fq x), .dat (fq y)] ∧ Sz 3000 x ∧ Sz 3000 y ∧ P (.dat (fq (x - y)))
theorem len_l_minus : ∀ rs P, T_l_minus rs P → rs.length = 2 := fun rs P ⟨n, d, e, _⟩ => by rw [e]; rfl
theorem spec_l_minus : ∀ rs P, T_l_minus rs P → tb_l_minus { nx := fun _ => P (.dat .none), rt := fun r => r.isSolid = true ∧ P r } (start0 2 rs) := by
  rintro rs P ⟨x, y, rfl, sx, sy, hP⟩
  refine ⟨sx.n.cmul sy.d (by decide), sy.n.cmul sx.d (by decide), trivial, sx.d.cmul sy.d (by decide), _, _, rfl, Int.mul_ne_zero (den_ne x) (den_ne y), sx.d.mul' sy.d (by decide), (fun z => nomatch z), rfl, ?_⟩
  rw [rat_sub]
  exact hP
/-! _law_by -/
def tb_l_by : DS := (dRet (dCall T_l_ratio (dCons (dOp gMul (dOp gIx (dVar 0) (dC (.int 0))) (dOp gIx (dVar 1) (dC (.int 0)))) (dCons (dOp gMul (dOp gIx (dVar 0) (dC (.int 1))) (dOp gIx (dVar 1) (dC (.int 1)))) dNil))))
def T_l_by : DT' := fun rs P => ∃ x y : Rat, rs = [.dat (fq x), .dat (fq y)] ∧ Sz 3000 x ∧ Sz 3000 y ∧ P (.dat (fq (x * y)))
theorem len_l_by : ∀ rs P, T_l_by rs P → rs.length = 2 := fun rs P ⟨n, d, e, _⟩ => by rw [e]; rfl
theorem spec_l_by : ∀ rs P, T_l_by rs P → tb_l_by { nx := fun _ => P (.dat .none), rt := fun r => r.isSolid = true ∧ P r } (start0 2 rs) := by
  rintro rs P ⟨x, y, rfl, sx, sy, hP⟩
  refine ⟨sx.n.cmul sy.n (by decide), sx.d.cmul sy.d (by decide), _, _, rfl, Int.mul_ne_zero (den_ne x) (den_ne y), sx.d.mul' sy.d (by decide), (fun z => nomatch z), rfl, ?_⟩
  rw [rat_mul]
  exact hP
/-! _law_plus -/
def tb_l_plus : DS := (dSeq (dAsgT (dTup (dCons (dC (.int 0)) (dCons (dC (.int 1)) dNil))) (dgTup 2 (dgCons (dgName 1) (dgCons (dgName 2) dgNil)))) (dSeq (dFor (diV 0) (dgName 3) (dPar2 1 2 (dCons (dOp gAdd (dOp gMul (dVar 1) (dOp gIx (dVar 3) (dC (.int 1)))) (dOp gMul (dOp gIx (dVar 3) (dC (.int 0))) (dVar 2))) (dCons (dOp gMul (dVar 2) (dOp gIx (dVar 3) (dC (.int 1)))) dNil)))) (dRet (dCall T_l_ratio (dCons (dVar 1) (dCons (dVar 2) dNil))))))
def T_l_plus : DT' := fun rs P => ∃ (qs : List Rat) (k : Nat) (r : R), rs = [r] ∧ Parts k qs r ∧ P (.dat (fq qs.sum))
theorem len_l_plus : ∀ rs P, T_l_plus rs P → rs.length = 1 := fun rs P ⟨_, _, _, e, _⟩ => by rw [e]; rfl
theorem sum_snoc (qs : List Rat) (q : Rat) : (qs ++ [q]).sum = qs.sum + q := by
  induction qs with
  | nil =>
    show q + 0 = 0 + q
    grind
  | cons p r ih =>
    rw [List.cons_append, List.sum_cons, List.sum_cons, ih]
    grind
theorem sum_take1 {qs : List Rat} {i : Nat} {q : Rat} (h : qs[i]? = some q) : (qs.take (i + 1)).sum = (qs.take i).sum + q := by
  rw [List.take_add_one, h]
  exact sum_snoc _ _
theorem spec_l_plus : ∀ rs P, T_l_plus rs P → tb_l_plus { nx := fun _ => P (.dat .none), rt := fun r => r.isSolid = true ∧ P r } (start0 4 rs) := by
  rintro rs P ⟨qs, k, r, rfl, ⟨hr, hs, hz, hn⟩, hP⟩
  have key : ∀ L : PyData, ∃ Pv : Nat → List S → Prop, Pv 0 [S.dat L, S.dat (.int 0), S.dat (.int 1), S.un] ∧
      (∀ i d δ', (qs.map fq)[i]? = some d → Pv i δ' → dgName 3 d δ' fun δ2 => dPar2 1 2 (dCons (dOp gAdd (dOp gMul (dVar 1) (dOp gIx (dVar 3) (dC (.int 1)))) (dOp gMul (dOp gIx (dVar 3) (dC (.int 0))) (dVar 2))) (dCons (dOp gMul (dVar 2) (dOp gIx (dVar 3) (dC (.int 1)))) dNil))
        { nx := Pv (i + 1), rt := fun r => r.isSolid = true ∧ P r, ct := Pv (i + 1), bk := fun δ => dRet (dCall T_l_ratio (dCons (dVar 1) (dCons (dVar 2) dNil))) { nx := fun _ => P (.dat .none), rt := fun r => r.isSolid = true ∧ P r } δ } δ2) ∧
      ∀ δ', Pv (qs.map fq).length δ' → dRet (dCall T_l_ratio (dCons (dVar 1) (dCons (dVar 2) dNil))) { nx := fun _ => P (.dat .none), rt := fun r => r.isSolid = true ∧ P r } δ' := fun L => by
    refine ⟨fun i δ' => ∃ (n d : Int) (s : S), δ' = [S.dat L, S.dat (.int n), S.dat (.int d), s] ∧ d ≠ 0 ∧ B ((k + 1) * i + 1) n ∧ B (k * i + 1) d ∧ Rat.divInt n d = (qs.take i).sum, ⟨0, 1, _, rfl, by decide, ?_, ?_, rfl⟩, ?_, ?_⟩
    · exact (show B 1 0 from .lit rfl).mono (by omega)
    · exact (show B 1 1 from .lit rfl).mono (by omega)
    · rintro i d δ' hd ⟨n, e, s, rfl, he, bn, be, hsum⟩
      obtain ⟨q, hq, rfl⟩ := map_get hd
      have hi : i < qs.length := (List.getElem?_eq_some_iff.mp hq).1
      have sq := hs q (List.mem_of_getElem? hq)
      have hm := mul_lt7 hz (show i + 1 ≤ qs.length from hi)
      have e1 : (k + 1) * (i + 1) = (k + 1) * i + (k + 1) := Nat.mul_succ _ _
      have e2 : k * (i + 1) = k * i + k := Nat.mul_succ _ _
      have e3 : (k + 1) * i = k * i + i := Nat.succ_mul _ _
      refine ⟨bn.cmul sq.d (by omega), sq.n.cmul be (by omega), be.cmul sq.d (by omega), ⟨rfl, rfl⟩, _, _, S.dat (fq q), rfl, Int.mul_ne_zero he (den_ne q), ?_, be.mul' sq.d (by omega), ?_⟩
      · exact (bn.mul' sq.d (c := (k + 1) * i + 1 + k) (by omega)).add' (sq.n.mul' be (by omega)) (by omega)
      · rw [sum_take1 hq, ← hsum, ← Rat.num_divInt_den q, Rat.divInt_add_divInt _ _ he (den_ne q), Rat.num_divInt_den]
    · rintro δ' ⟨n, e, s, rfl, he, bn, be, hsum⟩
      rw [List.length_map] at hsum bn be
      rw [List.take_length] at hsum
      have hm := mul_lt7 hz (Nat.le_refl _)
      refine ⟨n, e, rfl, he, be.mono (by omega), (fun z => nomatch z), rfl, ?_⟩
      rw [hsum]
      exact hP
  rcases hr with rfl | rfl
  · exact ⟨⟨rfl, Nat.le_of_ble_eq_true rfl⟩, rfl, rfl, rfl, key _⟩
  · exact ⟨⟨rfl, Nat.le_of_ble_eq_true rfl⟩, rfl, rfl, rfl, key _⟩
/-! _law_below -/
def tb_l_below : DS := (dRet (dOp gLt (dOp gMul (dOp gIx (dVar 0) (dC (.int 0))) (dOp gIx (dVar 1) (dC (.int 1)))) (dOp gMul (dOp gIx (dVar 1) (dC (.int 0))) (dOp gIx (dVar 0) (dC (.int 1))))))
def T_l_below : DT' := fun rs P => ∃ x y : Rat, rs = [.dat (fq x), .dat (fq y)] ∧ Sz 3000 x ∧ Sz 3000 y ∧ P (.dat (.bool (ltq x y)))
theorem len_l_below : ∀ rs P, T_l_below rs P → rs.length = 2 := fun rs P ⟨n, d, e, _⟩ => by rw [e]; rfl
theorem spec_l_below : ∀ rs P, T_l_below rs P → tb_l_below { nx := fun _ => P (.dat .none), rt := fun r => r.isSolid = true ∧ P r } (start0 2 rs) := by
  rintro rs P ⟨x, y, rfl, sx, sy, hP⟩
  exact ⟨sx.n.cmul sy.d (by decide), sy.n.cmul sx.d (by decide), trivial, rfl, hP⟩
/-! _law_over -/
def tb_l_over : DS := (dRet (dCall T_l_ratio (dCons (dOp gMul (dOp gIx (dVar 0) (dC (.int 0))) (dOp gIx (dVar 1) (dC (.int 1)))) (dCons (dOp gMul (dOp gIx (dVar 0) (dC (.int 1))) (dOp gIx (dVar 1) (dC (.int 0)))) dNil))))
def T_l_over : DT' := fun rs P => ∃ x y : Rat, rs = [.dat (fq x), .dat (fq y)] ∧ y.num ≠ 0 ∧ Sz 3000 x ∧ Sz 3000 y ∧ P (.dat (fq (x / y)))
theorem len_l_over : ∀ rs P, T_l_over rs P → rs.length = 2 := fun rs P ⟨n, d, e, _⟩ => by rw [e]; rfl
theorem spec_l_over : ∀ rs P, T_l_over rs P → tb_l_over { nx := fun _ => P (.dat .none), rt := fun r => r.isSolid = true ∧ P r } (start0 2 rs) := by
  rintro rs P ⟨x, y, rfl, h0, sx, sy, hP⟩
  refine ⟨sx.n.cmul sy.d (by decide), sx.d.cmul sy.n (by decide), _, _, rfl, Int.mul_ne_zero (den_ne x) h0, sx.d.mul' sy.n (by decide), (fun z => nomatch z), rfl, ?_⟩
  rw [rat_div x y h0]
  exact hP
/-! _law_are_couples_right -/
def tb_l_are_couples_right : DS := (dSeq (dAsg 2 (dLst (dCons (dCall T_p_less (dCons (dVar 0) (dCons (dVar 1) dNil))) (dCons (dCall T_p_times (dCons (dVar 0) (dCons (dVar 1) dNil))) (dCons (dCall T_p_added (dCons (dLst (dCons (dVar 0) (dCons (dVar 1) dNil))) dNil)) (dCons (dCall T_p_added (dCons (dTup (dCons (dVar 0) (dCons (dVar 1) (dCons (dVar 0) dNil)))) dNil)) dNil)))))) (dSeq (dAsg 3 (dLst (dCons (dCall T_l_minus (dCons (dVar 0) (dCons (dVar 1) dNil))) (dCons (dCall T_l_by (dCons (dVar 0) (dCons (dVar 1) dNil))) (dCons (dCall T_l_plus (dCons (dLst (dCons (dVar 0) (dCons (dVar 1) dNil))) dNil)) (dCons (dCall T_l_plus (dCons (dLst (dCons (dVar 0) (dCons (dVar 1) (dCons (dVar 0) dNil)))) dNil)) dNil)))))) (dSeq (dAsg 2 (dOp gAdd (dVar 2) (dLst (dCons (dCall T_p_compared (dCons (dVar 0) (dCons (dVar 1) dNil))) (dCons (dCall T_p_compared (dCons (dVar 0) (dCons (dVar 0) dNil))) dNil))))) (dSeq (dAsg 3 (dOp gAdd (dVar 3) (dLst (dCons (dOp gSub (dCB gIntOf (dCons (dCall T_l_below (dCons (dVar 1) (dCons (dVar 0) dNil))) dNil)) (dCB gIntOf (dCons (dCall T_l_below (dCons (dVar 0) (dCons (dVar 1) dNil))) dNil))) (dCons (dC (.int 0)) dNil))))) (dSeq (dIfS (dTest (dOp (gEq true) (dOp gIx (dVar 1) (dC (.int 0))) (dC (.int 0)))) (dSeq (dApp 2 (dCall T_p_over (dCons (dVar 0) (dCons (dVar 1) dNil)))) (dApp 3 (dCall T_l_over (dCons (dVar 0) (dCons (dVar 1) dNil))))) dNext) (dRet (dCall T_l_alike (dCons (dVar 2) (dCons (dVar 3) dNil)))))))))
def T_l_are_couples_right : DT' := fun rs P => ∃ x y : Rat, rs = [.dat (fq x), .dat (fq y)] ∧ Sz 32 x ∧ Sz 32 y ∧ P (.dat (.bool true))
theorem len_l_are_couples_right : ∀ rs P, T_l_are_couples_right rs P → rs.length = 2 := fun rs P ⟨n, d, e, _⟩ => by rw [e]; rfl
theorem below_cmp (x y : Rat) : (if ltq y x = true then (1 : Int) else 0) - (if ltq x y = true then (1 : Int) else 0) = cmpq x y := by
  unfold cmpq ltq
  by_cases h : x.num * (y.den : Int) < y.num * (x.den : Int)
  · have h2 : ¬ y.num * (x.den : Int) < x.num * (y.den : Int) := by omega
    rw [if_pos h, if_pos (decide_eq_true h), if_neg (by rw [decide_eq_false h2]; decide)]
    rfl
  · have e1 : decide (x.num * (y.den : Int) < y.num * (x.den : Int)) = false := decide_eq_false h
    rw [if_neg h, e1, if_neg (show ¬ false = true by decide)]
    by_cases h2 : y.num * (x.den : Int) < x.num * (y.den : Int)
    · rw [if_pos h2, if_pos (decide_eq_true h2)]
      rfl
    · have e2 : decide (y.num * (x.den : Int) < x.num * (y.den : Int)) = false := decide_eq_false h2
      rw [if_neg h2, e2, if_neg (show ¬ false = true by decide)]
      rfl
theorem cmp_self (x : Rat) : cmpq x x = 0 := by
  unfold cmpq
  rw [if_neg (by omega), if_neg (by omega)]
theorem cmp_B (x y : Rat) : B 100 (cmpq x y) := by
  unfold cmpq
  split
  · exact .lit rfl
  · split
    · exact .lit rfl
    · exact .lit rfl
theorem parts2 {k : Nat} {x y : Rat} (h : Sz k x) (g : Sz k y) (hk : k ≤ 2000) : Parts k [x, y] (.dat (.list [fq x, fq y])) := by
  refine ⟨.inl rfl, fun q hq => ?_, ?_, Nat.le_of_ble_eq_true rfl⟩
  · simp only [List.mem_cons, List.not_mem_nil, or_false] at hq
    rcases hq with rfl | rfl
    · exact h
    · exact g
  · show (k + 1) * 3 ≤ 7000
    omega
theorem parts3 {k : Nat} {x y z : Rat} (h : Sz k x) (g : Sz k y) (f : Sz k z) (hk : k ≤ 1700) {r : R} (e : r = .dat (.list [fq x, fq y, fq z]) ∨ r = .dat (.tuple [fq x, fq y, fq z])) : Parts k [x, y, z] r := by
  refine ⟨e, fun q hq => ?_, ?_, Nat.le_of_ble_eq_true rfl⟩
  · simp only [List.mem_cons, List.not_mem_nil, or_false] at hq
    rcases hq with rfl | rfl | rfl
    · exact h
    · exact g
    · exact f
  · show (k + 1) * 4 ≤ 7000
    omega
theorem couples_tidy {x y : Rat} (sx : Sz 32 x) (sy : Sz 32 y) (more : List PyData) (hm : ∀ d ∈ more, Tidy 150 400 1 d) (hl : more.length ≤ 4) :
    showsOk (.list ([fq (x - y), fq (x * y), fq [x, y].sum, fq [x, y, x].sum, .int (cmpq x y), .int (cmpq x x)] ++ more)) := by
  have h3 : ∀ q ∈ [x, y], Sz 32 q := fun q hq => by
    simp only [List.mem_cons, List.not_mem_nil, or_false] at hq
    rcases hq with rfl | rfl
    · exact sx
    · exact sy
  have h4 : ∀ q ∈ [x, y, x], Sz 32 q := fun q hq => by
    simp only [List.mem_cons, List.not_mem_nil, or_false] at hq
    rcases hq with rfl | rfl | rfl
    · exact sx
    · exact sy
    · exact sx
  have t : ∀ {q : Rat}, Sz 150 q → Tidy 150 400 1 (fq q) := fun h => (Tidy.fq h (by decide)).mono (by decide) (by decide)
  have ti : ∀ {i : Int}, B 100 i → Tidy 150 400 1 (.int i) := fun h => (Tidy.int (h.mono (by decide)) (by decide)).mono (by decide) (by decide)
  have key : Tidy 150 (([fq (x - y), fq (x * y), fq [x, y].sum, fq [x, y, x].sum, .int (cmpq x y), .int (cmpq x x)] ++ more).length * 401) 2 (.list ([fq (x - y), fq (x * y), fq [x, y].sum, fq [x, y, x].sum, .int (cmpq x y), .int (cmpq x x)] ++ more)) := by
    refine Tidy.list fun d hd => ?_
    rcases List.mem_append.mp hd with hd | hd
    · simp only [List.mem_cons, List.not_mem_nil, or_false] at hd
      rcases hd with rfl | rfl | rfl | rfl | rfl | rfl
      · exact t ((sx.sub sy).mono (by decide))
      · exact t ((sx.mul sy).mono (by decide))
      · exact t ((Sz.sum h3).mono (show 33 * 2 + 1 ≤ 150 by decide))
      · exact t ((Sz.sum h4).mono (show 33 * 3 + 1 ≤ 150 by decide))
      · exact ti (cmp_B _ _)
      · exact ti (cmp_B _ _)
    · exact hm d hd
  refine (key.mono (w' := 5000) ?_ (Nat.le_refl _)).shows (by decide) (by decide)
  rw [List.length_append]
  show (6 + more.length) * 401 ≤ 5000
  have : (6 + more.length) * 401 ≤ 10 * 401 := Nat.mul_le_mul_right _ (by omega)
  omega
theorem spec_l_are_couples_right : ∀ rs P, T_l_are_couples_right rs P → tb_l_are_couples_right { nx := fun _ => P (.dat .none), rt := fun r => r.isSolid = true ∧ P r } (start0 4 rs) := by
  rintro rs P ⟨x, y, rfl, sx, sy, hP⟩
  have sx3 : Sz 3000 x := sx.mono (by decide)
  have sy3 : Sz 3000 y := sy.mono (by decide)
  have nb := fun z : false = true => (Bool.noConfusion z : False)
  refine ⟨x, y, rfl, sx3, sy3, (fun z => nomatch z), x, y, rfl, sx3, sy3, (fun z => nomatch z), ⟨rfl, Nat.le_of_ble_eq_true rfl⟩, [x, y], 32, _, rfl, parts2 sx sy (by decide), (fun z => nomatch z), ⟨rfl, Nat.le_of_ble_eq_true rfl⟩, [x, y, x], 32, _, rfl, parts3 sx sy sx (by decide) (.inr rfl), (fun z => nomatch z), ⟨rfl, Nat.le_of_ble_eq_true rfl⟩, ?_⟩
  refine ⟨x, y, rfl, sx3, sy3, (fun z => nomatch z), x, y, rfl, sx3, sy3, (fun z => nomatch z), ⟨rfl, Nat.le_of_ble_eq_true rfl⟩, [x, y], 32, _, rfl, parts2 sx sy (by decide), (fun z => nomatch z), ⟨rfl, Nat.le_of_ble_eq_true rfl⟩, [x, y, x], 32, _, rfl, parts3 sx sy sx (by decide) (.inl rfl), (fun z => nomatch z), ⟨rfl, Nat.le_of_ble_eq_true rfl⟩, ?_⟩
  refine ⟨x, y, rfl, sx3, sy3, (fun z => nomatch z), x, x, rfl, sx3, sx3, (fun z => nomatch z), ⟨rfl, Nat.le_of_ble_eq_true rfl⟩, Nat.le_of_ble_eq_true rfl, ?_⟩
  refine ⟨y, x, rfl, sy3, sx3, (fun z => nomatch z), x, y, rfl, sx3, sy3, (fun z => nomatch z), trivial, ⟨rfl, Nat.le_of_ble_eq_true rfl⟩, Nat.le_of_ble_eq_true rfl, rfl, rfl, ?_⟩
  have hd : (if ltq y x = true then (1 : Int) else 0) - (if ltq x y = true then (1 : Int) else 0) = cmpq x y := below_cmp x y
  have fin : ∀ more : List PyData, (∀ d ∈ more, Tidy 150 400 1 d) → more.length ≤ 4 →
      T_l_alike [.dat (.list ([fq (x - y), fq (x * y), fq [x, y].sum, fq [x, y, x].sum, .int (cmpq x y), .int (cmpq x x)] ++ more)), .dat (.list ([fq (x - y), fq (x * y), fq [x, y].sum, fq [x, y, x].sum, .int ((if ltq y x = true then (1 : Int) else 0) - (if ltq x y = true then (1 : Int) else 0)), .int 0] ++ more))] fun r => (false = true → r.free = true) ∧ (r.isSolid = true ∧ P r) := fun more hm hl => by
    rw [hd]
    have hc : cmpq x x = 0 := cmp_self x
    refine ⟨_, ?_, couples_tidy sx sy more hm hl, (fun z => nomatch z), rfl, hP⟩
    rw [hc]
  show if ((y.num == 0) != true) = true then _ else _
  by_cases h : y.num = 0
  · rw [h]
    exact fin [] (fun d hd => nomatch hd) (by decide)
  · have hb : ((y.num == 0) != true) = true := by
      rw [beq_eq_false_iff_ne.mpr h]
      rfl
    rw [if_pos hb]
    have st : Tidy 150 400 1 (fq (x / y)) := (Tidy.fq ((sx.div sy h).mono (show 32 + 32 ≤ 150 by decide)) (by decide)).mono (by decide) (by decide)
    refine ⟨Nat.le_of_ble_eq_true rfl, x, y, rfl, h, sx3, sy3, (fun z => nomatch z), rfl, Nat.le_of_ble_eq_true rfl, x, y, rfl, h, sx3, sy3, (fun z => nomatch z), rfl, ?_⟩
    exact fin [fq (x / y)] (fun d hd => by
      rw [List.mem_singleton.mp hd]
      exact st) (Nat.le_of_ble_eq_true rfl)
/-! _law_least_den -/
def tb_l_least_den : DS := (dSeq (dAsg 1 (dC (.int 1))) (dSeq (dFor (diV 0) (dgTup 2 (dgCons (dgName 2) (dgCons (dgName 3) dgNil))) (dAsg 1 (dOp gMul (dOp gDiv (dCB gIntOf (dCons (dVar 1) dNil)) (dCall T_l_shared (dCons (dVar 1) (dCons (dVar 3) dNil)))) (dVar 3)))) (dRetV 1)))
def T_l_least_den : DT' := T_p_common_den
theorem len_l_least_den : ∀ rs P, T_l_least_den rs P → rs.length = 1 := len_p_common_den
theorem spec_l_least_den : ∀ rs P, T_l_least_den rs P → tb_l_least_den { nx := fun _ => P (.dat .none), rt := fun r => r.isSolid = true ∧ P r } (start0 4 rs) := by
  rintro rs P ⟨qs, k, r, rfl, hr, hs, hz, hP⟩
  have key : ∀ L : PyData, ∃ Pv : Nat → List S → Prop, Pv 0 [S.dat L, S.dat (.int 1), S.un, S.un] ∧
      (∀ i d δ', (qs.map fq)[i]? = some d → Pv i δ' → dgTup 2 (dgCons (dgName 2) (dgCons (dgName 3) dgNil)) d δ' fun δ2 => dAsg 1 (dOp gMul (dOp gDiv (dCB gIntOf (dCons (dVar 1) dNil)) (dCall T_l_shared (dCons (dVar 1) (dCons (dVar 3) dNil)))) (dVar 3))
        { nx := Pv (i + 1), rt := fun r => r.isSolid = true ∧ P r, ct := Pv (i + 1), bk := fun δ => dRetV 1 { nx := fun _ => P (.dat .none), rt := fun r => r.isSolid = true ∧ P r } δ } δ2) ∧
      ∀ δ', Pv (qs.map fq).length δ' → dRetV 1 { nx := fun _ => P (.dat .none), rt := fun r => r.isSolid = true ∧ P r } δ' := fun L => by
    refine ⟨fun i δ' => ∃ s1 s2, δ' = [S.dat L, S.dat (.int (lcmD (qs.take i) : Int)), s1, s2], ⟨_, _, rfl⟩, ?_, ?_⟩
    · rintro i d δ' hd ⟨s1, s2, rfl⟩
      obtain ⟨q, hq, rfl⟩ := map_get hd
      have hi : i < qs.length := (List.getElem?_eq_some_iff.mp hq).1
      have hm := mul_lt7 hz (Nat.le_of_lt hi)
      have hl := lcmD_B i hs (Nat.le_refl _)
      have sq := hs q (List.mem_of_getElem? hq)
      have hg : Nat.gcd (lcmD (qs.take i)) q.den ≠ 0 := fun z => q.den_nz (Nat.eq_zero_of_gcd_eq_zero_right z)
      refine ⟨rfl, rfl, _, _, rfl, (fun z => nomatch z), ⟨?_, ?_⟩, ?_, S.dat (.int q.num), S.dat (.int (q.den : Int)), ?_⟩
      · show ((Nat.gcd (lcmD (qs.take i)) q.den : Nat) : Int) ≠ 0
        omega
      · refine (sq.d.le ?_).log9 (by omega)
        show Nat.gcd (lcmD (qs.take i)) q.den ≤ q.den
        exact Nat.le_of_dvd q.den_pos (Nat.gcd_dvd_right _ _)
      · refine B.cmul (hl.le ?_) sq.d (by omega)
        show (Int.fdiv (lcmD (qs.take i) : Int) ((Nat.gcd (lcmD (qs.take i)) q.den : Nat) : Int)).natAbs ≤ _
        rw [Int.fdiv_eq_ediv_of_nonneg _ (Int.natCast_nonneg _)]
        exact Int.natAbs_ediv_le_natAbs _ _
      · have e : (Int.fdiv (lcmD (qs.take i) : Int) ((Nat.gcd (lcmD (qs.take i)) q.den : Nat) : Int)) * (q.den : Int) = (lcmD (qs.take (i + 1)) : Int) := by
          rw [Int.fdiv_eq_ediv_of_nonneg _ (Int.natCast_nonneg _), ← Int.natCast_ediv, ← Int.natCast_mul, lcmD_take hq]
          congr 1
          unfold Nat.lcm
          obtain ⟨c, hc⟩ := Nat.gcd_dvd_left (lcmD (qs.take i)) q.den
          generalize Nat.gcd (lcmD (qs.take i)) q.den = g at *
          rw [hc, Nat.mul_div_cancel_left _ (Nat.pos_of_ne_zero hg), Nat.mul_assoc, Nat.mul_div_cancel_left _ (Nat.pos_of_ne_zero hg)]
        show [S.dat L, S.dat (.int ((Int.fdiv (lcmD (qs.take i) : Int) ((Nat.gcd (lcmD (qs.take i)) q.den : Nat) : Int)) * (q.den : Int))), _, _] = _
        rw [e]
    · rintro δ' ⟨s1, s2, rfl⟩
      rw [List.length_map, List.take_length]
      exact ⟨rfl, hP⟩
  rcases hr with rfl | rfl
  · exact ⟨rfl, key _⟩
  · exact ⟨rfl, key _⟩
/-! _law_lowest -/
def tb_l_lowest : DS := (dSeq (dAsg 1 (dOp gIx (dVar 0) (dC (.int 0)))) (dSeq (dFor (diV 0) (dgName 2) (dAsg 1 (dIf (dTest (dCall T_l_below (dCons (dVar 2) (dCons (dVar 1) dNil)))) (dVar 2) (dVar 1)))) (dRetV 1)))
def T_l_lowest : DT' := T_pick false
theorem len_l_lowest : ∀ rs P, T_l_lowest rs P → rs.length = 1 := fun rs P ⟨_, _, _, e, _⟩ => by rw [e]; rfl
theorem spec_l_lowest : ∀ rs P, T_l_lowest rs P → tb_l_lowest { nx := fun _ => P (.dat .none), rt := fun r => r.isSolid = true ∧ P r } (start0 3 rs) := by
  rintro rs P ⟨q, qs, r, rfl, hr, hs, hP⟩
  have turn : ∀ (i : Nat) (d : PyData) (δ' : List S) (L : PyData) (bk : List S → Prop), ((q :: qs).map fq)[i]? = some d → (∃ s, δ' = [S.dat L, S.dat (fq (pick false q ((q :: qs).take i))), s]) →
      dgName 2 d δ' fun δ2 => (dAsg 1 (dIf (dTest (dCall T_l_below (dCons (dVar 2) (dCons (dVar 1) dNil)))) (dVar 2) (dVar 1))) { nx := fun δ' => ∃ s, δ' = [S.dat L, S.dat (fq (pick false q ((q :: qs).take (i + 1)))), s], rt := fun r => r.isSolid = true ∧ P r, ct := fun δ' => ∃ s, δ' = [S.dat L, S.dat (fq (pick false q ((q :: qs).take (i + 1)))), s], bk := bk } δ2 := by
    rintro i d δ' L bk hd ⟨s, rfl⟩
    obtain ⟨p, hp, rfl⟩ := map_get hd
    refine ⟨p, pick false q ((q :: qs).take i), rfl, hs p (List.mem_of_getElem? hp), pick_sz (hs q List.mem_cons_self) _ hs i, (fun z => nomatch z), ?_⟩
    have e := pick_take (up := false) (q := q) hp
    refine ite2 (fun h => ?_) (fun h => ?_)
    · refine ⟨S.dat (fq p), ?_⟩
      rw [e, if_pos (show (if false = true then _ else ltq p _) = true from h)]
      rfl
    · refine ⟨S.dat (fq p), ?_⟩
      rw [e, if_neg (show ¬ (if false = true then _ else ltq p _) = true from h)]
      rfl
  rcases hr with rfl | rfl
  · show (match atI ((q :: qs).map fq) 0 with | some d => _ | none => False)
    rw [List.map_cons, at0]
    refine ⟨rfl, fun i δ' => ∃ s, δ' = [S.dat (.list ((q :: qs).map fq)), S.dat (fq (pick false q ((q :: qs).take i))), s], ⟨_, rfl⟩, fun i d δ' hd hp => turn i d δ' _ _ hd hp, ?_⟩
    rintro δ' ⟨s, rfl⟩
    rw [← List.map_cons, List.length_map, List.take_length]
    exact ⟨rfl, hP⟩
  · show (match atI ((q :: qs).map fq) 0 with | some d => _ | none => False)
    rw [List.map_cons, at0]
    refine ⟨rfl, fun i δ' => ∃ s, δ' = [S.dat (.tuple ((q :: qs).map fq)), S.dat (fq (pick false q ((q :: qs).take i))), s], ⟨_, rfl⟩, fun i d δ' hd hp => turn i d δ' _ _ hd hp, ?_⟩
    rintro δ' ⟨s, rfl⟩
    rw [← List.map_cons, List.length_map, List.take_length]
    exact ⟨rfl, hP⟩
/-! _law_highest -/
def tb_l_highest : DS := (dSeq (dAsg 1 (dOp gIx (dVar 0) (dC (.int 0)))) (dSeq (dFor (diV 0) (dgName 2) (dAsg 1 (dIf (dTest (dCall T_l_below (dCons (dVar 1) (dCons (dVar 2) dNil)))) (dVar 2) (dVar 1)))) (dRetV 1)))
def T_l_highest : DT' := T_pick true
theorem len_l_highest : ∀ rs P, T_l_highest rs P → rs.length = 1 := fun rs P ⟨_, _, _, e, _⟩ => by rw [e]; rfl
theorem spec_l_highest : ∀ rs P, T_l_highest rs P → tb_l_highest { nx := fun _ => P (.dat .none), rt := fun r => r.isSolid = true ∧ P r } (start0 3 rs) := by
  rintro rs P ⟨q, qs, r, rfl, hr, hs, hP⟩
  have turn : ∀ (i : Nat) (d : PyData) (δ' : List S) (L : PyData) (bk : List S → Prop), ((q :: qs).map fq)[i]? = some d → (∃ s, δ' = [S.dat L, S.dat (fq (pick true q ((q :: qs).take i))), s]) →
      dgName 2 d δ' fun δ2 => (dAsg 1 (dIf (dTest (dCall T_l_below (dCons (dVar 1) (dCons (dVar 2) dNil)))) (dVar 2) (dVar 1))) { nx := fun δ' => ∃ s, δ' = [S.dat L, S.dat (fq (pick true q ((q :: qs).take (i + 1)))), s], rt := fun r => r.isSolid = true ∧ P r, ct := fun δ' => ∃ s, δ' = [S.dat L, S.dat (fq (pick true q ((q :: qs).take (i + 1)))), s], bk := bk } δ2 := by
    rintro i d δ' L bk hd ⟨s, rfl⟩
    obtain ⟨p, hp, rfl⟩ := map_get hd
    refine ⟨pick true q ((q :: qs).take i), p, rfl, pick_sz (hs q List.mem_cons_self) _ hs i, hs p (List.mem_of_getElem? hp), (fun z => nomatch z), ?_⟩
    have e := pick_take (up := true) (q := q) hp
    refine ite2 (fun h => ?_) (fun h => ?_)
    · refine ⟨S.dat (fq p), ?_⟩
      rw [e, if_pos (show (if true = true then ltq _ p else _) = true from h)]
      rfl
    · refine ⟨S.dat (fq p), ?_⟩
      rw [e, if_neg (show ¬ (if true = true then ltq _ p else _) = true from h)]
      rfl
  rcases hr with rfl | rfl
  · show (match atI ((q :: qs).map fq) 0 with | some d => _ | none => False)
    rw [List.map_cons, at0]
    refine ⟨rfl, fun i δ' => ∃ s, δ' = [S.dat (.list ((q :: qs).map fq)), S.dat (fq (pick true q ((q :: qs).take i))), s], ⟨_, rfl⟩, fun i d δ' hd hp => turn i d δ' _ _ hd hp, ?_⟩
    rintro δ' ⟨s, rfl⟩
    rw [← List.map_cons, List.length_map, List.take_length]
    exact ⟨rfl, hP⟩
  · show (match atI ((q :: qs).map fq) 0 with | some d => _ | none => False)
    rw [List.map_cons, at0]
    refine ⟨rfl, fun i δ' => ∃ s, δ' = [S.dat (.tuple ((q :: qs).map fq)), S.dat (fq (pick true q ((q :: qs).take i))), s], ⟨_, rfl⟩, fun i d δ' hd hp => turn i d δ' _ _ hd hp, ?_⟩
    rintro δ' ⟨s, rfl⟩
    rw [← List.map_cons, List.length_map, List.take_length]
    exact ⟨rfl, hP⟩
/-! law -/
def tb_law : DS := (dSeq (dFor (diR (dCons (dC (.int 12)) dNil)) (dgName 3) (dSeq (dPar2 4 5 (dCons (dCall T_l_number (dCons (dVar 1) dNil)) (dCons (dCall T_l_one (dCons (dVar 1) (dCons (dLst (dCons (dC (.int 1)) (dCons (dC (.int 2)) (dCons (dC (.int 3)) (dCons (dNeg (dC (.int 6))) (dCons (dC (.int 12)) (dCons (dOp gSub (dOp gPow (dC (.int 10)) (dC (.int 9))) (dC (.int 1))) (dCons (dOp gSub (dC (.int 2)) (dOp gPow (dC (.int 10)) (dC (.int 9)))) (dCons (dC (.int 35)) dNil))))))))) dNil))) dNil))) (dSeq (dIfS (dtNot (dTest (dCall T_l_alike (dCons (dCall T_p_reduced (dCons (dVar 4) (dCons (dVar 5) dNil))) (dCons (dCall T_l_ratio (dCons (dVar 4) (dCons (dVar 5) dNil))) dNil))))) (dRet (dC (.bool false))) dNext) (dSeq (dApp 2 (dCall T_l_ratio (dCons (dVar 4) (dCons (dVar 5) dNil)))) (dSeq (dIfS (dtNot (dTest (dCall T_l_are_couples_right (dCons (dOp gIx (dVar 2) (dNeg (dC (.int 1)))) (dCons (dCall T_l_one (dCons (dVar 1) (dCons (dVar 2) dNil))) dNil))))) (dRet (dC (.bool false))) dNext) (dSeq (dAsg 6 (dLc (diR (dCons (dCall T_l_take (dCons (dVar 1) (dCons (dC (.int 9)) dNil))) dNil)) (dgName 10) dtYes (dCall T_l_one (dCons (dVar 1) (dCons (dVar 2) dNil))) [10])) (dSeq (dAsg 7 (dCB gRepr (dCons (dVar 6) dNil))) (dSeq (dPar2 8 9 (dCons (dLst (dCons (dCall T_p_added (dCons (dVar 6) dNil)) (dCons (dCall T_p_added (dCons (dCB gTuple (dCons (dVar 6) dNil)) dNil)) (dCons (dCall T_p_common_den (dCons (dVar 6) dNil)) (dCons (dCall T_p_common_den (dCons (dCB gTuple (dCons (dVar 6) dNil)) dNil)) dNil))))) (dCons (dCall T_l_plus (dCons (dVar 6) dNil)) dNil))) (dSeq (dIfS (dtNot (dTest (dCall T_l_alike (dCons (dVar 8) (dCons (dLst (dCons (dVar 9) (dCons (dVar 9) (dCons (dCall T_l_least_den (dCons (dVar 6) dNil)) (dCons (dCall T_l_least_den (dCons (dVar 6) dNil)) dNil))))) dNil))))) (dRet (dC (.bool false))) dNext) (dSeq (dIfS (dTest (dOp (gEq true) (dVar 6) (dLst dNil))) (dSeq (dAsg 8 (dLst (dCons (dCall T_p_least_of (dCons (dVar 6) dNil)) (dCons (dCall T_p_least_of (dCons (dCB gTuple (dCons (dVar 6) dNil)) dNil)) (dCons (dCall T_p_greatest_of (dCons (dVar 6) dNil)) (dCons (dCall T_p_greatest_of (dCons (dCB gTuple (dCons (dVar 6) dNil)) dNil)) dNil)))))) (dIfS (dtNot (dTest (dCall T_l_alike (dCons (dVar 8) (dCons (dOp gAdd (dOp gMul (dLst (dCons (dCall T_l_lowest (dCons (dVar 6) dNil)) dNil)) (dC (.int 2))) (dOp gMul (dLst (dCons (dCall T_l_highest (dCons (dVar 6) dNil)) dNil)) (dC (.int 2)))) dNil))))) (dRet (dC (.bool false))) dNext)) dNext) (dIfS (dTest (dOp (gEq true) (dCB gRepr (dCons (dVar 6) dNil)) (dVar 7))) (dRet (dC (.bool false))) dNext))))))))))) (dRet (dC (.bool true))))
theorem mem_fq {qs : List Rat} {d : PyData} (h : d ∈ qs.map fq) : ∃ q ∈ qs, d = fq q := by
  obtain ⟨q, hq, e⟩ := List.mem_map.mp h
  exact ⟨q, hq, e.symm⟩
theorem fq_free (q : Rat) : lstFree (fq q) = true := by
  unfold fq
  simp only [lstFree, lstFreeAll, Bool.and_self]
theorem tidy_fqs {qs : List Rat} (h : ∀ q ∈ qs, Sz 400 q) : Tidy 400 (qs.length * 807) 2 (.list (qs.map fq)) := by
  have e : (qs.map fq).length = qs.length := List.length_map ..
  have t := Tidy.list (k := 400) (w := 806) (dp := 1) (ds := qs.map fq) fun d hd => by
    obtain ⟨q, hq, rfl⟩ := mem_fq hd
    exact Tidy.fq (h q hq) (by decide)
  rw [e] at t
  exact t
theorem shows_fqs {qs : List Rat} (h : ∀ q ∈ qs, Sz 400 q) (hl : qs.length ≤ 20) : showsOk (.list (qs.map fq)) := by
  refine ((tidy_fqs h).mono (w' := 16140) ?_ (Nat.le_refl _)).shows (by decide) (by decide)
  calc qs.length * 807 ≤ 20 * 807 := Nat.mul_le_mul_right _ hl
    _ ≤ 16140 := by decide
def lawInv (i : Nat) (δ' : List S) : Prop := ∃ (qs : List Rat) (s3 s4 s5 s6 s7 s8 s9 s10 : S), δ' = [.un, .bag, .own (qs.map fq), s3, s4, s5, s6, s7, s8, s9, s10] ∧ qs.length = i ∧ ∀ q ∈ qs, Sz 32 q
theorem alike_ok {x y : PyData} {P : R → Prop} (e : x = y) (h : showsOk x) (p : P (.dat (.bool true))) : T_l_alike [.dat x, .dat y] P := by
  subst e
  exact ⟨x, rfl, h, p⟩
theorem one_ok {ds : List PyData} {r : R} {P : R → Prop} (hr : SeqR ds r) (h0 : ds ≠ []) (h1 : ds.length ≤ 1000) (h : ∀ d ∈ ds, P (.dat d)) : T_l_one [.bag, r] P := ⟨ds, r, rfl, hr, h0, h1, h⟩
theorem shows_fq {q : Rat} (h : Sz 400 q) : showsOk (fq q) := (Tidy.fq h (by decide)).shows (by decide) (by decide)
theorem ne_nil_test {qs : List Rat} {A B : Prop} (h1 : qs ≠ [] → A) (h2 : qs = [] → B) : if (PyData.eqv (.list (qs.map fq)) (.list []) != true) = true then A else B := by
  cases qs with
  | nil =>
    rw [if_neg (by decide)]
    exact h2 rfl
  | cons q r =>
    refine if_pos (c := _ = true) ?_ ▸ h1 (fun z => nomatch z)
    simp only [List.map_cons, PyData.eqv, PyData.eqvAll]
    rfl
theorem law_couple {n d : Int} {P : R → Prop} (hd : d ≠ 0) (hn : B 31 n) (hb : B 31 d) (h : P (.dat (fq (Rat.divInt n d)))) : T_p_reduced [.dat (.int n), .dat (.int d)] P ∧ T_l_ratio [.dat (.int n), .dat (.int d)] P :=
  ⟨⟨n, d, rfl, hd, hb.mono (by decide), h⟩, ⟨n, d, rfl, hd, hb.mono (by decide), h⟩⟩
theorem spec_law : tb_law lawEnds ((bagSlots 11 1).set 2 (.own [])) := by
  refine ⟨⟨by decide, by decide⟩, rfl, lawInv, ⟨[], _, _, _, _, _, _, _, _, rfl, rfl, fun q hq => nomatch hq⟩, ?_, ?_⟩
  · rintro i d δ' hd ⟨qs, s3, s4, s5, s6, s7, s8, s9, s10, rfl, hl, hs⟩
    have hi : i < 12 := by
      have h1 := (List.getElem?_eq_some_iff.mp hd).1
      rw [List.length_map, List.length_range] at h1
      exact h1
    refine ⟨rfl, fun n hn => ⟨(fun z => nomatch z), ⟨by decide, by decide, by decide⟩, trivial, ⟨by decide, by decide, by decide⟩, trivial, ⟨rfl, Nat.le_of_ble_eq_true rfl⟩, ?_⟩⟩
    refine ⟨_, _, rfl, .inl rfl, (fun z => nomatch z), Nat.le_of_ble_eq_true rfl, fun d hd2 => ⟨(fun z => nomatch z), ?_⟩⟩
    obtain ⟨e, rfl, he, hb⟩ : ∃ e : Int, d = .int e ∧ e ≠ 0 ∧ B 31 e := by
      have hd' : d ∈ [PyData.int 1, .int 2, .int 3, .int (-6), .int 12, .int (10 ^ 9 - 1), .int (2 - 10 ^ 9), .int 35] := hd2
      simp only [List.mem_cons, List.not_mem_nil, or_false] at hd'
      rcases hd' with rfl | rfl | rfl | rfl | rfl | rfl | rfl | rfl <;> exact ⟨_, rfl, by decide, .lit rfl⟩
    have hn1 : B 31 n := hn.mono (by decide)
    have sq : Sz 32 (Rat.divInt n e) := (divInt_sz he hn1 hb).mono (by decide)
    have hb8 : B 8000 e := hb.mono (by decide)
    refine ⟨⟨rfl, rfl⟩, n, e, rfl, he, hb8, (fun z => nomatch z), n, e, rfl, he, hb8, (fun z => nomatch z), fq (Rat.divInt n e), rfl, shows_fq (sq.mono (by decide)), (fun z => nomatch z), ?_⟩
    show (if (!true) = true then _ else _)
    refine iteF ⟨?_, n, e, rfl, he, hb8, (fun z => nomatch z), rfl, ?_⟩
    · show (qs.map fq).length ≤ 1000
      rw [List.length_map]
      omega
    -- the parts with the new one
    generalize Rat.divInt n e = q at sq ⊢
    have em : qs.map fq ++ [(R.dat (fq q)).d] = (qs ++ [q]).map fq := by rw [List.map_append]; rfl
    have hs2 : ∀ p ∈ qs ++ [q], Sz 32 p := fun p hp => by
      rcases List.mem_append.mp hp with hp | hp
      · exact hs p hp
      · rw [List.mem_singleton.mp hp]
        exact sq
    have hl2 : (qs ++ [q]).length = i + 1 := by rw [List.length_append, hl]; rfl
    have ea : atI (qs.map fq ++ [fq q]) (-1) = some (fq q) := atI_last _ _
    show (match atI (qs.map fq ++ [fq q]) (-1) with | some d => _ | none => False)
    rw [ea, em]
    clear ea em
    have hq : q ∈ qs ++ [q] := List.mem_append_right _ (List.mem_singleton.mpr rfl)
    generalize qs ++ [q] = ps at hs2 hl2 hq ⊢
    have hz : ps.map fq ≠ [] := fun z => by
      have := List.map_eq_nil_iff.mp z
      subst this
      cases hq
    have hpl : (ps.map fq).length ≤ 1000 := by
      rw [List.length_map]
      omega
    refine ⟨ps.map fq, _, rfl, .inl rfl, hz, hpl, fun d hd3 => ?_⟩
    obtain ⟨p, hp, rfl⟩ := mem_fq hd3
    refine ⟨fun _ => fq_free p, q, p, rfl, hs2 q hq, hs2 p hp, (fun z => nomatch z), ?_⟩
    show (if (!true) = true then _ else _)
    refine iteF ⟨9, rfl, by decide, by decide, fun r r0 r1 => ⟨(fun z => nomatch z), ⟨by omega, by omega⟩, fun j acc => ∃ ms : List Rat, acc = ms.map fq ∧ ms.length = j ∧ ∀ m ∈ ms, Sz 32 m, ⟨[], rfl, rfl, fun q hq => nomatch hq⟩, ?_, ?_, ?_⟩⟩
    · rintro j d acc _ ⟨ms, rfl, hml, hms⟩ _
      refine ⟨ps.map fq, _, rfl, .inl rfl, hz, hpl, fun d2 hd2 => ?_⟩
      obtain ⟨m, hm, rfl⟩ := mem_fq hd2
      refine ⟨fun _ => fq_free m, rfl, ms ++ [m], ?_, ?_, fun x hx => ?_⟩
      · rw [List.map_append]
        rfl
      · rw [List.length_append, hml]
        rfl
      · rcases List.mem_append.mp hx with hx | hx
        · exact hms x hx
        · rw [List.mem_singleton.mp hx]
          exact hs2 m hm
    · rw [List.length_map, List.length_range]
      omega
    rintro acc ⟨ms, rfl, hml, hms⟩
    rw [List.length_map, List.length_range] at hml
    have hm8 : ms.length ≤ 8 := by omega
    have hm4 : ∀ m ∈ ms, Sz 400 m := fun m h => (hms m h).mono (by decide)
    have hsh : showsOk (.list (ms.map fq)) := shows_fqs hm4 (by omega)
    have hsz : (32 + 1) * (ms.length + 1) ≤ 7000 := by omega
    have pl : Parts 32 ms (.dat (.list (ms.map fq))) := ⟨.inl rfl, hms, hsz, by omega⟩
    have pt : Parts 32 ms (.dat (.tuple (ms.map fq))) := ⟨.inr rfl, hms, hsz, by omega⟩
    have ssum : Sz 400 ms.sum := (Sz.sum hms).mono (by omega)
    have slcm : B 400 (lcmD ms : Int) := by
      have := lcmD_B (m := 400) ms.length hms (by omega)
      rwa [List.take_length] at this
    refine ⟨hsh, ms, 32, _, rfl, pl, (fun _ => fq_free _), ms, 32, _, rfl, pt, (fun z => nomatch z), ms, 32, _, rfl, .inl rfl, hms, hsz, (fun _ => rfl), ms, 32, _, rfl, .inr rfl, hms, hsz, (fun z => nomatch z), ⟨rfl, Nat.le_of_ble_eq_true rfl⟩, ms, 32, _, rfl, pl, (fun _ => fq_free _), ⟨rfl, rfl⟩, ?_⟩
    have al1 : showsOk (.list [fq ms.sum, fq ms.sum, .int (lcmD ms : Int), .int (lcmD ms : Int)]) := by
      refine (Tidy.list (k := 400) (w := 806) (dp := 1) fun d hd => ?_).shows (by decide) (by show 410 * (4 * 807) + 408 ≤ 10000000; decide)
      simp only [List.mem_cons, List.not_mem_nil, or_false] at hd
      rcases hd with rfl | rfl | rfl | rfl
      · exact Tidy.fq ssum (by decide)
      · exact Tidy.fq ssum (by decide)
      · exact (Tidy.int slcm (by decide)).mono (by decide) (by decide)
      · exact (Tidy.int slcm (by decide)).mono (by decide) (by decide)
    refine ⟨ms, 32, _, rfl, .inl rfl, hms, hsz, (fun _ => rfl), ms, 32, _, rfl, .inl rfl, hms, hsz, (fun _ => rfl), ⟨rfl, Nat.le_of_ble_eq_true rfl⟩, _, rfl, al1, (fun z => nomatch z), ?_⟩
    show (if (!true) = true then _ else _)
    refine iteF ⟨⟨rfl, Nat.le_of_ble_eq_true rfl⟩, shaped_of hsh, rfl, ?_⟩
    show if (PyData.eqv (.list (ms.map fq)) (.list []) != true) = true then _ else _
    refine ne_nil_test (fun hne => ?_) (fun hnil => ?_)
    · obtain ⟨m0, mr, rfl⟩ : ∃ m0 mr, ms = m0 :: mr := by
        cases ms with
        | nil => exact absurd rfl hne
        | cons a b => exact ⟨a, b, rfl⟩
      have h3 : ∀ p ∈ m0 :: mr, Sz 3000 p := fun p h => (hms p h).mono (by decide)
      have pk : ∀ up, Sz 400 (pick up m0 (m0 :: mr)) := fun up => by
        have := pick_sz (up := up) (hm4 m0 List.mem_cons_self) (m0 :: mr) hm4 (m0 :: mr).length
        rwa [List.take_length] at this
      refine ⟨m0, mr, _, rfl, .inl rfl, h3, (fun _ => fq_free _), m0, mr, _, rfl, .inr rfl, h3, (fun z => nomatch z), m0, mr, _, rfl, .inl rfl, h3, (fun _ => fq_free _), m0, mr, _, rfl, .inr rfl, h3, (fun z => nomatch z), ⟨rfl, Nat.le_of_ble_eq_true rfl⟩, ?_⟩
      have al2 : showsOk (.list [fq (pick false m0 (m0 :: mr)), fq (pick false m0 (m0 :: mr)), fq (pick true m0 (m0 :: mr)), fq (pick true m0 (m0 :: mr))]) := by
        refine (Tidy.list (k := 400) (w := 806) (dp := 1) fun d hd => ?_).shows (by decide) (by show 410 * (4 * 807) + 408 ≤ 10000000; decide)
        simp only [List.mem_cons, List.not_mem_nil, or_false] at hd
        rcases hd with rfl | rfl | rfl | rfl
        · exact Tidy.fq (pk _) (by decide)
        · exact Tidy.fq (pk _) (by decide)
        · exact Tidy.fq (pk _) (by decide)
        · exact Tidy.fq (pk _) (by decide)
      refine ⟨m0, mr, _, rfl, .inl rfl, h3, (fun _ => fq_free _), ⟨rfl, Nat.le_of_ble_eq_true rfl⟩, ⟨by decide, by decide, Nat.le_of_ble_eq_true rfl⟩, m0, mr, _, rfl, .inl rfl, h3, (fun _ => fq_free _), ⟨rfl, Nat.le_of_ble_eq_true rfl⟩, ⟨by decide, by decide, Nat.le_of_ble_eq_true rfl⟩, Nat.le_of_ble_eq_true rfl, _, rfl, al2, (fun _ => rfl), ?_⟩
      show (if (!true) = true then _ else _)
      refine iteF ⟨hsh, ?_⟩
      show if (decide (_ = _) != true) = true then _ else _
      rw [decide_eq_true rfl]
      exact iteF ⟨ps, _, _, _, _, _, _, _, _, rfl, hl2, hs2⟩
    · refine ⟨hsh, ?_⟩
      show if (decide (_ = _) != true) = true then _ else _
      rw [decide_eq_true rfl]
      exact iteF ⟨ps, _, _, _, _, _, _, _, _, rfl, hl2, hs2⟩
  · rintro δ' ⟨qs, s3, s4, s5, s6, s7, s8, s9, s10, rfl, _, _⟩
    exact rfl
end DL
set_option maxHeartbeats 4000000
namespace Kx
open PySem PySem.Spec PyProof.Rows L2 DL
def topS (i : Nat) : Stmt := PySem.Challenge.pw_neverjammed_k01_fractions_put_together.main.body.getD i (.Pass ⟨0, 0, 0, 0⟩)
abbrev s_p_reduced : Stmt := topS 2
abbrev N_p_reduced : List Str := ["num", "den", "divisor"]
theorem sc_p_reduced : FnScope N_p_reduced ["num", "den"] (defScope s_p_reduced) := ⟨rfl, rfl, rfl, by decide +kernel, rfl, by decide +kernel, by decide +kernel⟩
abbrev s_p_common_den : Stmt := topS 10
abbrev N_p_common_den : List Str := ["parts", "common", "part"]
theorem sc_p_common_den : FnScope N_p_common_den ["parts"] (defScope s_p_common_den) := ⟨rfl, rfl, rfl, by decide +kernel, rfl, by decide +kernel, by decide +kernel⟩
abbrev s_p_added : Stmt := topS 3
abbrev N_p_added : List Str := ["parts", "common", "num", "den"]
theorem sc_p_added : FnScope N_p_added ["parts"] (defScope s_p_added) := ⟨rfl, rfl, rfl, by decide +kernel, rfl, by decide +kernel, by decide +kernel⟩
abbrev s_p_less : Stmt := topS 4
abbrev N_p_less : List Str := ["one", "other"]
theorem sc_p_less : FnScope N_p_less ["one", "other"] (defScope s_p_less) := ⟨rfl, rfl, rfl, by decide +kernel, rfl, by decide +kernel, by decide +kernel⟩
abbrev s_p_times : Stmt := topS 5
abbrev N_p_times : List Str := ["one", "other"]
theorem sc_p_times : FnScope N_p_times ["one", "other"] (defScope s_p_times) := ⟨rfl, rfl, rfl, by decide +kernel, rfl, by decide +kernel, by decide +kernel⟩
abbrev s_p_over : Stmt := topS 6
abbrev N_p_over : List Str := ["one", "other"]
theorem sc_p_over : FnScope N_p_over ["one", "other"] (defScope s_p_over) := ⟨rfl, rfl, rfl, by decide +kernel, rfl, by decide +kernel, by decide +kernel⟩
abbrev s_p_compared : Stmt := topS 7
abbrev N_p_compared : List Str := ["one", "other", "left", "right"]
theorem sc_p_compared : FnScope N_p_compared ["one", "other"] (defScope s_p_compared) := ⟨rfl, rfl, rfl, by decide +kernel, rfl, by decide +kernel, by decide +kernel⟩
abbrev s_p_least_of : Stmt := topS 8
abbrev N_p_least_of : List Str := ["parts", "least", "part"]
theorem sc_p_least_of : FnScope N_p_least_of ["parts"] (defScope s_p_least_of) := ⟨rfl, rfl, rfl, by decide +kernel, rfl, by decide +kernel, by decide +kernel⟩
abbrev s_p_greatest_of : Stmt := topS 9
abbrev N_p_greatest_of : List Str := ["parts", "greatest", "part"]
theorem sc_p_greatest_of : FnScope N_p_greatest_of ["parts"] (defScope s_p_greatest_of) := ⟨rfl, rfl, rfl, by decide +kernel, rfl, by decide +kernel, by decide +kernel⟩
abbrev s_l_bag : Stmt := topS 12
abbrev N_l_bag : List Str := ["_law_script", "_law_cell"]
theorem sc_l_bag : FnScope N_l_bag ["_law_script"] (defScope s_l_bag) := ⟨rfl, rfl, rfl, by decide +kernel, rfl, by decide +kernel, by decide +kernel⟩
abbrev s_l_take : Stmt := topS 13
abbrev N_l_take : List Str := ["_law_bag_here", "_law_many", "_law_cell", "_law_stirred", "_law_value", "_law_begin", "_law_second"]
theorem sc_l_take : FnScope N_l_take ["_law_bag_here", "_law_many"] (defScope s_l_take) := ⟨rfl, rfl, rfl, by decide +kernel, rfl, by decide +kernel, by decide +kernel⟩
abbrev s_l_one : Stmt := topS 14
abbrev N_l_one : List Str := ["_law_bag_here", "_law_things"]
theorem sc_l_one : FnScope N_l_one ["_law_bag_here", "_law_things"] (defScope s_l_one) := ⟨rfl, rfl, rfl, by decide +kernel, rfl, by decide +kernel, by decide +kernel⟩
abbrev s_l_number : Stmt := topS 15
abbrev N_l_number : List Str := ["_law_bag_here"]
theorem sc_l_number : FnScope N_l_number ["_law_bag_here"] (defScope s_l_number) := ⟨rfl, rfl, rfl, by decide +kernel, rfl, by decide +kernel, by decide +kernel⟩
abbrev s_l_alike : Stmt := topS 16
abbrev N_l_alike : List Str := ["_law_found", "_law_due"]
theorem sc_l_alike : FnScope N_l_alike ["_law_found", "_law_due"] (defScope s_l_alike) := ⟨rfl, rfl, rfl, by decide +kernel, rfl, by decide +kernel, by decide +kernel⟩
abbrev s_l_shared : Stmt := topS 17
abbrev N_l_shared : List Str := ["_law_one_here", "_law_other"]
theorem sc_l_shared : FnScope N_l_shared ["_law_one_here", "_law_other"] (defScope s_l_shared) := ⟨rfl, rfl, rfl, by decide +kernel, rfl, by decide +kernel, by decide +kernel⟩
abbrev s_l_ratio : Stmt := topS 18
abbrev N_l_ratio : List Str := ["_law_num", "_law_den", "_law_by_here"]
theorem sc_l_ratio : FnScope N_l_ratio ["_law_num", "_law_den"] (defScope s_l_ratio) := ⟨rfl, rfl, rfl, by decide +kernel, rfl, by decide +kernel, by decide +kernel⟩
abbrev s_l_minus : Stmt := topS 19
abbrev N_l_minus : List Str := ["_law_one_here", "_law_other"]
theorem sc_l_minus : FnScope N_l_minus ["_law_one_here", "_law_other"] (defScope s_l_minus) := ⟨rfl, rfl, rfl, by decide +kernel, rfl, by decide +kernel, by decide +kernel⟩
abbrev s_l_by : Stmt := topS 20
abbrev N_l_by : List Str := ["_law_one_here", "_law_other"]
theorem sc_l_by : FnScope N_l_by ["_law_one_here", "_law_other"] (defScope s_l_by) := ⟨rfl, rfl, rfl, by decide +kernel, rfl, by decide +kernel, by decide +kernel⟩
abbrev s_l_plus : Stmt := topS 21
abbrev N_l_plus : List Str := ["_law_parts", "_law_num", "_law_den", "_law_part"]
theorem sc_l_plus : FnScope N_l_plus ["_law_parts"] (defScope s_l_plus) := ⟨rfl, rfl, rfl, by decide +kernel, rfl, by decide +kernel, by decide +kernel⟩
abbrev s_l_below : Stmt := topS 22
abbrev N_l_below : List Str := ["_law_one_here", "_law_other"]
theorem sc_l_below : FnScope N_l_below ["_law_one_here", "_law_other"] (defScope s_l_below) := ⟨rfl, rfl, rfl, by decide +kernel, rfl, by decide +kernel, by decide +kernel⟩
abbrev s_l_over : Stmt := topS 23
abbrev N_l_over : List Str := ["_law_one_here", "_law_other"]
theorem sc_l_over : FnScope N_l_over ["_law_one_here", "_law_other"] (defScope s_l_over) := ⟨rfl, rfl, rfl, by decide +kernel, rfl, by decide +kernel, by decide +kernel⟩
abbrev s_l_are_couples_right : Stmt := topS 24
abbrev N_l_are_couples_right : List Str := ["_law_one_here", "_law_other", "_law_told", "_law_due"]
theorem sc_l_are_couples_right : FnScope N_l_are_couples_right ["_law_one_here", "_law_other"] (defScope s_l_are_couples_right) := ⟨rfl, rfl, rfl, by decide +kernel, rfl, by decide +kernel, by decide +kernel⟩
abbrev s_l_least_den : Stmt := topS 25
abbrev N_l_least_den : List Str := ["_law_parts", "_law_den", "_law_num", "_law_part"]
theorem sc_l_least_den : FnScope N_l_least_den ["_law_parts"] (defScope s_l_least_den) := ⟨rfl, rfl, rfl, by decide +kernel, rfl, by decide +kernel, by decide +kernel⟩
abbrev s_l_lowest : Stmt := topS 26
abbrev N_l_lowest : List Str := ["_law_parts", "_law_found", "_law_part"]
theorem sc_l_lowest : FnScope N_l_lowest ["_law_parts"] (defScope s_l_lowest) := ⟨rfl, rfl, rfl, by decide +kernel, rfl, by decide +kernel, by decide +kernel⟩
abbrev s_l_highest : Stmt := topS 27
abbrev N_l_highest : List Str := ["_law_parts", "_law_found", "_law_part"]
theorem sc_l_highest : FnScope N_l_highest ["_law_parts"] (defScope s_l_highest) := ⟨rfl, rfl, rfl, by decide +kernel, rfl, by decide +kernel, by decide +kernel⟩
abbrev s_p_law : Stmt := topS 28
abbrev N_p_law : List Str := ["_law_script", "_law_bag_here", "_law_parts", "_law_turn", "_law_num", "_law_den", "_law_some", "_law_shown", "_law_told", "_law_due", "_law_k"]
theorem sc_p_law : FnScope N_p_law ["_law_script"] (defScope s_p_law) := ⟨rfl, rfl, rfl, by decide +kernel, rfl, by decide +kernel, by decide +kernel⟩
structure Tx (K : PySem.W.Frag) (mg : Str → Option Value) where
  f_p_reduced : Addr
  d_p_reduced : FuncData
  F_p_reduced : Fun K "reduced" "reduced" s_p_reduced f_p_reduced d_p_reduced
  m_p_reduced : mg "reduced" = some (.ref f_p_reduced)
  f_p_common_den : Addr
  d_p_common_den : FuncData
  F_p_common_den : Fun K "common_den" "common_den" s_p_common_den f_p_common_den d_p_common_den
  m_p_common_den : mg "common_den" = some (.ref f_p_common_den)
  f_p_added : Addr
  d_p_added : FuncData
  F_p_added : Fun K "added" "added" s_p_added f_p_added d_p_added
  m_p_added : mg "added" = some (.ref f_p_added)
  f_p_less : Addr
  d_p_less : FuncData
  F_p_less : Fun K "less" "less" s_p_less f_p_less d_p_less
  m_p_less : mg "less" = some (.ref f_p_less)
  f_p_times : Addr
  d_p_times : FuncData
  F_p_times : Fun K "times" "times" s_p_times f_p_times d_p_times
  m_p_times : mg "times" = some (.ref f_p_times)
  f_p_over : Addr
  d_p_over : FuncData
  F_p_over : Fun K "over" "over" s_p_over f_p_over d_p_over
  m_p_over : mg "over" = some (.ref f_p_over)
  f_p_compared : Addr
  d_p_compared : FuncData
  F_p_compared : Fun K "compared" "compared" s_p_compared f_p_compared d_p_compared
  m_p_compared : mg "compared" = some (.ref f_p_compared)
  f_p_least_of : Addr
  d_p_least_of : FuncData
  F_p_least_of : Fun K "least_of" "least_of" s_p_least_of f_p_least_of d_p_least_of
  m_p_least_of : mg "least_of" = some (.ref f_p_least_of)
  f_p_greatest_of : Addr
  d_p_greatest_of : FuncData
  F_p_greatest_of : Fun K "greatest_of" "greatest_of" s_p_greatest_of f_p_greatest_of d_p_greatest_of
  m_p_greatest_of : mg "greatest_of" = some (.ref f_p_greatest_of)
  f_l_bag : Addr
  d_l_bag : FuncData
  F_l_bag : Fun K "_law_bag" "_law_bag" s_l_bag f_l_bag d_l_bag
  m_l_bag : mg "_law_bag" = some (.ref f_l_bag)
  f_l_take : Addr
  d_l_take : FuncData
  F_l_take : Fun K "_law_take" "_law_take" s_l_take f_l_take d_l_take
  m_l_take : mg "_law_take" = some (.ref f_l_take)
  f_l_one : Addr
  d_l_one : FuncData
  F_l_one : Fun K "_law_one" "_law_one" s_l_one f_l_one d_l_one
  m_l_one : mg "_law_one" = some (.ref f_l_one)
  f_l_number : Addr
  d_l_number : FuncData
  F_l_number : Fun K "_law_number" "_law_number" s_l_number f_l_number d_l_number
  m_l_number : mg "_law_number" = some (.ref f_l_number)
  f_l_alike : Addr
  d_l_alike : FuncData
  F_l_alike : Fun K "_law_alike" "_law_alike" s_l_alike f_l_alike d_l_alike
  m_l_alike : mg "_law_alike" = some (.ref f_l_alike)
  f_l_shared : Addr
  d_l_shared : FuncData
  F_l_shared : Fun K "_law_shared" "_law_shared" s_l_shared f_l_shared d_l_shared
  m_l_shared : mg "_law_shared" = some (.ref f_l_shared)
  f_l_ratio : Addr
  d_l_ratio : FuncData
  F_l_ratio : Fun K "_law_ratio" "_law_ratio" s_l_ratio f_l_ratio d_l_ratio
  m_l_ratio : mg "_law_ratio" = some (.ref f_l_ratio)
  f_l_minus : Addr
  d_l_minus : FuncData
  F_l_minus : Fun K "_law_minus" "_law_minus" s_l_minus f_l_minus d_l_minus
  m_l_minus : mg "_law_minus" = some (.ref f_l_minus)
  f_l_by : Addr
  d_l_by : FuncData
  F_l_by : Fun K "_law_by" "_law_by" s_l_by f_l_by d_l_by
  m_l_by : mg "_law_by" = some (.ref f_l_by)
  f_l_plus : Addr
  d_l_plus : FuncData
  F_l_plus : Fun K "_law_plus" "_law_plus" s_l_plus f_l_plus d_l_plus
  m_l_plus : mg "_law_plus" = some (.ref f_l_plus)
  f_l_below : Addr
  d_l_below : FuncData
  F_l_below : Fun K "_law_below" "_law_below" s_l_below f_l_below d_l_below
  m_l_below : mg "_law_below" = some (.ref f_l_below)
  f_l_over : Addr
  d_l_over : FuncData
  F_l_over : Fun K "_law_over" "_law_over" s_l_over f_l_over d_l_over
  m_l_over : mg "_law_over" = some (.ref f_l_over)
  f_l_are_couples_right : Addr
  d_l_are_couples_right : FuncData
  F_l_are_couples_right : Fun K "_law_are_couples_right" "_law_are_couples_right" s_l_are_couples_right f_l_are_couples_right d_l_are_couples_right
  m_l_are_couples_right : mg "_law_are_couples_right" = some (.ref f_l_are_couples_right)
  f_l_least_den : Addr
  d_l_least_den : FuncData
  F_l_least_den : Fun K "_law_least_den" "_law_least_den" s_l_least_den f_l_least_den d_l_least_den
  m_l_least_den : mg "_law_least_den" = some (.ref f_l_least_den)
  f_l_lowest : Addr
  d_l_lowest : FuncData
  F_l_lowest : Fun K "_law_lowest" "_law_lowest" s_l_lowest f_l_lowest d_l_lowest
  m_l_lowest : mg "_law_lowest" = some (.ref f_l_lowest)
  f_l_highest : Addr
  d_l_highest : FuncData
  F_l_highest : Fun K "_law_highest" "_law_highest" s_l_highest f_l_highest d_l_highest
  m_l_highest : mg "_law_highest" = some (.ref f_l_highest)
  f_p_law : Addr
  d_p_law : FuncData
  F_p_law : Fun K "law" "law" s_p_law f_p_law d_p_law
  m_p_law : mg "law" = some (.ref f_p_law)
  n_abs : mg "abs" = none
  n_gcd : mg "gcd" = some (.builtin "math.gcd")
  n_int : mg "int" = none
  n_lcm : mg "lcm" = some (.builtin "math.lcm")
  n_len : mg "len" = none
  n_range : mg "range" = none
  n_repr : mg "repr" = none
  n_sum : mg "sum" = none
  n_tuple : mg "tuple" = none
section
variable {P : Program} {w : World} {K : PySem.W.Frag} {mg : Str → Option Value} {base : Heap} (TX : Tx K mg)
theorem b_p_reduced : Binds K TX.d_p_reduced ["num", "den"] [] := TX.F_p_reduced.binds (ps := ["num", "den"]) fun _ _ _ _ _ _ us hl => match us, hl with | [_, _], _ => rfl
theorem ok_p_reduced : FnG P w K mg base 1 TX.f_p_reduced TX.d_p_reduced ["num", "den"] (spD K T_p_reduced) :=
  fnD (tb := tb_p_reduced) TX.F_p_reduced sc_p_reduced len_p_reduced (fun cdv A outer s H Y hr hg =>
    (xss_cons (xs_set (i := 2) sc_p_reduced.nd rfl (.inl rfl) (xe_callF cr_gcd lift_gcd (by rfl) TX.n_gcd (xa_cons (xe_var (pv 0)) (xa_cons (xe_var (pv 1)) xa_nil)))) (xss_cons (xs_if (xt_cmp op_ltA lift_lt (xe_var (pv 1)) xe_int (nomark _)) (xss_one (xs_set (i := 2) sc_p_reduced.nd rfl (.inl rfl) (xe_neg (xe_var (pv 2))))) xss_nil) (xss_one (xs_ret (xe_tup (xa_cons (xe_div (xe_var (pv 0)) (xe_var (pv 2))) (xa_cons (xe_div (xe_var (pv 1)) (xe_var (pv 2))) xa_nil)))))))) spec_p_reduced
theorem b_p_common_den : Binds K TX.d_p_common_den ["parts"] [] := TX.F_p_common_den.binds (ps := ["parts"]) fun _ _ _ _ _ _ us hl => match us, hl with | [_], _ => rfl
theorem ok_p_common_den : FnG P w K mg base 1 TX.f_p_common_den TX.d_p_common_den ["parts"] (spD K T_p_common_den) :=
  fnD (tb := tb_p_common_den) TX.F_p_common_den sc_p_common_den len_p_common_den (fun cdv A outer s H Y hr hg =>
    (xss_cons (xs_set (i := 1) sc_p_common_den.nd rfl (.inl rfl) xe_int) (xss_cons (xs_for (vs := [2]) PassesOwn.never rfl (xi_var (pv 0)) (xg_name (i := 2) (by decide) sc_p_common_den.nd rfl (by first | exact Or.inl rfl | exact Or.inr rfl)) (xss_one (xs_set (i := 1) sc_p_common_den.nd rfl (.inl rfl) (xe_callF call_lcm lift_lcm (by rfl) TX.n_lcm (xa_cons (xe_var (pv 1)) (xa_cons (xe_ix (xe_var (pv 2)) xe_int (fun _ _ => rfl)) xa_nil)))))) (xss_one (xs_retV (pv 1)))))) spec_p_common_den
theorem b_p_added : Binds K TX.d_p_added ["parts"] [] := TX.F_p_added.binds (ps := ["parts"]) fun _ _ _ _ _ _ us hl => match us, hl with | [_], _ => rfl
theorem ok_p_added : FnG P w K mg base 2 TX.f_p_added TX.d_p_added ["parts"] (spD K T_p_added) :=
  fnD (tb := tb_p_added) TX.F_p_added sc_p_added len_p_added (fun cdv A outer s H Y hr hg =>
    (xss_cons (xs_set (i := 1) sc_p_added.nd rfl (.inr rfl) (xe_call (ok_p_common_den TX) (hr.mono (by decide)) hg (by rfl) TX.m_p_common_den TX.F_p_common_den.kp (b_p_common_den TX) (xa_cons (xe_var (pv 0)) xa_nil))) (xss_one (xs_ret (xe_call (ok_p_reduced TX) (hr.mono (by decide)) hg (by rfl) TX.m_p_reduced TX.F_p_reduced.kp (b_p_reduced TX) (xa_cons (xe_callB (cr_sum rfl) lift_sum (by rfl) TX.n_sum (by decide +kernel) (xa_cons (xe_lc (own := [("num", 2), ("den", 3)]) rfl sc_p_added.nd (xi_var (pv 0)) (blkOk_by (own := [("num", 2), ("den", 3)]) (N := N_p_added) (sc := defScope s_p_added) (by decide +kernel)) (fun _ _ _ _ _ => (xg_tup rfl (xgs_cons (xg_name (i := 2) (by decide) sc_p_added.nd rfl (by first | exact Or.inl rfl | exact Or.inr rfl)) (xgs_cons (xg_name (i := 3) (by decide) sc_p_added.nd rfl (by first | exact Or.inl rfl | exact Or.inr rfl)) xgs_nil)))) (fun _ _ _ _ _ => xts_nil) (fun _ _ _ _ _ => (xe_mul (xe_var (pv 2)) (xe_div (xe_var (pv 1)) (xe_var (pv 3)))))) xa_nil)) (xa_cons (xe_var (pv 1)) xa_nil))))))) spec_p_added
theorem b_p_less : Binds K TX.d_p_less ["one", "other"] [] := TX.F_p_less.binds (ps := ["one", "other"]) fun _ _ _ _ _ _ us hl => match us, hl with | [_, _], _ => rfl
theorem ok_p_less : FnG P w K mg base 2 TX.f_p_less TX.d_p_less ["one", "other"] (spD K T_p_less) :=
  fnD (tb := tb_p_less) TX.F_p_less sc_p_less len_p_less (fun cdv A outer s H Y hr hg =>
    (xss_one (xs_ret (xe_call (ok_p_reduced TX) (hr.mono (by decide)) hg (by rfl) TX.m_p_reduced TX.F_p_reduced.kp (b_p_reduced TX) (xa_cons (xe_sub (xe_mul (xe_ix (xe_var (pv 0)) xe_int (fun _ _ => rfl)) (xe_ix (xe_var (pv 1)) xe_int (fun _ _ => rfl))) (xe_mul (xe_ix (xe_var (pv 1)) xe_int (fun _ _ => rfl)) (xe_ix (xe_var (pv 0)) xe_int (fun _ _ => rfl)))) (xa_cons (xe_mul (xe_ix (xe_var (pv 0)) xe_int (fun _ _ => rfl)) (xe_ix (xe_var (pv 1)) xe_int (fun _ _ => rfl))) xa_nil)))))) spec_p_less
theorem b_p_times : Binds K TX.d_p_times ["one", "other"] [] := TX.F_p_times.binds (ps := ["one", "other"]) fun _ _ _ _ _ _ us hl => match us, hl with | [_, _], _ => rfl
theorem ok_p_times : FnG P w K mg base 2 TX.f_p_times TX.d_p_times ["one", "other"] (spD K T_p_times) :=
  fnD (tb := tb_p_times) TX.F_p_times sc_p_times len_p_times (fun cdv A outer s H Y hr hg =>
    (xss_one (xs_ret (xe_call (ok_p_reduced TX) (hr.mono (by decide)) hg (by rfl) TX.m_p_reduced TX.F_p_reduced.kp (b_p_reduced TX) (xa_cons (xe_mul (xe_ix (xe_var (pv 0)) xe_int (fun _ _ => rfl)) (xe_ix (xe_var (pv 1)) xe_int (fun _ _ => rfl))) (xa_cons (xe_mul (xe_ix (xe_var (pv 0)) xe_int (fun _ _ => rfl)) (xe_ix (xe_var (pv 1)) xe_int (fun _ _ => rfl))) xa_nil)))))) spec_p_times
theorem b_p_over : Binds K TX.d_p_over ["one", "other"] [] := TX.F_p_over.binds (ps := ["one", "other"]) fun _ _ _ _ _ _ us hl => match us, hl with | [_, _], _ => rfl
theorem ok_p_over : FnG P w K mg base 2 TX.f_p_over TX.d_p_over ["one", "other"] (spD K T_p_over) :=
  fnD (tb := tb_p_over) TX.F_p_over sc_p_over len_p_over (fun cdv A outer s H Y hr hg =>
    (xss_one (xs_ret (xe_call (ok_p_reduced TX) (hr.mono (by decide)) hg (by rfl) TX.m_p_reduced TX.F_p_reduced.kp (b_p_reduced TX) (xa_cons (xe_mul (xe_ix (xe_var (pv 0)) xe_int (fun _ _ => rfl)) (xe_ix (xe_var (pv 1)) xe_int (fun _ _ => rfl))) (xa_cons (xe_mul (xe_ix (xe_var (pv 0)) xe_int (fun _ _ => rfl)) (xe_ix (xe_var (pv 1)) xe_int (fun _ _ => rfl))) xa_nil)))))) spec_p_over
theorem b_p_compared : Binds K TX.d_p_compared ["one", "other"] [] := TX.F_p_compared.binds (ps := ["one", "other"]) fun _ _ _ _ _ _ us hl => match us, hl with | [_, _], _ => rfl
theorem ok_p_compared : FnG P w K mg base 1 TX.f_p_compared TX.d_p_compared ["one", "other"] (spD K T_p_compared) :=
  fnD (tb := tb_p_compared) TX.F_p_compared sc_p_compared len_p_compared (fun cdv A outer s H Y hr hg =>
    (xss_cons (xs_set (i := 2) sc_p_compared.nd rfl (.inl rfl) (xe_mul (xe_ix (xe_var (pv 0)) xe_int (fun _ _ => rfl)) (xe_ix (xe_var (pv 1)) xe_int (fun _ _ => rfl)))) (xss_cons (xs_set (i := 3) sc_p_compared.nd rfl (.inl rfl) (xe_mul (xe_ix (xe_var (pv 1)) xe_int (fun _ _ => rfl)) (xe_ix (xe_var (pv 0)) xe_int (fun _ _ => rfl)))) (xss_cons (xs_if (xt_cmp op_ltA lift_lt (xe_var (pv 2)) (xe_var (pv 3)) (nomark _)) (xss_one (xs_ret (xe_neg xe_int))) xss_nil) (xss_cons (xs_if (xt_cmp op_gtA lift_gt (xe_var (pv 2)) (xe_var (pv 3)) (nomark _)) (xss_one (xs_ret xe_int)) xss_nil) (xss_one (xs_ret xe_int))))))) spec_p_compared
theorem b_p_least_of : Binds K TX.d_p_least_of ["parts"] [] := TX.F_p_least_of.binds (ps := ["parts"]) fun _ _ _ _ _ _ us hl => match us, hl with | [_], _ => rfl
theorem ok_p_least_of : FnG P w K mg base 2 TX.f_p_least_of TX.d_p_least_of ["parts"] (spD K T_p_least_of) :=
  fnD (tb := tb_p_least_of) TX.F_p_least_of sc_p_least_of len_p_least_of (fun cdv A outer s H Y hr hg =>
    (xss_cons (xs_set (i := 1) sc_p_least_of.nd rfl (.inl rfl) (xe_ix (xe_var (pv 0)) xe_int (fun _ _ => rfl))) (xss_cons (xs_for (vs := [2]) PassesOwn.never rfl (xi_var (pv 0)) (xg_name (i := 2) (by decide) sc_p_least_of.nd rfl (by first | exact Or.inl rfl | exact Or.inr rfl)) (xss_one (xs_if (xt_cmp op_ltA lift_lt (xe_call (ok_p_compared TX) (hr.mono (by decide)) hg (by rfl) TX.m_p_compared TX.F_p_compared.kp (b_p_compared TX) (xa_cons (xe_var (pv 2)) (xa_cons (xe_var (pv 1)) xa_nil))) xe_int (nomark _)) (xss_one (xs_set (i := 1) sc_p_least_of.nd rfl (.inl rfl) (xe_var (pv 2)))) xss_nil))) (xss_one (xs_retV (pv 1)))))) spec_p_least_of
theorem b_p_greatest_of : Binds K TX.d_p_greatest_of ["parts"] [] := TX.F_p_greatest_of.binds (ps := ["parts"]) fun _ _ _ _ _ _ us hl => match us, hl with | [_], _ => rfl
theorem ok_p_greatest_of : FnG P w K mg base 2 TX.f_p_greatest_of TX.d_p_greatest_of ["parts"] (spD K T_p_greatest_of) :=
  fnD (tb := tb_p_greatest_of) TX.F_p_greatest_of sc_p_greatest_of len_p_greatest_of (fun cdv A outer s H Y hr hg =>
    (xss_cons (xs_set (i := 1) sc_p_greatest_of.nd rfl (.inl rfl) (xe_ix (xe_var (pv 0)) xe_int (fun _ _ => rfl))) (xss_cons (xs_for (vs := [2]) PassesOwn.never rfl (xi_var (pv 0)) (xg_name (i := 2) (by decide) sc_p_greatest_of.nd rfl (by first | exact Or.inl rfl | exact Or.inr rfl)) (xss_one (xs_if (xt_cmp op_gtA lift_gt (xe_call (ok_p_compared TX) (hr.mono (by decide)) hg (by rfl) TX.m_p_compared TX.F_p_compared.kp (b_p_compared TX) (xa_cons (xe_var (pv 2)) (xa_cons (xe_var (pv 1)) xa_nil))) xe_int (nomark _)) (xss_one (xs_set (i := 1) sc_p_greatest_of.nd rfl (.inl rfl) (xe_var (pv 2)))) xss_nil))) (xss_one (xs_retV (pv 1)))))) spec_p_greatest_of
theorem b_l_bag : Binds K TX.d_l_bag ["_law_script"] [] := TX.F_l_bag.binds (ps := ["_law_script"]) fun _ _ _ _ _ _ us hl => match us, hl with | [_], _ => rfl
theorem ok_l_bag : FnOk P w K mg base CX0 1 TX.f_l_bag TX.d_l_bag ["_law_script"] (spBag K) := by
  have ma := TX.n_abs
  refine TX.F_l_bag.ok sc_l_bag (fun vs H Q E h => ?_) (fun cdv A outer s H vs Q E hr h => ?_)
  · obtain ⟨a, ns, rfl, _⟩ := h
    rfl
  · obtain ⟨a, ns, rfl, hS, q⟩ := h
    refine ⟨_, pss_one (ps_ret (pe_lst (pa_cons pe_int (pa_cons pe_int (pa_cons pe_int (pa_cons (pe_lc (own := [("_law_cell", 1)]) (g := gName 1) (tt := tYes) rfl sc_l_bag.nd
      (pi_list (pe_slice sl_list (pv 0) po_none (po_some pe_int))) (blkOk_by (own := [("_law_cell", 1)]) (N := ["_law_script", "_law_cell"]) (sc := defScope s_l_bag) (by decide +kernel))
      (fun _ _ _ _ _ => pg_name (i := 1) sc_l_bag.nd rfl (Or.inl rfl)) (fun _ _ _ _ _ => pts_nil) (fun _ _ _ _ _ => pe_callB call_abs (by rfl) ma (by decide +kernel) (pa_cons (pv 1) pa_nil))) pa_nil)))))), ?_⟩
    refine ⟨.ref a, rfl, 63, rfl, a, ns.map V.int, rfl, hS, fun p hp => ?_⟩
    obtain ⟨ms, em⟩ := cut_ints ns none (some 63)
    rw [em]
    have hP : SqL K (L2.upd H p (.lst (ms.map V.int))) p (ms.map V.int) := SqL.of upd_same
    refine ⟨p, rfl, ⟨_, hP⟩, fun D hD => ?_⟩
    have nDp : D ≠ p := fun z => by
      rw [z, upd_same] at hD
      cases hD
    have hD0 : H D = none := by rwa [upd_ne nDp] at hD
    refine lc_list (K := K) (a := p) (xs := ms.map V.int) (fun i H' => Same H H' ∧ H' p = some (.lst (ms.map V.int)) ∧ ∃ os : List Int, H' D = some (.lst (os.map V.int)) ∧ os.length = i) ?_ ?_ ?_ ?_
    · exact ⟨(same_upd hp).trans (same_upd hD), by rw [upd_ne nDp.symm, upd_same], [], upd_same, rfl⟩
    · exact fun i H' _ h => SqL.of h.2.1
    · rintro i x H' hx ⟨s1, e1, os, e2, e3⟩
      rw [List.getElem?_map] at hx
      cases e4 : ms[i]? with
      | none => rw [e4] at hx; cases hx
      | some m =>
        rw [e4] at hx
        cases hx
        refine ⟨rfl, ?_⟩
        refine ⟨.int m, rfl, m, rfl, os.map V.int, e2, ?_, ?_, ?_, os ++ [if m < 0 then -m else m], ?_, ?_⟩
        · have := (List.getElem?_eq_some_iff.mp e4).1
          have h2 : (ms.map V.int).length ≤ 63 := by
            rw [← em]
            unfold cutV
            rw [List.length_take, show HT.sIx (ns.map V.int).length (ns.map V.int).length (some 63) = min 63 (ns.map V.int).length from HT.sIx_nat _ _ 63]
            omega
          rw [List.length_map] at h2 ⊢
          exact small1000 (by omega)
        · exact fun b o h => by
            rw [upd_ne (ne_of_none h hD0)]
            exact s1 b o h
        · rw [upd_ne nDp.symm]
          exact e1
        · rw [upd_same, List.map_append]
          rfl
        · rw [List.length_append, e3]
          rfl
    · rintro H' ⟨s1, e1, os, e2, e3⟩
      refine ⟨by show 4 ≤ sizeLine; decide, fun b hb => ?_⟩
      have nbD : b ≠ D := fun z => by
        rw [z, e2] at hb
        cases hb
      refine q _ b D (s1.trans (same_upd hb)) (s1.free hb) hD0 nbD ⟨0, 1234567891, 0, os, ?_, upd_same, ?_⟩
      · rw [e3, ← em]
        unfold cutV
        rw [List.length_take, show HT.sIx (ns.map V.int).length (ns.map V.int).length (some 63) = min 63 (ns.map V.int).length from HT.sIx_nat _ _ 63]
        omega
      rw [upd_ne nbD.symm]
      exact e2
theorem b_l_take : Binds K TX.d_l_take ["_law_bag_here", "_law_many"] [] := TX.F_l_take.binds (ps := ["_law_bag_here", "_law_many"]) fun _ _ _ _ _ _ us hl => match us, hl with | [_, _], _ => rfl
theorem ok_l_take : FnG P w K mg base 1 TX.f_l_take TX.d_l_take ["_law_bag_here", "_law_many"] (spD K T_l_take) := by
  have mi := TX.n_int
  refine FnOk.g (TX.F_l_take.ok sc_l_take (fun vs H Q E h => ?_) (fun cdv A outer s H vs Q E hr h => ?_))
  · obtain ⟨hs, bg, rs, P', _, _, ar, ⟨m, rfl, _⟩, _⟩ := h
    exact (paired_len ar : vs.length = 2)
  · obtain ⟨hs, bg, rs, P', tr, bn, ar, ⟨m, rfl, m0, m1, hP⟩, kk⟩ := h
    obtain ⟨b, c, hbg, rfl⟩ : ∃ b c, bg = some (b, c) ∧ vs = [.ref b, .int m] := by
      cases ar with
      | cons a1 a2 =>
        cases a2 with
        | cons a2 a3 =>
          cases a3
          obtain ⟨b, c, e1, rfl⟩ := a1
          cases a2
          exact ⟨b, c, e1, rfl⟩
    subst hbg
    obtain ⟨hbs, hcs, hbc, x0, y0, z0, ns, hns, eb, ec⟩ := bn b c rfl
    have ncb : c ≠ b := hbc.symm
    -- how the call ends: the bag's list changed, nothing else
    have fin : ∀ (r : Int) (H' : Hp) (x y z : Int), (∀ a o, a ≠ b → H a = some o → H' a = some o) → H' b = some (.lst [.int x, .int y, .int z, .ref c]) → 0 ≤ r → r < m → Q (.int r) H' := fun r H' x y z hk e h0 h1 =>
      kk (.int r) H' (.dat (.int r)) (hP r h0 h1) (fun a o n h => hk a o (n b c rfl) h) (fun b' c' q => by
        cases q
        exact ⟨hbs, hcs, hbc, x, y, z, ns, hns, e, hk c _ ncb ec⟩) (Dp.int r) rfl
    refine ⟨_, Evl.pss_cut (ps_if (pt_cmpR op_eq (pe_ix ix_list (pv 0) pe_int (fun _ _ => rfl)) pe_int (nomark _))
        (pss_cons (ps_set (i := 2) sc_l_take.nd rfl (.inl rfl) (pe_ix ix_list (pe_op op_cat (pe_slice sl_list (pe_ix ix_list (pv 0) pe_int (fun _ _ => rfl)) (po_some (pe_ix ix_list (pv 0) pe_int (fun _ _ => rfl))) po_none) (pe_lst (pa_cons pe_int pa_nil))) pe_int (fun _ _ => rfl)))
        (pss_cons (ps_augS (pv 0) pe_int get_list pe_int ip_add set_list)
        (Evl.pss_cut (ps_if (pt_cmpR op_ge (pv 2) (pe_op op_pow pe_int pe_int) (nomark _)) (pss_one (ps_asg (pv 2) (pg_sub (pv 0) pe_int set_list))) pss_nil)
        (pss_cons (ps_set (i := 3) sc_l_take.nd rfl (.inl rfl) (pe_op op_add (pe_op op_add (pe_op op_mul (pe_ix ix_list (pv 0) pe_int (fun _ _ => rfl)) pe_int) (pe_op op_mod (pe_callTy call_int1 (by rfl) mi boot_int (pa_cons (pv 2) pa_nil)) pe_int)) (pe_op op_mul pe_int (pe_ix ix_list (pv 0) pe_int (fun _ _ => rfl)))))
        (pss_one (ps_asg (pe_op op_mod (pe_callTy call_int1 (by rfl) mi boot_int (pa_cons (pv 3) pa_nil)) pe_int) (pg_sub (pv 0) pe_int set_list))))))) pss_nil)
      (pss_cons (ps_if (pt_cmpR op_gt (pe_ix ix_list (pv 0) pe_int (fun _ _ => rfl)) pe_int (nomark _))
        (pss_cons (ps_set (i := 4) sc_l_take.nd rfl (.inl rfl) (pe_op op_modA (pe_callTy call_int1 (by rfl) mi boot_int (pa_cons (pe_ix ix_list (pv 0) pe_int (fun _ _ => rfl)) pa_nil)) (pv 1)))
        (pss_cons (ps_asg (pe_op op_fdivA (pe_callTy call_int1 (by rfl) mi boot_int (pa_cons (pe_ix ix_list (pv 0) pe_int (fun _ _ => rfl)) pa_nil)) (pv 1)) (pg_sub (pv 0) pe_int set_list))
        (pss_one (ps_ret (pv 4))))) pss_nil)
      (pss_cons (ps_set (i := 5) sc_l_take.nd rfl (.inl rfl) (pe_op op_mod (pe_callTy call_int1 (by rfl) mi boot_int (pa_cons (pe_op op_mul (pe_op op_add (pe_ix ix_list (pv 0) pe_int (fun _ _ => rfl)) pe_int) pe_int) pa_nil)) pe_int))
      (pss_cons (ps_set (i := 6) sc_l_take.nd rfl (.inl rfl) (pe_op op_mod (pe_callTy call_int1 (by rfl) mi boot_int (pa_cons (pe_op op_mul (pe_op op_mod (pe_callTy call_int1 (by rfl) mi boot_int (pa_cons (pe_op op_mul (pv 5) (pv 5)) pa_nil)) pe_int) pe_int) pa_nil)) pe_int))
      (pss_one (ps_ret (pe_op op_modA (pe_callTy call_int1 (by rfl) mi boot_int (pa_cons (pe_op op_fdiv (pv 6) pe_int) pa_nil)) (pv 1))))))), ?_⟩
    -- the first if: whatever it does, the bag is one
    refine ⟨fun σ' H' => ∃ v2 v3 x y z, σ' = [some (.ref b), some (.int m), v2, v3, none, none, none] ∧ (∀ a o, a ≠ b → H a = some o → H' a = some o) ∧ H' b = some (.lst [.int x, .int y, .int z, .ref c]), ?_, fun σ' H' hM => ?_⟩
    · refine ⟨.ref b, rfl, b, _, 0, .int x0, rfl, rfl, SqL.of eb, rfl, rfl, _, rfl, ite2 (fun h0 => ?_) (fun h0 => ⟨none, none, x0, y0, z0, rfl, fun _ _ _ h => h, eb⟩)⟩
      -- cell = (bag[3][bag[2]:] + [0])[0]
      refine ⟨.ref b, rfl, b, _, 3, .ref c, rfl, rfl, SqL.of eb, rfl, .ref b, rfl, b, _, 2, .int z0, rfl, rfl, SqL.of eb, rfl, z0, rfl, c, _, rfl, SqL.of ec, fun p hp => ⟨by show 1 ≤ sizeLine; decide, fun p2 hp2 => ?_⟩⟩
      have n21 : p2 ≠ p := fun z => by
        rw [z, upd_same] at hp2
        cases hp2
      have hp2' : H p2 = none := by rwa [upd_ne n21] at hp2
      obtain ⟨cell, hcell⟩ := cut_at ns z0
      refine ⟨p, p2, _, _, rfl, rfl, by rw [upd_ne n21.symm, upd_same], upd_same, ?_, fun p3 hp3 => ?_⟩
      · have h1 : (cutV (ns.map V.int) (some z0) none).length ≤ (ns.map V.int).length := by
          unfold cutV
          rw [List.length_take, List.length_drop]
          omega
        have h2 : (ns.map V.int).length ≤ 999 := by rw [List.length_map]; omega
        show _ + 1 ≤ sizeLine
        exact small1000 (n := (cutV (ns.map V.int) (some z0) none).length + 1 ) (by omega) |> Nat.le_of_lt
      have n3 : ∀ a, H a ≠ none → a ≠ p3 := fun a ha z => by
        rw [← z] at hp3
        by_cases h2 : a = p2
        · rw [h2, upd_same] at hp3
          cases hp3
        · rw [upd_ne h2] at hp3
          by_cases h1 : a = p
          · rw [h1, upd_same] at hp3
            cases hp3
          · rw [upd_ne h1] at hp3
            exact ha hp3
      refine ⟨p3, _, 0, .int cell, rfl, rfl, SqL.of upd_same, hcell, ?_⟩
      -- the heap so far: all of H, and three lists
      have s3 : Same H (L2.upd (L2.upd (L2.upd H p (.lst (cutV (ns.map V.int) (some z0) none))) p2 (.lst [.int 0])) p3 (.lst (cutV (ns.map V.int) (some z0) none ++ [.int 0]))) :=
        ((same_upd hp).trans (same_upd hp2)).trans (same_upd hp3)
      generalize (L2.upd (L2.upd (L2.upd H p (.lst (cutV (ns.map V.int) (some z0) none))) p2 (.lst [.int 0])) p3 (.lst (cutV (ns.map V.int) (some z0) none ++ [.int 0]))) = H1 at s3
      have eb1 := s3 _ _ eb
      have ec1 := s3 _ _ ec
      -- bag[2] += 1
      refine ⟨.ref b, rfl, b, _, 2, .int z0, rfl, rfl, SqL.of eb1, rfl, z0, 1, rfl, rfl, b, _, 2, 2, rfl, rfl, eb1, rfl, ?_⟩
      have eb2 : (L2.upd H1 b (.lst [.int x0, .int y0, .int (z0 + 1), .ref c])) b = some (.lst [.int x0, .int y0, .int (z0 + 1), .ref c]) := upd_same
      have k2 : ∀ a o, a ≠ b → H a = some o → (L2.upd H1 b (.lst [.int x0, .int y0, .int (z0 + 1), .ref c])) a = some o := fun a o n h => by
        rw [upd_ne n]
        exact s3 a o h
      refine ⟨fun σ' H' => ∃ x, σ' = [some (.ref b), some (.int m), some (.int cell), none, none, none, none] ∧ (∀ a o, a ≠ b → H a = some o → H' a = some o) ∧ H' b = some (.lst [.int x, .int y0, .int (z0 + 1), .ref c]), ?_, fun σ' H' hM => ?_⟩
      · refine ⟨.int cell, rfl, 10, 18, rfl, rfl, ⟨by decide, by decide, by decide⟩, cell, _, rfl, rfl, _, rfl, ite2 (fun h0 => ?_) (fun h0 => ⟨x0, rfl, k2, eb2⟩)⟩
        refine ⟨.int cell, rfl, .ref b, rfl, b, _, 0, 0, rfl, rfl, eb2, rfl, cell, rfl, fun a o n h => ?_, upd_same⟩
        rw [upd_ne n]
        exact k2 a o n h
      · obtain ⟨x, rfl, hk, hb⟩ := hM
        refine ⟨.ref b, rfl, b, _, 1, .int y0, rfl, rfl, SqL.of hb, rfl, y0, 48271, rfl, rfl, .inr (by decide), .int cell, rfl, .inl ⟨cell, rfl, cell, _, rfl, rfl, (by decide : (0 : Int) < 2147483647), _, _, rfl, rfl, .ref b, rfl, b, _, 2, .int (z0 + 1), rfl, rfl, SqL.of hb, rfl, _, _, rfl, rfl, .inl (by decide), _, _, rfl, rfl, ?_⟩⟩
        refine ⟨.int _, rfl, .inl ⟨_, rfl, _, _, rfl, rfl, (by decide : (0 : Int) < 2147483647), .ref b, rfl, b, _, 1, 1, rfl, rfl, hb, rfl, _, _, x, _, z0 + 1, rfl, fun a o n h => ?_, upd_same⟩⟩
        rw [upd_ne n]
        exact hk a o n h
    · obtain ⟨v2, v3, x, y, z, rfl, hk, hb⟩ := hM
      refine ⟨.ref b, rfl, b, _, 0, .int x, rfl, rfl, SqL.of hb, rfl, x, 0, rfl, rfl, _, rfl, ite2 (fun h0 => ?_) (fun h0 => ?_)⟩
      · -- value = int(bag[0]) % many; bag[0] = int(bag[0]) // many
        refine ⟨.ref b, rfl, b, _, 0, .int x, rfl, rfl, SqL.of hb, rfl, .inl ⟨x, rfl, .int m, rfl, x, m, rfl, rfl, by omega, ?_⟩⟩
        refine ⟨.ref b, rfl, b, _, 0, .int x, rfl, rfl, SqL.of hb, rfl, .inl ⟨x, rfl, .int m, rfl, x, m, rfl, rfl, ⟨by omega, ?_⟩, ?_⟩⟩
        · exact log_small (by omega) (by omega)
        refine ⟨.ref b, rfl, b, _, 0, 0, rfl, rfl, hb, rfl, ?_⟩
        refine ⟨.int (x.fmod m), rfl, fin _ _ (x.fdiv m) y z (fun a o n h => ?_) upd_same (emod_lt' m0).1 (emod_lt' m0).2⟩
        rw [upd_ne n]
        exact hk a o n h
      · have pos : ∀ j : Int, 0 < j → ∀ i : Int, 0 ≤ i % j ∧ i % j < j := fun j h i => ⟨Int.emod_nonneg _ (by omega), Int.emod_lt_of_pos _ h⟩
        have p1 := pos 1000000007 (by decide) ((y + 1) * 39373)
        refine ⟨.ref b, rfl, b, _, 1, .int y, rfl, rfl, SqL.of hb, rfl, y, 1, rfl, rfl, y + 1, 39373, rfl, rfl, .inr (by decide), .inl ⟨_, rfl, _, _, rfl, rfl, (by decide : (0 : Int) < 1000000007), ?_⟩⟩
        refine ⟨.int ((y + 1) * 39373 % 1000000007), rfl, .int ((y + 1) * 39373 % 1000000007), rfl, _, _, rfl, rfl, .inl ⟨by omega, by omega⟩, .inl ⟨_, rfl, _, _, rfl, rfl, (by decide : (0 : Int) < 998244353), ?_⟩⟩
        refine ⟨_, 30011, rfl, rfl, .inr (by decide), .inl ⟨_, rfl, _, _, rfl, rfl, (by decide : (0 : Int) < 998244353), ?_⟩⟩
        exact ⟨.int _, rfl, _, 7, rfl, rfl, ⟨by decide, by decide⟩, .inl ⟨_, rfl, .int m, rfl, _, _, rfl, rfl, by omega, fin _ _ x y z hk hb (emod_lt' m0).1 (emod_lt' m0).2⟩⟩
theorem b_l_one : Binds K TX.d_l_one ["_law_bag_here", "_law_things"] [] := TX.F_l_one.binds (ps := ["_law_bag_here", "_law_things"]) fun _ _ _ _ _ _ us hl => match us, hl with | [_, _], _ => rfl
theorem ok_l_one : FnG P w K mg base 2 TX.f_l_one TX.d_l_one ["_law_bag_here", "_law_things"] (spD K T_l_one) :=
  fnD (tb := tb_l_one) TX.F_l_one sc_l_one len_l_one (fun cdv A outer s H Y hr hg =>
    (xss_one (xs_ret (xe_ix (xe_var (pv 1)) (xe_call (ok_l_take TX) (hr.mono (by decide)) hg (by rfl) TX.m_l_take TX.F_l_take.kp (b_l_take TX) (xa_cons (xe_var (pv 0)) (xa_cons (xe_callB call_len_seq lift_len (by rfl) TX.n_len (by decide +kernel) (xa_cons (xe_var (pv 1)) xa_nil)) xa_nil))) (fun _ _ => rfl))))) spec_l_one
theorem b_l_number : Binds K TX.d_l_number ["_law_bag_here"] [] := TX.F_l_number.binds (ps := ["_law_bag_here"]) fun _ _ _ _ _ _ us hl => match us, hl with | [_], _ => rfl
theorem ok_l_number : FnG P w K mg base 3 TX.f_l_number TX.d_l_number ["_law_bag_here"] (spD K T_l_number) :=
  fnD (tb := tb_l_number) TX.F_l_number sc_l_number len_l_number (fun cdv A outer s H Y hr hg =>
    (xss_one (xs_ret (xe_call (ok_l_one TX) (hr.mono (by decide)) hg (by rfl) TX.m_l_one TX.F_l_one.kp (b_l_one TX) (xa_cons (xe_var (pv 0)) (xa_cons (xe_lst (xa_cons xe_int (xa_cons xe_int (xa_cons (xe_neg xe_int) (xa_cons xe_int (xa_cons xe_int (xa_cons (xe_neg xe_int) (xa_cons (xe_sub (xe_call (ok_l_take TX) (hr.mono (by decide)) hg (by rfl) TX.m_l_take TX.F_l_take.kp (b_l_take TX) (xa_cons (xe_var (pv 0)) (xa_cons xe_int xa_nil))) xe_int) (xa_cons (xe_sub (xe_pow xe_int xe_int) xe_int) (xa_cons (xe_add (xe_pow xe_int xe_int) xe_int) (xa_cons (xe_sub xe_int (xe_pow xe_int xe_int)) xa_nil))))))))))) xa_nil)))))) spec_l_number
theorem b_l_alike : Binds K TX.d_l_alike ["_law_found", "_law_due"] [] := TX.F_l_alike.binds (ps := ["_law_found", "_law_due"]) fun _ _ _ _ _ _ us hl => match us, hl with | [_, _], _ => rfl
theorem ok_l_alike : FnG P w K mg base 1 TX.f_l_alike TX.d_l_alike ["_law_found", "_law_due"] (spD K T_l_alike) :=
  fnD (tb := tb_l_alike) TX.F_l_alike sc_l_alike len_l_alike (fun cdv A outer s H Y hr hg =>
    (xss_one (xs_ret (xe_and (xe_cmp (op_eqA hr.units) lift_eq (xe_var (pv 0)) (xe_var (pv 1)) (nomark _)) (xe_one (xe_cmp (op_eqA hr.units) lift_eq (xe_callB (call_repr hg (hu66 hr)) lift_repr (by rfl) TX.n_repr (by decide +kernel) (xa_cons (xe_var (pv 0)) xa_nil)) (xe_callB (call_repr hg (hu66 hr)) lift_repr (by rfl) TX.n_repr (by decide +kernel) (xa_cons (xe_var (pv 1)) xa_nil)) (nomark _))))))) spec_l_alike
theorem b_l_shared : Binds K TX.d_l_shared ["_law_one_here", "_law_other"] [] := TX.F_l_shared.binds (ps := ["_law_one_here", "_law_other"]) fun _ _ _ _ _ _ us hl => match us, hl with | [_, _], _ => rfl
theorem ok_l_shared : FnG P w K mg base 1 TX.f_l_shared TX.d_l_shared ["_law_one_here", "_law_other"] (spD K T_l_shared) :=
  fnD (tb := tb_l_shared) TX.F_l_shared sc_l_shared len_l_shared (fun cdv A outer s H Y hr hg =>
    (xss_cons (xs_par2 (i := 0) (j := 1) rfl sc_l_shared.nd rfl rfl (by decide) rfl rfl (xa_cons (xe_callB call_abs lift_abs (by rfl) TX.n_abs (by decide +kernel) (xa_cons (xe_var (pv 0)) xa_nil)) (xa_cons (xe_callB call_abs lift_abs (by rfl) TX.n_abs (by decide +kernel) (xa_cons (xe_var (pv 1)) xa_nil)) xa_nil)) (by rfl)) (xss_cons (xs_while PassesOwn.never (xt_cmp (op_neA hr.units) lift_ne (xe_var (pv 1)) xe_int (nomark _)) (xss_one (xs_par2 (i := 0) (j := 1) rfl sc_l_shared.nd rfl rfl (by decide) rfl rfl (xa_cons (xe_var (pv 1)) (xa_cons (xe_mod (xe_callTy call_int1 lift_int (by rfl) TX.n_int (by decide +kernel) (xa_cons (xe_var (pv 0)) xa_nil)) (xe_var (pv 1))) xa_nil)) (by rfl)))) (xss_one (xs_retV (pv 0)))))) spec_l_shared
theorem b_l_ratio : Binds K TX.d_l_ratio ["_law_num", "_law_den"] [] := TX.F_l_ratio.binds (ps := ["_law_num", "_law_den"]) fun _ _ _ _ _ _ us hl => match us, hl with | [_, _], _ => rfl
theorem ok_l_ratio : FnG P w K mg base 2 TX.f_l_ratio TX.d_l_ratio ["_law_num", "_law_den"] (spD K T_l_ratio) :=
  fnD (tb := tb_l_ratio) TX.F_l_ratio sc_l_ratio len_l_ratio (fun cdv A outer s H Y hr hg =>
    (xss_cons (xs_set (i := 2) sc_l_ratio.nd rfl (.inl rfl) (xe_mul (xe_call (ok_l_shared TX) (hr.mono (by decide)) hg (by rfl) TX.m_l_shared TX.F_l_shared.kp (b_l_shared TX) (xa_cons (xe_var (pv 0)) (xa_cons (xe_var (pv 1)) xa_nil))) (xe_if (xt_cmp op_gtA lift_gt (xe_var (pv 1)) xe_int (nomark _)) xe_int (xe_neg xe_int)))) (xss_one (xs_ret (xe_tup (xa_cons (xe_div (xe_callTy call_int1 lift_int (by rfl) TX.n_int (by decide +kernel) (xa_cons (xe_var (pv 0)) xa_nil)) (xe_var (pv 2))) (xa_cons (xe_div (xe_callTy call_int1 lift_int (by rfl) TX.n_int (by decide +kernel) (xa_cons (xe_var (pv 1)) xa_nil)) (xe_var (pv 2))) xa_nil))))))) spec_l_ratio
theorem b_l_minus : Binds K TX.d_l_minus ["_law_one_here", "_law_other"] [] := TX.F_l_minus.binds (ps := ["_law_one_here", "_law_other"]) fun _ _ _ _ _ _ us hl => match us, hl with | [_, _], _ => rfl
theorem ok_l_minus : FnG P w K mg base 3 TX.f_l_minus TX.d_l_minus ["_law_one_here", "_law_other"] (spD K T_l_minus) :=
  fnD (tb := tb_l_minus) TX.F_l_minus sc_l_minus len_l_minus (fun cdv A outer s H Y hr hg =>
    (xss_one (xs_ret (xe_call (ok_l_ratio TX) (hr.mono (by decide)) hg (by rfl) TX.m_l_ratio TX.F_l_ratio.kp (b_l_ratio TX) (xa_cons (xe_sub (xe_mul (xe_ix (xe_var (pv 0)) xe_int (fun _ _ => rfl)) (xe_ix (xe_var (pv 1)) xe_int (fun _ _ => rfl))) (xe_mul (xe_ix (xe_var (pv 1)) xe_int (fun _ _ => rfl)) (xe_ix (xe_var (pv 0)) xe_int (fun _ _ => rfl)))) (xa_cons (xe_mul (xe_ix (xe_var (pv 0)) xe_int (fun _ _ => rfl)) (xe_ix (xe_var (pv 1)) xe_int (fun _ _ => rfl))) xa_nil)))))) spec_l_minus
theorem b_l_by : Binds K TX.d_l_by ["_law_one_here", "_law_other"] [] := TX.F_l_by.binds (ps := ["_law_one_here", "_law_other"]) fun _ _ _ _ _ _ us hl => match us, hl with | [_, _], _ => rfl
theorem ok_l_by : FnG P w K mg base 3 TX.f_l_by TX.d_l_by ["_law_one_here", "_law_other"] (spD K T_l_by) :=
  fnD (tb := tb_l_by) TX.F_l_by sc_l_by len_l_by (fun cdv A outer s H Y hr hg =>
    (xss_one (xs_ret (xe_call (ok_l_ratio TX) (hr.mono (by decide)) hg (by rfl) TX.m_l_ratio TX.F_l_ratio.kp (b_l_ratio TX) (xa_cons (xe_mul (xe_ix (xe_var (pv 0)) xe_int (fun _ _ => rfl)) (xe_ix (xe_var (pv 1)) xe_int (fun _ _ => rfl))) (xa_cons (xe_mul (xe_ix (xe_var (pv 0)) xe_int (fun _ _ => rfl)) (xe_ix (xe_var (pv 1)) xe_int (fun _ _ => rfl))) xa_nil)))))) spec_l_by
theorem b_l_plus : Binds K TX.d_l_plus ["_law_parts"] [] := TX.F_l_plus.binds (ps := ["_law_parts"]) fun _ _ _ _ _ _ us hl => match us, hl with | [_], _ => rfl
theorem ok_l_plus : FnG P w K mg base 3 TX.f_l_plus TX.d_l_plus ["_law_parts"] (spD K T_l_plus) :=
  fnD (tb := tb_l_plus) TX.F_l_plus sc_l_plus len_l_plus (fun cdv A outer s H Y hr hg =>
    (xss_cons (xs_asgT (vs := [1, 2]) (xe_tup (xa_cons xe_int (xa_cons xe_int xa_nil))) (xg_tup rfl (xgs_cons (xg_name (i := 1) (by decide) sc_l_plus.nd rfl (by first | exact Or.inl rfl | exact Or.inr rfl)) (xgs_cons (xg_name (i := 2) (by decide) sc_l_plus.nd rfl (by first | exact Or.inl rfl | exact Or.inr rfl)) xgs_nil)))) (xss_cons (xs_for (vs := [3]) PassesOwn.never rfl (xi_var (pv 0)) (xg_name (i := 3) (by decide) sc_l_plus.nd rfl (by first | exact Or.inl rfl | exact Or.inr rfl)) (xss_one (xs_par2 (i := 1) (j := 2) rfl sc_l_plus.nd rfl rfl (by decide) rfl rfl (xa_cons (xe_add (xe_mul (xe_var (pv 1)) (xe_ix (xe_var (pv 3)) xe_int (fun _ _ => rfl))) (xe_mul (xe_ix (xe_var (pv 3)) xe_int (fun _ _ => rfl)) (xe_var (pv 2)))) (xa_cons (xe_mul (xe_var (pv 2)) (xe_ix (xe_var (pv 3)) xe_int (fun _ _ => rfl))) xa_nil)) (by rfl)))) (xss_one (xs_ret (xe_call (ok_l_ratio TX) (hr.mono (by decide)) hg (by rfl) TX.m_l_ratio TX.F_l_ratio.kp (b_l_ratio TX) (xa_cons (xe_var (pv 1)) (xa_cons (xe_var (pv 2)) xa_nil)))))))) spec_l_plus
theorem b_l_below : Binds K TX.d_l_below ["_law_one_here", "_law_other"] [] := TX.F_l_below.binds (ps := ["_law_one_here", "_law_other"]) fun _ _ _ _ _ _ us hl => match us, hl with | [_, _], _ => rfl
theorem ok_l_below : FnG P w K mg base 1 TX.f_l_below TX.d_l_below ["_law_one_here", "_law_other"] (spD K T_l_below) :=
  fnD (tb := tb_l_below) TX.F_l_below sc_l_below len_l_below (fun cdv A outer s H Y hr hg =>
    (xss_one (xs_ret (xe_cmp op_ltA lift_lt (xe_mul (xe_ix (xe_var (pv 0)) xe_int (fun _ _ => rfl)) (xe_ix (xe_var (pv 1)) xe_int (fun _ _ => rfl))) (xe_mul (xe_ix (xe_var (pv 1)) xe_int (fun _ _ => rfl)) (xe_ix (xe_var (pv 0)) xe_int (fun _ _ => rfl))) (nomark _))))) spec_l_below
theorem b_l_over : Binds K TX.d_l_over ["_law_one_here", "_law_other"] [] := TX.F_l_over.binds (ps := ["_law_one_here", "_law_other"]) fun _ _ _ _ _ _ us hl => match us, hl with | [_, _], _ => rfl
theorem ok_l_over : FnG P w K mg base 3 TX.f_l_over TX.d_l_over ["_law_one_here", "_law_other"] (spD K T_l_over) :=
  fnD (tb := tb_l_over) TX.F_l_over sc_l_over len_l_over (fun cdv A outer s H Y hr hg =>
    (xss_one (xs_ret (xe_call (ok_l_ratio TX) (hr.mono (by decide)) hg (by rfl) TX.m_l_ratio TX.F_l_ratio.kp (b_l_ratio TX) (xa_cons (xe_mul (xe_ix (xe_var (pv 0)) xe_int (fun _ _ => rfl)) (xe_ix (xe_var (pv 1)) xe_int (fun _ _ => rfl))) (xa_cons (xe_mul (xe_ix (xe_var (pv 0)) xe_int (fun _ _ => rfl)) (xe_ix (xe_var (pv 1)) xe_int (fun _ _ => rfl))) xa_nil)))))) spec_l_over
theorem b_l_are_couples_right : Binds K TX.d_l_are_couples_right ["_law_one_here", "_law_other"] [] := TX.F_l_are_couples_right.binds (ps := ["_law_one_here", "_law_other"]) fun _ _ _ _ _ _ us hl => match us, hl with | [_, _], _ => rfl
theorem ok_l_are_couples_right : FnG P w K mg base 4 TX.f_l_are_couples_right TX.d_l_are_couples_right ["_law_one_here", "_law_other"] (spD K T_l_are_couples_right) :=
  fnD (tb := tb_l_are_couples_right) TX.F_l_are_couples_right sc_l_are_couples_right len_l_are_couples_right (fun cdv A outer s H Y hr hg =>
    (xss_cons (xs_set (i := 2) sc_l_are_couples_right.nd rfl (.inl rfl) (xe_lst (xa_cons (xe_call (ok_p_less TX) (hr.mono (by decide)) hg (by rfl) TX.m_p_less TX.F_p_less.kp (b_p_less TX) (xa_cons (xe_var (pv 0)) (xa_cons (xe_var (pv 1)) xa_nil))) (xa_cons (xe_call (ok_p_times TX) (hr.mono (by decide)) hg (by rfl) TX.m_p_times TX.F_p_times.kp (b_p_times TX) (xa_cons (xe_var (pv 0)) (xa_cons (xe_var (pv 1)) xa_nil))) (xa_cons (xe_call (ok_p_added TX) (hr.mono (by decide)) hg (by rfl) TX.m_p_added TX.F_p_added.kp (b_p_added TX) (xa_cons (xe_lst (xa_cons (xe_var (pv 0)) (xa_cons (xe_var (pv 1)) xa_nil))) xa_nil)) (xa_cons (xe_call (ok_p_added TX) (hr.mono (by decide)) hg (by rfl) TX.m_p_added TX.F_p_added.kp (b_p_added TX) (xa_cons (xe_tup (xa_cons (xe_var (pv 0)) (xa_cons (xe_var (pv 1)) (xa_cons (xe_var (pv 0)) xa_nil)))) xa_nil)) xa_nil)))))) (xss_cons (xs_set (i := 3) sc_l_are_couples_right.nd rfl (.inl rfl) (xe_lst (xa_cons (xe_call (ok_l_minus TX) (hr.mono (by decide)) hg (by rfl) TX.m_l_minus TX.F_l_minus.kp (b_l_minus TX) (xa_cons (xe_var (pv 0)) (xa_cons (xe_var (pv 1)) xa_nil))) (xa_cons (xe_call (ok_l_by TX) (hr.mono (by decide)) hg (by rfl) TX.m_l_by TX.F_l_by.kp (b_l_by TX) (xa_cons (xe_var (pv 0)) (xa_cons (xe_var (pv 1)) xa_nil))) (xa_cons (xe_call (ok_l_plus TX) (hr.mono (by decide)) hg (by rfl) TX.m_l_plus TX.F_l_plus.kp (b_l_plus TX) (xa_cons (xe_lst (xa_cons (xe_var (pv 0)) (xa_cons (xe_var (pv 1)) xa_nil))) xa_nil)) (xa_cons (xe_call (ok_l_plus TX) (hr.mono (by decide)) hg (by rfl) TX.m_l_plus TX.F_l_plus.kp (b_l_plus TX) (xa_cons (xe_lst (xa_cons (xe_var (pv 0)) (xa_cons (xe_var (pv 1)) (xa_cons (xe_var (pv 0)) xa_nil)))) xa_nil)) xa_nil)))))) (xss_cons (xs_set (i := 2) sc_l_are_couples_right.nd rfl (.inl rfl) (xe_add (xe_var (pv 2)) (xe_lst (xa_cons (xe_call (ok_p_compared TX) (hr.mono (by decide)) hg (by rfl) TX.m_p_compared TX.F_p_compared.kp (b_p_compared TX) (xa_cons (xe_var (pv 0)) (xa_cons (xe_var (pv 1)) xa_nil))) (xa_cons (xe_call (ok_p_compared TX) (hr.mono (by decide)) hg (by rfl) TX.m_p_compared TX.F_p_compared.kp (b_p_compared TX) (xa_cons (xe_var (pv 0)) (xa_cons (xe_var (pv 0)) xa_nil))) xa_nil))))) (xss_cons (xs_set (i := 3) sc_l_are_couples_right.nd rfl (.inl rfl) (xe_add (xe_var (pv 3)) (xe_lst (xa_cons (xe_sub (xe_callTy call_int1 lift_int (by rfl) TX.n_int (by decide +kernel) (xa_cons (xe_call (ok_l_below TX) (hr.mono (by decide)) hg (by rfl) TX.m_l_below TX.F_l_below.kp (b_l_below TX) (xa_cons (xe_var (pv 1)) (xa_cons (xe_var (pv 0)) xa_nil))) xa_nil)) (xe_callTy call_int1 lift_int (by rfl) TX.n_int (by decide +kernel) (xa_cons (xe_call (ok_l_below TX) (hr.mono (by decide)) hg (by rfl) TX.m_l_below TX.F_l_below.kp (b_l_below TX) (xa_cons (xe_var (pv 0)) (xa_cons (xe_var (pv 1)) xa_nil))) xa_nil))) (xa_cons xe_int xa_nil))))) (xss_cons (xs_if (xt_cmp (op_neA hr.units) lift_ne (xe_ix (xe_var (pv 1)) xe_int (fun _ _ => rfl)) xe_int (nomark _)) (xss_cons (xs_app (i := 2) (pv 2) (xe_call (ok_p_over TX) (hr.mono (by decide)) hg (by rfl) TX.m_p_over TX.F_p_over.kp (b_p_over TX) (xa_cons (xe_var (pv 0)) (xa_cons (xe_var (pv 1)) xa_nil)))) (xss_one (xs_app (i := 3) (pv 3) (xe_call (ok_l_over TX) (hr.mono (by decide)) hg (by rfl) TX.m_l_over TX.F_l_over.kp (b_l_over TX) (xa_cons (xe_var (pv 0)) (xa_cons (xe_var (pv 1)) xa_nil)))))) xss_nil) (xss_one (xs_ret (xe_call (ok_l_alike TX) (hr.mono (by decide)) hg (by rfl) TX.m_l_alike TX.F_l_alike.kp (b_l_alike TX) (xa_cons (xe_var (pv 2)) (xa_cons (xe_var (pv 3)) xa_nil))))))))))) spec_l_are_couples_right
theorem b_l_least_den : Binds K TX.d_l_least_den ["_law_parts"] [] := TX.F_l_least_den.binds (ps := ["_law_parts"]) fun _ _ _ _ _ _ us hl => match us, hl with | [_], _ => rfl
theorem ok_l_least_den : FnG P w K mg base 2 TX.f_l_least_den TX.d_l_least_den ["_law_parts"] (spD K T_l_least_den) :=
  fnD (tb := tb_l_least_den) TX.F_l_least_den sc_l_least_den len_l_least_den (fun cdv A outer s H Y hr hg =>
    (xss_cons (xs_set (i := 1) sc_l_least_den.nd rfl (.inl rfl) xe_int) (xss_cons (xs_for (vs := [2, 3]) PassesOwn.never rfl (xi_var (pv 0)) (xg_tup rfl (xgs_cons (xg_name (i := 2) (by decide) sc_l_least_den.nd rfl (by first | exact Or.inl rfl | exact Or.inr rfl)) (xgs_cons (xg_name (i := 3) (by decide) sc_l_least_den.nd rfl (by first | exact Or.inl rfl | exact Or.inr rfl)) xgs_nil))) (xss_one (xs_set (i := 1) sc_l_least_den.nd rfl (.inl rfl) (xe_mul (xe_div (xe_callTy call_int1 lift_int (by rfl) TX.n_int (by decide +kernel) (xa_cons (xe_var (pv 1)) xa_nil)) (xe_call (ok_l_shared TX) (hr.mono (by decide)) hg (by rfl) TX.m_l_shared TX.F_l_shared.kp (b_l_shared TX) (xa_cons (xe_var (pv 1)) (xa_cons (xe_var (pv 3)) xa_nil)))) (xe_var (pv 3)))))) (xss_one (xs_retV (pv 1)))))) spec_l_least_den
theorem b_l_lowest : Binds K TX.d_l_lowest ["_law_parts"] [] := TX.F_l_lowest.binds (ps := ["_law_parts"]) fun _ _ _ _ _ _ us hl => match us, hl with | [_], _ => rfl
theorem ok_l_lowest : FnG P w K mg base 2 TX.f_l_lowest TX.d_l_lowest ["_law_parts"] (spD K T_l_lowest) :=
  fnD (tb := tb_l_lowest) TX.F_l_lowest sc_l_lowest len_l_lowest (fun cdv A outer s H Y hr hg =>
    (xss_cons (xs_set (i := 1) sc_l_lowest.nd rfl (.inl rfl) (xe_ix (xe_var (pv 0)) xe_int (fun _ _ => rfl))) (xss_cons (xs_for (vs := [2]) PassesOwn.never rfl (xi_var (pv 0)) (xg_name (i := 2) (by decide) sc_l_lowest.nd rfl (by first | exact Or.inl rfl | exact Or.inr rfl)) (xss_one (xs_set (i := 1) sc_l_lowest.nd rfl (.inl rfl) (xe_if (xt_val (xe_call (ok_l_below TX) (hr.mono (by decide)) hg (by rfl) TX.m_l_below TX.F_l_below.kp (b_l_below TX) (xa_cons (xe_var (pv 2)) (xa_cons (xe_var (pv 1)) xa_nil)))) (xe_var (pv 2)) (xe_var (pv 1)))))) (xss_one (xs_retV (pv 1)))))) spec_l_lowest
theorem b_l_highest : Binds K TX.d_l_highest ["_law_parts"] [] := TX.F_l_highest.binds (ps := ["_law_parts"]) fun _ _ _ _ _ _ us hl => match us, hl with | [_], _ => rfl
theorem ok_l_highest : FnG P w K mg base 2 TX.f_l_highest TX.d_l_highest ["_law_parts"] (spD K T_l_highest) :=
  fnD (tb := tb_l_highest) TX.F_l_highest sc_l_highest len_l_highest (fun cdv A outer s H Y hr hg =>
    (xss_cons (xs_set (i := 1) sc_l_highest.nd rfl (.inl rfl) (xe_ix (xe_var (pv 0)) xe_int (fun _ _ => rfl))) (xss_cons (xs_for (vs := [2]) PassesOwn.never rfl (xi_var (pv 0)) (xg_name (i := 2) (by decide) sc_l_highest.nd rfl (by first | exact Or.inl rfl | exact Or.inr rfl)) (xss_one (xs_set (i := 1) sc_l_highest.nd rfl (.inl rfl) (xe_if (xt_val (xe_call (ok_l_below TX) (hr.mono (by decide)) hg (by rfl) TX.m_l_below TX.F_l_below.kp (b_l_below TX) (xa_cons (xe_var (pv 1)) (xa_cons (xe_var (pv 2)) xa_nil)))) (xe_var (pv 2)) (xe_var (pv 1)))))) (xss_one (xs_retV (pv 1)))))) spec_l_highest
theorem ok_law : FnG P w K mg base 5 TX.f_p_law TX.d_p_law ["_law_script"] (spLaw K) := by
  refine fnG_of TX.F_p_law sc_p_law (fun vs H Q E ⟨a, ns, e, _⟩ => by rw [e]; rfl) fun cdv A outer s H vs Q hr hg ⟨a, ns, e, hS, q⟩ => ?_
  subst e
  refine ⟨_, pss_cons (ps_asg (pe_tup (pa_cons (pe_call (ok_l_bag TX) (hr.mono (by decide)) (by rfl) TX.m_l_bag TX.F_l_bag.kp (b_l_bag TX) .nil pass0 (pa_cons (pv 0) pa_nil)) (pa_cons (pe_lst pa_nil) pa_nil))) (pg_tup rfl (pgs_cons (pg_name (i := 1) sc_p_law.nd rfl (by first | exact Or.inl rfl | exact Or.inr rfl)) (pgs_cons (pg_name (i := 2) sc_p_law.nd rfl (by first | exact Or.inl rfl | exact Or.inr rfl)) pgs_nil)))) (pss_any (t := tb_law) fun Y => (xss_cons (xs_for (vs := [3]) PassesOwn.never rfl (xi_range (by rfl) TX.n_range (xa_cons xe_int xa_nil)) (xg_name (i := 3) (by decide) sc_p_law.nd rfl (by first | exact Or.inl rfl | exact Or.inr rfl)) (xss_cons (xs_par2 (i := 4) (j := 5) rfl sc_p_law.nd rfl rfl (by decide) rfl rfl (xa_cons (xe_call (ok_l_number TX) (hr.mono (by decide)) hg (by rfl) TX.m_l_number TX.F_l_number.kp (b_l_number TX) (xa_cons (xe_var (pv 1)) xa_nil)) (xa_cons (xe_call (ok_l_one TX) (hr.mono (by decide)) hg (by rfl) TX.m_l_one TX.F_l_one.kp (b_l_one TX) (xa_cons (xe_var (pv 1)) (xa_cons (xe_lst (xa_cons xe_int (xa_cons xe_int (xa_cons xe_int (xa_cons (xe_neg xe_int) (xa_cons xe_int (xa_cons (xe_sub (xe_pow xe_int xe_int) xe_int) (xa_cons (xe_sub xe_int (xe_pow xe_int xe_int)) (xa_cons xe_int xa_nil))))))))) xa_nil))) xa_nil)) (by rfl)) (xss_cons (xs_if (xt_not (xt_val (xe_call (ok_l_alike TX) (hr.mono (by decide)) hg (by rfl) TX.m_l_alike TX.F_l_alike.kp (b_l_alike TX) (xa_cons (xe_call (ok_p_reduced TX) (hr.mono (by decide)) hg (by rfl) TX.m_p_reduced TX.F_p_reduced.kp (b_p_reduced TX) (xa_cons (xe_var (pv 4)) (xa_cons (xe_var (pv 5)) xa_nil))) (xa_cons (xe_call (ok_l_ratio TX) (hr.mono (by decide)) hg (by rfl) TX.m_l_ratio TX.F_l_ratio.kp (b_l_ratio TX) (xa_cons (xe_var (pv 4)) (xa_cons (xe_var (pv 5)) xa_nil))) xa_nil))))) (xss_one (xs_ret xe_bl)) xss_nil) (xss_cons (xs_app (i := 2) (pv 2) (xe_call (ok_l_ratio TX) (hr.mono (by decide)) hg (by rfl) TX.m_l_ratio TX.F_l_ratio.kp (b_l_ratio TX) (xa_cons (xe_var (pv 4)) (xa_cons (xe_var (pv 5)) xa_nil)))) (xss_cons (xs_if (xt_not (xt_val (xe_call (ok_l_are_couples_right TX) (hr.mono (by decide)) hg (by rfl) TX.m_l_are_couples_right TX.F_l_are_couples_right.kp (b_l_are_couples_right TX) (xa_cons (xe_ix (xe_var (pv 2)) (xe_neg xe_int) (fun _ _ => rfl)) (xa_cons (xe_call (ok_l_one TX) (hr.mono (by decide)) hg (by rfl) TX.m_l_one TX.F_l_one.kp (b_l_one TX) (xa_cons (xe_var (pv 1)) (xa_cons (xe_var (pv 2)) xa_nil))) xa_nil))))) (xss_one (xs_ret xe_bl)) xss_nil) (xss_cons (xs_setLc (i := 6) (own := [("_law_k", 10)]) rfl sc_p_law.nd rfl rfl (sw_true rfl rfl rfl (by decide +kernel)) (xi_range (by rfl) TX.n_range (xa_cons (xe_call (ok_l_take TX) (hr.mono (by decide)) hg (by rfl) TX.m_l_take TX.F_l_take.kp (b_l_take TX) (xa_cons (xe_var (pv 1)) (xa_cons xe_int xa_nil))) xa_nil)) (blkOk_by (own := [("_law_k", 10)]) (N := N_p_law) (sc := defScope s_p_law) (by decide +kernel)) (fun _ _ _ _ _ => (xg_name (i := 10) (by decide) sc_p_law.nd rfl (by first | exact Or.inl rfl | exact Or.inr rfl))) (fun _ _ _ _ _ => xts_nil) (fun _ _ _ _ _ => (xe_call (ok_l_one TX) (hr.mono (by decide)) hg (by rfl) TX.m_l_one TX.F_l_one.kp (b_l_one TX) (xa_cons (xe_var (pv 1)) (xa_cons (xe_var (pv 2)) xa_nil))))) (xss_cons (xs_set (i := 7) sc_p_law.nd rfl (.inl rfl) (xe_callB (call_repr hg (hu66 hr)) lift_repr (by rfl) TX.n_repr (by decide +kernel) (xa_cons (xe_var (pv 6)) xa_nil))) (xss_cons (xs_par2 (i := 8) (j := 9) rfl sc_p_law.nd rfl rfl (by decide) rfl rfl (xa_cons (xe_lst (xa_cons (xe_call (ok_p_added TX) (hr.mono (by decide)) hg (by rfl) TX.m_p_added TX.F_p_added.kp (b_p_added TX) (xa_cons (xe_var (pv 6)) xa_nil)) (xa_cons (xe_call (ok_p_added TX) (hr.mono (by decide)) hg (by rfl) TX.m_p_added TX.F_p_added.kp (b_p_added TX) (xa_cons (xe_callTy call_tuple_of lift_tuple (by rfl) TX.n_tuple (by decide +kernel) (xa_cons (xe_var (pv 6)) xa_nil)) xa_nil)) (xa_cons (xe_call (ok_p_common_den TX) (hr.mono (by decide)) hg (by rfl) TX.m_p_common_den TX.F_p_common_den.kp (b_p_common_den TX) (xa_cons (xe_var (pv 6)) xa_nil)) (xa_cons (xe_call (ok_p_common_den TX) (hr.mono (by decide)) hg (by rfl) TX.m_p_common_den TX.F_p_common_den.kp (b_p_common_den TX) (xa_cons (xe_callTy call_tuple_of lift_tuple (by rfl) TX.n_tuple (by decide +kernel) (xa_cons (xe_var (pv 6)) xa_nil)) xa_nil)) xa_nil))))) (xa_cons (xe_call (ok_l_plus TX) (hr.mono (by decide)) hg (by rfl) TX.m_l_plus TX.F_l_plus.kp (b_l_plus TX) (xa_cons (xe_var (pv 6)) xa_nil)) xa_nil)) (by rfl)) (xss_cons (xs_if (xt_not (xt_val (xe_call (ok_l_alike TX) (hr.mono (by decide)) hg (by rfl) TX.m_l_alike TX.F_l_alike.kp (b_l_alike TX) (xa_cons (xe_var (pv 8)) (xa_cons (xe_lst (xa_cons (xe_var (pv 9)) (xa_cons (xe_var (pv 9)) (xa_cons (xe_call (ok_l_least_den TX) (hr.mono (by decide)) hg (by rfl) TX.m_l_least_den TX.F_l_least_den.kp (b_l_least_den TX) (xa_cons (xe_var (pv 6)) xa_nil)) (xa_cons (xe_call (ok_l_least_den TX) (hr.mono (by decide)) hg (by rfl) TX.m_l_least_den TX.F_l_least_den.kp (b_l_least_den TX) (xa_cons (xe_var (pv 6)) xa_nil)) xa_nil))))) xa_nil))))) (xss_one (xs_ret xe_bl)) xss_nil) (xss_cons (xs_if (xt_cmp (op_neA hr.units) lift_ne (xe_var (pv 6)) (xe_lst xa_nil) (nomark _)) (xss_cons (xs_set (i := 8) sc_p_law.nd rfl (.inl rfl) (xe_lst (xa_cons (xe_call (ok_p_least_of TX) (hr.mono (by decide)) hg (by rfl) TX.m_p_least_of TX.F_p_least_of.kp (b_p_least_of TX) (xa_cons (xe_var (pv 6)) xa_nil)) (xa_cons (xe_call (ok_p_least_of TX) (hr.mono (by decide)) hg (by rfl) TX.m_p_least_of TX.F_p_least_of.kp (b_p_least_of TX) (xa_cons (xe_callTy call_tuple_of lift_tuple (by rfl) TX.n_tuple (by decide +kernel) (xa_cons (xe_var (pv 6)) xa_nil)) xa_nil)) (xa_cons (xe_call (ok_p_greatest_of TX) (hr.mono (by decide)) hg (by rfl) TX.m_p_greatest_of TX.F_p_greatest_of.kp (b_p_greatest_of TX) (xa_cons (xe_var (pv 6)) xa_nil)) (xa_cons (xe_call (ok_p_greatest_of TX) (hr.mono (by decide)) hg (by rfl) TX.m_p_greatest_of TX.F_p_greatest_of.kp (b_p_greatest_of TX) (xa_cons (xe_callTy call_tuple_of lift_tuple (by rfl) TX.n_tuple (by decide +kernel) (xa_cons (xe_var (pv 6)) xa_nil)) xa_nil)) xa_nil)))))) (xss_one (xs_if (xt_not (xt_val (xe_call (ok_l_alike TX) (hr.mono (by decide)) hg (by rfl) TX.m_l_alike TX.F_l_alike.kp (b_l_alike TX) (xa_cons (xe_var (pv 8)) (xa_cons (xe_add (xe_mul (xe_lst (xa_cons (xe_call (ok_l_lowest TX) (hr.mono (by decide)) hg (by rfl) TX.m_l_lowest TX.F_l_lowest.kp (b_l_lowest TX) (xa_cons (xe_var (pv 6)) xa_nil)) xa_nil)) xe_int) (xe_mul (xe_lst (xa_cons (xe_call (ok_l_highest TX) (hr.mono (by decide)) hg (by rfl) TX.m_l_highest TX.F_l_highest.kp (b_l_highest TX) (xa_cons (xe_var (pv 6)) xa_nil)) xa_nil)) xe_int)) xa_nil))))) (xss_one (xs_ret xe_bl)) xss_nil))) xss_nil) (xss_one (xs_if (xt_cmp (op_neA hr.units) lift_ne (xe_callB (call_repr hg (hu66 hr)) lift_repr (by rfl) TX.n_repr (by decide +kernel) (xa_cons (xe_var (pv 6)) xa_nil)) (xe_var (pv 7)) (nomark _)) (xss_one (xs_ret xe_bl)) xss_nil)))))))))))) (xss_one (xs_ret xe_bl)))), ?_⟩
  exact ⟨.ref a, rfl, a, ns, rfl, hS, fun H1 b c s1 nb nc bc hb => ⟨Nat.zero_le _, fun l hl => ⟨(by show 2 ≤ sizeLine; decide), fun t ht => ⟨t, _, rfl, SqT.of upd_same, rfl, .ref b, [.ref l], rfl, .ref l, [], rfl, rfl, law_open2 (n := 11) (i := 1) (j := 2) rfl (by decide) bc hb hl ht spec_law rfl q⟩⟩⟩⟩
end
theorem all_mk {l : PySem.W.OpenLaw} {w : World} {K : PySem.W.Frag} {h : Heap} {mg : Str → Option Value} {fa : Addr} (X : K.In h) (G : h.Ns mainGlobals mg) (hfa : mg "law" = some (.ref fa))
    {f0 : Addr} {od0 an0 : Option Addr} {sl0 : Array (Option Value)} {oc0 kV0 dc0 pm0 cd0 ct0 : Value}
    {f1 : Addr} {od1 an1 : Option Addr} {sl1 : Array (Option Value)} {oc1 kV1 dc1 pm1 cd1 ct1 : Value}
    {f2 : Addr} {od2 an2 : Option Addr} {sl2 : Array (Option Value)} {oc2 kV2 dc2 pm2 cd2 ct2 : Value}
    {f3 : Addr} {od3 an3 : Option Addr} {sl3 : Array (Option Value)} {oc3 kV3 dc3 pm3 cd3 ct3 : Value}
    {f4 : Addr} {od4 an4 : Option Addr} {sl4 : Array (Option Value)} {oc4 kV4 dc4 pm4 cd4 ct4 : Value}
    {f5 : Addr} {od5 an5 : Option Addr} {sl5 : Array (Option Value)} {oc5 kV5 dc5 pm5 cd5 ct5 : Value}
    {f6 : Addr} {od6 an6 : Option Addr} {sl6 : Array (Option Value)} {oc6 kV6 dc6 pm6 cd6 ct6 : Value}
    {f7 : Addr} {od7 an7 : Option Addr} {sl7 : Array (Option Value)} {oc7 kV7 dc7 pm7 cd7 ct7 : Value}
    {f8 : Addr} {od8 an8 : Option Addr} {sl8 : Array (Option Value)} {oc8 kV8 dc8 pm8 cd8 ct8 : Value}
    {f9 : Addr} {od9 an9 : Option Addr} {sl9 : Array (Option Value)} {oc9 kV9 dc9 pm9 cd9 ct9 : Value}
    {f10 : Addr} {od10 an10 : Option Addr} {sl10 : Array (Option Value)} {oc10 kV10 dc10 pm10 cd10 ct10 : Value}
    {f11 : Addr} {od11 an11 : Option Addr} {sl11 : Array (Option Value)} {oc11 kV11 dc11 pm11 cd11 ct11 : Value}
    {f12 : Addr} {od12 an12 : Option Addr} {sl12 : Array (Option Value)} {oc12 kV12 dc12 pm12 cd12 ct12 : Value}
    {f13 : Addr} {od13 an13 : Option Addr} {sl13 : Array (Option Value)} {oc13 kV13 dc13 pm13 cd13 ct13 : Value}
    {f14 : Addr} {od14 an14 : Option Addr} {sl14 : Array (Option Value)} {oc14 kV14 dc14 pm14 cd14 ct14 : Value}
    {f15 : Addr} {od15 an15 : Option Addr} {sl15 : Array (Option Value)} {oc15 kV15 dc15 pm15 cd15 ct15 : Value}
    {f16 : Addr} {od16 an16 : Option Addr} {sl16 : Array (Option Value)} {oc16 kV16 dc16 pm16 cd16 ct16 : Value}
    {f17 : Addr} {od17 an17 : Option Addr} {sl17 : Array (Option Value)} {oc17 kV17 dc17 pm17 cd17 ct17 : Value}
    {f18 : Addr} {od18 an18 : Option Addr} {sl18 : Array (Option Value)} {oc18 kV18 dc18 pm18 cd18 ct18 : Value}
    {f19 : Addr} {od19 an19 : Option Addr} {sl19 : Array (Option Value)} {oc19 kV19 dc19 pm19 cd19 ct19 : Value}
    {f20 : Addr} {od20 an20 : Option Addr} {sl20 : Array (Option Value)} {oc20 kV20 dc20 pm20 cd20 ct20 : Value}
    {f21 : Addr} {od21 an21 : Option Addr} {sl21 : Array (Option Value)} {oc21 kV21 dc21 pm21 cd21 ct21 : Value}
    {f22 : Addr} {od22 an22 : Option Addr} {sl22 : Array (Option Value)} {oc22 kV22 dc22 pm22 cd22 ct22 : Value}
    {f23 : Addr} {od23 an23 : Option Addr} {sl23 : Array (Option Value)} {oc23 kV23 dc23 pm23 cd23 ct23 : Value}
    {f24 : Addr} {od24 an24 : Option Addr} {sl24 : Array (Option Value)} {oc24 kV24 dc24 pm24 cd24 ct24 : Value}
    {f25 : Addr} {od25 an25 : Option Addr} {sl25 : Array (Option Value)} {oc25 kV25 dc25 pm25 cd25 ct25 : Value}
    (a0 : PySem.W.nsIn K mainGlobals "reduced" = some (some (.ref f0))) (l0 : K.lookup f0 = some ⟨oc0, od0, .func (PySem.W.fnOf "reduced" "reduced" (defArgs s_p_reduced) (defBody s_p_reduced) (defScope s_p_reduced) .none kV0 dc0 pm0 an0 cd0 ct0), sl0⟩) (c0 : PySem.W.codeIn K cd0 "reduced" = true) (k0 : PySem.W.keepIn K (.ref f0) = true)
    (a1 : PySem.W.nsIn K mainGlobals "common_den" = some (some (.ref f1))) (l1 : K.lookup f1 = some ⟨oc1, od1, .func (PySem.W.fnOf "common_den" "common_den" (defArgs s_p_common_den) (defBody s_p_common_den) (defScope s_p_common_den) .none kV1 dc1 pm1 an1 cd1 ct1), sl1⟩) (c1 : PySem.W.codeIn K cd1 "common_den" = true) (k1 : PySem.W.keepIn K (.ref f1) = true)
    (a2 : PySem.W.nsIn K mainGlobals "added" = some (some (.ref f2))) (l2 : K.lookup f2 = some ⟨oc2, od2, .func (PySem.W.fnOf "added" "added" (defArgs s_p_added) (defBody s_p_added) (defScope s_p_added) .none kV2 dc2 pm2 an2 cd2 ct2), sl2⟩) (c2 : PySem.W.codeIn K cd2 "added" = true) (k2 : PySem.W.keepIn K (.ref f2) = true)
    (a3 : PySem.W.nsIn K mainGlobals "less" = some (some (.ref f3))) (l3 : K.lookup f3 = some ⟨oc3, od3, .func (PySem.W.fnOf "less" "less" (defArgs s_p_less) (defBody s_p_less) (defScope s_p_less) .none kV3 dc3 pm3 an3 cd3 ct3), sl3⟩) (c3 : PySem.W.codeIn K cd3 "less" = true) (k3 : PySem.W.keepIn K (.ref f3) = true)
    (a4 : PySem.W.nsIn K mainGlobals "times" = some (some (.ref f4))) (l4 : K.lookup f4 = some ⟨oc4, od4, .func (PySem.W.fnOf "times" "times" (defArgs s_p_times) (defBody s_p_times) (defScope s_p_times) .none kV4 dc4 pm4 an4 cd4 ct4), sl4⟩) (c4 : PySem.W.codeIn K cd4 "times" = true) (k4 : PySem.W.keepIn K (.ref f4) = true)
    (a5 : PySem.W.nsIn K mainGlobals "over" = some (some (.ref f5))) (l5 : K.lookup f5 = some ⟨oc5, od5, .func (PySem.W.fnOf "over" "over" (defArgs s_p_over) (defBody s_p_over) (defScope s_p_over) .none kV5 dc5 pm5 an5 cd5 ct5), sl5⟩) (c5 : PySem.W.codeIn K cd5 "over" = true) (k5 : PySem.W.keepIn K (.ref f5) = true)
    (a6 : PySem.W.nsIn K mainGlobals "compared" = some (some (.ref f6))) (l6 : K.lookup f6 = some ⟨oc6, od6, .func (PySem.W.fnOf "compared" "compared" (defArgs s_p_compared) (defBody s_p_compared) (defScope s_p_compared) .none kV6 dc6 pm6 an6 cd6 ct6), sl6⟩) (c6 : PySem.W.codeIn K cd6 "compared" = true) (k6 : PySem.W.keepIn K (.ref f6) = true)
    (a7 : PySem.W.nsIn K mainGlobals "least_of" = some (some (.ref f7))) (l7 : K.lookup f7 = some ⟨oc7, od7, .func (PySem.W.fnOf "least_of" "least_of" (defArgs s_p_least_of) (defBody s_p_least_of) (defScope s_p_least_of) .none kV7 dc7 pm7 an7 cd7 ct7), sl7⟩) (c7 : PySem.W.codeIn K cd7 "least_of" = true) (k7 : PySem.W.keepIn K (.ref f7) = true)
    (a8 : PySem.W.nsIn K mainGlobals "greatest_of" = some (some (.ref f8))) (l8 : K.lookup f8 = some ⟨oc8, od8, .func (PySem.W.fnOf "greatest_of" "greatest_of" (defArgs s_p_greatest_of) (defBody s_p_greatest_of) (defScope s_p_greatest_of) .none kV8 dc8 pm8 an8 cd8 ct8), sl8⟩) (c8 : PySem.W.codeIn K cd8 "greatest_of" = true) (k8 : PySem.W.keepIn K (.ref f8) = true)
    (a9 : PySem.W.nsIn K mainGlobals "_law_bag" = some (some (.ref f9))) (l9 : K.lookup f9 = some ⟨oc9, od9, .func (PySem.W.fnOf "_law_bag" "_law_bag" (defArgs s_l_bag) (defBody s_l_bag) (defScope s_l_bag) .none kV9 dc9 pm9 an9 cd9 ct9), sl9⟩) (c9 : PySem.W.codeIn K cd9 "_law_bag" = true) (k9 : PySem.W.keepIn K (.ref f9) = true)
    (a10 : PySem.W.nsIn K mainGlobals "_law_take" = some (some (.ref f10))) (l10 : K.lookup f10 = some ⟨oc10, od10, .func (PySem.W.fnOf "_law_take" "_law_take" (defArgs s_l_take) (defBody s_l_take) (defScope s_l_take) .none kV10 dc10 pm10 an10 cd10 ct10), sl10⟩) (c10 : PySem.W.codeIn K cd10 "_law_take" = true) (k10 : PySem.W.keepIn K (.ref f10) = true)
    (a11 : PySem.W.nsIn K mainGlobals "_law_one" = some (some (.ref f11))) (l11 : K.lookup f11 = some ⟨oc11, od11, .func (PySem.W.fnOf "_law_one" "_law_one" (defArgs s_l_one) (defBody s_l_one) (defScope s_l_one) .none kV11 dc11 pm11 an11 cd11 ct11), sl11⟩) (c11 : PySem.W.codeIn K cd11 "_law_one" = true) (k11 : PySem.W.keepIn K (.ref f11) = true)
    (a12 : PySem.W.nsIn K mainGlobals "_law_number" = some (some (.ref f12))) (l12 : K.lookup f12 = some ⟨oc12, od12, .func (PySem.W.fnOf "_law_number" "_law_number" (defArgs s_l_number) (defBody s_l_number) (defScope s_l_number) .none kV12 dc12 pm12 an12 cd12 ct12), sl12⟩) (c12 : PySem.W.codeIn K cd12 "_law_number" = true) (k12 : PySem.W.keepIn K (.ref f12) = true)
    (a13 : PySem.W.nsIn K mainGlobals "_law_alike" = some (some (.ref f13))) (l13 : K.lookup f13 = some ⟨oc13, od13, .func (PySem.W.fnOf "_law_alike" "_law_alike" (defArgs s_l_alike) (defBody s_l_alike) (defScope s_l_alike) .none kV13 dc13 pm13 an13 cd13 ct13), sl13⟩) (c13 : PySem.W.codeIn K cd13 "_law_alike" = true) (k13 : PySem.W.keepIn K (.ref f13) = true)
    (a14 : PySem.W.nsIn K mainGlobals "_law_shared" = some (some (.ref f14))) (l14 : K.lookup f14 = some ⟨oc14, od14, .func (PySem.W.fnOf "_law_shared" "_law_shared" (defArgs s_l_shared) (defBody s_l_shared) (defScope s_l_shared) .none kV14 dc14 pm14 an14 cd14 ct14), sl14⟩) (c14 : PySem.W.codeIn K cd14 "_law_shared" = true) (k14 : PySem.W.keepIn K (.ref f14) = true)
    (a15 : PySem.W.nsIn K mainGlobals "_law_ratio" = some (some (.ref f15))) (l15 : K.lookup f15 = some ⟨oc15, od15, .func (PySem.W.fnOf "_law_ratio" "_law_ratio" (defArgs s_l_ratio) (defBody s_l_ratio) (defScope s_l_ratio) .none kV15 dc15 pm15 an15 cd15 ct15), sl15⟩) (c15 : PySem.W.codeIn K cd15 "_law_ratio" = true) (k15 : PySem.W.keepIn K (.ref f15) = true)
    (a16 : PySem.W.nsIn K mainGlobals "_law_minus" = some (some (.ref f16))) (l16 : K.lookup f16 = some ⟨oc16, od16, .func (PySem.W.fnOf "_law_minus" "_law_minus" (defArgs s_l_minus) (defBody s_l_minus) (defScope s_l_minus) .none kV16 dc16 pm16 an16 cd16 ct16), sl16⟩) (c16 : PySem.W.codeIn K cd16 "_law_minus" = true) (k16 : PySem.W.keepIn K (.ref f16) = true)
    (a17 : PySem.W.nsIn K mainGlobals "_law_by" = some (some (.ref f17))) (l17 : K.lookup f17 = some ⟨oc17, od17, .func (PySem.W.fnOf "_law_by" "_law_by" (defArgs s_l_by) (defBody s_l_by) (defScope s_l_by) .none kV17 dc17 pm17 an17 cd17 ct17), sl17⟩) (c17 : PySem.W.codeIn K cd17 "_law_by" = true) (k17 : PySem.W.keepIn K (.ref f17) = true)
    (a18 : PySem.W.nsIn K mainGlobals "_law_plus" = some (some (.ref f18))) (l18 : K.lookup f18 = some ⟨oc18, od18, .func (PySem.W.fnOf "_law_plus" "_law_plus" (defArgs s_l_plus) (defBody s_l_plus) (defScope s_l_plus) .none kV18 dc18 pm18 an18 cd18 ct18), sl18⟩) (c18 : PySem.W.codeIn K cd18 "_law_plus" = true) (k18 : PySem.W.keepIn K (.ref f18) = true)
    (a19 : PySem.W.nsIn K mainGlobals "_law_below" = some (some (.ref f19))) (l19 : K.lookup f19 = some ⟨oc19, od19, .func (PySem.W.fnOf "_law_below" "_law_below" (defArgs s_l_below) (defBody s_l_below) (defScope s_l_below) .none kV19 dc19 pm19 an19 cd19 ct19), sl19⟩) (c19 : PySem.W.codeIn K cd19 "_law_below" = true) (k19 : PySem.W.keepIn K (.ref f19) = true)
    (a20 : PySem.W.nsIn K mainGlobals "_law_over" = some (some (.ref f20))) (l20 : K.lookup f20 = some ⟨oc20, od20, .func (PySem.W.fnOf "_law_over" "_law_over" (defArgs s_l_over) (defBody s_l_over) (defScope s_l_over) .none kV20 dc20 pm20 an20 cd20 ct20), sl20⟩) (c20 : PySem.W.codeIn K cd20 "_law_over" = true) (k20 : PySem.W.keepIn K (.ref f20) = true)
    (a21 : PySem.W.nsIn K mainGlobals "_law_are_couples_right" = some (some (.ref f21))) (l21 : K.lookup f21 = some ⟨oc21, od21, .func (PySem.W.fnOf "_law_are_couples_right" "_law_are_couples_right" (defArgs s_l_are_couples_right) (defBody s_l_are_couples_right) (defScope s_l_are_couples_right) .none kV21 dc21 pm21 an21 cd21 ct21), sl21⟩) (c21 : PySem.W.codeIn K cd21 "_law_are_couples_right" = true) (k21 : PySem.W.keepIn K (.ref f21) = true)
    (a22 : PySem.W.nsIn K mainGlobals "_law_least_den" = some (some (.ref f22))) (l22 : K.lookup f22 = some ⟨oc22, od22, .func (PySem.W.fnOf "_law_least_den" "_law_least_den" (defArgs s_l_least_den) (defBody s_l_least_den) (defScope s_l_least_den) .none kV22 dc22 pm22 an22 cd22 ct22), sl22⟩) (c22 : PySem.W.codeIn K cd22 "_law_least_den" = true) (k22 : PySem.W.keepIn K (.ref f22) = true)
    (a23 : PySem.W.nsIn K mainGlobals "_law_lowest" = some (some (.ref f23))) (l23 : K.lookup f23 = some ⟨oc23, od23, .func (PySem.W.fnOf "_law_lowest" "_law_lowest" (defArgs s_l_lowest) (defBody s_l_lowest) (defScope s_l_lowest) .none kV23 dc23 pm23 an23 cd23 ct23), sl23⟩) (c23 : PySem.W.codeIn K cd23 "_law_lowest" = true) (k23 : PySem.W.keepIn K (.ref f23) = true)
    (a24 : PySem.W.nsIn K mainGlobals "_law_highest" = some (some (.ref f24))) (l24 : K.lookup f24 = some ⟨oc24, od24, .func (PySem.W.fnOf "_law_highest" "_law_highest" (defArgs s_l_highest) (defBody s_l_highest) (defScope s_l_highest) .none kV24 dc24 pm24 an24 cd24 ct24), sl24⟩) (c24 : PySem.W.codeIn K cd24 "_law_highest" = true) (k24 : PySem.W.keepIn K (.ref f24) = true)
    (a25 : PySem.W.nsIn K mainGlobals "law" = some (some (.ref f25))) (l25 : K.lookup f25 = some ⟨oc25, od25, .func (PySem.W.fnOf "law" "law" (defArgs s_p_law) (defBody s_p_law) (defScope s_p_law) .none kV25 dc25 pm25 an25 cd25 ct25), sl25⟩) (c25 : PySem.W.codeIn K cd25 "law" = true) (k25 : PySem.W.keepIn K (.ref f25) = true)
    (z0 : PySem.W.nsIn K mainGlobals "abs" = some none)
    (z1 : PySem.W.nsIn K mainGlobals "gcd" = some (some (.builtin "math.gcd")))
    (z2 : PySem.W.nsIn K mainGlobals "int" = some none)
    (z3 : PySem.W.nsIn K mainGlobals "lcm" = some (some (.builtin "math.lcm")))
    (z4 : PySem.W.nsIn K mainGlobals "len" = some none)
    (z5 : PySem.W.nsIn K mainGlobals "range" = some none)
    (z6 : PySem.W.nsIn K mainGlobals "repr" = some none)
    (z7 : PySem.W.nsIn K mainGlobals "sum" = some none)
    (z8 : PySem.W.nsIn K mainGlobals "tuple" = some none) :
    ∃ fd : FuncData, (∀ (s : Shared) (v : Value), BindsTo s fd ⟨[v], []⟩ [("_law_script", v)]) ∧ ∀ base : Heap, K.In base → base.Ns mainGlobals mg → FnG l.prog w K mg base 5 fa fd ["_law_script"] (spLaw K) := by
  have e := hfa.symm.trans (PySem.W.mg_of X G a25)
  cases e
  let TX : Tx K mg := { f_p_reduced := f0, d_p_reduced := PySem.W.fnOf "reduced" "reduced" (defArgs s_p_reduced) (defBody s_p_reduced) (defScope s_p_reduced) .none kV0 dc0 pm0 an0 cd0 ct0, F_p_reduced := fun_mk (st := s_p_reduced) l0 c0 k0, m_p_reduced := PySem.W.mg_of X G a0, f_p_common_den := f1, d_p_common_den := PySem.W.fnOf "common_den" "common_den" (defArgs s_p_common_den) (defBody s_p_common_den) (defScope s_p_common_den) .none kV1 dc1 pm1 an1 cd1 ct1, F_p_common_den := fun_mk (st := s_p_common_den) l1 c1 k1, m_p_common_den := PySem.W.mg_of X G a1, f_p_added := f2, d_p_added := PySem.W.fnOf "added" "added" (defArgs s_p_added) (defBody s_p_added) (defScope s_p_added) .none kV2 dc2 pm2 an2 cd2 ct2, F_p_added := fun_mk (st := s_p_added) l2 c2 k2, m_p_added := PySem.W.mg_of X G a2, f_p_less := f3, d_p_less := PySem.W.fnOf "less" "less" (defArgs s_p_less) (defBody s_p_less) (defScope s_p_less) .none kV3 dc3 pm3 an3 cd3 ct3, F_p_less := fun_mk (st := s_p_less) l3 c3 k3, m_p_less := PySem.W.mg_of X G a3, f_p_times := f4, d_p_times := PySem.W.fnOf "times" "times" (defArgs s_p_times) (defBody s_p_times) (defScope s_p_times) .none kV4 dc4 pm4 an4 cd4 ct4, F_p_times := fun_mk (st := s_p_times) l4 c4 k4, m_p_times := PySem.W.mg_of X G a4, f_p_over := f5, d_p_over := PySem.W.fnOf "over" "over" (defArgs s_p_over) (defBody s_p_over) (defScope s_p_over) .none kV5 dc5 pm5 an5 cd5 ct5, F_p_over := fun_mk (st := s_p_over) l5 c5 k5, m_p_over := PySem.W.mg_of X G a5, f_p_compared := f6, d_p_compared := PySem.W.fnOf "compared" "compared" (defArgs s_p_compared) (defBody s_p_compared) (defScope s_p_compared) .none kV6 dc6 pm6 an6 cd6 ct6, F_p_compared := fun_mk (st := s_p_compared) l6 c6 k6, m_p_compared := PySem.W.mg_of X G a6, f_p_least_of := f7, d_p_least_of := PySem.W.fnOf "least_of" "least_of" (defArgs s_p_least_of) (defBody s_p_least_of) (defScope s_p_least_of) .none kV7 dc7 pm7 an7 cd7 ct7, F_p_least_of := fun_mk (st := s_p_least_of) l7 c7 k7, m_p_least_of := PySem.W.mg_of X G a7, f_p_greatest_of := f8, d_p_greatest_of := PySem.W.fnOf "greatest_of" "greatest_of" (defArgs s_p_greatest_of) (defBody s_p_greatest_of) (defScope s_p_greatest_of) .none kV8 dc8 pm8 an8 cd8 ct8, F_p_greatest_of := fun_mk (st := s_p_greatest_of) l8 c8 k8, m_p_greatest_of := PySem.W.mg_of X G a8, f_l_bag := f9, d_l_bag := PySem.W.fnOf "_law_bag" "_law_bag" (defArgs s_l_bag) (defBody s_l_bag) (defScope s_l_bag) .none kV9 dc9 pm9 an9 cd9 ct9, F_l_bag := fun_mk (st := s_l_bag) l9 c9 k9, m_l_bag := PySem.W.mg_of X G a9, f_l_take := f10, d_l_take := PySem.W.fnOf "_law_take" "_law_take" (defArgs s_l_take) (defBody s_l_take) (defScope s_l_take) .none kV10 dc10 pm10 an10 cd10 ct10, F_l_take := fun_mk (st := s_l_take) l10 c10 k10, m_l_take := PySem.W.mg_of X G a10, f_l_one := f11, d_l_one := PySem.W.fnOf "_law_one" "_law_one" (defArgs s_l_one) (defBody s_l_one) (defScope s_l_one) .none kV11 dc11 pm11 an11 cd11 ct11, F_l_one := fun_mk (st := s_l_one) l11 c11 k11, m_l_one := PySem.W.mg_of X G a11, f_l_number := f12, d_l_number := PySem.W.fnOf "_law_number" "_law_number" (defArgs s_l_number) (defBody s_l_number) (defScope s_l_number) .none kV12 dc12 pm12 an12 cd12 ct12, F_l_number := fun_mk (st := s_l_number) l12 c12 k12, m_l_number := PySem.W.mg_of X G a12, f_l_alike := f13, d_l_alike := PySem.W.fnOf "_law_alike" "_law_alike" (defArgs s_l_alike) (defBody s_l_alike) (defScope s_l_alike) .none kV13 dc13 pm13 an13 cd13 ct13, F_l_alike := fun_mk (st := s_l_alike) l13 c13 k13, m_l_alike := PySem.W.mg_of X G a13, f_l_shared := f14, d_l_shared := PySem.W.fnOf "_law_shared" "_law_shared" (defArgs s_l_shared) (defBody s_l_shared) (defScope s_l_shared) .none kV14 dc14 pm14 an14 cd14 ct14, F_l_shared := fun_mk (st := s_l_shared) l14 c14 k14, m_l_shared := PySem.W.mg_of X G a14, f_l_ratio := f15, d_l_ratio := PySem.W.fnOf "_law_ratio" "_law_ratio" (defArgs s_l_ratio) (defBody s_l_ratio) (defScope s_l_ratio) .none kV15 dc15 pm15 an15 cd15 ct15, F_l_ratio := fun_mk (st := s_l_ratio) l15 c15 k15, m_l_ratio := PySem.W.mg_of X G a15, f_l_minus := f16, d_l_minus := PySem.W.fnOf "_law_minus" "_law_minus" (defArgs s_l_minus) (defBody s_l_minus) (defScope s_l_minus) .none kV16 dc16 pm16 an16 cd16 ct16, F_l_minus := fun_mk (st := s_l_minus) l16 c16 k16, m_l_minus := PySem.W.mg_of X G a16, f_l_by := f17, d_l_by := PySem.W.fnOf "_law_by" "_law_by" (defArgs s_l_by) (defBody s_l_by) (defScope s_l_by) .none kV17 dc17 pm17 an17 cd17 ct17, F_l_by := fun_mk (st := s_l_by) l17 c17 k17, m_l_by := PySem.W.mg_of X G a17, f_l_plus := f18, d_l_plus := PySem.W.fnOf "_law_plus" "_law_plus" (defArgs s_l_plus) (defBody s_l_plus) (defScope s_l_plus) .none kV18 dc18 pm18 an18 cd18 ct18, F_l_plus := fun_mk (st := s_l_plus) l18 c18 k18, m_l_plus := PySem.W.mg_of X G a18, f_l_below := f19, d_l_below := PySem.W.fnOf "_law_below" "_law_below" (defArgs s_l_below) (defBody s_l_below) (defScope s_l_below) .none kV19 dc19 pm19 an19 cd19 ct19, F_l_below := fun_mk (st := s_l_below) l19 c19 k19, m_l_below := PySem.W.mg_of X G a19, f_l_over := f20, d_l_over := PySem.W.fnOf "_law_over" "_law_over" (defArgs s_l_over) (defBody s_l_over) (defScope s_l_over) .none kV20 dc20 pm20 an20 cd20 ct20, F_l_over := fun_mk (st := s_l_over) l20 c20 k20, m_l_over := PySem.W.mg_of X G a20, f_l_are_couples_right := f21, d_l_are_couples_right := PySem.W.fnOf "_law_are_couples_right" "_law_are_couples_right" (defArgs s_l_are_couples_right) (defBody s_l_are_couples_right) (defScope s_l_are_couples_right) .none kV21 dc21 pm21 an21 cd21 ct21, F_l_are_couples_right := fun_mk (st := s_l_are_couples_right) l21 c21 k21, m_l_are_couples_right := PySem.W.mg_of X G a21, f_l_least_den := f22, d_l_least_den := PySem.W.fnOf "_law_least_den" "_law_least_den" (defArgs s_l_least_den) (defBody s_l_least_den) (defScope s_l_least_den) .none kV22 dc22 pm22 an22 cd22 ct22, F_l_least_den := fun_mk (st := s_l_least_den) l22 c22 k22, m_l_least_den := PySem.W.mg_of X G a22, f_l_lowest := f23, d_l_lowest := PySem.W.fnOf "_law_lowest" "_law_lowest" (defArgs s_l_lowest) (defBody s_l_lowest) (defScope s_l_lowest) .none kV23 dc23 pm23 an23 cd23 ct23, F_l_lowest := fun_mk (st := s_l_lowest) l23 c23 k23, m_l_lowest := PySem.W.mg_of X G a23, f_l_highest := f24, d_l_highest := PySem.W.fnOf "_law_highest" "_law_highest" (defArgs s_l_highest) (defBody s_l_highest) (defScope s_l_highest) .none kV24 dc24 pm24 an24 cd24 ct24, F_l_highest := fun_mk (st := s_l_highest) l24 c24 k24, m_l_highest := PySem.W.mg_of X G a24, f_p_law := fa, d_p_law := PySem.W.fnOf "law" "law" (defArgs s_p_law) (defBody s_p_law) (defScope s_p_law) .none kV25 dc25 pm25 an25 cd25 ct25, F_p_law := fun_mk (st := s_p_law) l25 c25 k25, m_p_law := PySem.W.mg_of X G a25, n_abs := PySem.W.mg_none_of X G z0, n_gcd := PySem.W.mg_of X G z1, n_int := PySem.W.mg_none_of X G z2, n_lcm := PySem.W.mg_of X G z3, n_len := PySem.W.mg_none_of X G z4, n_range := PySem.W.mg_none_of X G z5, n_repr := PySem.W.mg_none_of X G z6, n_sum := PySem.W.mg_none_of X G z7, n_tuple := PySem.W.mg_none_of X G z8 }
  exact ⟨TX.d_p_law, fun s v => .of_eq rfl, fun base _ _ => ok_law TX⟩
end Kx
open PySem PySem.W PyProof.Rows
set_option maxHeartbeats 0 in
theorem PySem.Challenge.cw_neverjammed_k01_fractions_put_together_holds : PySem.Challenge.rw_neverjammed_k01_fractions_put_together.Holds := by
  w_on; o_law; k_head; (case hw => w_witness2)
  k_fill
  refine DL.walk_ofG (l := PySem.Challenge.rw_neverjammed_k01_fractions_put_together) (n := 63) (k := 5) (x := "_law_script") (sp := fun w => DL.spLaw _) rfl (by decide) rfl ⟨rfl, by decide, by decide⟩ (fun w h Y => PySem.W.kIn_of Y) ?F (fun _ _ a ns hl _ hS => ⟨a, ns, rfl, hS, fun _ => rfl⟩)
  case F =>
    intro w mg fa h KX G hmg
    refine' Kx.all_mk KX G hmg ?a0 ?l0 ?c0 ?k0 ?a1 ?l1 ?c1 ?k1 ?a2 ?l2 ?c2 ?k2 ?a3 ?l3 ?c3 ?k3 ?a4 ?l4 ?c4 ?k4 ?a5 ?l5 ?c5 ?k5 ?a6 ?l6 ?c6 ?k6 ?a7 ?l7 ?c7 ?k7 ?a8 ?l8 ?c8 ?k8 ?a9 ?l9 ?c9 ?k9 ?a10 ?l10 ?c10 ?k10 ?a11 ?l11 ?c11 ?k11 ?a12 ?l12 ?c12 ?k12 ?a13 ?l13 ?c13 ?k13 ?a14 ?l14 ?c14 ?k14 ?a15 ?l15 ?c15 ?k15 ?a16 ?l16 ?c16 ?k16 ?a17 ?l17 ?c17 ?k17 ?a18 ?l18 ?c18 ?k18 ?a19 ?l19 ?c19 ?k19 ?a20 ?l20 ?c20 ?k20 ?a21 ?l21 ?c21 ?k21 ?a22 ?l22 ?c22 ?k22 ?a23 ?l23 ?c23 ?k23 ?a24 ?l24 ?c24 ?k24 ?a25 ?l25 ?c25 ?k25 ?z0 ?z1 ?z2 ?z3 ?z4 ?z5 ?z6 ?z7 ?z8
    (case a0 => k_is); (case l0 => k_is); (case c0 => k_is); (case k0 => k_is); (case a1 => k_is); (case l1 => k_is); (case c1 => k_is); (case k1 => k_is); (case a2 => k_is); (case l2 => k_is); (case c2 => k_is); (case k2 => k_is); (case a3 => k_is); (case l3 => k_is); (case c3 => k_is); (case k3 => k_is); (case a4 => k_is); (case l4 => k_is); (case c4 => k_is); (case k4 => k_is); (case a5 => k_is); (case l5 => k_is); (case c5 => k_is); (case k5 => k_is); (case a6 => k_is); (case l6 => k_is); (case c6 => k_is); (case k6 => k_is); (case a7 => k_is); (case l7 => k_is); (case c7 => k_is); (case k7 => k_is); (case a8 => k_is); (case l8 => k_is); (case c8 => k_is); (case k8 => k_is); (case a9 => k_is); (case l9 => k_is); (case c9 => k_is); (case k9 => k_is); (case a10 => k_is); (case l10 => k_is); (case c10 => k_is); (case k10 => k_is); (case a11 => k_is); (case l11 => k_is); (case c11 => k_is); (case k11 => k_is); (case a12 => k_is); (case l12 => k_is); (case c12 => k_is); (case k12 => k_is); (case a13 => k_is); (case l13 => k_is); (case c13 => k_is); (case k13 => k_is); (case a14 => k_is); (case l14 => k_is); (case c14 => k_is); (case k14 => k_is); (case a15 => k_is); (case l15 => k_is); (case c15 => k_is); (case k15 => k_is); (case a16 => k_is); (case l16 => k_is); (case c16 => k_is); (case k16 => k_is); (case a17 => k_is); (case l17 => k_is); (case c17 => k_is); (case k17 => k_is); (case a18 => k_is); (case l18 => k_is); (case c18 => k_is); (case k18 => k_is); (case a19 => k_is); (case l19 => k_is); (case c19 => k_is); (case k19 => k_is); (case a20 => k_is); (case l20 => k_is); (case c20 => k_is); (case k20 => k_is); (case a21 => k_is); (case l21 => k_is); (case c21 => k_is); (case k21 => k_is); (case a22 => k_is); (case l22 => k_is); (case c22 => k_is); (case k22 => k_is); (case a23 => k_is); (case l23 => k_is); (case c23 => k_is); (case k23 => k_is); (case a24 => k_is); (case l24 => k_is); (case c24 => k_is); (case k24 => k_is); (case a25 => k_is); (case l25 => k_is); (case c25 => k_is); (case k25 => k_is); (case z0 => k_is); (case z1 => k_is); (case z2 => k_is); (case z3 => k_is); (case z4 => k_is); (case z5 => k_is); (case z6 => k_is); (case z7 => k_is); (case z8 => k_is)
