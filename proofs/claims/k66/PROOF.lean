import PyProof.Rows.All
import Wide.All
import OpenK.AllK
import Wide.FinOn
import HandS.ForMost
import HandS.Wide
import HandS.Gcd
import HandS.Evl
import HandS.ExcInit
import KE.KExcIs
import HandS.TupMul
import HandS.TupAny
import HandS.Zip
import PyProof.Rows.SeqMore
import KE.GoesNew
import HandS.Style
import HandS.Comp
import HandS.IsInst
import KE.GoesZip
import KE.KDictZip
import HandS.ListItems
import HandS.More
import KE.SortData
import HandS.Conv
import HandS.NoneIn
import HandS.Iter
import HandS.SetFor
import HandS.Strs
import HandS.ExcField
import PyProof.EqAt
import PyProof.EqKinds
import PySem.Challenge.RW_neverjammed_k66_errors_made_of_any_value
set_option Elab.async false
set_option linter.all false
set_option maxRecDepth 100000
namespace DL
open PySem PySem.Spec PyProof.Rows L2
def hide (hs : List Addr) (H : Hp) : Hp := fun a => if a ∈ hs then none else H a
theorem hide_some {hs : List Addr} {H : Hp} {a : Addr} {o : HO} (h : hide hs H a = some o) : a ∉ hs ∧ H a = some o := by
  unfold hide at h
  split at h
  · cases h
  · exact ⟨by assumption, h⟩
theorem hide_of {hs : List Addr} {H : Hp} {a : Addr} {o : HO} (n : a ∉ hs) (h : H a = some o) : hide hs H a = some o := by
  unfold hide
  rw [if_neg n]
  exact h
theorem hide_same {hs : List Addr} {H : Hp} : Same (hide hs H) H := fun a o h => (hide_some h).2
theorem hide_sub {hs ks : List Addr} {H : Hp} (s : ∀ a ∈ ks, a ∈ hs) : Same (hide hs H) (hide ks H) := fun a o h =>
  hide_of (fun q => (hide_some h).1 (s a q)) (hide_some h).2
theorem sqT_same {K : PySem.W.Frag} {H H' : Hp} {a : Addr} {xs : List V} (e : Same H H') (h : SqT K H a xs) : SqT K H' a xs := by
  rcases h with (h | ⟨o, h⟩) | h
  · exact .inl (.inl (e _ _ h))
  · exact .inl (.inr ⟨o, e _ _ h⟩)
  · exact .inr h
def keyD : Key → PyData
  | .inl i => .int i
  | .inr x => .str x
def errKey : Int := 2 ^ 1920
def errB : List (PyData × PyData) → Bool
  | [(.int k, .none)] => decide (k = errKey)
  | _ => false
def tdB : List (PyData × PyData) → Bool
  | (.int k, .bool true) :: _ => decide (k = errKey)
  | _ => false
theorem tdB_mk {ds : List (PyData × PyData)} : tdB ((.int errKey, .bool true) :: ds) = true := by
  show decide (errKey = errKey) = true
  simp
theorem errB_mk : errB [(.int errKey, .none)] = true := by
  show decide (errKey = errKey) = true
  simp
def rowsT (kvs : List (List Int × PyData)) : List (PyData × PyData) := kvs.map fun p => (.tuple (p.1.map .int), p.2)
structure ErrC (K : PySem.W.Frag) (C : Addr) : Prop where
  hcl : (PySem.W.clsIn K C).isSome = true
  hga : PySem.W.findIn K (.ref C) "__getattribute__" = some (some (.builtin "BaseException.__getattribute__"))
  hgt : ∃ gt : Option Value, PySem.W.findIn K (.ref C) "__getattr__" = some gt
  hsub : PySem.W.subIn K (.ref C) (.type "BaseException") = some true
  ha : PySem.W.findIn K (.ref C) "__class__" = some (some (.builtin "object.__class__"))
  hn : PySem.W.specialIn K (.builtin "object.__class__") "__get__" = some (some (.builtin "getset_descriptor.__get__"))
  htk : PySem.W.takesIn K (.builtin "object.__class__") = some true
  hm : PySem.W.mroIn K C (.type "object") = some true
  kit : ∀ T ∈ ["int", "bool", "tuple", "list", "str", "dict"], PySem.W.kitOne K (.ref C) (.type T) = some false
mutual
inductive Dp (K : PySem.W.Frag) (H : Hp) : V → PyData → Prop
  | non : Dp K H .non .none
  | bl (b : Bool) : Dp K H (.bl b) (.bool b)
  | int (i : Int) : Dp K H (.int i) (.int i)
  | str (x : Str) : Dp K H (.str x) (.str x)
  | lst {a : Addr} {xs : List V} {ds : List PyData} : SqL K H a xs → DpAll K H xs ds → Dp K H (.ref a) (.list ds)
  | tup {a : Addr} {xs : List V} {ds : List PyData} : H a = some (.tup xs) → DpAll K H xs ds → Dp K H (.ref a) (.tuple ds)
  | dct {a : Addr} {kvs : List (Key × V)} {ds : List (PyData × PyData)} : H a = some (.dK kvs) → DpKvs K H kvs ds → (errB ds || tdB ds) = false → Dp K H (.ref a) (.dict ds)
  | err {a C d : Addr} {fs : List (Str × V)} : H a = some (exo a C (some d)) → H d = some (exd d fs) → ErrC K C → Dp K H (.ref a) (.dict [(.int errKey, .none)])
  | dtt {a : Addr} {o : Obj} {kvs : List (List Key × V)} {ds : List (PyData × PyData)} : H a = some (.frz o (.dT kvs)) → DpKvsT K H kvs ds → Dp K H (.ref a) (.dict ((.int errKey, .bool true) :: ds))
inductive DpAll (K : PySem.W.Frag) (H : Hp) : List V → List PyData → Prop
  | nil : DpAll K H [] []
  | cons {v : V} {vs : List V} {d : PyData} {ds : List PyData} : Dp K H v d → DpAll K H vs ds → DpAll K H (v :: vs) (d :: ds)
inductive DpKvs (K : PySem.W.Frag) (H : Hp) : List (Key × V) → List (PyData × PyData) → Prop
  | nil : DpKvs K H [] []
  | cons {k : Key} {v : V} {kvs : List (Key × V)} {d : PyData} {ds : List (PyData × PyData)} : Dp K H v d → DpKvs K H kvs ds → DpKvs K H ((k, v) :: kvs) ((keyD k, d) :: ds)
inductive DpKvsT (K : PySem.W.Frag) (H : Hp) : List (List Key × V) → List (PyData × PyData) → Prop
  | nil : DpKvsT K H [] []
  | cons {k : List Int} {v : V} {kvs : List (List Key × V)} {d : PyData} {ds : List (PyData × PyData)} : Dp K H v d → DpKvsT K H kvs ds → DpKvsT K H ((k.map Sum.inl, v) :: kvs) ((.tuple (k.map .int), d) :: ds)
end
mutual
theorem dp_same {K : PySem.W.Frag} {H H' : Hp} (e : Same H H') : ∀ (d : PyData) (v : V), Dp K H v d → Dp K H' v d
  | .none, _, h => by cases h; exact .non
  | .bool b, _, h => by cases h; exact .bl b
  | .int i, _, h => by cases h; exact .int i
  | .str x, _, h => by cases h; exact .str x
  | .list ds, _, h => by
    cases h with
    | lst hs ha => exact .lst (e.seq hs) (dpAll_same e ds _ ha)
  | .tuple ds, _, h => by
    cases h with
    | tup hs ha => exact .tup (e _ _ hs) (dpAll_same e ds _ ha)
  | .dict ds, _, h => by
    cases h with
    | dct h1 h2 h3 => exact .dct (e _ _ h1) (dpKvs_same e ds _ h2) h3
    | err h1 h2 h3 => exact .err (e _ _ h1) (e _ _ h2) h3
    | dtt h1 h2 => exact .dtt (e _ _ h1) (dpKvsT_same e _ _ h2)
theorem dpAll_same {K : PySem.W.Frag} {H H' : Hp} (e : Same H H') : ∀ (ds : List PyData) (vs : List V), DpAll K H vs ds → DpAll K H' vs ds
  | [], _, h => by cases h; exact .nil
  | d :: ds, _, h => by
    cases h with
    | cons h1 h2 => exact .cons (dp_same e d _ h1) (dpAll_same e ds _ h2)
theorem dpKvs_same {K : PySem.W.Frag} {H H' : Hp} (e : Same H H') : ∀ (ds : List (PyData × PyData)) (kvs : List (Key × V)), DpKvs K H kvs ds → DpKvs K H' kvs ds
  | [], _, h => by cases h; exact .nil
  | (_, d) :: ds, _, h => by
    cases h with
    | cons h1 h2 => exact .cons (dp_same e d _ h1) (dpKvs_same e ds _ h2)
theorem dpKvsT_same {K : PySem.W.Frag} {H H' : Hp} (e : Same H H') : ∀ (ds : List (PyData × PyData)) (kvs : List (List Key × V)), DpKvsT K H kvs ds → DpKvsT K H' kvs ds
  | [], _, h => by cases h; exact .nil
  | (_, d) :: ds, _, h => by
    cases h with
    | cons h1 h2 => exact .cons (dp_same e d _ h1) (dpKvsT_same e ds _ h2)
end
mutual
def noLst : PyData → Bool
  | .none => true
  | .bool _ => true
  | .int _ => true
  | .str _ => true
  | .list _ => false
  | .tuple xs => noLstAll xs
  | .dict kvs => noLstKvs kvs
def noLstAll : List PyData → Bool
  | [] => true
  | x :: xs => noLst x && noLstAll xs
def noLstKvs : List (PyData × PyData) → Bool
  | [] => true
  | (_, x) :: xs => noLst x && noLstKvs xs
end
mutual
def noErr : PyData → Bool
  | .none => true
  | .bool _ => true
  | .int _ => true
  | .str _ => true
  | .list xs => noErrAll xs
  | .tuple xs => noErrAll xs
  | .dict kvs => !(errB kvs || tdB kvs) && noErrKvs kvs
def noErrAll : List PyData → Bool
  | [] => true
  | x :: xs => noErr x && noErrAll xs
def noErrKvs : List (PyData × PyData) → Bool
  | [] => true
  | (_, x) :: xs => noErr x && noErrKvs xs
end
mutual
theorem noErr_lay : ∀ d : PyData, d.canLay0 = true → noErr d = true
  | .none, _ => by simp only [noErr]
  | .bool _, _ => by simp only [noErr]
  | .int _, _ => by simp only [noErr]
  | .str _, _ => by simp only [noErr]
  | .list xs, h => by
    simp only [PyData.canLay0] at h
    simp only [noErr]
    exact noErrAll_lay xs h
  | .tuple xs, h => by
    simp only [PyData.canLay0] at h
    simp only [noErr]
    exact noErrAll_lay xs h
  | .dict _, h => by simp only [PyData.canLay0] at h; cases h
theorem noErrAll_lay : ∀ xs : List PyData, PyData.canLayAll0 xs = true → noErrAll xs = true
  | [], _ => by simp only [noErrAll]
  | x :: xs, h => by
    simp only [PyData.canLayAll0, Bool.and_eq_true] at h
    simp only [noErrAll, noErr_lay x h.1, noErrAll_lay xs h.2, Bool.and_self]
end
theorem errKey_log : errKey.natAbs.log2 = 1920 := by decide +kernel
theorem errB_show {kvs : List (PyData × PyData)} (h : PyData.showableKv kvs = true) : errB kvs = false := by
  unfold errB
  split
  · rename_i k
    by_cases e : k = errKey
    · rw [e] at h
      simp only [PyData.showableKv, PyData.showable, errKey_log, Bool.and_eq_true, decide_eq_true_eq] at h
      omega
    · exact decide_eq_false e
  · rfl
theorem tdB_show {kvs : List (PyData × PyData)} (h : PyData.showableKv kvs = true) : tdB kvs = false := by
  unfold tdB
  split
  · rename_i k _
    by_cases e : k = errKey
    · rw [e] at h
      simp only [PyData.showableKv, PyData.showable, errKey_log, Bool.and_eq_true, decide_eq_true_eq] at h
      omega
    · exact decide_eq_false e
  · rfl
mutual
theorem noErr_show : ∀ d : PyData, d.showable = true → noErr d = true
  | .none, _ => by simp only [noErr]
  | .bool _, _ => by simp only [noErr]
  | .int _, _ => by simp only [noErr]
  | .str _, _ => by simp only [noErr]
  | .list xs, h => by
    simp only [PyData.showable] at h
    simp only [noErr]
    exact noErrAll_show xs h
  | .tuple xs, h => by
    simp only [PyData.showable] at h
    simp only [noErr]
    exact noErrAll_show xs h
  | .dict kvs, h => by
    simp only [PyData.showable] at h
    simp only [noErr, errB_show h, tdB_show h, noErrKvs_show kvs h, Bool.or_self, Bool.not_false, Bool.and_self]
theorem noErrAll_show : ∀ xs : List PyData, PyData.showableAll xs = true → noErrAll xs = true
  | [], _ => by simp only [noErrAll]
  | x :: xs, h => by
    simp only [PyData.showableAll, Bool.and_eq_true] at h
    simp only [noErrAll, noErr_show x h.1, noErrAll_show xs h.2, Bool.and_self]
theorem noErrKvs_show : ∀ xs : List (PyData × PyData), PyData.showableKv xs = true → noErrKvs xs = true
  | [], _ => by simp only [noErrKvs]
  | (k, x) :: xs, h => by
    simp only [PyData.showableKv, Bool.and_eq_true] at h
    simp only [noErrKvs, noErr_show x h.1.2, noErrKvs_show xs h.2, Bool.and_self]
end
theorem shaped_noErr {d : PyData} (h : SeqAt.shaped d = true) : noErr d = true := by
  unfold SeqAt.shaped at h
  simp only [Bool.and_eq_true] at h
  exact noErr_lay d h.1
theorem reads_key {w : World} {h : Heap} {k : Key} {v : Value} (e : keyIs k v = true) : Reads h v (keyD k) [] := by
  rcases keyIs_shape e with ⟨i, t, rfl, rfl⟩ | ⟨x, t, rfl, rfl⟩
  · exact Reads.int i t
  · exact Reads.str x t
section
variable {X : Cx} {pins : List (Addr × Obj)} {σ : L2.St} {H : Hp} {s : Shared}
mutual
theorem Dp.reads (I : Inv X pins σ H s) : ∀ (d : PyData) (v : V) (u : Value), Dp X.K H v d → RelV v u → noErr d = true → ∃ as, Reads s.heap u d as ∧ (noLst d = true → sysModules ∉ as)
  | .none, _, _, h, r, _ => by
    cases h
    cases r
    exact ⟨_, Reads.none, fun _ z => nomatch z⟩
  | .bool b, _, _, h, r, _ => by
    cases h
    cases r
    exact ⟨_, Reads.bool b, fun _ z => nomatch z⟩
  | .int i, _, _, h, r, _ => by
    cases h
    obtain ⟨t, rfl⟩ := r
    exact ⟨_, Reads.int i t, fun _ z => nomatch z⟩
  | .str x, _, _, h, r, _ => by
    cases h
    obtain ⟨t, rfl⟩ := r
    exact ⟨_, Reads.str x t, fun _ z => nomatch z⟩
  | .list ds, _, _, h, r, ne => by
    simp only [noErr] at ne
    cases h with
    | lst hs ha =>
      cases r
      obtain ⟨its, rv, ⟨o, n, ho, hc, _, hd⟩, _⟩ := I.list hs
      obtain ⟨as, hr, _⟩ := Dp.readsAll I ds _ its ha rv ne
      exact ⟨_, Reads.list ho hc hd hr, fun z => by simp only [noLst] at z; cases z⟩
  | .tuple ds, _, _, h, r, ne => by
    simp only [noErr] at ne
    cases h with
    | tup hs ha =>
      cases r
      obtain ⟨its, rv, ⟨o, ho, hc, n, hd⟩, _⟩ := I.tuple (SqT.of hs)
      obtain ⟨as, hr, q⟩ := Dp.readsAll I ds _ its ha rv ne
      exact ⟨_, Reads.tuple ho hc hd hr, fun z => q (by simpa only [noLst] using z)⟩
  | .dict ds, _, _, h, r, ne => by
    simp only [noErr, Bool.and_eq_true, Bool.not_eq_true'] at ne
    cases h with
    | err _ _ _ => exact absurd ne.1 (by rw [errB_mk]; simp)
    | dtt _ _ => exact absurd ne.1 (by rw [tdB_mk]; simp)
    | dct hs ha =>
      cases r
      obtain ⟨z, hd, vs, rel, o, es, ep, ho, hc, he, _, hp, _⟩ := dk_of I.hok hs
      obtain ⟨bs, hk, hv, q⟩ := Dp.readsKvs I ds _ vs es.toList ha rel hp ne.2
      refine ⟨_, Reads.dict ho hc.1 he hk hv, fun z m => ?_⟩
      simp only [noLst] at z
      rcases List.mem_cons.mp (show sysModules ∈ _ :: bs from m) with m | m
      · rw [← m, beq_self_eq_true] at hd
        cases hd
      · exact q z m
theorem Dp.readsAll (I : Inv X pins σ H s) : ∀ (ds : List PyData) (vs : List V) (us : List Value), DpAll X.K H vs ds → Vals vs us → noErrAll ds = true → ∃ as, ReadsAll s.heap us ds as ∧ (noLstAll ds = true → sysModules ∉ as)
  | [], _, _, h, r, _ => by
    cases h
    cases r
    exact ⟨_, ReadsAll.nil, fun _ z => nomatch z⟩
  | d :: ds, _, _, h, r, ne => by
    simp only [noErrAll, Bool.and_eq_true] at ne
    cases h with
    | cons h1 h2 =>
      cases r with
      | cons r1 r2 =>
        obtain ⟨as, q1, n1⟩ := Dp.reads I d _ _ h1 r1 ne.1
        obtain ⟨bs, q2, n2⟩ := Dp.readsAll I ds _ _ h2 r2 ne.2
        refine ⟨_, ReadsAll.cons q1 q2, fun z m => ?_⟩
        simp only [noLstAll, Bool.and_eq_true] at z
        rcases List.mem_append.mp m with m | m
        · exact n1 z.1 m
        · exact n2 z.2 m
theorem Dp.readsKvs (I : Inv X pins σ H s) : ∀ (ds : List (PyData × PyData)) (kvs : List (Key × V)) (vs : List (Key × Value)) (es : List DictEntry), DpKvs X.K H kvs ds → KV kvs vs → Pairs (mixKind X.prog X.w) es vs → noErrKvs ds = true →
    ∃ bs, ReadsAll s.heap (es.map (·.key)) (ds.map (·.1)) [] ∧ ReadsAll s.heap (es.map (·.val)) (ds.map (·.2)) bs ∧ (noLstKvs ds = true → sysModules ∉ bs)
  | [], _, _, _, h, r, p, _ => by
    cases h
    cases r
    cases p
    exact ⟨_, ReadsAll.nil, ReadsAll.nil, fun _ z => nomatch z⟩
  | (_, d) :: ds, _, _, _, h, r, p, ne => by
    simp only [noErrKvs, Bool.and_eq_true] at ne
    cases h with
    | cons h1 h2 =>
      cases r with
      | cons r1 r2 =>
        cases p with
        | cons p1 p2 p3 =>
          obtain ⟨bs, q1, q2, n2⟩ := Dp.readsKvs I ds _ _ _ h2 r2 p3 ne.2
          rw [← p2] at r1
          obtain ⟨as, q3, n1⟩ := Dp.reads I d _ _ h1 r1.2 ne.1
          have rk := reads_key (w := X.w) (h := s.heap) p1
          rw [← r1.1] at rk
          refine ⟨_, ReadsAll.cons rk q1, ReadsAll.cons q3 q2, fun z m => ?_⟩
          simp only [noLstKvs, Bool.and_eq_true] at z
          rcases List.mem_append.mp m with m | m
          · exact n1 z.1 m
          · exact n2 z.2 m
end
end
section
variable {X : Cx}
def rEqD (K : PySem.W.Frag) : R2 := fun x y H Q => ∃ d e, Dp K H x d ∧ Dp K H y e ∧ SeqAt.shaped d = true ∧ SeqAt.shaped e = true ∧ Q (.bl (PyData.eqv d e)) H
def rNeD (K : PySem.W.Frag) : R2 := fun x y H Q => ∃ d e, Dp K H x d ∧ Dp K H y e ∧ SeqAt.shaped d = true ∧ SeqAt.shaped e = true ∧ Q (.bl (!PyData.eqv d e)) H
theorem op_eqD (hu : X.A.units + 64 < cLine) : OpR X (compareOp .Eq) (rEqD X.K) := by
  intro pins s σ H x y v u Q I rx ry h
  obtain ⟨d, e, hd, he, sd, se, q⟩ := h
  obtain ⟨as, r1, _⟩ := Dp.reads I d x v hd rx (shaped_noErr sd)
  obtain ⟨bs, r2, _⟩ := Dp.reads I e y u he ry (shaped_noErr se)
  exact SeqAt.compareEq_shaped r1 r2 sd se hu ⟨.bl _, H, I, rfl, q⟩
theorem op_neD (hu : X.A.units + 64 < cLine) : OpR X (compareOp .NotEq) (rNeD X.K) := by
  intro pins s σ H x y v u Q I rx ry h
  obtain ⟨d, e, hd, he, sd, se, q⟩ := h
  obtain ⟨as, r1, _⟩ := Dp.reads I d x v hd rx (shaped_noErr sd)
  obtain ⟨bs, r2, _⟩ := Dp.reads I e y u he ry (shaped_noErr se)
  exact SeqAt.compareNe_shaped r1 r2 sd se hu ⟨.bl _, H, I, rfl, q⟩
end
theorem dpAll_len {K : PySem.W.Frag} {H : Hp} : ∀ {ds : List PyData} {vs : List V}, DpAll K H vs ds → vs.length = ds.length
  | [], _, h => by cases h; rfl
  | d :: ds, _, h => by
    cases h with
    | cons h1 h2 => rw [List.length_cons, List.length_cons, dpAll_len h2]
theorem dpAll_get {K : PySem.W.Frag} {H : Hp} : ∀ {ds : List PyData} {vs : List V} {i : Nat} {d : PyData}, DpAll K H vs ds → ds[i]? = some d → ∃ v, vs[i]? = some v ∧ Dp K H v d
  | [], _, _, _, _, e => by simp at e
  | x :: ds, _, 0, d, h, e => by
    cases h with
    | cons h1 h2 =>
      have : x = d := by simpa using e
      subst this
      exact ⟨_, rfl, h1⟩
  | x :: ds, _, i + 1, d, h, e => by
    cases h with
    | cons h1 h2 =>
      obtain ⟨v, e1, q⟩ := dpAll_get (i := i) h2 (by simpa using e)
      exact ⟨v, by simpa using e1, q⟩
theorem dpAll_app {K : PySem.W.Frag} {H : Hp} {es : List PyData} {ws : List V} (q : DpAll K H ws es) : ∀ {ds : List PyData} {vs : List V}, DpAll K H vs ds → DpAll K H (vs ++ ws) (ds ++ es)
  | [], _, h => by cases h; exact q
  | d :: ds, _, h => by
    cases h with
    | cons h1 h2 => exact .cons h1 (dpAll_app q h2)
theorem dpAll_one {K : PySem.W.Frag} {H : Hp} {v : V} {d : PyData} (h : Dp K H v d) : DpAll K H [v] [d] := .cons h .nil
inductive S where
  | un | dat (d : PyData) | own (ds : List PyData) | bag
  | odt (kvs : List (List Int × PyData))
inductive R where
  | dat (d : PyData) | new (ds : List PyData) | bor (ds : List PyData) | bag
structure Yc where
  H0 : Hp
  hs : List Addr
  bg : Option (Addr × Addr)
def BagAt (H : Hp) (b c : Addr) : Prop := ∃ (x y z : Int) (ns : List Int), ns.length ≤ 63 ∧ H b = some (.lst [.int x, .int y, .int z, .ref c]) ∧ H c = some (.lst (ns.map V.int))
def BagNow (Y : Yc) (H : Hp) : Prop := ∀ b c, Y.bg = some (b, c) → b ∈ Y.hs ∧ c ∈ Y.hs ∧ b ≠ c ∧ BagAt H b c
def Gr (Y : Yc) (H H' : Hp) : Prop := ∀ a o, (∀ b c, Y.bg = some (b, c) → a ≠ b) → H a = some o → H' a = some o
structure Trk (H : Hp) (a : Addr) : Prop where
  is : H a ≠ none
  nt : ∀ xs, H a ≠ some (.tup xs)
instance {H : Hp} {a : Addr} : CoeFun (Trk H a) (fun _ => H a = none → False) := ⟨fun t => t.is⟩
theorem Trk.l {H : Hp} {a : Addr} {xs : List V} (h : H a = some (.lst xs)) : Trk H a := ⟨by rw [h]; exact (fun z => nomatch z), fun ys => by rw [h]; exact (fun z => nomatch z)⟩
theorem Trk.d {H : Hp} {a : Addr} {kvs : List (List Key × V)} (h : H a = some (.dT kvs)) : Trk H a := ⟨by rw [h]; exact (fun z => nomatch z), fun ys => by rw [h]; exact (fun z => nomatch z)⟩
theorem Trk.to {H H' : Hp} {a : Addr} (t : Trk H a) (e : ∀ o, H a = some o → H' a = some o) : Trk H' a := by
  cases h : H a with
  | none => exact absurd h t.is
  | some o =>
    have h' := e o h
    refine ⟨by rw [h']; exact (fun z => nomatch z), fun xs => ?_⟩
    rw [h', ← h]
    exact t.nt xs
def Tracked (hs : List Addr) (H : Hp) : Prop := ∀ a ∈ hs, Trk H a
theorem Gr.refl {Y : Yc} {H : Hp} : Gr Y H H := fun _ _ _ h => h
theorem Gr.trans {Y : Yc} {H H1 H2 : Hp} (a : Gr Y H H1) (b : Gr Y H1 H2) : Gr Y H H2 := fun x o n h => b x o n (a x o n h)
theorem Gr.of {Y : Yc} {H H' : Hp} (e : Same H H') : Gr Y H H' := fun a o _ h => e a o h
theorem Gr.hide {Y : Yc} {H H' : Hp} {hs : List Addr} (g : Gr Y H H') (hb : ∀ b c, Y.bg = some (b, c) → b ∈ hs) : Same (hide hs H) (hide hs H') := fun a o h => by
  obtain ⟨n, e⟩ := hide_some h
  exact hide_of n (g a o (fun b c q z => n (by rw [z]; exact hb b c q)) e)
theorem Gr.fresh {Y : Yc} {H H' : Hp} {a : Addr} (g : Gr Y H H') (hb : BagNow Y H') (h : H' a = none) : H a = none := by
  cases e : H a with
  | none => rfl
  | some o =>
    have : H' a = some o := g a o (fun b c q z => by
      obtain ⟨_, _, _, x, y, zz, ns, _, e1, _⟩ := hb b c q
      rw [← z, h] at e1
      cases e1) e
    rw [h] at this
    cases this
theorem BagNow.same {Y : Yc} {H H' : Hp} (e : Same H H') (h : BagNow Y H) : BagNow Y H' := fun b c q => by
  obtain ⟨h1, h2, h3, x, y, z, ns, nl, e1, e2⟩ := h b c q
  exact ⟨h1, h2, h3, x, y, z, ns, nl, e _ _ e1, e _ _ e2⟩
def SlotOk (K : PySem.W.Frag) (Y : Yc) (hs : List Addr) (H : Hp) (o : Option (Option V)) : S → Prop
  | .un => True
  | .dat d => ∃ v, o = some (some v) ∧ Dp K (hide hs H) v d
  | .own ds => ∃ a xs, o = some (some (.ref a)) ∧ a ∈ hs ∧ a ∉ Y.hs ∧ H a = some (.lst xs) ∧ DpAll K (hide hs H) xs ds
  | .bag => ∃ b c, Y.bg = some (b, c) ∧ o = some (some (.ref b))
  | .odt ds => ∃ a kvs, o = some (some (.ref a)) ∧ a ∈ hs ∧ a ∉ Y.hs ∧ H a = some (.dT kvs) ∧ DpKvsT K (hide hs H) kvs (rowsT ds)
def LsAt (H : Hp) (a : Addr) : Prop := (∃ xs, H a = some (.lst xs)) ∨ ∃ kvs, H a = some (.dT kvs)
theorem LsAt.l {H : Hp} {a : Addr} {xs : List V} (h : H a = some (.lst xs)) : LsAt H a := .inl ⟨xs, h⟩
theorem LsAt.to {H H' : Hp} {a : Addr} (h : LsAt H a) (e : ∀ o, H a = some o → H' a = some o) : LsAt H' a := by
  rcases h with ⟨xs, h⟩ | ⟨kvs, h⟩
  · exact .inl ⟨xs, e _ h⟩
  · exact .inr ⟨kvs, e _ h⟩
theorem LsAt.is {H : Hp} {a : Addr} (h : LsAt H a) : H a ≠ none := by
  rcases h with ⟨xs, h⟩ | ⟨kvs, h⟩ <;> (rw [h]; exact fun z => nomatch z)
def Res (K : PySem.W.Frag) (Y : Yc) (hs : List Addr) (H H' : Hp) (v : V) : R → Prop
  | .dat d => Dp K (hide hs H') v d
  | .new ds => ∃ a xs, v = .ref a ∧ H a = none ∧ a ∉ hs ∧ H' a = some (.lst xs) ∧ DpAll K (hide (a :: hs) H') xs ds
  | .bor ds => ∃ a xs, v = .ref a ∧ a ∈ hs ∧ a ∉ Y.hs ∧ H' a = some (.lst xs) ∧ DpAll K (hide hs H') xs ds
  | .bag => ∃ b c, Y.bg = some (b, c) ∧ v = .ref b
structure Rel (K : PySem.W.Frag) (Y : Yc) (hs : List Addr) (σ : L2.St) (H : Hp) (δ : List S) : Prop where
  len : σ.length = δ.length
  slot : ∀ (i : Nat) (s : S), δ[i]? = some s → SlotOk K Y hs H σ[i]? s
  dist : ∀ (i j : Nat) (ds es : List PyData), i ≠ j → δ[i]? = some (.own ds) → δ[j]? = some (.own es) → σ[i]? ≠ σ[j]?
  sub : ∀ a ∈ Y.hs, a ∈ hs
  new : ∀ a ∈ hs, a ∉ Y.hs → Y.H0 a = none
  tr : Tracked hs H
  bag : BagNow Y H
  gr : Gr Y Y.H0 H
  ls : ∀ a ∈ hs, a ∉ Y.hs → LsAt H a
section
variable {K : PySem.W.Frag} {Y : Yc} {hs : List Addr} {σ : L2.St} {H H1 H2 H' : Hp} {δ : List S} {v w : V} {r : R}
theorem Rel.bgIn (I : Rel K Y hs σ H δ) : ∀ b c, Y.bg = some (b, c) → b ∈ hs := fun b c q => I.sub _ (I.bag b c q).1
theorem Tracked.gr (t : Tracked hs H) (g : Gr Y H H') (hb : BagNow Y H') : Tracked hs H' := fun a ha => by
  by_cases q : ∃ b c, Y.bg = some (b, c) ∧ a = b
  · obtain ⟨b, c, q, rfl⟩ := q
    obtain ⟨_, _, _, x, y, z, ns, _, e, _⟩ := hb a c q
    exact .l e
  · exact (t a ha).to fun o e => g a o (fun b c z y => q ⟨b, c, z, y⟩) e
theorem SlotOk.gr {o : Option (Option V)} {s : S} (q : SlotOk K Y hs H o s) (g : Gr Y H H') (hb : ∀ b c, Y.bg = some (b, c) → b ∈ Y.hs ∧ b ∈ hs) : SlotOk K Y hs H' o s := by
  have e := g.hide fun b c z => (hb b c z).2
  cases s with
  | un => trivial
  | dat d => obtain ⟨v, e1, e2⟩ := q; exact ⟨v, e1, dp_same e _ _ e2⟩
  | own ds =>
    obtain ⟨a, xs, e1, e2, e3, e4, e5⟩ := q
    exact ⟨a, xs, e1, e2, e3, g a _ (fun b c z y => e3 (by rw [y]; exact (hb b c z).1)) e4, dpAll_same e _ _ e5⟩
  | bag => exact q
  | odt ds =>
    obtain ⟨a, xs, e1, e2, e3, e4, e5⟩ := q
    exact ⟨a, xs, e1, e2, e3, g a _ (fun b c z y => e3 (by rw [y]; exact (hb b c z).1)) e4, dpKvsT_same e _ _ e5⟩
theorem Rel.grow (I : Rel K Y hs σ H δ) (g : Gr Y H H') (hb : BagNow Y H') : Rel K Y hs σ H' δ :=
  ⟨I.len, fun i s e => (I.slot i s e).gr g fun b c z => ⟨(I.bag b c z).1, I.bgIn b c z⟩, I.dist, I.sub, I.new, I.tr.gr g hb, hb, I.gr.trans g, fun a ha n => (I.ls a ha n).to fun o e => g a _ (fun b c z y => n (by rw [y]; exact (I.bag b c z).1)) e⟩
theorem Res.grow (q : Res K Y hs H H1 v r) (g : Gr Y H1 H2) (hb : ∀ b c, Y.bg = some (b, c) → b ∈ Y.hs ∧ b ∈ hs) (hn : BagNow Y H1) : Res K Y hs H H2 v r := by
  have e := g.hide fun b c z => (hb b c z).2
  cases r with
  | dat d => exact dp_same e _ _ q
  | new ds =>
    obtain ⟨a, xs, e1, e2, e3, e4, e5⟩ := q
    exact ⟨a, xs, e1, e2, e3, g a _ (fun b c z y => e3 (by rw [y]; exact (hb b c z).2)) e4, dpAll_same (g.hide fun b c z => List.mem_cons_of_mem _ (hb b c z).2) _ _ e5⟩
  | bor ds =>
    obtain ⟨a, xs, e1, e2, e3, e4, e5⟩ := q
    exact ⟨a, xs, e1, e2, e3, g a _ (fun b c z y => e3 (by rw [y]; exact (hb b c z).1)) e4, dpAll_same e _ _ e5⟩
  | bag => exact q
theorem Res.back (q : Res K Y hs H1 H2 v r) (g : Gr Y H H1) (hb : BagNow Y H1) : Res K Y hs H H2 v r := by
  cases r with
  | dat d => exact q
  | new ds =>
    obtain ⟨a, xs, e1, e2, e3, e4, e5⟩ := q
    exact ⟨a, xs, e1, g.fresh hb e2, e3, e4, e5⟩
  | bor ds => exact q
  | bag => exact q
def R.d : R → PyData
  | .dat d => d
  | .new ds => .list ds
  | .bor ds => .list ds
  | .bag => .none
def R.solid : R → Prop
  | .dat _ => True
  | .new _ => True
  | _ => False
def R.plain : R → Prop
  | .bag => False
  | _ => True
theorem Res.read (q : Res K Y hs H H' v r) (p : r.plain) : Dp K H' v r.d := by
  cases r with
  | dat d => exact dp_same hide_same _ _ q
  | new ds =>
    obtain ⟨a, xs, rfl, _, _, e4, e5⟩ := q
    exact .lst (SqL.of e4) (dpAll_same hide_same _ _ e5)
  | bor ds =>
    obtain ⟨a, xs, rfl, _, _, e4, e5⟩ := q
    exact .lst (SqL.of e4) (dpAll_same hide_same _ _ e5)
  | bag => exact False.elim p
theorem Res.keep (q : Res K Y hs H H' v r) (p : r.solid) : Dp K (hide hs H') v r.d := by
  cases r with
  | dat d => exact q
  | new ds =>
    obtain ⟨a, xs, rfl, _, e3, e4, e5⟩ := q
    exact .lst (SqL.of (hide_of e3 e4)) (dpAll_same (hide_sub fun _ h => List.mem_cons_of_mem _ h) _ _ e5)
  | bor ds => exact False.elim p
  | bag => exact False.elim p
theorem Res.lst {ds : List PyData} (q : Res K Y hs H H' v r) (p : r.plain) (e : r.d = .list ds) : ∃ a xs, v = .ref a ∧ SqL K H' a xs ∧ DpAll K (hide hs H') xs ds := by
  cases r with
  | dat d =>
    have e' : d = .list ds := e
    subst e'
    have q' : Dp K (hide hs H') v (.list ds) := q
    cases q' with
    | lst hs ha => exact ⟨_, _, rfl, hide_same.seq hs, ha⟩
  | new es =>
    have e' : es = ds := PyData.list.inj e
    subst e'
    obtain ⟨a, xs, rfl, _, _, e4, e5⟩ := q
    exact ⟨a, xs, rfl, SqL.of e4, dpAll_same (hide_sub fun _ h => List.mem_cons_of_mem _ h) _ _ e5⟩
  | bor es =>
    have e' : es = ds := PyData.list.inj e
    subst e'
    obtain ⟨a, xs, rfl, _, _, e4, e5⟩ := q
    exact ⟨a, xs, rfl, SqL.of e4, e5⟩
  | bag => exact False.elim p
theorem Res.tup {ds : List PyData} (q : Res K Y hs H H' v (.dat (.tuple ds))) : ∃ a xs, v = .ref a ∧ SqT K (hide hs H') a xs ∧ DpAll K (hide hs H') xs ds := by
  have q' : Dp K (hide hs H') v (.tuple ds) := q
  cases q' with
  | tup hs ha => exact ⟨_, _, rfl, SqT.of hs, ha⟩
theorem Rel.set (I : Rel K Y hs σ H δ) {i : Nat} {d : PyData} (q : Dp K (hide hs H) v d) : Rel K Y hs (σ.set i (some v)) H (δ.set i (.dat d)) := by
  refine ⟨by rw [List.length_set, List.length_set]; exact I.len, fun j s e => ?_, fun j k ds es n e1 e2 => ?_, I.sub, I.new, I.tr, I.bag, I.gr, I.ls⟩
  · by_cases h : i = j
    · subst h
      have hl : i < δ.length := by
        have := (List.getElem?_eq_some_iff.mp e).1
        rwa [List.length_set] at this
      rw [List.getElem?_set_self hl] at e
      cases e
      exact ⟨v, by rw [List.getElem?_set_self (by rw [I.len]; exact hl)], q⟩
    · rw [List.getElem?_set_ne h] at e
      rw [List.getElem?_set_ne h]
      exact I.slot j s e
  · have own_ne : ∀ {j : Nat} {ds : List PyData}, (δ.set i (S.dat d))[j]? = some (.own ds) → i ≠ j ∧ δ[j]? = some (.own ds) := fun {j ds} e => by
      by_cases h : i = j
      · subst h
        by_cases hl : i < δ.length
        · rw [List.getElem?_set_self hl] at e
          cases e
        · rw [List.getElem?_eq_none (by rw [List.length_set]; omega)] at e
          cases e
      · rw [List.getElem?_set_ne h] at e
        exact ⟨h, e⟩
    obtain ⟨n1, f1⟩ := own_ne e1
    obtain ⟨n2, f2⟩ := own_ne e2
    rw [List.getElem?_set_ne n1, List.getElem?_set_ne n2]
    exact I.dist j k ds es n f1 f2
theorem Rel.setNew (I : Rel K Y hs σ H δ) (g : Gr Y H H') (hb : BagNow Y H') {i : Nat} {ds : List PyData} {a : Addr} {xs : List V} (n0 : H a = none) (e4 : H' a = some (.lst xs)) (e5 : DpAll K (hide (a :: hs) H') xs ds) :
    Rel K Y (a :: hs) (σ.set i (some (.ref a))) H' (δ.set i (.own ds)) ∧ Same (hide hs H) (hide (a :: hs) H') := by
  have na : a ∉ hs := fun h => I.tr a h n0
  have ex : Same (hide hs H) (hide (a :: hs) H') := fun b o h => by
    obtain ⟨n, e⟩ := hide_some h
    refine hide_of (fun z => ?_) (g b o (fun b' c q z => n (by rw [z]; exact I.bgIn b' c q)) e)
    rcases List.mem_cons.mp z with z | z
    · subst z
      rw [n0] at e
      cases e
    · exact n z
  have I' := I.grow g hb
  refine ⟨⟨by rw [List.length_set, List.length_set]; exact I.len, fun j s e => ?_, fun j k es fs n e1 e2 => ?_, fun b hb' => List.mem_cons_of_mem _ (I.sub b hb'), fun b hb' n => ?_, fun b hb' => ?_, hb, I'.gr, fun b hb' n => (List.mem_cons.mp hb').elim (fun z => .inl ⟨xs, by rw [z]; exact e4⟩) fun z => I'.ls b z n⟩, ex⟩
  · by_cases h : i = j
    · subst h
      have hl : i < δ.length := by
        have := (List.getElem?_eq_some_iff.mp e).1
        rwa [List.length_set] at this
      rw [List.getElem?_set_self hl] at e
      cases e
      exact ⟨a, xs, by rw [List.getElem?_set_self (by rw [I.len]; exact hl)], List.mem_cons_self, fun z => na (I.sub a z), e4, e5⟩
    · rw [List.getElem?_set_ne h] at e
      rw [List.getElem?_set_ne h]
      have q := I.slot j s e
      cases s with
      | un => trivial
      | dat d => obtain ⟨v, e1, e2⟩ := q; exact ⟨v, e1, dp_same ex _ _ e2⟩
      | own ds =>
        obtain ⟨b, ys, e1, e2, e3, e6, e7⟩ := q
        exact ⟨b, ys, e1, List.mem_cons_of_mem _ e2, e3, g b _ (fun b' c z y => e3 (by rw [y]; exact (I.bag b' c z).1)) e6, dpAll_same ex _ _ e7⟩
      | bag => exact q
      | odt ds =>
        obtain ⟨b, ys, e1, e2, e3, e6, e7⟩ := q
        exact ⟨b, ys, e1, List.mem_cons_of_mem _ e2, e3, g b _ (fun b' c z y => e3 (by rw [y]; exact (I.bag b' c z).1)) e6, dpKvsT_same ex _ _ e7⟩
  · have at_new : ∀ {j : Nat} {ds : List PyData}, j ≠ i → (δ.set i (S.own ds))[i]? = some (.own ds) → ∀ {es : List PyData}, δ[j]? = some (.own es) → (σ.set i (some (V.ref a)))[i]? ≠ (σ.set i (some (V.ref a)))[j]? := fun {j ds} nj _ {es} ej z => by
      obtain ⟨b, ys, f1, f2, _⟩ := I.slot j _ ej
      have hi : (σ.set i (some (V.ref a)))[j]? = some (some (.ref b)) := by
        rw [List.getElem?_set_ne (Ne.symm nj)]
        exact f1
      rw [hi] at z
      by_cases hl : i < σ.length
      · rw [List.getElem?_set_self hl] at z
        cases z
        exact na f2
      · rw [List.getElem?_eq_none (by rw [List.length_set]; omega)] at z
        cases z
    have dec : ∀ {j : Nat} {es : List PyData}, (δ.set i (S.own ds))[j]? = some (.own es) → (j = i ∧ i < δ.length) ∨ (i ≠ j ∧ δ[j]? = some (.own es)) := fun {j es} e => by
      by_cases h : i = j
      · subst h
        have hl := (List.getElem?_eq_some_iff.mp e).1
        rw [List.length_set] at hl
        exact .inl ⟨rfl, hl⟩
      · rw [List.getElem?_set_ne h] at e
        exact .inr ⟨h, e⟩
    rcases dec e1 with ⟨z1, hl⟩ | ⟨n1, f1⟩
    · rcases dec e2 with ⟨z2, _⟩ | ⟨n2, f2⟩
      · exact absurd (z1.trans z2.symm) n
      · subst z1
        exact at_new (ds := ds) (Ne.symm n2) (List.getElem?_set_self hl) f2
    · rcases dec e2 with ⟨z2, hl⟩ | ⟨n2, f2⟩
      · subst z2
        exact fun z => at_new (ds := ds) (Ne.symm n1) (List.getElem?_set_self hl) f1 z.symm
      · rw [List.getElem?_set_ne n1, List.getElem?_set_ne n2]
        exact I.dist j k es fs n f1 f2
  · rcases List.mem_cons.mp hb' with z | z
    · subst z
      exact I.gr.fresh I.bag n0
    · exact I.new b z n
  · rcases List.mem_cons.mp hb' with z | z
    · subst z
      exact .l e4
    · exact I'.tr b z
theorem Rel.upd (I : Rel K Y hs σ H δ) {i : Nat} {ds es : List PyData} {a : Addr} {ys : List V} (e : δ[i]? = some (.own ds)) (ea : σ[i]? = some (some (.ref a))) (q : DpAll K (hide hs H) ys es) :
    Rel K Y hs σ (upd H a (.lst ys)) (δ.set i (.own es)) ∧ Same (hide hs H) (hide hs (upd H a (.lst ys))) := by
  obtain ⟨a', xs, f1, f2, f3, f4, f5⟩ := I.slot i _ e
  rw [ea] at f1
  cases f1
  have ex : Same (hide hs H) (hide hs (L2.upd H a (.lst ys))) := fun b o h => by
    obtain ⟨n, e⟩ := hide_some h
    refine hide_of n ?_
    rw [upd_ne (fun z => n (by rw [z]; exact f2))]
    exact e
  refine ⟨⟨by rw [List.length_set]; exact I.len, fun j s ej => ?_, fun j k gs hs' n e1 e2 => ?_, I.sub, I.new, fun b hb' => ?_, fun b c z => ?_, fun b o n h => ?_, fun b hb' n => ?_⟩, ex⟩
  · by_cases h : i = j
    · subst h
      rw [List.getElem?_set_self (List.getElem?_eq_some_iff.mp e).1] at ej
      cases ej
      exact ⟨a, ys, ea, f2, f3, upd_same, dpAll_same ex _ _ q⟩
    · rw [List.getElem?_set_ne h] at ej
      have p := I.slot j s ej
      cases s with
      | un => trivial
      | dat d => obtain ⟨v, e1, e2⟩ := p; exact ⟨v, e1, dp_same ex _ _ e2⟩
      | own gs =>
        obtain ⟨b, zs, e1, e2, e3, e6, e7⟩ := p
        have nb : b ≠ a := fun z => I.dist i j ds gs h e ej (by rw [ea, e1, z])
        exact ⟨b, zs, e1, e2, e3, by rw [upd_ne nb]; exact e6, dpAll_same ex _ _ e7⟩
      | bag => exact p
      | odt gs =>
        obtain ⟨b, zs, e1, e2, e3, e6, e7⟩ := p
        have nb : b ≠ a := fun z => by rw [z, f4] at e6; cases e6
        exact ⟨b, zs, e1, e2, e3, by rw [upd_ne nb]; exact e6, dpKvsT_same ex _ _ e7⟩
  · have dec : ∀ {j : Nat} {gs : List PyData}, (δ.set i (S.own es))[j]? = some (.own gs) → ∃ gs', δ[j]? = some (.own gs') := fun {j gs} ej => by
      by_cases h : i = j
      · subst h
        exact ⟨ds, e⟩
      · rw [List.getElem?_set_ne h] at ej
        exact ⟨gs, ej⟩
    obtain ⟨g1, h1⟩ := dec e1
    obtain ⟨g2, h2⟩ := dec e2
    exact I.dist j k g1 g2 n h1 h2
  · by_cases h : b = a
    · rw [h]
      exact .l upd_same
    · exact (I.tr b hb').to fun o e => by rw [upd_ne h]; exact e
  · obtain ⟨h1, h2, h3, x, y, zz, ns, nl, e1, e2⟩ := I.bag b c z
    refine ⟨h1, h2, h3, x, y, zz, ns, nl, ?_, ?_⟩
    · rw [upd_ne (fun q => f3 (by rw [← q]; exact h1))]
      exact e1
    · rw [upd_ne (fun q => f3 (by rw [← q]; exact h2))]
      exact e2
  · have hb := I.gr b o n h
    rw [upd_ne (fun z => ?_)]
    · exact hb
    · subst z
      rw [I.new b f2 f3] at h
      cases h
  · by_cases h : b = a
    · exact .inl ⟨ys, by rw [h, upd_same]⟩
    · exact (I.ls b hb' n).to fun o e => by rw [upd_ne h]; exact e
def thaw : S → S
  | .own ds => .dat (.list ds)
  | .odt _ => .un
  | s => s
theorem Rel.thaw (I : Rel K Y hs σ H δ) : Rel K Y Y.hs σ H (δ.map thaw) := by
  refine ⟨by rw [List.length_map]; exact I.len, fun i s e => ?_, fun i j ds es n e1 e2 => ?_, fun a h => h, fun a h n => absurd h n, fun a h => I.tr a (I.sub a h), I.bag, I.gr, fun a h n => absurd h n⟩
  · rw [List.getElem?_map] at e
    cases e0 : δ[i]? with
    | none => rw [e0] at e; cases e
    | some s0 =>
      rw [e0] at e
      have e' : DL.thaw s0 = s := Option.some.inj e
      subst e'
      have q := I.slot i s0 e0
      have ex : Same (hide hs H) (hide Y.hs H) := hide_sub I.sub
      cases s0 with
      | un => trivial
      | dat d => obtain ⟨v, e1, e2⟩ := q; exact ⟨v, e1, dp_same ex _ _ e2⟩
      | own ds =>
        obtain ⟨a, xs, e1, e2, e3, e4, e5⟩ := q
        exact ⟨.ref a, e1, .lst (SqL.of (hide_of e3 e4)) (dpAll_same ex _ _ e5)⟩
      | bag => exact q
      | odt ds => trivial
  · rw [List.getElem?_map] at e1
    cases e0 : δ[i]? with
    | none => rw [e0] at e1; cases e1
    | some s0 =>
      rw [e0] at e1
      have e' : DL.thaw s0 = .own ds := Option.some.inj e1
      cases s0 <;> cases e'
end
end DL
set_option maxHeartbeats 1000000
namespace DL
open PySem PySem.Spec PyProof.Rows L2
abbrev DE := List S → (R → Prop) → Prop
abbrev DA := List S → (List R → Prop) → Prop
abbrev DT := List S → (Bool → Prop) → Prop
abbrev D2 := R → R → (R → Prop) → Prop
abbrev DC := List R → (R → Prop) → Prop
def ResAll (K : PySem.W.Frag) (Y : Yc) (hs : List Addr) (H H' : Hp) : List V → List R → Prop := Paired (fun v r => Res K Y hs H H' v r)
def tl (K : PySem.W.Frag) (Y : Yc) (t : DE) : TE := fun σ H Q => ∃ hs δ P, Rel K Y hs σ H δ ∧ t δ P ∧ ∀ r v H', P r → Gr Y H H' → BagNow Y H' → Res K Y hs H H' v r → Q v H'
def tla (K : PySem.W.Frag) (Y : Yc) (t : DA) : TA := fun σ H Q => ∃ hs δ P, Rel K Y hs σ H δ ∧ t δ P ∧ ∀ rs vs H', P rs → Gr Y H H' → BagNow Y H' → ResAll K Y hs H H' vs rs → Q vs H'
def tlt (K : PySem.W.Frag) (Y : Yc) (t : DT) : TT := fun σ H Q => ∃ hs δ P, Rel K Y hs σ H δ ∧ t δ P ∧ ∀ b H', P b → Gr Y H H' → BagNow Y H' → Q b H'
section
variable {X : Cx} {Y : Yc} {e a b c : Expr} {es : List Expr} {pos : Pos}
theorem pe_imp {t t' : TE} (h : PE X e t) (i : ∀ σ H Q, t' σ H Q → t σ H Q) : PE X e t' := ⟨fun pins s σ H Q I hq => h.run pins s σ H Q I (i σ H Q hq)⟩
theorem pa_imp {t t' : TA} (h : PA X es t) (i : ∀ σ H Q, t' σ H Q → t σ H Q) : PA X es t' := ⟨fun pos pins s σ H Q I hq => h.run pos pins s σ H Q I (i σ H Q hq)⟩
def dVar (i : Nat) : DE := fun δ P => match δ[i]? with
  | some (.dat d) => P (.dat d)
  | some (.own ds) => P (.bor ds)
  | some .bag => P .bag
  | _ => False
theorem xe_var {i : Nat} (h : PE X e (tVar i)) : PE X e (tl X.K Y (dVar i)) := pe_imp h fun σ H Q ⟨hs, δ, P, I, q, k⟩ => by
  unfold dVar at q
  cases e1 : δ[i]? with
  | none => rw [e1] at q; exact False.elim q
  | some s =>
    rw [e1] at q
    have w := I.slot i s e1
    cases s with
    | un => exact False.elim q
    | dat d => obtain ⟨v, f1, f2⟩ := w; exact ⟨v, f1, k _ v H q .refl I.bag f2⟩
    | own ds => obtain ⟨a, xs, f1, f2, f3, f4, f5⟩ := w; exact ⟨_, f1, k _ _ H q .refl I.bag ⟨a, xs, rfl, f2, f3, f4, f5⟩⟩
    | odt ds => exact False.elim q
    | bag => obtain ⟨b, c, f1, f2⟩ := w; exact ⟨_, f2, k _ _ H q .refl I.bag ⟨b, c, f1, rfl⟩⟩
def dC (d : PyData) : DE := fun _ P => P (.dat d)
theorem xe_int {i : Int} {j pos} : PE X (.Constant (.int i) j pos) (tl X.K Y (dC (.int i))) := pe_imp pe_int fun σ H Q ⟨hs, δ, P, I, q, k⟩ => k _ _ H q .refl I.bag (.int i)
theorem xe_bl {b j pos} : PE X (.Constant (.bool b) j pos) (tl X.K Y (dC (.bool b))) := pe_imp pe_bl fun σ H Q ⟨hs, δ, P, I, q, k⟩ => k _ _ H q .refl I.bag (.bl b)
theorem xe_non {j pos} : PE X (.Constant .none j pos) (tl X.K Y (dC .none)) := pe_imp pe_non fun σ H Q ⟨hs, δ, P, I, q, k⟩ => k _ _ H q .refl I.bag .non
theorem xe_str {x j pos} : PE X (.Constant (.str x) j pos) (tl X.K Y (dC (.str x))) := pe_imp pe_str fun σ H Q ⟨hs, δ, P, I, q, k⟩ => k _ _ H q .refl I.bag (.str x)
structure At (K : PySem.W.Frag) (Y : Yc) (hs : List Addr) (H : Hp) : Prop where
  bg : ∀ b c, Y.bg = some (b, c) → b ∈ Y.hs ∧ b ∈ hs
  tr : Tracked hs H
  bag : BagNow Y H
theorem Rel.at {K : PySem.W.Frag} {hs : List Addr} {σ : L2.St} {H : Hp} {δ : List S} (I : Rel K Y hs σ H δ) : At K Y hs H := ⟨fun b c q => ⟨(I.bag b c q).1, I.bgIn b c q⟩, I.tr, I.bag⟩
def Lift2 (K : PySem.W.Frag) (Y : Yc) (r : R2) (g : D2) : Prop := ∀ (hs : List Addr) (H0 H : Hp) (v w : V) (x y : R) (P : R → Prop) (Q : VK), At K Y hs H → (∀ a, H a = none → H0 a = none) → Res K Y hs H0 H v x → Res K Y hs H0 H w y → g x y P →
  (∀ z u H', P z → Same H H' → Res K Y hs H0 H' u z → Q u H') → r v w H Q
def LiftC (K : PySem.W.Frag) (Y : Yc) (r : List V → Hp → VK → Prop) (g : DC) : Prop := ∀ (hs : List Addr) (H0 H : Hp) (vs : List V) (xs : List R) (P : R → Prop) (Q : VK), At K Y hs H → (∀ a, H a = none → H0 a = none) → ResAll K Y hs H0 H vs xs → g xs P →
  (∀ z u H', P z → Same H H' → Res K Y hs H0 H' u z → Q u H') → r vs H Q
def dOp (g : D2) (ta tb : DE) : DE := fun δ P => ta δ fun x => tb δ fun y => g x y P
theorem x_op {K : PySem.W.Frag} {r : R2} {g : D2} {ta tb : DE} (hg : Lift2 K Y r g) : ∀ σ H Q, tl K Y (dOp g ta tb) σ H Q → tOp r (tl K Y ta) (tl K Y tb) σ H Q := fun σ H Q ⟨hs, δ, P, I, q, k⟩ =>
  ⟨hs, δ, _, I, q, fun x v H1 q1 g1 b1 r1 => ⟨hs, δ, _, I.grow g1 b1, q1, fun y w H2 q2 g2 b2 r2 => by
    have I2 := (I.grow g1 b1).grow g2 b2
    refine hg hs H H2 v w x y P Q I2.at (fun a n => g1.fresh b1 (g2.fresh b2 n)) (r1.grow g2 I.at.bg b1) (r2.back g1 b1) q2 fun z u H3 p e rz => ?_
    exact k z u H3 p ((g1.trans g2).trans (.of e)) (b2.same e) rz⟩⟩
theorem xe_op {op : Operator} {r : R2} {g : D2} {ta tb : DE} (ho : OpR X (binaryOp op) r) (hg : Lift2 X.K Y r g) (ha : PE X a (tl X.K Y ta)) (hb : PE X b (tl X.K Y tb)) : PE X (.BinOp a op b pos) (tl X.K Y (dOp g ta tb)) :=
  pe_imp (pe_op ho ha hb) (x_op hg)
theorem xe_cmp {op : CmpOp} {r : R2} {g : D2} {ta tb : DE} (ho : OpR X (compareOp op) r) (hg : Lift2 X.K Y r g) (ha : PE X a (tl X.K Y ta)) (hb : PE X b (tl X.K Y tb)) (hm : behindInMarks op b = false) : PE X (.Compare a [op] [b] pos) (tl X.K Y (dOp g ta tb)) :=
  pe_imp (pe_cmpR ho ha hb hm) (x_op hg)
def gI (C : Int → Int → Prop) (f : Int → Int → PyData) : D2 := fun x y P => match x, y with
  | .dat (.int i), .dat (.int j) => C i j ∧ P (.dat (f i j))
  | _, _ => False
theorem lift_I {K : PySem.W.Frag} {C : Int → Int → Prop} {f : Int → Int → V} {g : Int → Int → PyData} (hf : ∀ i j K H, Dp K H (f i j) (g i j)) : Lift2 K Y (rI C f) (gI C g) := fun hs H0 H v w x y P Q _ _ rx ry q k => by
  unfold gI at q
  split at q
  · cases rx; cases ry
    exact ⟨_, _, rfl, rfl, q.1, k _ _ H q.2 (Same.refl H) (hf _ _ _ _)⟩
  · exact False.elim q
def CDivA (_ j : Int) : Prop := j ≠ 0 ∧ j.natAbs.log2 < 9000
theorem op_fdivA : OpR X (binaryOp .FloorDiv) (rI CDivA fun i j => .int (i.fdiv j)) := opI fun i j _ _ _ _ _ hc q =>
  floordiv_int hc.1 q (.inl (PyProof.noPylong_of_log2 hc.2))
theorem paired_len {α β : Type} {F : α → β → Prop} {xs : List α} {ys : List β} (h : Paired F xs ys) : xs.length = ys.length := Paired.length h
theorem resAll_solid {K : PySem.W.Frag} {hs : List Addr} {H0 H : Hp} : ∀ {vs : List V} {rs : List R}, ResAll K Y hs H0 H vs rs → (∀ r ∈ rs, r.solid) → DpAll K (hide hs H) vs (rs.map R.d)
  | _, _, .nil, _ => .nil
  | _, _, .cons h t, p => .cons (Res.keep h (p _ List.mem_cons_self)) (resAll_solid t fun r hr => p r (List.mem_cons_of_mem _ hr))
def R.isSolid : R → Bool
  | .dat _ => true
  | .new _ => true
  | _ => false
theorem R.solid_of {r : R} (h : r.isSolid = true) : r.solid := by cases r <;> first | trivial | cases h
def dNil : DA := fun _ P => P []
def dCons (t : DE) (u : DA) : DA := fun δ P => t δ fun r => u δ fun rs => P (r :: rs)
theorem xa_nil : PA X [] (tla X.K Y dNil) := pa_imp pa_nil fun σ H Q ⟨hs, δ, P, I, q, k⟩ => k _ _ H q .refl I.bag .nil
theorem resAll_back {K : PySem.W.Frag} {hs : List Addr} {H H1 H2 : Hp} (g : Gr Y H H1) (hb : BagNow Y H1) : ∀ {vs : List V} {rs : List R}, ResAll K Y hs H1 H2 vs rs → ResAll K Y hs H H2 vs rs
  | _, _, .nil => .nil
  | _, _, .cons h t => .cons (Res.back h g hb) (resAll_back g hb t)
theorem xa_cons {t : DE} {u : DA} (h : PE X e (tl X.K Y t)) (hr : PA X es (tla X.K Y u)) (hs : starEach (e :: es) X.env = (false, eval e X.env) :: starEach es X.env := by rfl) : PA X (e :: es) (tla X.K Y (dCons t u)) :=
  pa_imp (pa_cons h hr hs) fun σ H Q ⟨hs, δ, P, I, q, k⟩ => ⟨hs, δ, _, I, q, fun r v H1 q1 g1 b1 r1 => ⟨hs, δ, _, I.grow g1 b1, q1, fun rs vs H2 q2 g2 b2 r2 =>
    k (r :: rs) (v :: vs) H2 q2 (g1.trans g2) b2 (.cons (r1.grow g2 I.at.bg b1) (resAll_back g1 b1 r2))⟩⟩
def dTup (t : DA) : DE := fun δ P => t δ fun rs => (rs.all R.isSolid = true ∧ rs.length ≤ 1000) ∧ P (.dat (.tuple (rs.map R.d)))
theorem all_solid {rs : List R} (h : rs.all R.isSolid = true) : ∀ r ∈ rs, r.solid := fun r hr => R.solid_of (List.all_eq_true.mp h r hr)
theorem xe_tup {x1} {t : DA} (h : PA X es (tla X.K Y t)) : PE X (.Tuple es x1 pos) (tl X.K Y (dTup t)) := pe_imp (pe_tup h) fun σ H Q ⟨hs, δ, P, I, q, k⟩ =>
  ⟨hs, δ, _, I, q, fun rs vs H1 ⟨⟨q1, q2⟩, q3⟩ g1 b1 r1 => ⟨by rw [paired_len r1]; exact Nat.le_of_lt (small1000 q2), fun p hp => by
    have np : p ∉ hs := fun z => (I.grow g1 b1).tr p z hp
    have e : Same H1 (L2.upd H1 p (.tup vs)) := fun a o h => by rw [upd_ne (ne_of_none h hp)]; exact h
    have e2 : Same (hide hs H1) (hide hs (L2.upd H1 p (.tup vs))) := fun a o h => by
      obtain ⟨n, h⟩ := hide_some h
      exact hide_of n (e a o h)
    exact k _ _ _ q3 (g1.trans (.of e)) (b1.same e) (Dp.tup ((hide_of np upd_same)) (dpAll_same e2 _ _ (resAll_solid r1 (all_solid q1))))⟩⟩
def dLst (t : DA) : DE := fun δ P => t δ fun rs => (rs.all R.isSolid = true ∧ rs.length ≤ 1000) ∧ P (.new (rs.map R.d))
theorem xe_lst {t : DA} (h : PA X es (tla X.K Y t)) : PE X (.List es pos) (tl X.K Y (dLst t)) := pe_imp (pe_lst h) fun σ H Q ⟨hs, δ, P, I, q, k⟩ =>
  ⟨hs, δ, _, I, q, fun rs vs H1 ⟨⟨q1, q2⟩, q3⟩ g1 b1 r1 => ⟨by rw [paired_len r1]; exact Nat.le_of_lt (small1000 q2), fun p hp => by
    have np : p ∉ hs := fun z => (I.grow g1 b1).tr p z hp
    have e : Same H1 (L2.upd H1 p (.lst vs)) := fun a o h => by rw [upd_ne (ne_of_none h hp)]; exact h
    have e2 : Same (hide hs H1) (hide (p :: hs) (L2.upd H1 p (.lst vs))) := fun a o h => by
      obtain ⟨n, h⟩ := hide_some h
      refine hide_of (fun z => ?_) (e a o h)
      rcases List.mem_cons.mp z with z | z
      · exact ne_of_none h hp z
      · exact n z
    exact k _ _ _ q3 (g1.trans (.of e)) (b1.same e) ⟨p, vs, rfl, g1.fresh b1 hp, np, upd_same, dpAll_same e2 _ _ (resAll_solid r1 (all_solid q1))⟩⟩⟩
def gIx : D2 := fun x y P => match x, y with
  | .dat (.tuple ds), .dat (.int i) => (match atI ds i with | some d => P (.dat d) | none => False)
  | .dat (.list ds), .dat (.int i) => (match atI ds i with | some d => P (.dat d) | none => False)
  | .new ds, .dat (.int i) => (match atI ds i with | some d => P (.dat d) | none => False)
  | .bor ds, .dat (.int i) => (match atI ds i with | some d => P (.dat d) | none => False)
  | _, _ => False
theorem dpAll_at {K : PySem.W.Frag} {H : Hp} {ds : List PyData} {vs : List V} {i : Int} {d : PyData} (h : DpAll K H vs ds) (e : atI ds i = some d) : ∃ v, atI vs i = some v ∧ Dp K H v d := by
  unfold atI at e ⊢
  rw [dpAll_len h]
  cases q : ixN ds.length i with
  | none => rw [q] at e; cases e
  | some j =>
    rw [q] at e
    exact dpAll_get h e
theorem lift_ix {K : PySem.W.Frag} : Lift2 K Y (rIx K) gIx := fun hs H0 H v w x y P Q A _ rx ry q k => by
  have lst : ∀ {ds : List PyData} {i : Int}, x.plain → x.d = .list ds → y = .dat (.int i) → (match atI ds i with | some d => P (.dat d) | none => False) → rIx K v w H Q := fun {ds i} p e ey q0 => by
    subst ey
    cases ry
    cases f : atI ds i with
    | none => rw [f] at q0; exact False.elim q0
    | some d =>
      rw [f] at q0
      obtain ⟨a, xs, rfl, h1, h2⟩ := Res.lst rx p e
      obtain ⟨u, h3, h4⟩ := dpAll_at h2 f
      exact .inl ⟨a, xs, i, u, rfl, rfl, h1, h3, k _ _ H q0 (Same.refl H) h4⟩
  unfold gIx at q
  split at q
  · cases ry
    rename_i ds i
    cases f : atI ds i with
    | none => rw [f] at q; exact False.elim q
    | some d =>
      rw [f] at q
      obtain ⟨a, xs, rfl, h1, h2⟩ := Res.tup rx
      obtain ⟨u, h3, h4⟩ := dpAll_at h2 f
      exact .inr (.inl ⟨a, xs, i, u, rfl, rfl, sqT_same hide_same h1, h3, k _ _ H q (Same.refl H) h4⟩)
  · exact lst trivial rfl rfl q
  · exact lst trivial rfl rfl q
  · exact lst trivial rfl rfl q
  · exact False.elim q
theorem xe_ix {ta tb : DE} (ha : PE X a (tl X.K Y ta)) (hb : PE X b (tl X.K Y tb)) (hs : PlainIx b) : PE X (.Subscript a b pos) (tl X.K Y (dOp gIx ta tb)) := pe_imp (pe_ix ix_seq ha hb hs) (x_op lift_ix)
def gEq (n : Bool) : D2 := fun x y P => match x, y with
  | .dat (.str u), .dat (.str v) => P (.dat (.bool (decide (u = v) != n)))
  | .bag, _ => False
  | _, .bag => False
  | x, y => SeqAt.shaped x.d = true ∧ SeqAt.shaped y.d = true ∧ P (.dat (.bool (PyData.eqv x.d y.d != n)))
theorem op_eqA {X : Cx} (hu : X.A.units + 64 < cLine) : OpR X (compareOp .Eq) (fun x y H Q => rEq x y H Q ∨ rEqD X.K x y H Q) := by
  intro pins s σ H x y v u Q I rx ry hq
  rcases hq with hq | hq
  · exact op_eq pins s σ H x y v u Q I rx ry hq
  · exact op_eqD hu pins s σ H x y v u Q I rx ry hq
theorem gEq_of {n : Bool} {x y : R} {P : R → Prop} (h : gEq n x y P) : (∃ u v, x = .dat (.str u) ∧ y = .dat (.str v) ∧ P (.dat (.bool (decide (u = v) != n)))) ∨ (x.plain ∧ y.plain ∧ SeqAt.shaped x.d = true ∧ SeqAt.shaped y.d = true ∧ P (.dat (.bool (PyData.eqv x.d y.d != n)))) := by
  unfold gEq at h
  split at h
  · exact .inl ⟨_, _, rfl, rfl, h⟩
  · exact False.elim h
  · exact False.elim h
  · rename_i h1 h2 h3
    refine .inr ⟨?_, ?_, h⟩
    · cases x <;> first | trivial | exact absurd rfl h2
    · cases y <;> first | trivial | exact absurd rfl h3
theorem str_dec {u v : Str} : decide (V.str u = V.str v) = decide (u = v) := by
  by_cases h : u = v
  · subst h
    rw [decide_eq_true rfl, decide_eq_true rfl]
  · rw [decide_eq_false h, decide_eq_false fun z => h (V.str.inj z)]
theorem lift_eq {K : PySem.W.Frag} : Lift2 K Y (fun x y H Q => rEq x y H Q ∨ rEqD K x y H Q) (gEq false) := fun hs H0 H v w x y P Q A _ rx ry q k => by
  rcases gEq_of q with ⟨u, t, rfl, rfl, q⟩ | ⟨p1, p2, s1, s2, q⟩
  · cases rx; cases ry
    refine .inl ⟨rfl, k _ _ H q (Same.refl H) ?_⟩
    rw [Bool.bne_false, str_dec]
    exact .bl _
  · refine .inr ⟨x.d, y.d, rx.read p1, ry.read p2, s1, s2, k _ _ H q (Same.refl H) ?_⟩
    rw [Bool.bne_false]
    exact .bl _
def dCB (g : DC) (t : DA) : DE := fun δ P => t δ fun rs => g rs P
variable {p : Pos} {x : Str} {id T : String} {r : List V → Hp → VK → Prop} {g : DC} {t : DA}
theorem x_CB {K : PySem.W.Frag} (hg : LiftC K Y r g) : ∀ σ H Q, tl K Y (dCB g t) σ H Q → tCB r (tla K Y t) σ H Q := fun σ H Q ⟨hs, δ, P, I, q, k⟩ =>
  ⟨hs, δ, _, I, q, fun rs vs H1 q1 g1 b1 r1 => hg hs H H1 vs rs P Q (I.grow g1 b1).at (fun a n => g1.fresh b1 n) r1 q1 fun z u H2 pz e rz => k z u H2 pz (g1.trans (.of e)) (b1.same e) rz⟩
theorem xe_callB (hc : CallR X (.builtin id) r) (lg : LiftC X.K Y r g) (hg : Gl X x) (hm : X.mg x = none) (hv : bootBuiltins x = some (.builtin id)) (ha : PA X (e :: es) (tla X.K Y t)) (hn : x ≠ "__name__" := by decide) (hdb : (x == ("__debug__" : Str)) = false := by decide)
    (he : starEach (e :: es) X.env = (false, eval e X.env) :: starEach es X.env := by rfl) (hpl : (backTo pos (starEach es X.env)).any (·.1) = false := by rfl) : PE X (.Call (.Name x p) (e :: es) [] pos) (tl X.K Y (dCB g t)) :=
  pe_imp (pe_callB hc hg hm hv ha hn hdb he hpl) (x_CB lg)
theorem resAll_1 {K : PySem.W.Frag} {hs : List Addr} {H0 H : Hp} {vs : List V} {x : R} (h : ResAll K Y hs H0 H vs [x]) : ∃ v, vs = [v] ∧ Res K Y hs H0 H v x := by
  cases h with
  | cons a b => cases b; exact ⟨_, rfl, a⟩
def gLen : DC := fun rs P => match rs with
  | [.dat (.tuple ds)] => P (.dat (.int (ds.length : Int)))
  | [.dat (.list ds)] => P (.dat (.int (ds.length : Int)))
  | [.new ds] => P (.dat (.int (ds.length : Int)))
  | [.bor ds] => P (.dat (.int (ds.length : Int)))
  | _ => False
theorem lift_len {K : PySem.W.Frag} : LiftC K Y (fun xs H Q => ∃ p ys, xs = [.ref p] ∧ (SqL K H p ys ∨ SqT K H p ys) ∧ Q (.int ys.length) H) gLen := fun hs H0 H vs xs P Q A _ rr q k => by
  have lst : ∀ {x : R} {ds : List PyData}, xs = [x] → x.plain → x.d = .list ds → P (.dat (.int (ds.length : Int))) → ∃ p ys, vs = [.ref p] ∧ (SqL K H p ys ∨ SqT K H p ys) ∧ Q (.int ys.length) H := fun {x ds} ex p e q0 => by
    subst ex
    obtain ⟨v, rfl, r1⟩ := resAll_1 rr
    obtain ⟨a, ys, rfl, h1, h2⟩ := Res.lst r1 p e
    refine ⟨a, ys, rfl, .inl h1, ?_⟩
    rw [dpAll_len h2]
    exact k _ _ H q0 (Same.refl H) (Dp.int _)
  unfold gLen at q
  split at q
  · obtain ⟨v, rfl, r1⟩ := resAll_1 rr
    obtain ⟨a, ys, rfl, h1, h2⟩ := Res.tup r1
    refine ⟨a, ys, rfl, .inr (sqT_same hide_same h1), ?_⟩
    rw [dpAll_len h2]
    exact k _ _ H q (Same.refl H) (Dp.int _)
  · exact lst rfl trivial rfl q
  · exact lst rfl trivial rfl q
  · exact lst rfl trivial rfl q
  · exact False.elim q
theorem same_upd {H : Hp} {p : Addr} {o : HO} (h : H p = none) : Same H (L2.upd H p o) := fun b x e => by
  rw [upd_ne (ne_of_none e h)]
  exact e
theorem hide_upd {H : Hp} {hs : List Addr} {p : Addr} {o : HO} (h : H p = none) : Same (hide hs H) (hide hs (L2.upd H p o)) := fun a u e => by
  obtain ⟨n, e⟩ := hide_some e
  exact hide_of n (same_upd h a u e)
theorem hide_updC {H : Hp} {hs : List Addr} {p : Addr} {o : HO} (h : H p = none) : Same (hide hs H) (hide (p :: hs) (L2.upd H p o)) := fun a u e => by
  obtain ⟨n, e⟩ := hide_some e
  refine hide_of (fun z => ?_) (same_upd h a u e)
  rcases List.mem_cons.mp z with z | z
  · exact ne_of_none e h z
  · exact n z
def showsOk (d : PyData) : Prop := d.showable = true ∧ d.canLay0 = true ∧ d.depth ≤ 64 ∧ d.shown.length ≤ sizeLine
end
end DL
set_option maxHeartbeats 1000000
namespace DL
open PySem PySem.Spec PyProof.Rows L2
section
variable {X : Cx} {Y : Yc} {e a b c : Expr} {es rest : List Expr} {pos : Pos}
def dNeg (t : DE) : DE := fun δ P => t δ fun r => match r with
  | .dat (.int i) => P (.dat (.int (-i)))
  | _ => False
theorem xe_neg {t : DE} (h : PE X a (tl X.K Y t)) : PE X (.UnaryOp .USub a pos) (tl X.K Y (dNeg t)) :=
  pe_imp (pe_un un_neg h) fun σ H Q ⟨hs, δ, P, I, q, k⟩ => ⟨hs, δ, _, I, q, fun r v H1 q1 g1 b1 r1 => by
    cases r with
    | dat d =>
      cases d with
      | int x => cases r1; exact ⟨x, rfl, k _ _ H1 q1 g1 b1 (Dp.int _)⟩
      | _ => exact False.elim q1
    | _ => exact False.elim q1⟩
end
structure DEnds where
  nx : List S → Prop
  rt : R → Prop
  bk : List S → Prop := fun _ => False
  ct : List S → Prop := fun _ => False
abbrev DS := DEnds → List S → Prop
def sl (K : PySem.W.Frag) (Y : Yc) (t : DS) : TS := fun Dn σ H => ∃ hs δ P, Rel K Y hs σ H δ ∧ t P δ ∧
  (∀ hs' σ' H' δ', Rel K Y hs' σ' H' δ' → Same (hide hs H) (hide hs' H') → P.nx δ' → Dn.nx σ' H') ∧
  (∀ hs' σ' H' δ', Rel K Y hs' σ' H' δ' → Same (hide hs H) (hide hs' H') → P.bk δ' → Dn.bk σ' H') ∧
  (∀ hs' σ' H' δ', Rel K Y hs' σ' H' δ' → Same (hide hs H) (hide hs' H') → P.ct δ' → Dn.ct σ' H') ∧
  (∀ v H' r, Gr Y Y.H0 H' → BagNow Y H' → Res K Y Y.hs Y.H0 H' v r → P.rt r → Dn.rt v H')
def dSeq (t u : DS) : DS := fun P δ => t { P with nx := u P } δ
section
variable {X : Cx} {Y : Yc} {e : Expr} {st : Stmt} {sts rest : List Stmt} {pos : Pos} {t u : DS}
theorem ps_imp {t t' : TS} (h : PS X st t) (i : ∀ D σ H, t' D σ H → t D σ H) : PS X st t' := ⟨fun pins s σ H D I hq => h.run pins s σ H D I (i D σ H hq)⟩
theorem pss_imp {t t' : TS} (h : PSs X sts t) (i : ∀ D σ H, t' D σ H → t D σ H) : PSs X sts t' := ⟨fun pins s σ H D I hq => h.run pins s σ H D I (i D σ H hq)⟩
theorem xss_cons (h1 : PS X st (sl X.K Y t)) (h2 : PSs X rest (sl X.K Y u)) : PSs X (st :: rest) (sl X.K Y (dSeq t u)) :=
  pss_imp (pss_cons h1 h2) fun Dn σ H ⟨hs, δ, P, I, q, k1, k2, k3, k4⟩ => ⟨hs, δ, { P with nx := u P }, I, q,
    fun hs' σ' H' δ' I' e' q' => ⟨hs', δ', P, I', q', fun _ _ _ _ i s => k1 _ _ _ _ i (e'.trans s), fun _ _ _ _ i s => k2 _ _ _ _ i (e'.trans s), fun _ _ _ _ i s => k3 _ _ _ _ i (e'.trans s), k4⟩, k2, k3, k4⟩
theorem xss_one (h1 : PS X st (sl X.K Y t)) : PSs X [st] (sl X.K Y t) := pss_one h1
def dAsg (i : Nat) (t : DE) : DS := fun P δ => t δ fun r => match r with
  | .dat d => P.nx (δ.set i (.dat d))
  | .new ds => P.nx (δ.set i (.own ds))
  | _ => False
theorem x_asg {K : PySem.W.Frag} {i : Nat} {t : DE} : ∀ Dn σ H, sl K Y (dAsg i t) Dn σ H → tAsg (tl K Y t) (gName i) Dn σ H := fun Dn σ H ⟨hs, δ, P, I, q, k1, _⟩ =>
  ⟨hs, δ, _, I, q, fun r v H1 q1 g1 b1 r1 => by
    have I1 := I.grow g1 b1
    cases r with
    | dat d => exact k1 _ _ _ _ (I1.set r1) (g1.hide I.bgIn) q1
    | new ds =>
      obtain ⟨a, xs, rfl, n0, _, e4, e5⟩ := r1
      obtain ⟨I2, ex⟩ := I.setNew (i := i) g1 b1 n0 e4 e5
      exact k1 _ _ _ _ I2 ex q1
    | _ => exact False.elim q1⟩
theorem xs_set {i : Nat} {x : Str} {t : DE} {pos' : Pos} (hN : X.N.Nodup) (hi : X.N[i]? = some x) (hx : Loc X.env.scope x) (he : PE X e (tl X.K Y t)) (hs : swapsWith e (some (.Name x pos')) pos.line X.env = pure false := by rfl) (hf : X.fn x = true ∨ X.env.scope.names.lookup x = some .local := by first | exact .inl rfl | exact .inr rfl | assumption) :
    PS X (.Assign [.Name x pos'] e pos) (sl X.K Y (dAsg i t)) := ps_imp (ps_set hN hi hx he hs hf) x_asg
def dRet (t : DE) : DS := fun P δ => t (δ.map thaw) P.rt
theorem xs_ret {t : DE} (he : PE X e (tl X.K Y t)) : PS X (.Return (some e) pos) (sl X.K Y (dRet t)) :=
  ps_imp (ps_ret he) fun Dn σ H ⟨hs, δ, P, I, q, _, _, _, k4⟩ => ⟨Y.hs, δ.map thaw, _, I.thaw, q, fun r v H1 q1 g1 b1 r1 => k4 v H1 r (I.gr.trans g1) b1 (r1.back I.gr I.bag) q1⟩
end
abbrev DG := PyData → List S → (List S → Prop) → Prop
theorem wipe_get (σ : L2.St) (i : Nat) : ∀ vs : List Nat, (wipe σ vs)[i]? = if i ∈ vs then (σ[i]?).map (fun _ => none) else σ[i]?
  | [] => by
    rw [if_neg (by simp)]
    rfl
  | v :: vs => by
    show ((wipe σ vs).set v none)[i]? = _
    by_cases h : v = i
    · subst h
      rw [if_pos List.mem_cons_self]
      by_cases hl : v < σ.length
      · rw [List.getElem?_set_self (by rw [wipe_length]; exact hl), List.getElem?_eq_getElem hl]
        rfl
      · rw [List.getElem?_eq_none (by rw [List.length_set, wipe_length]; omega), List.getElem?_eq_none (by omega)]
        rfl
    · rw [List.getElem?_set_ne h, wipe_get σ i vs]
      by_cases hm : i ∈ vs
      · rw [if_pos hm, if_pos (List.mem_cons_of_mem _ hm)]
      · rw [if_neg hm, if_neg (fun z => (List.mem_cons.mp z).elim (fun q => h q.symm) hm)]
theorem wipe_set {σ : L2.St} {vs : List Nat} {j : Nat} {x : Option V} (h : j ∈ vs) : wipe (σ.set j x) vs = wipe σ vs := by
  apply List.ext_getElem?
  intro i
  rw [wipe_get, wipe_get]
  by_cases hm : i ∈ vs
  · rw [if_pos hm, if_pos hm]
    by_cases e : j = i
    · subst e
      by_cases hl : j < σ.length
      · rw [List.getElem?_set_self hl, List.getElem?_eq_getElem hl]
        rfl
      · rw [List.getElem?_eq_none (by rw [List.length_set]; omega), List.getElem?_eq_none (by omega)]
    · rw [List.getElem?_set_ne e]
  · rw [if_neg hm, if_neg hm, List.getElem?_set_ne (fun e => hm (by rw [← e]; exact h))]
theorem wipe_wipe {σ : L2.St} {vs : List Nat} : wipe (wipe σ vs) vs = wipe σ vs := by
  apply List.ext_getElem?
  intro i
  rw [wipe_get, wipe_get]
  by_cases hm : i ∈ vs
  · rw [if_pos hm, if_pos hm]
    cases σ[i]? <;> rfl
  · rw [if_neg hm, if_neg hm]
def wipeD (δ : List S) : List Nat → List S
  | [] => δ
  | v :: vs => (wipeD δ vs).set v .un
theorem wipeD_get (δ : List S) (i : Nat) : ∀ (vs : List Nat) (s : S), (wipeD δ vs)[i]? = some s → s = .un ∨ (i ∉ vs ∧ δ[i]? = some s)
  | [], s, h => .inr ⟨by simp, h⟩
  | v :: vs, s, h => by
    have h : ((wipeD δ vs).set v .un)[i]? = some s := h
    by_cases e : v = i
    · subst e
      by_cases hl : v < (wipeD δ vs).length
      · rw [List.getElem?_set_self hl] at h
        cases h
        exact .inl rfl
      · rw [List.getElem?_eq_none (by rw [List.length_set]; omega)] at h
        cases h
    · rw [List.getElem?_set_ne e] at h
      rcases wipeD_get δ i vs s h with z | ⟨z1, z2⟩
      · exact .inl z
      · exact .inr ⟨fun q => (List.mem_cons.mp q).elim (fun q => e q.symm) z1, z2⟩
theorem wipeD_len (δ : List S) : ∀ vs : List Nat, (wipeD δ vs).length = δ.length
  | [] => rfl
  | v :: vs => by
    show ((wipeD δ vs).set v .un).length = _
    rw [List.length_set, wipeD_len δ vs]
theorem Rel.wipe {K : PySem.W.Frag} {Y : Yc} {hs : List Addr} {σ : L2.St} {H : Hp} {δ : List S} (I : Rel K Y hs σ H δ) (vs : List Nat) : Rel K Y hs (L2.wipe σ vs) H (wipeD δ vs) := by
  refine ⟨by rw [wipe_length, wipeD_len]; exact I.len, fun i s e => ?_, fun i j ds es n e1 e2 => ?_, I.sub, I.new, I.tr, I.bag, I.gr, I.ls⟩
  · rcases wipeD_get δ i vs s e with z | ⟨z1, z2⟩
    · subst z
      trivial
    · rw [wipe_get, if_neg z1]
      exact I.slot i s z2
  · rcases wipeD_get δ i vs _ e1 with z | ⟨z1, z2⟩
    · cases z
    · rcases wipeD_get δ j vs _ e2 with z | ⟨y1, y2⟩
      · cases z
      · rw [wipe_get, wipe_get, if_neg z1, if_neg y1]
        exact I.dist i j ds es n z2 y2
def gl (K : PySem.W.Frag) (Y : Yc) (vs : List Nat) (g : DG) : TG := fun v σ H Q => ∃ hs δ P d, Rel K Y hs σ H δ ∧ Dp K (hide hs H) v d ∧ g d δ P ∧ ∀ σ' δ', Rel K Y hs σ' H δ' → L2.wipe σ' vs = L2.wipe σ vs → P δ' → Q σ' H
def dgName (i : Nat) : DG := fun d δ P => P (δ.set i (.dat d))
section
variable {X : Cx} {Y : Yc} {vs : List Nat} {e : Expr} {es : List Expr} {pos : Pos}
theorem pg_imp {g g' : TG} (h : PG X e g) (i : ∀ v σ H Q, g' v σ H Q → g v σ H Q) : PG X e g' := ⟨fun pins s σ H v u Q I r hq => h.run pins s σ H v u Q I r (i v σ H Q hq)⟩
theorem xg_name {i : Nat} {x : Str} (hv : i ∈ vs) (hN : X.N.Nodup) (hi : X.N[i]? = some x) (hx : Loc X.env.scope x) (hf : X.fn x = true ∨ X.env.scope.names.lookup x = some .local := by first | exact .inl rfl | exact .inr rfl | assumption) : PG X (.Name x pos) (gl X.K Y vs (dgName i)) :=
  pg_imp (pg_name hN hi hx hf) fun v σ H Q ⟨hs, δ, P, d, I, q, g, k⟩ => k _ _ (I.set q) (wipe_set hv) g
end
def Walks (K : PySem.W.Frag) (Y : Yc) (hs : List Addr) (H : Hp) (J : It) (own : Bool) (items : List PyData) : Prop :=
  ∀ hs2 H2, Tracked hs2 H2 → Same (hide hs H) (hide hs2 H2) → (own = true → ∀ a o, a ∈ hs → a ∉ Y.hs → H a = some o → H2 a = some o) → ∀ i : Nat,
    (∀ d, items[i]? = some d → J.go i H2 ∧ ∀ x H3, J.yld i H2 x H3 → Same H2 H3 ∧ Dp K (hide hs2 H3) x d) ∧ (items.length = i → J.stop i H2)
abbrev DI := List S → (Bool → List PyData → Prop) → Prop
def il (K : PySem.W.Frag) (Y : Yc) (t : DI) : TI := fun σ H R => ∃ hs δ P, Rel K Y hs σ H δ ∧ t δ P ∧ ∀ w items J H', P w items → Gr Y H H' → BagNow Y H' → Walks K Y hs H' J w items → R J H'
section
variable {X : Cx} {Y : Yc} {vs : List Nat} {e : Expr} {es : List Expr} {pos : Pos}
theorem pi_imp {tg iter : Expr} {w w' : TI} (h : PI X tg iter w) (i : ∀ σ H R, w' σ H R → w σ H R) : PI X tg iter w' := ⟨fun pins s σ H R I hq => h.run pins s σ H R I (i σ H R hq)⟩
def dLc (ti : DI) (g : DG) (tt : DT) (te : DE) (vs : List Nat) : DE := fun δ P => ti δ fun _ items => ∃ Pv : Nat → List PyData → Prop, Pv 0 [] ∧ (∀ i d acc, items[i]? = some d → Pv i acc → acc.length ≤ i → g d (wipeD δ vs) fun δ2 => tt δ2 fun b => if b = true then te δ2 fun r => r.isSolid = true ∧ Pv (i + 1) (acc ++ [r.d]) else Pv (i + 1) acc) ∧
  items.length ≤ 1000 ∧ ∀ acc, Pv items.length acc → P (.new acc)
theorem x_lc {K : PySem.W.Frag} {ti : DI} {g : DG} {tt : DT} {te : DE} : ∀ σ H Q, tl K Y (dLc ti g tt te vs) σ H Q → tLc (il K Y ti) (gl K Y vs g) (tlt K Y tt) (tl K Y te) vs σ H Q := fun σ H Q ⟨hs, δ, P, I, q, k⟩ =>
  ⟨hs, δ, _, I, q, fun w items J H1 ⟨Pv, p0, turn, hz, done⟩ g1 b1 wk D hD => by
    have I1 := I.grow g1 b1
    have nD : D ∉ hs := fun z => I1.tr D z hD
    have gD : Gr Y H1 (L2.upd H1 D (.lst [])) := .of (same_upd hD)
    refine ⟨fun i m H' => m = items.length - i ∧ i ≤ items.length ∧ ∃ xs acc, Gr Y H1 H' ∧ BagNow Y H' ∧ H' D = some (.lst xs) ∧ DpAll K (hide (D :: hs) H') xs acc ∧ acc.length ≤ i ∧ Pv i acc,
      ⟨items.length, by simp, Nat.zero_le _, [], [], gD, b1.same (same_upd hD), upd_same, .nil, Nat.zero_le _, p0⟩, ?_⟩
    rintro i m H2 ⟨rfl, hi, xs, acc, g2, b2, eD, dA, lA, p2⟩
    have I2 : Rel K Y (D :: hs) (L2.wipe σ vs) H2 (wipeD δ vs) := by
      have J0 := (I1.grow g2 b2).wipe vs
      refine ⟨J0.len, fun j s e => ?_, J0.dist, fun a h => List.mem_cons_of_mem _ (J0.sub a h), fun a h n => ?_, fun a h => ?_, J0.bag, J0.gr, fun a h n => (List.mem_cons.mp h).elim (fun z => .inl ⟨xs, by rw [z]; exact eD⟩) fun z => J0.ls a z n⟩
      · 
        have J1 := I1.wipe vs
        have ex : Same (hide hs H1) (hide (D :: hs) H2) := fun a o h => by
          obtain ⟨n, h⟩ := hide_some h
          refine hide_of (fun z => ?_) (g2 a o (fun b c z y => n (by rw [y]; exact I1.bgIn b c z)) h)
          rcases List.mem_cons.mp z with z | z
          · exact ne_of_none h hD z
          · exact n z
        have q := J1.slot j s e
        cases s with
        | un => trivial
        | dat d => obtain ⟨v, f1, f2⟩ := q; exact ⟨v, f1, dp_same ex _ _ f2⟩
        | own ds =>
          obtain ⟨a, ys, f1, f2, f3, f4, f5⟩ := q
          exact ⟨a, ys, f1, List.mem_cons_of_mem _ f2, f3, g2 a _ (fun b c z y => f3 (by rw [y]; exact (I1.bag b c z).1)) f4, dpAll_same ex _ _ f5⟩
        | bag => exact q
        | odt ds =>
          obtain ⟨a, ys, f1, f2, f3, f4, f5⟩ := q
          exact ⟨a, ys, f1, List.mem_cons_of_mem _ f2, f3, g2 a _ (fun b c z y => f3 (by rw [y]; exact (I1.bag b c z).1)) f4, dpKvsT_same ex _ _ f5⟩
      · rcases List.mem_cons.mp h with z | z
        · subst z
          exact I1.gr.fresh I1.bag hD
        · exact J0.new a z n
      · rcases List.mem_cons.mp h with z | z
        · subst z
          exact .l eD
        · exact J0.tr a z
    have sD : Same (hide hs H1) (hide (D :: hs) H2) := fun a o h => by
      obtain ⟨n, h⟩ := hide_some h
      refine hide_of (fun z => ?_) (g2 a o (fun b c z y => n (by rw [y]; exact I1.bgIn b c z)) h)
      rcases List.mem_cons.mp z with z | z
      · exact ne_of_none h hD z
      · exact n z
    have wk2 := wk (D :: hs) H2 I2.tr sD (fun _ a o ha hn h => g2 a o (fun b c z y => hn (by rw [y]; exact (I1.bag b c z).1)) h) i
    by_cases hlt : i < items.length
    · have ei : items[i]? = some items[i] := List.getElem?_eq_getElem hlt
      obtain ⟨go, yl⟩ := wk2.1 _ ei
      refine .inr ⟨go, fun H' => ∃ m', m' < items.length - i ∧ (m' = items.length - (i + 1) ∧ i + 1 ≤ items.length ∧ ∃ xs acc, Gr Y H1 H' ∧ BagNow Y H' ∧ H' D = some (.lst xs) ∧ DpAll K (hide (D :: hs) H') xs acc ∧ acc.length ≤ i + 1 ∧ Pv (i + 1) acc), fun H' h => h, fun x H3 y => ?_⟩
      obtain ⟨s3, hd⟩ := yl x H3 y
      have I3 := I2.grow (.of s3) (b2.same s3)
      have nb : ∀ b c, Y.bg = some (b, c) → D ≠ b := fun b c z y => by
        obtain ⟨_, _, _, _, _, _, _, _, e, _⟩ := b1 b c z
        rw [← y, hD] at e
        cases e
      refine ⟨D :: hs, _, _, _, I3, hd, turn i _ acc ei p2 lA, fun σ4 δ4 I4 hw4 q4 => ⟨hw4.trans wipe_wipe, D :: hs, δ4, _, I4, q4, fun b H5 q5 g5 b5 => ?_⟩⟩
      have e5 : H5 D = some (.lst xs) := g5 D _ nb (s3 D _ eD)
      have gg5 : Gr Y H1 H5 := (g2.trans (.of s3)).trans g5
      have hide5 : Same (hide (D :: hs) H2) (hide (D :: hs) H5) := ((Gr.of s3 : Gr Y H2 H3).trans g5).hide I2.bgIn
      cases b with
      | true =>
        refine ⟨D :: hs, δ4, _, I4.grow g5 b5, q5, fun r v H6 ⟨p6, q6⟩ g6 b6 r6 => ?_⟩
        have e6 : H6 D = some (.lst xs) := g6 D _ nb e5
        refine ⟨xs, e6, ?_, _, by omega, rfl, hlt, xs ++ [v], acc ++ [r.d], fun a o n h => ?_, fun b c z => ?_, upd_same, ?_, ?_, q6⟩
        · rw [dpAll_len dA]
          exact small1000 (by omega)
        · rw [upd_ne (ne_of_none h hD)]
          exact (gg5.trans g6) a o n h
        · obtain ⟨h1, h2, h3, x1, x2, x3, ns, nl, f1, f2⟩ := b6 b c z
          refine ⟨h1, h2, h3, x1, x2, x3, ns, nl, ?_, ?_⟩
          · rw [upd_ne (fun y => nb b c z y.symm)]
            exact f1
          · rw [upd_ne (fun y => nD (by rw [← y]; exact I.sub _ h2))]
            exact f2
        · have ex6 : Same (hide (D :: hs) H6) (hide (D :: hs) (L2.upd H6 D (.lst (xs ++ [v])))) := fun a o h => by
            obtain ⟨n, h⟩ := hide_some h
            refine hide_of n ?_
            rw [upd_ne (fun y => n (by rw [y]; exact List.mem_cons_self))]
            exact h
          refine dpAll_same ex6 _ _ (dpAll_app (dpAll_one (r6.keep (R.solid_of p6))) (dpAll_same (hide5.trans (g6.hide I4.bgIn)) _ _ dA))
        · rw [List.length_append]
          show acc.length + 1 ≤ i + 1
          omega
      | false => exact ⟨_, by omega, rfl, hlt, xs, acc, gg5, b5, e5, dpAll_same hide5 _ _ dA, by omega, q5⟩
    · have e : i = items.length := by omega
      subst e
      exact .inl ⟨wk2.2 rfl, k _ _ H2 (done acc p2) (g1.trans g2) b2 ⟨D, xs, rfl, g1.fresh b1 hD, nD, eD, dA⟩⟩⟩
theorem xe_lc {elt tg iter : Expr} {ifs : List Expr} {scope : Scope} {own : List (Str × Nat)} {ti : DI} {g : DG} {tt : DT} {te : DE} (hc : X.calm = true) (hN : X.N.Nodup) (hi : PI X tg iter (il X.K Y ti)) (ok : BlkOk X.N X.env.scope scope own)
    (hg : ∀ (s : Shared) (H : Hp) (C : Addr) (cl : List (Str × Addr)) (fp : List Addr), PG (X.blk s H scope (compEnvC scope cl C X.env) fp) tg (gl X.K Y (own.map (·.2)) g)) (ht : ∀ (s : Shared) (H : Hp) (C : Addr) (cl : List (Str × Addr)) (fp : List Addr), PTs (X.blk s H scope (compEnvC scope cl C X.env) fp) ifs (tlt X.K Y tt))
    (he : ∀ (s : Shared) (H : Hp) (C : Addr) (cl : List (Str × Addr)) (fp : List Addr), PE (X.blk s H scope (compEnvC scope cl C X.env) fp) elt (tl X.K Y te)) (hs : ∀ x, foldedSetIterable iter X.env x = pure x := by intro _; rfl) :
    PE X (.ListComp elt [⟨tg, iter, ifs, 0⟩] scope pos) (tl X.K Y (dLc ti g tt te (own.map (·.2)))) := pe_imp (pe_lc hc hN hi ok hg ht he hs) x_lc
def dtYes : DT := fun _ P => P true
theorem xts_nil : PTs X [] (tlt X.K Y dtYes) := ⟨fun pins s σ H Q I ⟨hs, δ, P, J, q, k⟩ => (pts_nil : PTs X [] tYes).run pins s σ H Q I (k true H q .refl J.bag)⟩
def diR (t : DA) : DI := fun δ P => t δ fun rs => match rs with
  | [.dat (.int n)] => (-100000 ≤ n ∧ n ≤ 100000) ∧ P false ((List.range n.toNat).map fun k : Nat => PyData.int (k : Int))
  | _ => False
theorem walks_range {K : PySem.W.Frag} {hs : List Addr} {H : Hp} {n : Nat} : Walks K Y hs H (Itr 0 n) false ((List.range n).map fun k : Nat => PyData.int (k : Int)) := fun hs2 H2 _ s2 _ i => by
  refine ⟨fun d e => ?_, fun hl => ?_⟩
  · rw [List.getElem?_map] at e
    by_cases hi : i < n
    · rw [List.getElem?_eq_getElem (by rw [List.length_range]; exact hi), List.getElem_range] at e
      cases e
      refine ⟨hi, fun x H3 y => ?_⟩
      obtain ⟨rfl, rfl⟩ := y
      rw [Int.zero_add]
      exact ⟨Same.refl _, .int _⟩
    · rw [List.getElem?_eq_none (by rw [List.length_range]; omega)] at e
      cases e
  · rw [List.length_map, List.length_range] at hl
    exact Nat.le_of_eq hl
theorem xi_range {tg a : Expr} {t : DA} {p pos : Pos} (hg : Gl X "range") (hm : X.mg "range" = none) (ha : PA X [a] (tla X.K Y t)) (hs : starEach [a] X.env = [(false, eval a X.env)] := by rfl) : PI X tg (.Call (.Name "range" p) [a] [] pos) (il X.K Y (diR t)) :=
  pi_imp (pi_range1 hg hm ha hs) fun σ H R ⟨hs, δ, P, I, q, k⟩ => ⟨hs, δ, _, I, q, fun rs vs H1 q1 g1 b1 r1 => by
    split at q1
    · obtain ⟨v, rfl, r2⟩ := resAll_1 r1
      cases r2
      rename_i n
      obtain ⟨q0, q1⟩ := q1
      exact ⟨n, rfl, by omega, by omega, k _ _ _ H1 q1 g1 b1 walks_range⟩
    · exact False.elim q1⟩
end
end DL
set_option maxHeartbeats 1000000
namespace DL
open PySem PySem.Spec PyProof.Rows L2
mutual
def lstFree : PyData → Bool
  | .none => true
  | .bool _ => true
  | .int _ => true
  | .str _ => true
  | .tuple xs => lstFreeAll xs
  | .list _ => false
  | .dict _ => false
def lstFreeAll : List PyData → Bool
  | [] => true
  | x :: xs => lstFree x && lstFreeAll xs
end
mutual
theorem dp_more {K : PySem.W.Frag} {H : Hp} {hs ks : List Addr} (ls : ∀ a ∈ hs, a ∉ ks → LsAt H a) : ∀ (d : PyData) (v : V), lstFree d = true → Dp K (hide ks H) v d → Dp K (hide hs H) v d
  | .none, _, _, h => by cases h; exact .non
  | .bool b, _, _, h => by cases h; exact .bl b
  | .int i, _, _, h => by cases h; exact .int i
  | .str x, _, _, h => by cases h; exact .str x
  | .list ds, _, f, _ => by simp only [lstFree] at f; cases f
  | .dict _, _, f, _ => by simp only [lstFree] at f; cases f
  | .tuple ds, _, f, h => by
    simp only [lstFree] at f
    cases h with
    | tup h1 h2 =>
      refine .tup ?_ (dpAll_more ls ds _ f h2)
      obtain ⟨e1, e2⟩ := hide_some h1
      refine hide_of (fun z => ?_) e2
      rcases ls _ z e1 with ⟨xs, e3⟩ | ⟨xs, e3⟩ <;> (rw [e2] at e3; cases e3)
theorem dpAll_more {K : PySem.W.Frag} {H : Hp} {hs ks : List Addr} (ls : ∀ a ∈ hs, a ∉ ks → LsAt H a) : ∀ (ds : List PyData) (vs : List V), lstFreeAll ds = true → DpAll K (hide ks H) vs ds → DpAll K (hide hs H) vs ds
  | [], _, _, h => by cases h; exact .nil
  | d :: ds, _, f, h => by
    simp only [lstFreeAll, Bool.and_eq_true] at f
    cases h with
    | cons h1 h2 => exact .cons (dp_more ls d _ f.1 h1) (dpAll_more ls ds _ f.2 h2)
end
abbrev DT' := List R → (R → Prop) → Prop
def ArgOk (K : PySem.W.Frag) (hs : List Addr) (bg : Option (Addr × Addr)) (H : Hp) (v : V) : R → Prop
  | .dat d => Dp K (hide hs H) v d
  | .bag => ∃ b c, bg = some (b, c) ∧ v = .ref b
  | _ => False
def spD (K : PySem.W.Frag) (T : DT') : Sp := fun vs H Q _ => ∃ (hs : List Addr) (bg : Option (Addr × Addr)) (rs : List R) (P : R → Prop), Tracked hs H ∧ BagNow ⟨H, hs, bg⟩ H ∧ Paired (ArgOk K hs bg H) vs rs ∧ T rs P ∧
  ∀ v H' r, P r → Gr ⟨H, hs, bg⟩ H H' → BagNow ⟨H, hs, bg⟩ H' → Res K ⟨H, hs, bg⟩ hs H H' v r → r.isSolid = true → Q v H'
structure FnG (P : Program) (w : World) (K : PySem.W.Frag) (mg : Str → Option Value) (base : Heap) (k : Nat) (f : Addr) (fd : FuncData) (ps : List Str) (sp : Sp) : Prop where
  len : ∀ vs H Q E, sp vs H Q E → vs.length = ps.length
  run : ∀ (A : Around) (outer : List Env) (s : Shared) (H : Hp) (args : Args) (us : List Value) (vs : List V) (Q : VK), Room k A → A.guards = some [] → Env0 P w K mg base A outer s H → BindsTo s fd args (ps.zip us) → Vals vs us → sp vs H Q E0 →
    codeAny (model P w) A (.call (.ref f) args) (CR CX0 outer P w H s Q E0) s
theorem FnOk.g {P : Program} {w : World} {K : PySem.W.Frag} {mg : Str → Option Value} {base : Heap} {k : Nat} {f : Addr} {fd : FuncData} {ps : List Str} {sp : Sp} (F : FnOk P w K mg base CX0 k f fd ps sp) : FnG P w K mg base k f fd ps sp :=
  ⟨F.len, fun A outer s H args us vs Q hr _ he hb hv h => F.run A outer s H args us vs Q E0 hr he hb hv h⟩
theorem FnG.mono {P : Program} {w : World} {K : PySem.W.Frag} {mg : Str → Option Value} {base : Heap} {j k : Nat} {f : Addr} {fd : FuncData} {ps : List Str} {sp : Sp} (F : FnG P w K mg base j f fd ps sp) (h : j ≤ k) : FnG P w K mg base k f fd ps sp :=
  ⟨F.len, fun A outer s H args us vs Q hr => F.run A outer s H args us vs Q (hr.mono h)⟩
section
variable {P : Program} {w : World} {K : PySem.W.Frag} {mg : Str → Option Value} {base : Heap}
theorem fnG_of {x qual : Str} {st : Stmt} {f : Addr} {fd : FuncData} {N ps : List Str} {k : Nat} {sp : Sp} (F : Fun K x qual st f fd) (S : FnScope N ps (defScope st))
    (len : ∀ vs H Q E, sp vs H Q E → vs.length = ps.length)
    (body : ∀ (cdv : Value) (A : Around) (outer : List Env) (s : Shared) (H : Hp) (vs : List V) (Q : VK), Room k (A.deeper (envOfC qual (defScope st) s.heap.objs.size f cdv)) → A.guards = some [] → sp vs H Q E0 →
      ∃ t, PSs (cxOf CX0 P w K mg base N qual (defScope st) f cdv A outer s H E0).nox (defBody st) t ∧ t { nx := fun _ H' => Q .non H', rt := Q } (start N vs) H) :
    FnG P w K mg base (k + 1) f fd ps sp := by
  obtain ⟨oc, od, kV, doc, pm, an, cdv, ct, osl, rfl, lk, hcd⟩ := F.ex
  constructor
  · exact len
  intro A outer s H args us vs Q hr hgd e0 hb hv hsp
  have kin : K.In s.heap := e0.mod.kin.keeps (fun b o e => (e0.bs b o e).1)
  have nol : s.heap.NoLimit := e0.mod.nolimit.keeps (fun b o e => (e0.bs b o e).1)
  apply codeAny_call_function hr.depth (kin _ _ lk) rfl S.co S.gen rfl (PySem.W.codeRec_of kin hcd)
  apply hb
  apply wpAny_newFunctionEnv_cells S.kind
  · rintro ⟨n, v⟩ hy
    rcases S.par n (List.of_mem_zip hy).1 with q | q
    · left
      exact q
    · right
      exact ⟨q, PySem.W.cellsFrom_some _ _ _ (.inl q)⟩
  rintro env he s1 hx
  subst he
  constructor
  · exact nol.keeps hx.toInCall.keep
  apply codeAny_func
  obtain ⟨t, ht, hq⟩ := body cdv A outer s H vs Q (hr.deeper _) hgd hsp
  have I := inv_start (CX := CX0) (E := E0) S hr.hd e0 (len _ _ _ _ hsp) hv hx
  have J := ht.nox.run [] s1 (start N vs) H _ I hq
  apply wpAny_mono J
  · rintro fl s2 h2
    cases fl with
    | ret u =>
      obtain ⟨v, σ2, H2, I2, r2, q2⟩ := h2
      exact ⟨v, H2, I2.os, I2.bare, I2.base, I2.hok, r2, q2⟩
    | next =>
      obtain ⟨σ2, H2, I2, q2⟩ := h2
      exact ⟨.non, H2, I2.os, I2.bare, I2.base, I2.hok, rfl, q2⟩
    | brk => obtain ⟨_, _, _, q2⟩ := h2; exact False.elim q2
    | cont => obtain ⟨_, _, _, q2⟩ := h2; exact False.elim q2
  · intro e s2 h2
    exact h2
theorem pe_callG {X : Cx} {k : Nat} {f : Addr} {fd : FuncData} {ps : List Str} {sp : Sp} {x : Str} {p pos : Pos} {e : Expr} {es : List Expr} {t : TA}
    (F : FnG X.prog X.w X.K X.mg X.base k f fd ps sp) (hr : Room k X.A) (hgd : X.A.guards = some []) (hg : Gl X x) (hm : X.mg x = some (.ref f)) (hk : PySem.W.keepIn X.K (.ref f) = true) (hb : Binds X.K fd ps [])
    (ha : PA X (e :: es) t) (hdb : (x == ("__debug__" : Str)) = false := by decide) (he : starEach (e :: es) X.env = (false, eval e X.env) :: starEach es X.env := by rfl) (hpl : (backTo pos (starEach es X.env)).any (·.1) = false := by rfl) :
    PE X (.Call (.Name x p) (e :: es) [] pos) (fun σ H Q => t σ H fun vs H1 => sp vs H1 Q E0) := by
  constructor
  intro pins s σ H Q I h
  apply wpAny_Call_Name_kw
  apply ld_glob I hg hm _ hdb
  apply PySem.W.callWith_K (h₀ := X.base) I.ok.mod.kin hk _ he hpl
  apply thn (ha.run pos pins s σ H _ I h)
  rintro us s1 ⟨vs, H1, I1, rv, q⟩
  refine ⟨I1.kIn, wpAny_call ?_⟩
  have hl : (us ++ []).length = ps.length := by
    rw [List.append_nil, ← rv.length]
    exact F.len _ _ _ _ q
  have b := hb s1 us I1.kIn hl
  rw [List.append_nil] at b
  apply codeAny_mono (F.run X.A X.stack s1 H1 ⟨us, []⟩ us vs Q hr hgd I1.env0 b rv q)
  intro r s2 h2
  cases r with
  | error e => exact False.elim h2
  | ok fl =>
    cases fl with
    | ret u => exact I1.after h2
    | next => exact False.elim h2
    | brk => exact False.elim h2
    | cont => exact False.elim h2
def inS : R → S
  | .dat d => .dat d
  | .bag => .bag
  | _ => .un
def start0 (n : Nat) (rs : List R) : List S := rs.map inS ++ List.replicate (n - rs.length) .un
theorem paired_get {α β : Type} {F : α → β → Prop} : ∀ {xs : List α} {ys : List β} {i : Nat} {y : β}, Paired F xs ys → ys[i]? = some y → ∃ x, xs[i]? = some x ∧ F x y
  | _, _, _, _, .nil, e => by simp at e
  | _, _, 0, _, .cons r _, e => by
    simp at e
    subst e
    exact ⟨_, rfl, r⟩
  | _, _, i + 1, y, .cons _ t, e => by
    obtain ⟨x, h1, h2⟩ := paired_get (i := i) t (by simpa using e)
    exact ⟨x, by simpa using h1, h2⟩
theorem rel_start {N : List Str} {hs : List Addr} {bg : Option (Addr × Addr)} {H : Hp} {vs : List V} {rs : List R} (tr : Tracked hs H) (bn : BagNow ⟨H, hs, bg⟩ H) (ar : Paired (ArgOk K hs bg H) vs rs) : Rel K ⟨H, hs, bg⟩ hs (start N vs) H (start0 N.length rs) := by
  have hl := paired_len ar
  have sl : ∀ (i : Nat) (s : S), (start0 N.length rs)[i]? = some s → s = .un ∨ ∃ v r, (start N vs)[i]? = some (some v) ∧ s = inS r ∧ ArgOk K hs bg H v r := fun i s e => by
    unfold start0 at e
    by_cases hi : i < rs.length
    · rw [List.getElem?_append_left (by rw [List.length_map]; exact hi), List.getElem?_map, List.getElem?_eq_getElem hi] at e
      cases e
      obtain ⟨v, e1, q⟩ := paired_get ar (List.getElem?_eq_getElem hi)
      refine .inr ⟨v, _, ?_, rfl, q⟩
      unfold L2.start
      rw [List.getElem?_append_left (by rw [List.length_map]; omega), List.getElem?_map, e1]
      rfl
    · rw [List.getElem?_append_right (by rw [List.length_map]; omega)] at e
      exact .inl (List.eq_of_mem_replicate (List.mem_of_getElem? e))
  refine ⟨?_, fun i s e => ?_, fun i j ds es n e1 e2 => ?_, fun a h => h, fun a h n => absurd h n, tr, bn, .refl, fun a h n => absurd h n⟩
  · unfold L2.start start0
    rw [List.length_append, List.length_append, List.length_map, List.length_map, List.length_replicate, List.length_replicate, hl]
  · rcases sl i s e with rfl | ⟨v, r, e1, rfl, q⟩
    · trivial
    · cases r with
      | dat d => exact ⟨v, e1, q⟩
      | bag => obtain ⟨b, c, q1, q2⟩ := q; exact ⟨b, c, q1, by rw [e1, q2]⟩
      | new _ => exact False.elim q
      | bor _ => exact False.elim q
  · rcases sl i _ e1 with z | ⟨v, r, _, z, q⟩
    · cases z
    · cases r <;> cases z
theorem fnD {x qual : Str} {st : Stmt} {f : Addr} {fd : FuncData} {N ps : List Str} {k : Nat} {T : DT'} {tb : DS} (F : Fun K x qual st f fd) (S : FnScope N ps (defScope st)) (len : ∀ rs P, T rs P → rs.length = ps.length)
    (hd : ∀ (cdv : Value) (A : Around) (outer : List Env) (s : Shared) (H : Hp) (Y : Yc), Room k (A.deeper (envOfC qual (defScope st) s.heap.objs.size f cdv)) → A.guards = some [] →
      PSs (cxOf CX0 P w K mg base N qual (defScope st) f cdv A outer s H E0).nox (defBody st) (sl K Y tb))
    (h : ∀ rs P, T rs P → tb { nx := fun _ => P (.dat .none), rt := fun r => r.isSolid = true ∧ P r } (start0 N.length rs)) : FnG P w K mg base (k + 1) f fd ps (spD K T) := by
  refine fnG_of F S (fun vs H Q E ⟨hs, bg, rs, P, _, _, ar, ht, _⟩ => (paired_len ar).trans (len rs P ht)) fun cdv A outer s H vs Q hr hgd ⟨hs, bg, rs, P', tr, bn, ar, ht, k⟩ => ?_
  refine ⟨sl K ⟨H, hs, bg⟩ tb, hd cdv A outer s H ⟨H, hs, bg⟩ hr hgd, hs, _, _, rel_start tr bn ar, h rs P' ht, fun hs' σ' H' δ' I _ p => ?_, fun _ _ _ _ _ _ p => False.elim p, fun _ _ _ _ _ _ p => False.elim p, fun v H' r g b q ⟨p1, p2⟩ => k v H' r p2 g b q p1⟩
  exact k .non H' (.dat .none) p I.gr I.bag .non rfl
end
def R.isBor : R → Bool
  | .bor _ => true
  | _ => false
def toArg : R → R
  | .new ds => .dat (.list ds)
  | .bor ds => .dat (.list ds)
  | r => r
def R.free : R → Bool
  | .dat d => lstFree d
  | _ => false
def dCall (T : DT') (t : DA) : DE := fun δ P => t δ fun rs => T (rs.map toArg) fun r => (rs.any R.isBor = true → r.free = true) ∧ P r
section
variable {X : Cx} {Y : Yc} {k : Nat} {f : Addr} {fd : FuncData} {ps : List Str} {T : DT'} {x : Str} {p pos : Pos} {e : Expr} {es : List Expr} {t : DA}
theorem args_of {K : PySem.W.Frag} {hs ks : List Addr} {H0 H : Hp} (sub : ∀ a ∈ ks, a ∈ hs) : ∀ {vs : List V} {rs : List R}, ResAll K Y hs H0 H vs rs → (∀ r ∈ rs, r.isBor = true → ∀ a, a ∈ hs → a ∉ Y.hs → a ∉ ks) → Paired (ArgOk K ks Y.bg H) vs (rs.map toArg)
  | _, _, .nil, _ => .nil
  | _, _, .cons (a := v) (b := r) h t, hb => by
    refine .cons ?_ (args_of sub t fun r hr => hb r (List.mem_cons_of_mem _ hr))
    cases r with
    | dat d => exact dp_same (hide_sub sub) _ _ h
    | new ds => exact dp_same (hide_sub sub) _ _ (Res.keep (r := .new ds) h trivial)
    | bor ds =>
      obtain ⟨a, xs, rfl, f2, f3, f4, f5⟩ := h
      exact .lst (SqL.of (hide_of (hb _ List.mem_cons_self rfl a f2 f3) f4)) (dpAll_same (hide_sub sub) _ _ f5)
    | bag => exact h
theorem xe_call (F : FnG X.prog X.w X.K X.mg X.base k f fd ps (spD X.K T)) (hr : Room k X.A) (hgd : X.A.guards = some []) (hg : Gl X x) (hm : X.mg x = some (.ref f)) (hk : PySem.W.keepIn X.K (.ref f) = true) (hb : Binds X.K fd ps [])
    (ha : PA X (e :: es) (tla X.K Y t)) (hdb : (x == ("__debug__" : Str)) = false := by decide) (he : starEach (e :: es) X.env = (false, eval e X.env) :: starEach es X.env := by rfl) (hpl : (backTo pos (starEach es X.env)).any (·.1) = false := by rfl) :
    PE X (.Call (.Name x p) (e :: es) [] pos) (tl X.K Y (dCall T t)) :=
  pe_imp (pe_callG F hr hgd hg hm hk hb ha hdb he hpl) fun σ H Q ⟨hs, δ, P, I, q, kk⟩ => ⟨hs, δ, _, I, q, fun rs vs H1 q1 g1 b1 r1 => by
    have I1 := I.grow g1 b1
    by_cases bor : rs.any R.isBor = true
    · 
      refine ⟨Y.hs, Y.bg, rs.map toArg, _, fun a h => I1.tr a (I1.sub a h), fun b c z => ?_, args_of I1.sub r1 (fun r _ _ a _ hn => hn), q1, fun v H2 r ⟨pf, pr⟩ g2 b2 r2 sr => ?_⟩
      · obtain ⟨h1, h2, h3⟩ := b1 b c z
        exact ⟨h1, h2, h3⟩
      · have g2' : Gr Y H1 H2 := fun a o n h => g2 a o n h
        have b2' : BagNow Y H2 := fun b c z => by
          obtain ⟨h1, h2, h3⟩ := b2 b c z
          exact ⟨h1, h2, h3⟩
        refine kk r v H2 pr (g1.trans g2') b2' ?_
        cases r with
        | dat d => exact dp_more (I1.grow g2' b2').ls d v (pf bor) r2
        | _ => cases pf bor
    · refine ⟨hs, Y.bg, rs.map toArg, _, I1.tr, fun b c z => ?_, args_of (fun _ h => h) r1 (fun r hr z => absurd (List.any_eq_true.mpr ⟨r, hr, z⟩) bor), q1, fun v H2 r ⟨_, pr⟩ g2 b2 r2 sr => ?_⟩
      · obtain ⟨h1, h2, h3⟩ := b1 b c z
        exact ⟨I1.sub b h1, I1.sub c h2, h3⟩
      · have g2' : Gr Y H1 H2 := fun a o n h => g2 a o n h
        have b2' : BagNow Y H2 := fun b c z => by
          obtain ⟨h1, h2, _⟩ := b1 b c z
          obtain ⟨_, _, h3⟩ := b2 b c z
          exact ⟨h1, h2, h3⟩
        refine kk r v H2 pr (g1.trans g2') b2' ?_
        cases r with
        | dat d => exact r2
        | new ds =>
          obtain ⟨a, xs, e1, e2, e3, e4, e5⟩ := r2
          exact ⟨a, xs, e1, g1.fresh b1 e2, e3, e4, e5⟩
        | _ => cases sr⟩
end
end DL
set_option maxHeartbeats 4000000
namespace DL
open PySem PySem.Spec PyProof.Rows L2
section
variable {X : Cx}
end
end DL
set_option maxHeartbeats 1000000
namespace DL
open PySem PySem.Spec PyProof.Rows L2
section
variable {X : Cx} {Y : Yc} {e a b : Expr} {es : List Expr} {pos : Pos}
theorem OpR.either {f : Value → Value → Sem Value} {r r' : R2} (h : OpR X f r) (h' : OpR X f r') : OpR X f (fun x y H Q => r x y H Q ∨ r' x y H Q) := by
  intro pins s σ H x y v u Q I rx ry hq
  rcases hq with hq | hq
  · exact h pins s σ H x y v u Q I rx ry hq
  · exact h' pins s σ H x y v u Q I rx ry hq
def lstR : R → Option (List PyData)
  | .dat (.list ds) => some ds
  | .new ds => some ds
  | .bor ds => some ds
  | _ => none
def gAdd : D2 := fun x y P => match x, y with
  | .dat (.int i), .dat (.int j) => P (.dat (.int (i + j)))
  | .dat (.tuple xs), .dat (.tuple ys) => xs.length + ys.length ≤ 1000 ∧ P (.dat (.tuple (xs ++ ys)))
  | .dat (.str u), .dat (.str v) => u.length + v.length ≤ 100000 ∧ P (.dat (.str (u ++ v)))
  | x, y => (match lstR x, lstR y with
    | some xs, some ys => xs.length + ys.length ≤ 1000 ∧ P (.new (xs ++ ys))
    | _, _ => False)
theorem lstR_at {K : PySem.W.Frag} {Y : Yc} {hs : List Addr} {H0 H : Hp} {v : V} {r : R} {ds : List PyData} (q : Res K Y hs H0 H v r) (e : lstR r = some ds) : ∃ a xs, v = .ref a ∧ SqL K H a xs ∧ DpAll K (hide hs H) xs ds := by
  unfold lstR at e
  split at e
  · cases e; exact Res.lst q trivial rfl
  · cases e; exact Res.lst q trivial rfl
  · cases e; exact Res.lst q trivial rfl
  · cases e
def rCatS (K : PySem.W.Frag) : R2 := fun x y H Q => ∃ l b xs zs, x = .ref l ∧ y = .ref b ∧ SqL K H l xs ∧ SqL K H b zs ∧ xs.length + zs.length ≤ sizeLine ∧ ∀ p, H p = none → Q (.ref p) (L2.upd H p (.lst (xs ++ zs)))
theorem op_catS {X : Cx} : OpR X (binaryOp .Add) (rCatS X.K) := by
  intro pins s σ H x y v u Q I rx ry h
  obtain ⟨l, b, xs, zs, rfl, rfl, hH, hB, hz, q⟩ := h
  cases rx
  cases ry
  obtain ⟨its, r, e, _⟩ := I.list hH
  obtain ⟨its2, r2, e2, _⟩ := I.list hB
  have l1 := r.length
  have l2 := r2.length
  obtain ⟨⟨cls, dd, data, sl⟩, n, ho, hc, _, hd⟩ := id e
  obtain ⟨⟨cls2, dd2, data2, sl2⟩, n2, ho2, hc2, _, hd2⟩ := id e2
  simp only at hc hd hc2 hd2
  subst hc hd hc2 hd2
  have ea : its.toArray ++ its2.toArray = (its ++ its2).toArray := by simp
  refine concat_meets ⟨_, ho, rfl⟩ ⟨_, ho2, rfl⟩ noFill_list_add seq_list_add PySem.F.slot_list_add PySem.F.entry_list_add (PySem.F.args_list_add_2 _ _) (list_addW l b its.toArray its2.toArray n n2 dd dd2 sl sl2 (by simp; omega)) ⟨ho, ho2, ?_⟩
  rw [ea]
  exact ⟨.ref _, _, I.lnew (t' := s.toks) (r.append r2) (by rw [List.length_append]; omega), rfl, q _ I.fresh⟩
def rAddI : R2 := rI0 fun i j => .int (i + j)
def rAddS : R2 := fun x y H Q => ∃ u v : Str, x = .str u ∧ y = .str v ∧ u.length + v.length ≤ sizeLine ∧ Q (.str (u ++ v)) H
theorem lift_add {K : PySem.W.Frag} : Lift2 K Y (fun x y H Q => (rAddI x y H Q ∨ rCatS K x y H Q) ∨ (rCatA K x y H Q ∨ rAddS x y H Q)) gAdd := fun hs H0 H v w x y P Q A fr rx ry q k => by
  unfold gAdd at q
  split at q
  · cases rx; cases ry
    exact .inl (.inl ⟨_, _, rfl, rfl, k _ _ H q (Same.refl H) (Dp.int _)⟩)
  · rename_i xs ys
    obtain ⟨a, us, rfl, h1, h2⟩ := Res.tup rx
    obtain ⟨b, ws, rfl, h3, h4⟩ := Res.tup ry
    obtain ⟨q2, q3⟩ := q
    have l1 := dpAll_len h2
    have l2 := dpAll_len h4
    refine .inr (.inl ⟨a, b, us, ws, rfl, rfl, sqT_same hide_same h1, sqT_same hide_same h3, by rw [l1, l2]; exact Nat.le_of_lt (small1000 q2), fun z => ?_, fun _ z => ?_, fun _ _ p hp => ?_⟩)
    · subst z
      have : xs = [] := List.length_eq_zero_iff.mp l1.symm
      subst this
      rw [List.nil_append] at q3
      exact k _ _ H q3 (Same.refl H) ry
    · subst z
      have : ys = [] := List.length_eq_zero_iff.mp l2.symm
      subst this
      rw [List.append_nil] at q3
      exact k _ _ H q3 (Same.refl H) rx
    · exact k _ _ _ q3 (same_upd hp) (Dp.tup ((hide_of (fun z => A.tr p z hp) upd_same)) (dpAll_same (hide_upd hp) _ _ (dpAll_app h4 h2)))
  · cases rx; cases ry
    exact .inr (.inr ⟨_, _, rfl, rfl, Nat.le_trans q.1 (by decide), k _ _ H q.2 (Same.refl H) (Dp.str _)⟩)
  · split at q
    · rename_i xs ys ex ey
      obtain ⟨a, us, rfl, h1, h2⟩ := lstR_at rx ex
      obtain ⟨b, ws, rfl, h3, h4⟩ := lstR_at ry ey
      refine .inl (.inr ⟨a, b, us, ws, rfl, rfl, h1, h3, by rw [dpAll_len h2, dpAll_len h4]; exact Nat.le_of_lt (small1000 q.1), fun p hp => ?_⟩)
      exact k _ _ _ q.2 (same_upd hp) ⟨p, _, rfl, fr p hp, fun z => A.tr p z hp, upd_same, dpAll_same (hide_updC hp) _ _ (dpAll_app h4 h2)⟩
    · exact False.elim q
theorem op_addS : OpR X (binaryOp .Add) rAddS := op_add_str
theorem op_addI : OpR X (binaryOp .Add) rAddI := op_add
theorem xe_add {ta tb : DE} (ha : PE X a (tl X.K Y ta)) (hb : PE X b (tl X.K Y tb)) : PE X (.BinOp a .Add b pos) (tl X.K Y (dOp gAdd ta tb)) :=
  xe_op (OpR.either (OpR.either op_addI op_catS) (OpR.either op_catA op_addS)) lift_add ha hb
theorem op_modA : OpR X (binaryOp .Mod) (rI (fun _ j => j ≠ 0) fun i j => .int (i.fmod j)) := op_modN
def gPow : D2 := gI (fun i j => 0 ≤ j ∧ j ≤ 1000000 ∧ i.natAbs < 2 ^ 64) fun i j => .int (i ^ j.toNat)
theorem op_powA : OpR X (binaryOp .Pow) (rI (fun i j => 0 ≤ j ∧ j ≤ 1000000 ∧ i.natAbs < 2 ^ 64) fun i j => .int (i ^ j.toNat)) := op_pow
theorem xe_pow {ta tb : DE} (ha : PE X a (tl X.K Y ta)) (hb : PE X b (tl X.K Y tb)) : PE X (.BinOp a .Pow b pos) (tl X.K Y (dOp gPow ta tb)) :=
  xe_op op_powA (lift_I fun i j K H => .int _) ha hb
def rGetL (K : PySem.W.Frag) : V → V → Hp → VK → Prop := fun o i H Q => ∃ p xs k v, o = .ref p ∧ i = .int ((k : Nat) : Int) ∧ SqL K H p xs ∧ xs[k]? = some v ∧ Q v H
theorem get_list : PGet X (rGetL X.K) := by
  intro pins s σ H o i ov iv Q I ro ri h
  obtain ⟨p, xs, k, z, rfl, rfl, hq, he, q⟩ := h
  cases ro
  obtain ⟨t, rfl⟩ := ri
  obtain ⟨its, r, pl, hz⟩ := I.list hq
  obtain ⟨u, e1, r1⟩ := Vals.get r he
  have hk : k < xs.length := (List.getElem?_eq_some_iff.mp he).1
  have hn := line63
  exact wpAny_getItem_list pl.isList (by omega) (by omega) (by rw [Int.toNat_natCast]; simpa using e1) ⟨z, H, I, r1, q⟩
end
end DL
set_option maxHeartbeats 1000000
namespace DL
open PySem PySem.Spec PyProof.Rows L2
def spBag (K : PySem.W.Frag) : Sp := fun vs H Q _ => ∃ (a : Addr) (ns : List Int), vs = [.ref a] ∧ SqL K H a (ns.map V.int) ∧ ∀ H' b c, Same H H' → H b = none → H c = none → b ≠ c → BagAt H' b c → Q (.ref b) H'
theorem cut_ints (ns : List Int) (lo hi : Option Int) : ∃ ms : List Int, cutV (ns.map V.int) lo hi = ms.map V.int := by
  unfold cutV
  rw [← List.map_drop, ← List.map_take]
  exact ⟨_, rfl⟩
theorem cut_at (ms : List Int) (z : Int) : ∃ m, atI (cutV (ms.map V.int) (some z) none ++ [.int 0]) 0 = some (.int m) := by
  obtain ⟨os, e⟩ := cut_ints ms (some z) none
  rw [e]
  cases os with
  | nil => exact ⟨0, rfl⟩
  | cons m r => exact ⟨m, atI_nat (j := 0) rfl⟩
def T_l_take : DT' := fun rs P => ∃ m : Int, rs = [.bag, .dat (.int m)] ∧ 0 < m ∧ m < 1073741824 ∧ ∀ r : Int, 0 ≤ r → r < m → P (.dat (.int r))
theorem log_small {a : Int} (h0 : 0 < a) (h : a < 1073741824) : a.natAbs.log2 < 9000 :=
  Nat.lt_trans ((Nat.log2_lt (by omega)).mpr (show a.natAbs < 2 ^ 30 by omega)) (by decide)
theorem emod_lt' {a b : Int} (h : 0 < b) : 0 ≤ a.fmod b ∧ a.fmod b < b := by
  rw [Int.fmod_eq_emod_of_nonneg _ (Int.le_of_lt h)]
  exact ⟨Int.emod_nonneg _ (by omega), Int.emod_lt_of_pos _ h⟩
theorem hu66 {A : Around} {k : Nat} (hr : Room k A) : A.units + 66 < cLine := by
  have := hr.un
  omega
end DL
set_option maxHeartbeats 1000000
namespace DL
open PySem PySem.Spec PyProof.Rows L2
def B (k : Nat) (i : Int) : Prop := i.natAbs < 2 ^ k
theorem B.mono {a b : Nat} {i : Int} (h : B a i) (l : a ≤ b) : B b i := Nat.lt_of_lt_of_le h (Nat.pow_le_pow_right (by decide) l)
theorem B.mul {a b : Nat} {i j : Int} (h : B a i) (g : B b j) : B (a + b) (i * j) := wide_lt h g
theorem B.mul' {a b c : Nat} {i j : Int} (h : B a i) (g : B b j) (e : a + b ≤ c) : B c (i * j) := (h.mul g).mono e
theorem B.add {a : Nat} {i j : Int} (h : B a i) (g : B a j) : B (a + 1) (i + j) := by
  unfold B at h g ⊢
  rw [Nat.pow_succ]
  omega
theorem B.add' {a b : Nat} {i j : Int} (h : B a i) (g : B a j) (e : a + 1 ≤ b) : B b (i + j) := (h.add g).mono e
theorem B.sub {a : Nat} {i j : Int} (h : B a i) (g : B a j) : B (a + 1) (i - j) := by
  unfold B at h g ⊢
  rw [Nat.pow_succ]
  omega
theorem B.log {a : Nat} {i : Int} (h : B a i) : i.natAbs.log2 < a + 1 := by
  by_cases z : i.natAbs = 0
  · rw [z]
    exact Nat.succ_pos _
  · exact Nat.lt_succ_of_lt ((Nat.log2_lt z).mpr h)
theorem B.le {a : Nat} {i j : Int} (h : B a j) (e : i.natAbs ≤ j.natAbs) : B a i := Nat.lt_of_le_of_lt e h
theorem B.lit {i : Int} {a : Nat} (h : decide (i.natAbs < 2 ^ a) = true) : B a i := by
  unfold B
  exact of_decide_eq_true h
structure Sz (k : Nat) (q : Rat) : Prop where
  n : B k q.num
  d : B k (q.den : Int)
theorem Sz.mono {a b : Nat} {q : Rat} (h : Sz a q) (l : a ≤ b) : Sz b q := ⟨h.n.mono l, h.d.mono l⟩
theorem den_ne (q : Rat) : (q.den : Int) ≠ 0 := by
  have := q.den_nz
  omega
theorem divInt_sz {k : Nat} {n d : Int} (h : d ≠ 0) (hn : B k n) (hd : B k d) : Sz k (Rat.divInt n d) := by
  refine ⟨?_, ?_⟩
  · rw [Rat.num_divInt]
    refine hn.le ?_
    refine Nat.le_trans (Int.natAbs_ediv_le_natAbs _ _) ?_
    rw [Int.natAbs_mul]
    have : d.sign.natAbs ≤ 1 := by
      rcases Int.lt_trichotomy d 0 with z | z | z
      · rw [Int.sign_eq_neg_one_of_neg z]; decide
      · exact absurd z h
      · rw [Int.sign_eq_one_of_pos z]; decide
    calc d.sign.natAbs * n.natAbs ≤ 1 * n.natAbs := Nat.mul_le_mul_right _ this
      _ = n.natAbs := Nat.one_mul _
  · rw [Rat.den_divInt, if_neg h]
    refine hd.le ?_
    show ((d.natAbs / d.gcd n : Nat) : Int).natAbs ≤ d.natAbs
    rw [Int.natAbs_natCast]
    exact Nat.div_le_self _ _
theorem rat_sub (x y : Rat) : Rat.divInt (x.num * (y.den : Int) - y.num * (x.den : Int)) ((x.den : Int) * (y.den : Int)) = x - y := by
  rw [← Rat.divInt_sub_divInt _ _ (den_ne x) (den_ne y), Rat.num_divInt_den, Rat.num_divInt_den]
theorem rat_add (x y : Rat) : Rat.divInt (x.num * (y.den : Int) + y.num * (x.den : Int)) ((x.den : Int) * (y.den : Int)) = x + y := by
  rw [← Rat.divInt_add_divInt _ _ (den_ne x) (den_ne y), Rat.num_divInt_den, Rat.num_divInt_den]
theorem rat_mul (x y : Rat) : Rat.divInt (x.num * y.num) ((x.den : Int) * (y.den : Int)) = x * y := by
  rw [← Rat.divInt_mul_divInt, Rat.num_divInt_den, Rat.num_divInt_den]
structure Tidy (k w dp : Nat) (d : PyData) : Prop where
  sh : d.leavesShort (k + 8) = true
  ok : d.showable = true
  lay : d.canLay0 = true
  dep : d.depth ≤ dp
  wt : d.weight ≤ w
theorem Tidy.shows {k w dp : Nat} {d : PyData} (h : Tidy k w dp d) (hd : dp ≤ 64) (hw : (k + 10) * w + (k + 8) ≤ 10000000) : showsOk d := by
  refine ⟨h.ok, h.lay, Nat.le_trans h.dep hd, ?_⟩
  have e := PyData.shown_le (k + 8) (by omega) d h.sh
  have e2 : (k + 8 + 2) * d.weight ≤ (k + 10) * w := Nat.mul_le_mul (by omega) h.wt
  have e3 : (10000000 : Nat) ≤ sizeLine := by decide
  omega
theorem Tidy.int {k : Nat} {i : Int} (h : B k i) (hk : k ≤ 1900) : Tidy k (k + 2) 0 (.int i) := by
  have hl := h.log
  refine ⟨?_, ?_, by simp only [PyData.canLay0], by simp only [PyData.depth]; exact Nat.le_refl _, ?_⟩
  · simp only [PyData.leavesShort]
    refine decide_eq_true ?_
    have e := int_text_length_le (k := k + 1) (by omega) hl
    show (Str.ofString (toString i)).length ≤ k + 8
    rw [PySem.ofString_length]
    omega
  · simp only [PyData.showable]
    exact decide_eq_true (by omega)
  · simp only [PyData.weight]
    split <;> omega
theorem Tidy.bool {k : Nat} (b : Bool) : Tidy k 0 0 (.bool b) :=
  ⟨by simp only [PyData.leavesShort], by simp only [PyData.showable], by simp only [PyData.canLay0], by simp only [PyData.depth]; exact Nat.le_refl _, by simp only [PyData.weight]; exact Nat.le_refl _⟩
theorem Tidy.mono {k w dp w' dp' : Nat} {d : PyData} (h : Tidy k w dp d) (hw : w ≤ w') (hd : dp ≤ dp') : Tidy k w' dp' d := ⟨h.sh, h.ok, h.lay, Nat.le_trans h.dep hd, Nat.le_trans h.wt hw⟩
theorem tidyAll {k w dp : Nat} : ∀ {ds : List PyData}, (∀ d ∈ ds, Tidy k w dp d) → PyData.leavesShortAll (k + 8) ds = true ∧ PyData.showableAll ds = true ∧ PyData.canLayAll0 ds = true ∧ PyData.depthAll ds ≤ dp ∧ PyData.weightAll ds ≤ ds.length * (w + 1)
  | [], _ => ⟨by simp only [PyData.leavesShortAll], by simp only [PyData.showableAll], by simp only [PyData.canLayAll0], by simp only [PyData.depthAll]; exact Nat.zero_le _, by simp only [PyData.weightAll]; exact Nat.zero_le _⟩
  | d :: ds, h => by
    obtain ⟨h1, h2, h3, h4, h5⟩ := tidyAll (ds := ds) fun x hx => h x (List.mem_cons_of_mem _ hx)
    have g := h d List.mem_cons_self
    refine ⟨by simp only [PyData.leavesShortAll, g.sh, h1, Bool.and_self], by simp only [PyData.showableAll, g.ok, h2, Bool.and_self], by simp only [PyData.canLayAll0, g.lay, h3, Bool.and_self], ?_, ?_⟩
    · simp only [PyData.depthAll]
      exact Nat.max_le.mpr ⟨g.dep, h4⟩
    · simp only [PyData.weightAll]
      have := g.wt
      rw [List.length_cons, Nat.succ_mul]
      omega
theorem Tidy.list {k w dp : Nat} {ds : List PyData} (h : ∀ d ∈ ds, Tidy k w dp d) : Tidy k (ds.length * (w + 1)) (dp + 1) (.list ds) := by
  obtain ⟨h1, h2, h3, h4, h5⟩ := tidyAll h
  refine ⟨by simp only [PyData.leavesShort, h1], by simp only [PyData.showable, h2], by simp only [PyData.canLay0, h3], ?_, by simp only [PyData.weight]; exact h5⟩
  simp only [PyData.depth]
  omega
theorem Tidy.tuple {k w dp : Nat} {ds : List PyData} (h : ∀ d ∈ ds, Tidy k w dp d) : Tidy k (ds.length * (w + 1)) (dp + 1) (.tuple ds) := by
  obtain ⟨h1, h2, h3, h4, h5⟩ := tidyAll h
  refine ⟨by simp only [PyData.leavesShort, h1], by simp only [PyData.showable, h2], by simp only [PyData.canLay0, h3], ?_, by simp only [PyData.weight]; exact h5⟩
  simp only [PyData.depth]
  omega
theorem Sz.sub {k : Nat} {x y : Rat} (h : Sz k x) (g : Sz k y) : Sz (k + k + 1) (x - y) := by
  rw [← rat_sub]
  exact divInt_sz (Int.mul_ne_zero (den_ne x) (den_ne y)) (((h.n.mul g.d)).sub (g.n.mul h.d)) ((h.d.mul g.d).mono (by omega))
theorem Sz.add {k : Nat} {x y : Rat} (h : Sz k x) (g : Sz k y) : Sz (k + k + 1) (x + y) := by
  rw [← rat_add]
  exact divInt_sz (Int.mul_ne_zero (den_ne x) (den_ne y)) (((h.n.mul g.d)).add (g.n.mul h.d)) ((h.d.mul g.d).mono (by omega))
theorem Sz.mul {k : Nat} {x y : Rat} (h : Sz k x) (g : Sz k y) : Sz (k + k) (x * y) := by
  rw [← rat_mul]
  exact divInt_sz (Int.mul_ne_zero (den_ne x) (den_ne y)) (h.n.mul g.n) (h.d.mul g.d)
theorem Sz.sum {k : Nat} : ∀ {qs : List Rat}, (∀ q ∈ qs, Sz k q) → Sz ((k + 1) * qs.length + 1) qs.sum
  | [], _ => ⟨(show B 1 0 from .lit rfl).mono (Nat.le_add_left _ _), (show B 1 1 from .lit rfl).mono (Nat.le_add_left _ _)⟩
  | q :: qs, h => by
    have ih := Sz.sum (qs := qs) fun p hp => h p (List.mem_cons_of_mem _ hp)
    have g := h q List.mem_cons_self
    rw [List.sum_cons, ← rat_add, List.length_cons, Nat.mul_succ]
    refine divInt_sz (Int.mul_ne_zero (den_ne _) (den_ne _)) ?_ ?_
    · exact (g.n.mul' ih.d (c := (k + 1) * qs.length + 1 + k) (by omega)).add' (ih.n.mul' g.d (by omega)) (by omega)
    · exact g.d.mul' ih.d (by omega)
end DL
set_option maxHeartbeats 1000000
namespace DL
open PySem PySem.Spec PyProof.Rows L2
def spLaw (K : PySem.W.Frag) : Sp := fun vs H Q _ => ∃ (a : Addr) (ns : List Int), vs = [.ref a] ∧ SqL K H a (ns.map V.int) ∧ ∀ H', Q (.bl true) H'
end DL
set_option maxHeartbeats 1000000
namespace DL
open PySem PySem.Spec PyProof.Rows L2
def SqK (K : PySem.W.Frag) (k : Bool) (H : Hp) (a : Addr) (xs : List V) : Prop := match k with
  | true => SqT K H a xs
  | false => SqL K H a xs
def ItK (k : Bool) (h : Heap) (it a : Addr) (i : Nat) : Prop := match k with
  | true => h.IsTupleIter it a i
  | false => h.IsListIter it a i
def IsK (k : Bool) (h : Heap) (a : Addr) (its : Array Value) : Prop := match k with
  | true => h.IsTuple a its
  | false => h.IsList a its
def iterObj (k : Bool) (a : Addr) : Obj := match k with
  | true => { cls := .type "tuple_iterator", data := .fields #[.ref a, .int 0 0] }
  | false => { cls := .type "list_iterator", data := .fields #[.ref a, .int 0 0] }
theorem ItK.of {k : Bool} {h : Heap} {it a : Addr} (e : h.get? it = some (iterObj k a)) : ItK k h it a 0 := by
  cases k with
  | true => exact ⟨_, e, rfl, rfl⟩
  | false => exact ⟨_, e, rfl, rfl⟩
theorem ItK.at {k : Bool} {h h' : Heap} {it a : Addr} {i : Nat} (q : ItK k h it a i) (e : ∀ o, h.get? it = some o → h'.get? it = some o) : ItK k h' it a i := by
  cases k with
  | true => obtain ⟨o, e1, r⟩ := q; exact ⟨o, e o e1, r⟩
  | false => obtain ⟨o, e1, r⟩ := q; exact ⟨o, e o e1, r⟩
section
variable {X : Cx} {pins : List (Addr × Obj)} {σ : L2.St} {H : Hp} {s : Shared} {k : Bool} {a : Addr} {xs ys : List V}
end
end DL
set_option maxHeartbeats 1000000
namespace DL
open PySem PySem.Spec PyProof.Rows L2
def seqR : R → Option (List PyData)
  | .dat (.tuple ds) => some ds
  | .dat (.list ds) => some ds
  | .new ds => some ds
  | .bor ds => some ds
  | _ => none
def StK (K : PySem.W.Frag) (Y : Yc) (hs : List Addr) (H : Hp) (k : Bool) (a : Addr) (vs : List V) (own : Bool) (ds : List PyData) : Prop :=
  ∀ hs2 H2, Same (hide hs H) (hide hs2 H2) → (own = true → ∀ a o, a ∈ hs → a ∉ Y.hs → H a = some o → H2 a = some o) → SqK K k H2 a vs ∧ DpAll K (hide hs2 H2) vs ds
section
variable {K : PySem.W.Frag} {Y : Yc} {hs : List Addr} {H0 H : Hp} {v : V} {r : R} {ds : List PyData}
theorem StK.mono {k : Bool} {a : Addr} {vs : List V} {o1 o2 : Bool} (h : StK K Y hs H k a vs o1 ds) (i : o1 = true → o2 = true) : StK K Y hs H k a vs o2 ds := fun hs2 H2 s2 ow => h hs2 H2 s2 fun z => ow (i z)
end
section
variable {X : Cx} {Y : Yc} {e e2 a b : Expr} {p pos tpos : Pos} {elts : List Expr} {kk : Nat}
end
end DL
set_option maxHeartbeats 1000000
namespace DL
open PySem PySem.Spec PyProof.Rows L2
structure Shw (n dp : Nat) (d : PyData) : Prop where
  ok : d.showable = true
  lay : d.canLay0 = true
  dep : d.depth ≤ dp
  len : d.shown.length ≤ n
theorem Shw.mono {n dp n' dp' : Nat} {d : PyData} (h : Shw n dp d) (hn : n ≤ n') (hd : dp ≤ dp') : Shw n' dp' d := ⟨h.ok, h.lay, Nat.le_trans h.dep hd, Nat.le_trans h.len hn⟩
theorem Shw.shows {n dp : Nat} {d : PyData} (h : Shw n dp d) (hd : dp ≤ 64) (hn : n ≤ 16000000) : showsOk d :=
  ⟨h.ok, h.lay, Nat.le_trans h.dep hd, Nat.le_trans h.len (Nat.le_trans hn (by decide))⟩
theorem Shw.int {k : Nat} {i : Int} (h : B k i) (hk : k ≤ 1900) : Shw (k + 8) 0 (.int i) := by
  have hl := h.log
  refine ⟨?_, by simp only [PyData.canLay0], by simp only [PyData.depth]; exact Nat.le_refl _, ?_⟩
  · simp only [PyData.showable]
    exact decide_eq_true (by omega)
  · have e := int_text_length_le (k := k + 1) (by omega) hl
    simp only [PyData.shown]
    show (Str.ofString (toString i)).length ≤ k + 8
    rw [PySem.ofString_length]
    omega
theorem Shw.bool (b : Bool) : Shw 5 0 (.bool b) :=
  ⟨by simp only [PyData.showable], by simp only [PyData.canLay0], by simp only [PyData.depth]; exact Nat.le_refl _, by cases b <;> decide⟩
theorem shwAll {n dp : Nat} : ∀ {ds : List PyData}, (∀ d ∈ ds, Shw n dp d) → PyData.showableAll ds = true ∧ PyData.canLayAll0 ds = true ∧ PyData.depthAll ds ≤ dp ∧ ((PyData.shownAll ds).map (·.length)).sum ≤ ds.length * n ∧ (PyData.shownAll ds).length = ds.length
  | [], _ => ⟨by simp only [PyData.showableAll], by simp only [PyData.canLayAll0], by simp only [PyData.depthAll]; exact Nat.zero_le _, by simp [PyData.shownAll], by simp [PyData.shownAll]⟩
  | d :: ds, h => by
    obtain ⟨h2, h3, h4, h5, h6⟩ := shwAll (ds := ds) fun x hx => h x (List.mem_cons_of_mem _ hx)
    have g := h d List.mem_cons_self
    refine ⟨by simp only [PyData.showableAll, g.ok, h2, Bool.and_self], by simp only [PyData.canLayAll0, g.lay, h3, Bool.and_self], ?_, ?_, ?_⟩
    · simp only [PyData.depthAll]
      exact Nat.max_le.mpr ⟨g.dep, h4⟩
    · simp only [PyData.shownAll, List.map_cons, List.sum_cons]
      have := g.len
      rw [List.length_cons, Nat.succ_mul]
      omega
    · simp only [PyData.shownAll, List.length_cons, h6]
theorem Shw.list {n dp : Nat} {ds : List PyData} (h : ∀ d ∈ ds, Shw n dp d) : Shw (ds.length * (n + 2) + 3) (dp + 1) (.list ds) := by
  obtain ⟨h2, h3, h4, h5, h6⟩ := shwAll h
  refine ⟨by simp only [PyData.showable, h2], by simp only [PyData.canLay0, h3], by simp only [PyData.depth]; omega, ?_⟩
  have e := listText_len_le (PyData.shownAll ds)
  simp only [PyData.shown]
  rw [h6] at e
  rw [Nat.mul_add]
  omega
theorem Shw.tuple {n dp : Nat} {ds : List PyData} (h : ∀ d ∈ ds, Shw n dp d) : Shw (ds.length * (n + 2) + 3) (dp + 1) (.tuple ds) := by
  obtain ⟨h2, h3, h4, h5, h6⟩ := shwAll h
  refine ⟨by simp only [PyData.showable, h2], by simp only [PyData.canLay0, h3], by simp only [PyData.depth]; omega, ?_⟩
  have e := tupleText_len_le (PyData.shownAll ds)
  simp only [PyData.shown]
  rw [h6] at e
  rw [Nat.mul_add]
  omega
abbrev Flow := Rat × List (List Rat)
abbrev Net := List Rat × List Flow
def RowOk (k l : Nat) (w : List Rat) : Prop := w.length = l ∧ ∀ q ∈ w, Sz k q
def WaysOk (k l m : Nat) (ws : List (List Rat)) : Prop := ws ≠ [] ∧ ws.length ≤ m ∧ ∀ w ∈ ws, RowOk k l w
def FlowsOk (k l m : Nat) (fs : List Flow) : Prop := ∀ f ∈ fs, Sz 5 f.1 ∧ WaysOk k l m f.2
def SplitOk (k : Nat) (fs : List Flow) (s : List (List Rat)) : Prop := s.length = fs.length ∧ ∀ (i : Nat) (f : Flow) (x : List Rat), fs[i]? = some f → s[i]? = some x → RowOk k f.2.length x
theorem RowOk.mono {k k' l : Nat} {w : List Rat} (h : RowOk k l w) (hk : k ≤ k') : RowOk k' l w := ⟨h.1, fun q hq => (h.2 q hq).mono hk⟩
theorem SplitOk.mono {k k' : Nat} {fs : List Flow} {s : List (List Rat)} (h : SplitOk k fs s) (hk : k ≤ k') : SplitOk k' fs s := ⟨h.1, fun i f x e1 e2 => (h.2 i f x e1 e2).mono hk⟩
theorem FlowsOk.mono {k k' l m : Nat} {fs : List Flow} (h : FlowsOk k l m fs) (hk : k ≤ k') : FlowsOk k' l m fs := fun f hf => ⟨(h f hf).1, (h f hf).2.1, (h f hf).2.2.1, fun w hw => ((h f hf).2.2.2 w hw).mono hk⟩
end DL
set_option maxHeartbeats 1000000
namespace DL
open PySem PySem.Spec PyProof.Rows L2
def SeqR (ds : List PyData) (r : R) : Prop := r = .dat (.list ds) ∨ r = .dat (.tuple ds)
theorem atI_mem {α : Type} {xs : List α} {r : Int} (h0 : 0 ≤ r) (h1 : r < (xs.length : Int)) : ∃ x, atI xs r = some x ∧ x ∈ xs := by
  obtain ⟨j, rfl⟩ := Int.eq_ofNat_of_zero_le h0
  have hj : j < xs.length := by omega
  exact ⟨xs[j], atI_nat (List.getElem?_eq_getElem hj), List.getElem_mem hj⟩
end DL
set_option maxHeartbeats 1000000
namespace DL
open PySem PySem.Spec PyProof.Rows L2
section
variable {X : Cx} {Y : Yc} {o ie e : Expr} {pos tpos : Pos}
end
end DL
set_option maxHeartbeats 1000000
namespace DL
open PySem PySem.Spec PyProof.Rows L2
section
variable {X : Cx} {Y : Yc} {e : Expr} {es : List Expr}
end
section
variable {K : PySem.W.Frag} {Y : Yc} {hs : List Addr} {σ : L2.St} {H H1 H2 : Hp} {δ : List S}
end
section
variable {X : Cx} {Y : Yc} {e : Expr} {es : List Expr} {pos : Pos}
end
end DL
set_option maxHeartbeats 1000000
namespace DL
open PySem PySem.Spec PyProof.Rows L2
def loadQ (x : List Rat) (ws : List (List Rat)) (l : Nat) : Rat := (List.zipWith (fun q w => q * (w.getD l 0)) x ws).sum
theorem getD_of {α : Type} {xs : List α} {i : Nat} {x d : α} (h : xs[i]? = some x) : xs.getD i d = x := by
  rw [List.getD_eq_getElem?_getD, h]
  rfl
theorem Sz.mul2 {a b : Nat} {x y : Rat} (h : Sz a x) (g : Sz b y) : Sz (a + b) (x * y) := by
  rw [← rat_mul]
  exact divInt_sz (Int.mul_ne_zero (den_ne x) (den_ne y)) (h.n.mul g.n) (h.d.mul g.d)
theorem load_sz {k l : Nat} {x : List Rat} {ws : List (List Rat)} (h : ∃ a b : Nat, a + b ≤ k + k ∧ (∀ q ∈ x, Sz a q) ∧ ∀ w ∈ ws, l < w.length ∧ ∀ q ∈ w, Sz b q) : ∀ q ∈ List.zipWith (fun q w => q * (w.getD l 0)) x ws, Sz (k + k) q := fun q hq => by
  obtain ⟨a', b', hab, h1, h2⟩ := h
  obtain ⟨i, hi⟩ := List.getElem?_of_mem hq
  rw [List.getElem?_zipWith] at hi
  cases e1 : x[i]? with
  | none => rw [e1] at hi; cases hi
  | some a =>
    cases e2 : ws[i]? with
    | none => rw [e1, e2] at hi; cases hi
    | some w =>
      rw [e1, e2] at hi
      cases hi
      obtain ⟨hl, hw⟩ := h2 w (List.mem_of_getElem? e2)
      have e3 : w[l]? = some w[l] := List.getElem?_eq_getElem hl
      rw [getD_of e3]
      exact ((h1 a (List.mem_of_getElem? e1)).mul2 (hw _ (List.getElem_mem hl))).mono hab
def LoadArg (k : Nat) (x : List Rat) (ws : List (List Rat)) (l : Nat) : Prop := (∃ a b : Nat, a + b ≤ k + k ∧ (∀ q ∈ x, Sz a q) ∧ ∀ w ∈ ws, l < w.length ∧ ∀ q ∈ w, Sz b q) ∧ k ≤ 1000 ∧ x.length = ws.length ∧ (k + k + 1) * (x.length + 1) ≤ 7000 ∧ x.length ≤ 1000
def totalQ (fs : List Flow) (s : List (List Rat)) (l : Nat) : Rat := (List.zipWith (fun (f : Flow) x => loadQ x f.2 l) fs s).sum
structure TotArg (k : Nat) (fs : List Flow) (s : List (List Rat)) (l : Nat) : Prop where
  len : s.length = fs.length
  at_ : ∀ (i : Nat) (f : Flow) (x : List Rat), fs[i]? = some f → s[i]? = some x → LoadArg k x f.2 l ∧ x.length ≤ 6
  k0 : k ≤ 80
  n0 : fs.length ≤ 5
theorem TotArg.load {k : Nat} {fs : List Flow} {s : List (List Rat)} {l : Nat} (h : TotArg k fs s l) {i : Nat} {f : Flow} {x : List Rat} (e1 : fs[i]? = some f) (e2 : s[i]? = some x) : Sz (12 * k + 7) (loadQ x f.2 l) := by
  obtain ⟨⟨h1, h3, h4, h5, h6⟩, h7⟩ := h.at_ i f x e1 e2
  have lz : (List.zipWith (fun q w => q * (w.getD l 0)) x f.2).length = x.length := by rw [List.length_zipWith, ← h4, Nat.min_self]
  have := Sz.sum (load_sz h1)
  rw [lz] at this
  refine Sz.mono this ?_
  have e := Nat.mul_le_mul_left (k + k + 1) h7
  omega
theorem TotArg.all {k : Nat} {fs : List Flow} {s : List (List Rat)} {l : Nat} (h : TotArg k fs s l) : ∀ q ∈ List.zipWith (fun (f : Flow) x => loadQ x f.2 l) fs s, Sz (12 * k + 7) q := fun q hq => by
  obtain ⟨i, hi⟩ := List.getElem?_of_mem hq
  rw [List.getElem?_zipWith] at hi
  cases e1 : fs[i]? with
  | none => rw [e1] at hi; cases hi
  | some f =>
    cases e2 : s[i]? with
    | none => rw [e1, e2] at hi; cases hi
    | some x =>
      rw [e1, e2] at hi
      cases hi
      exact h.load e1 e2
theorem TotArg.len2 {k : Nat} {fs : List Flow} {s : List (List Rat)} {l : Nat} (h : TotArg k fs s l) : (List.zipWith (fun (f : Flow) x => loadQ x f.2 l) fs s).length = fs.length := by rw [List.length_zipWith, h.len, Nat.min_self]
theorem TotArg.sum {k : Nat} {fs : List Flow} {s : List (List Rat)} {l : Nat} (h : TotArg k fs s l) : Sz (60 * k + 41) (totalQ fs s l) := by
  have := Sz.sum h.all
  rw [h.len2] at this
  refine Sz.mono this ?_
  have e := Nat.mul_le_mul_left (12 * k + 7 + 1) h.n0
  omega
def roomsOk (k : Nat) (n : Net) : Prop := ∀ q ∈ n.1, Sz k q
def fr (n : Int) (d : Nat) (h : d ≠ 0 := by decide) (c : n.natAbs.Coprime d := by decide) : Rat := ⟨n, d, h, c⟩
structure Lay (dp : Nat) (d : PyData) : Prop where
  lay : d.canLay0 = true
  dep : d.depth ≤ dp
theorem Lay.mono {a b : Nat} {d : PyData} (h : Lay a d) (l : a ≤ b) : Lay b d := ⟨h.lay, Nat.le_trans h.dep l⟩
theorem Lay.shaped {dp : Nat} {d : PyData} (h : Lay dp d) (l : dp ≤ 64) : SeqAt.shaped d = true := by
  unfold SeqAt.shaped
  rw [h.lay, decide_eq_true (Nat.le_trans h.dep l)]
  rfl
theorem Lay.int (i : Int) : Lay 0 (.int i) := ⟨by simp only [PyData.canLay0], by simp only [PyData.depth]; exact Nat.le_refl _⟩
theorem Lay.bool (i : Bool) : Lay 0 (.bool i) := ⟨by simp only [PyData.canLay0], by simp only [PyData.depth]; exact Nat.le_refl _⟩
theorem layAll {dp : Nat} : ∀ {ds : List PyData}, (∀ d ∈ ds, Lay dp d) → PyData.canLayAll0 ds = true ∧ PyData.depthAll ds ≤ dp
  | [], _ => ⟨by simp only [PyData.canLayAll0], by simp only [PyData.depthAll]; exact Nat.zero_le _⟩
  | d :: ds, h => by
    obtain ⟨h3, h4⟩ := layAll (ds := ds) fun x hx => h x (List.mem_cons_of_mem _ hx)
    have g := h d List.mem_cons_self
    refine ⟨by simp only [PyData.canLayAll0, g.lay, h3, Bool.and_self], ?_⟩
    simp only [PyData.depthAll]
    exact Nat.max_le.mpr ⟨g.dep, h4⟩
theorem Lay.list {dp : Nat} {ds : List PyData} (h : ∀ d ∈ ds, Lay dp d) : Lay (dp + 1) (.list ds) := by
  obtain ⟨h3, h4⟩ := layAll h
  exact ⟨by simp only [PyData.canLay0, h3], by simp only [PyData.depth]; omega⟩
theorem Lay.tuple {dp : Nat} {ds : List PyData} (h : ∀ d ∈ ds, Lay dp d) : Lay (dp + 1) (.tuple ds) := by
  obtain ⟨h3, h4⟩ := layAll h
  exact ⟨by simp only [PyData.canLay0, h3], by simp only [PyData.depth]; omega⟩
theorem RowOk.nil {k : Nat} : RowOk k 0 [] := ⟨rfl, fun _ h => nomatch h⟩
def SplitTo (k : Nat) (fs : List Flow) (i : Nat) (s : List (List Rat)) : Prop := s.length = i ∧ ∀ (j : Nat) (f : Flow) (x : List Rat), fs[j]? = some f → s[j]? = some x → RowOk k f.2.length x
theorem SplitTo.nil {k : Nat} {fs : List Flow} : SplitTo k fs 0 [] := ⟨rfl, fun j f x _ e => by simp at e⟩
structure PairOk (r k : Nat) (n : Net) (s t : List (List Rat)) : Prop where
  hL : n.1.length ≤ 6
  hF : n.2.length ≤ 5
  hr : roomsOk r n
  hf : FlowsOk k n.1.length 6 n.2
  hs : SplitOk k n.2 s
  ht : SplitOk k n.2 t
theorem PairOk.mono {r k r' k' : Nat} {n : Net} {s t : List (List Rat)} (h : PairOk r k n s t) (h1 : r ≤ r') (h2 : k ≤ k') : PairOk r' k' n s t :=
  ⟨h.hL, h.hF, fun q hq => (h.hr q hq).mono h1, h.hf.mono h2, h.hs.mono h2, h.ht.mono h2⟩
theorem RowOk.set {k l : Nat} {w : List Rat} {q : Rat} {j : Nat} (h : RowOk k l w) (g : Sz k q) : RowOk k l (w.set j q) := ⟨by rw [List.length_set]; exact h.1, fun p hp => by
  rcases List.mem_or_eq_of_mem_set hp with z | z
  · exact h.2 p z
  · rw [z]; exact g⟩
end DL
set_option maxHeartbeats 1000000
namespace DL
open PySem PySem.Spec PyProof.Rows L2
section
variable {K : PySem.W.Frag} {Y : Yc} {hs : List Addr} {σ : L2.St} {H H1 H2 H3 H' : Hp} {δ : List S} {D : Addr}
def GrD (Y : Yc) (D : Addr) (H H' : Hp) : Prop := ∀ a o, a ≠ D → (∀ b c, Y.bg = some (b, c) → a ≠ b) → H a = some o → H' a = some o
theorem GrD.trans (a : GrD Y D H H1) (b : GrD Y D H1 H2) : GrD Y D H H2 := fun x o n m h => b x o n m (a x o n m h)
theorem GrD.of (g : Gr Y H H') : GrD Y D H H' := fun x o _ m h => g x o m h
theorem GrD.upd {o : HO} : GrD Y D H (L2.upd H D o) := fun x u n _ h => by
  rw [upd_ne n]
  exact h
theorem GrD.hide (g : GrD Y D H H') (hb : ∀ b c, Y.bg = some (b, c) → b ∈ D :: hs) : Same (hide (D :: hs) H) (hide (D :: hs) H') := fun a o h => by
  obtain ⟨n, h⟩ := hide_some h
  exact hide_of n (g a o (fun z => n (by rw [z]; exact List.mem_cons_self)) (fun b c q z => n (by rw [z]; exact hb b c q)) h)
end
section
variable {X : Cx} {Y : Yc} {pos : Pos}
end
end DL
set_option maxHeartbeats 1000000
namespace DL
open PySem PySem.Spec PyProof.Rows L2
section
variable {X : Cx} {Y : Yc} {e : Expr} {p p2 pos : Pos}
end
end DL
set_option maxHeartbeats 1000000
namespace DL
open PySem PySem.Spec PyProof.Rows L2
abbrev FE := List S → Option R
abbrev FA := List S → Option (List R)
abbrev FT := List S → Option Bool
abbrev FI := List S → Option (Bool × List PyData)
abbrev FG := PyData → List S → Option (List S)
abbrev F2 := R → R → Option R
inductive Out where
  | nx (δ : List S) | rt (r : R) | bk (δ : List S) | ct (δ : List S)
def DEnds.of (P : DEnds) : Out → Prop
  | .nx δ => P.nx δ
  | .rt r => P.rt r
  | .bk δ => P.bk δ
  | .ct δ => P.ct δ
def SE (t : DE) (f : FE) : Prop := ∀ δ r (P : R → Prop), f δ = some r → P r → t δ P
def SA (t : DA) (f : FA) : Prop := ∀ δ r (P : List R → Prop), f δ = some r → P r → t δ P
def ST (t : DT) (f : FT) : Prop := ∀ δ r (P : Bool → Prop), f δ = some r → P r → t δ P
def SI (t : DI) (f : FI) : Prop := ∀ δ w ds (P : Bool → List PyData → Prop), f δ = some (w, ds) → P w ds → t δ P
def SG (t : DG) (f : FG) : Prop := ∀ d δ r (P : List S → Prop), f d δ = some r → P r → t d δ P
def S2 (t : D2) (f : F2) : Prop := ∀ x y r (P : R → Prop), f x y = some r → P r → t x y P
theorem bnd {α β : Type} {o : Option α} {k : α → Option β} {r : β} (h : o.bind k = some r) : ∃ a, o = some a ∧ k a = some r := Option.bind_eq_some_iff.mp h
def grd {α : Type} (c : Bool) (a : α) : Option α := bif c then some a else none
theorem grd_of {α : Type} {c : Bool} {a r : α} (h : grd c a = some r) : c = true ∧ a = r := by
  cases c with
  | true => exact ⟨rfl, Option.some.inj h⟩
  | false => cases h
def fVar (i : Nat) : FE := fun δ => match δ[i]? with
  | some (.dat d) => some (.dat d)
  | some (.own ds) => some (.bor ds)
  | some .bag => some .bag
  | _ => none
theorem se_var {i : Nat} : SE (dVar i) (fVar i) := fun δ r P h p => by
  unfold fVar at h
  unfold dVar
  split at h
  · rename_i e; (try rw [e]); cases h; exact p
  · rename_i e; (try rw [e]); cases h; exact p
  · rename_i e; (try rw [e]); cases h; exact p
  · cases h
def fC (d : PyData) : FE := fun _ => some (.dat d)
theorem se_c {d : PyData} : SE (dC d) (fC d) := fun δ r P h p => by cases h; exact p
def fOp (g : F2) (a b : FE) : FE := fun δ => (a δ).bind fun x => (b δ).bind fun y => g x y
theorem se_op {g : D2} {f : F2} {a b : DE} {fa fb : FE} (hg : S2 g f) (ha : SE a fa) (hb : SE b fb) : SE (dOp g a b) (fOp f fa fb) := fun δ r P h p => by
  obtain ⟨x, h1, h⟩ := bnd h
  obtain ⟨y, h2, h⟩ := bnd h
  exact ha δ x _ h1 (hb δ y _ h2 (hg x y r P h p))
def fI (C : Int → Int → Bool) (f : Int → Int → PyData) : F2 := fun x y => match x, y with
  | .dat (.int i), .dat (.int j) => grd (C i j) (.dat (f i j))
  | _, _ => none
def fEq (n : Bool) : F2 := fun x y => match x, y with
  | .dat (.str u), .dat (.str v) => some (.dat (.bool (decide (u = v) != n)))
  | .bag, _ => none
  | _, .bag => none
  | x, y => grd (SeqAt.shaped x.d && SeqAt.shaped y.d) (.dat (.bool (PyData.eqv x.d y.d != n)))
theorem s2_eq {n : Bool} : S2 (gEq n) (fEq n) := fun x y r P h p => by
  unfold fEq at h
  unfold gEq
  split at h
  · cases h; exact p
  · cases h
  · cases h
  · rename_i n1 n2 n3
    obtain ⟨h1, rfl⟩ := grd_of h
    rw [Bool.and_eq_true] at h1
    first | exact ⟨h1.1, h1.2, p⟩ | (split <;> first | exact ⟨h1.1, h1.2, p⟩ | (exfalso; simp_all))
def fNil : FA := fun _ => some []
def fCons (a : FE) (u : FA) : FA := fun δ => (a δ).bind fun r => (u δ).bind fun rs => some (r :: rs)
theorem sa_nil : SA dNil fNil := fun δ r P h p => by cases h; exact p
theorem sa_cons {a : DE} {u : DA} {fa : FE} {fu : FA} (ha : SE a fa) (hu : SA u fu) : SA (dCons a u) (fCons fa fu) := fun δ r P h p => by
  obtain ⟨x, h1, h⟩ := bnd h
  obtain ⟨y, h2, h⟩ := bnd h
  cases h
  exact ha δ x _ h1 (hu δ y _ h2 p)
def ftYes : FT := fun _ => some true
theorem st_yes : ST dtYes ftYes := fun δ r P h p => by cases h; exact p
def natsD (n : Nat) : List PyData := (List.range n).map fun k : Nat => PyData.int (k : Int)
def fiR (u : FA) : FI := fun δ => (u δ).bind fun rs => match rs with
  | [.dat (.int n)] => grd (decide (-100000 ≤ n ∧ n ≤ 100000)) (false, natsD n.toNat)
  | _ => none
theorem si_R {u : DA} {fu : FA} (hu : SA u fu) : SI (diR u) (fiR fu) := fun δ w ds P h p => by
  obtain ⟨x, h1, h⟩ := bnd h
  refine hu δ x _ h1 ?_
  split at h
  · obtain ⟨h1, h2⟩ := grd_of h; cases h2; exact ⟨of_decide_eq_true h1, p⟩
  · cases h
def fgName (i : Nat) : FG := fun d δ => some (δ.set i (.dat d))
theorem sg_name {i : Nat} : SG (dgName i) (fgName i) := fun d δ r P h p => by cases h; exact p
def lcGo (body : PyData → Option (Option PyData)) : List PyData → Option (List PyData)
  | [] => some []
  | d :: ds => (body d).bind fun o => (lcGo body ds).map fun r => match o with
    | some x => x :: r
    | none => r
def solidD (r : R) : Option PyData := grd r.isSolid r.d
def lcBody (g : FG) (tt : FT) (te : FE) (vs : List Nat) (δ : List S) (d : PyData) : Option (Option PyData) :=
  (g d (wipeD δ vs)).bind fun δ2 => (tt δ2).bind fun b => bif b then ((te δ2).bind solidD).map some else some none
def fLc (i : FI) (g : FG) (tt : FT) (te : FE) (vs : List Nat) : FE := fun δ => (i δ).bind fun wi =>
  bif decide (wi.2.length ≤ 1000) then (lcGo (lcBody g tt te vs δ) wi.2).map .new else none
theorem lcGo_at {body : PyData → Option (Option PyData)} : ∀ {ds : List PyData} {r : List PyData}, lcGo body ds = some r → ∃ os : List (Option PyData), os.length = ds.length ∧ (∀ (i : Nat) d, ds[i]? = some d → ∃ o, os[i]? = some o ∧ body d = some o) ∧ r = os.filterMap id
  | [], r, h => by cases h; exact ⟨[], rfl, fun i d e => by simp at e, rfl⟩
  | x :: ds, r, h => by
    obtain ⟨o, h1, h2⟩ := bnd h
    obtain ⟨r2, h3, h4⟩ := Option.map_eq_some_iff.mp h2
    obtain ⟨os, l, e, q⟩ := lcGo_at h3
    refine ⟨o :: os, by rw [List.length_cons, List.length_cons, l], fun i d ei => ?_, ?_⟩
    · cases i with
      | zero => exact ⟨o, rfl, by simp at ei; subst ei; exact h1⟩
      | succ i => exact e i d (by simpa using ei)
    · subst h4
      cases o with
      | none => exact q
      | some y =>
        show y :: r2 = y :: List.filterMap id os
        rw [q]
theorem filt_snoc {os : List (Option PyData)} {i : Nat} {o : Option PyData} (h : os[i]? = some o) : (os.take (i + 1)).filterMap id = (os.take i).filterMap id ++ o.toList := by
  rw [List.take_add_one, h, List.filterMap_append]
  cases o <;> rfl
theorem se_lc {i : DI} {g : DG} {tt : DT} {te : DE} {vs : List Nat} {fi : FI} {fg : FG} {ft : FT} {fe : FE} (hi : SI i fi) (hg : SG g fg) (ht : ST tt ft) (he : SE te fe) : SE (dLc i g tt te vs) (fLc fi fg ft fe vs) := fun δ r P h p => by
  obtain ⟨⟨w, items⟩, h1, h⟩ := bnd h
  refine hi δ w items _ h1 ?_
  cases ec : decide (items.length ≤ 1000) with
  | false => rw [show ((w, items).2) = items from rfl, ec] at h; cases h
  | true =>
    rw [show ((w, items).2) = items from rfl, ec] at h
    obtain ⟨rs, h2, rfl⟩ := Option.map_eq_some_iff.mp h
    obtain ⟨os, hl, hat, rfl⟩ := lcGo_at h2
    refine ⟨fun i acc => acc = (os.take i).filterMap id, rfl, fun i d acc hd ha _ => ?_, of_decide_eq_true ec, fun acc ha => ?_⟩
    · obtain ⟨o, ho, hb⟩ := hat i d hd
      obtain ⟨δ2, b1, hb⟩ := bnd hb
      obtain ⟨b, b2, hb⟩ := bnd hb
      refine hg d _ δ2 _ b1 (ht δ2 b _ b2 ?_)
      cases b with
      | true =>
        obtain ⟨x, hx, rfl⟩ := Option.map_eq_some_iff.mp (show ((fe δ2).bind solidD).map some = some o from hb)
        obtain ⟨r, b3, hx⟩ := bnd hx
        obtain ⟨b4, rfl⟩ := grd_of hx
        rw [if_pos rfl]
        refine he δ2 r _ b3 ⟨b4, ?_⟩
        subst ha
        exact (filt_snoc ho).symm
      | false =>
        have hb : some none = some o := hb
        cases hb
        rw [if_neg (by decide)]
        subst ha
        exact ((filt_snoc ho).trans (List.append_nil _)).symm
    · subst ha
      rw [← hl, List.take_length]
      exact p
open Classical in
section
variable {X : Cx} {Y : Yc} {st : Stmt} {sts : List Stmt} {t : DS}
end
end DL
set_option maxHeartbeats 1000000
namespace DL
open PySem PySem.Spec PyProof.Rows L2
def fresh (g : List R → Option (List PyData)) (t : DA) : DE := fun δ P => t δ fun rs => match g rs with
  | some ds => ds.length ≤ 1000 ∧ P (.new ds)
  | none => False
end DL
set_option maxHeartbeats 2000000
namespace DL
open PySem PySem.Spec PyProof.Rows L2
theorem IsK.at {k : Bool} {h h' : Heap} {a : Addr} {its : Array Value} (q : IsK k h a its) (e : ∀ o, h.get? a = some o → h'.get? a = some o) : IsK k h' a its := by
  cases k with
  | true => obtain ⟨o, e1, r⟩ := q; exact ⟨o, e o e1, r⟩
  | false => obtain ⟨o, e1, r⟩ := q; exact ⟨o, e o e1, r⟩
def ZSt (k1 k2 : Bool) (z TI TO i1 i2 l1 l2 S : Addr) (xs ys : Array Value) (i : Nat) (h : Heap) : Prop := IsPair h TI (.ref i1) (.ref i2) ∧ ItK k1 h i1 l1 i ∧ ItK k2 h i2 l2 i ∧ IsK k1 h l1 xs ∧ IsK k2 h l2 ys ∧
  ((IsZip h z TI TO .none ∧ ∃ a b, IsPair h TO a b) ∨ ∃ T f oT, IsZipHeld h z TI TO T f ∧ h.get? T = some oT ∧ T ≠ z ∧ T ≠ i1 ∧ T ≠ i2 ∧ T ≠ S)
section
variable {prog : Program} {w : World} {A : Around} {E : Value → Shared → Prop} {s : Shared} {z TI TO T i1 i2 : Addr} {fp1 fp2 : List Addr} {n1 n2 i : Nat} {P1 P2 : Nat → Value → Prop} {St1 St2 : Nat → Heap → Prop} {f : Bool} {oT : Obj}
end
section
variable {prog : Program} {w : World} {A : Around} {E : Value → Shared → Prop} {s : Shared} {R : Result → Shared → Prop} {k1 k2 : Bool} {z TI TO i1 i2 l1 l2 S : Addr} {xs ys : Array Value}
theorem ZSt.keep {i : Nat} {h h' : Heap} (st : ZSt k1 k2 z TI TO i1 i2 l1 l2 S xs ys i h) (nS : S ≠ z ∧ S ≠ TI ∧ S ≠ TO ∧ S ≠ i1 ∧ S ≠ i2 ∧ S ≠ l1 ∧ S ≠ l2) (hk : ∀ b o, b ≠ S → h.get? b = some o → h'.get? b = some o) : ZSt k1 k2 z TI TO i1 i2 l1 l2 S xs ys i h' := by
  obtain ⟨n1, n2, n3, n4, n5, n6, n7⟩ := nS
  obtain ⟨hTI, h1, h2, hl1, hl2, hz⟩ := st
  refine ⟨hk _ _ n2.symm hTI, h1.at fun o e => hk _ o n4.symm e, h2.at fun o e => hk _ o n5.symm e, hl1.at fun o e => hk _ o n6.symm e, hl2.at fun o e => hk _ o n7.symm e, ?_⟩
  rcases hz with ⟨hz, a, b, hTO⟩ | ⟨T, f, oT, hz, hT, r1, r2, r3, r4⟩
  · exact .inl ⟨hk _ _ n1.symm hz, a, b, hk _ _ n3.symm hTO⟩
  · exact .inr ⟨T, f, oT, hk _ _ n1.symm hz, hk _ _ r4 hT, r1, r2, r3, r4⟩
end
end DL
set_option maxHeartbeats 2000000
namespace DL
open PySem PySem.Spec PyProof.Rows L2
section
variable {X : Cx} {e e2 : Expr} {ta : TA} {p p2 pos pos2 : Pos}
end
end DL
set_option maxHeartbeats 2000000
namespace DL
open PySem PySem.Spec PyProof.Rows L2
section
variable {X : Cx} {Y : Yc} {e e2 : Expr} {p p2 pos pos2 : Pos} {t : DA}
end
end DL
set_option maxHeartbeats 2000000
namespace DL
open PySem PySem.Spec PyProof.Rows L2
section
variable {X : Cx} {Y : Yc} {e : Expr} {es : List Expr} {pos : Pos}
end
end DL
set_option maxHeartbeats 2000000
namespace DL
open PySem PySem.Spec PyProof.Rows L2
abbrev nestD (dss : List (List PyData)) : PyData := .list (dss.map PyData.list)
section
variable {K : PySem.W.Frag} {Y : Yc} {hs : List Addr} {σ : L2.St} {H H1 H2 Hb : Hp} {δ : List S}
theorem Rel.un (I : Rel K Y hs σ H δ) {i : Nat} {x : Option V} : Rel K Y hs (σ.set i x) H (δ.set i .un) := by
  have dec : ∀ {j : Nat} {s : S}, (δ.set i S.un)[j]? = some s → (i = j ∧ s = .un) ∨ (i ≠ j ∧ δ[j]? = some s) := fun {j s} e => by
    by_cases h : i = j
    · subst h
      have hl := (List.getElem?_eq_some_iff.mp e).1
      rw [List.length_set] at hl
      rw [List.getElem?_set_self hl] at e
      cases e
      exact .inl ⟨rfl, rfl⟩
    · rw [List.getElem?_set_ne h] at e
      exact .inr ⟨h, e⟩
  refine ⟨by rw [List.length_set, List.length_set]; exact I.len, fun j s e => ?_, fun j k es fs n e1 e2 => ?_, I.sub, I.new, I.tr, I.bag, I.gr, I.ls⟩
  · rcases dec e with ⟨rfl, rfl⟩ | ⟨h, e⟩
    · trivial
    · rw [List.getElem?_set_ne h]
      exact I.slot j s e
  · rcases dec e1 with ⟨_, z⟩ | ⟨h1, f1⟩
    · cases z
    · rcases dec e2 with ⟨_, z⟩ | ⟨h2, f2⟩
      · cases z
      · rw [List.getElem?_set_ne h1, List.getElem?_set_ne h2]
        exact I.dist j k es fs n f1 f2
end
structure NestS (K : PySem.W.Frag) (Y : Yc) (hs : List Addr) (Hb : Hp) (σ : L2.St) (H : Hp) (δ : List S) (i : Nat) (p : Addr) (qs : List Addr) (dss : List (List PyData)) : Prop where
  I : Rel K Y ((p :: qs) ++ hs) σ H (δ.set i .un)
  di : δ[i]? = some (.dat (nestD dss))
  si : σ[i]? = some (some (.ref p))
  nd : (p :: qs).Nodup
  fr : ∀ a ∈ p :: qs, Hb a = none
  hp : H p = some (.lst (qs.map V.ref))
  hq : Paired (fun (q : Addr) (ds : List PyData) => ∃ xs, H q = some (.lst xs) ∧ DpAll K (hide ((p :: qs) ++ hs) H) xs ds) qs dss
  sub : ∀ a ∈ Y.hs, a ∈ hs
  tb : Tracked hs Hb
  no : ∀ (j : Nat) (ds : List PyData) (a : Addr), δ[j]? = some (S.own ds) → σ[j]? = some (some (.ref a)) → a ∈ hs
  sm : Same (hide hs Hb) (hide hs H)
section
variable {K : PySem.W.Frag} {Y : Yc} {hs : List Addr} {σ : L2.St} {H H1 H2 Hb : Hp} {δ : List S} {i : Nat} {p : Addr} {qs : List Addr} {dss : List (List PyData)}
theorem NestS.out (N : NestS K Y hs Hb σ H δ i p qs dss) : ∀ a ∈ p :: qs, a ∉ hs := fun a ha z => N.tb a z (N.fr a ha)
theorem NestS.outY (N : NestS K Y hs Hb σ H δ i p qs dss) : ∀ a ∈ p :: qs, a ∉ Y.hs := fun a ha z => N.out a ha (N.sub a z)
theorem NestS.notBag (N : NestS K Y hs Hb σ H δ i p qs dss) : ∀ a ∈ p :: qs, ∀ b c, Y.bg = some (b, c) → a ≠ b := fun a ha b c q z => N.outY a ha (by rw [z]; exact (N.I.bag b c q).1)
theorem hide_big {as : List Addr} : Same (hide (as ++ hs) H) (hide hs H) := hide_sub fun a h => List.mem_append.mpr (.inr h)
theorem NestS.dp (N : NestS K Y hs Hb σ H δ i p qs dss) : Dp K (hide hs H) (.ref p) (nestD dss) := by
  refine .lst (SqL.of (hide_of (N.out p List.mem_cons_self) N.hp)) ?_
  have gen : ∀ {as : List Addr} {es : List (List PyData)}, (∀ a ∈ as, a ∉ hs) → Paired (fun (q : Addr) (ds : List PyData) => ∃ xs, H q = some (.lst xs) ∧ DpAll K (hide ((p :: qs) ++ hs) H) xs ds) as es → DpAll K (hide hs H) (as.map V.ref) (es.map PyData.list) := by
    intro as es ho hp
    induction hp with
    | nil => exact .nil
    | cons h t ih =>
      obtain ⟨xs, e1, e2⟩ := h
      exact .cons (.lst (SqL.of (hide_of (ho _ List.mem_cons_self) e1)) (dpAll_same hide_big _ _ e2)) (ih fun a ha => ho a (List.mem_cons_of_mem _ ha))
  exact gen (fun a ha => N.out a (List.mem_cons_of_mem _ ha)) N.hq
theorem NestS.vis (N : NestS K Y hs Hb σ H δ i p qs dss) : Rel K Y hs σ H δ := by
  have I := N.I
  have own : ∀ {j : Nat} {ds : List PyData}, δ[j]? = some (S.own ds) → i ≠ j := fun {j ds} e z => by
    subst z
    rw [N.di] at e
    cases e
  refine ⟨by rw [I.len, List.length_set], fun j s e => ?_, fun j k es fs n e1 e2 => I.dist j k es fs n (by rw [List.getElem?_set_ne (own e1)]; exact e1) (by rw [List.getElem?_set_ne (own e2)]; exact e2), N.sub, fun a h n => I.new a (List.mem_append.mpr (.inr h)) n, fun a h => I.tr a (List.mem_append.mpr (.inr h)), I.bag, I.gr, fun a h n => I.ls a (List.mem_append.mpr (.inr h)) n⟩
  by_cases h : i = j
  · subst h
    rw [N.di] at e
    cases e
    exact ⟨_, N.si, N.dp⟩
  · have q := I.slot j s (by rw [List.getElem?_set_ne h]; exact e)
    cases s with
    | un => trivial
    | dat d => obtain ⟨v, e1, e2⟩ := q; exact ⟨v, e1, dp_same hide_big _ _ e2⟩
    | own ds =>
      obtain ⟨a, xs, e1, e2, e3, e4, e5⟩ := q
      exact ⟨a, xs, e1, N.no j ds a e e1, e3, e4, dpAll_same hide_big _ _ e5⟩
    | bag => exact q
    | odt ds =>
      obtain ⟨a, xs, e1, e2, e3, e4, e5⟩ := q
      refine ⟨a, xs, e1, (List.mem_append.mp e2).resolve_left fun z => ?_, e3, e4, dpKvsT_same hide_big _ _ e5⟩
      rcases List.mem_cons.mp z with z | z
      · rw [z, N.hp] at e4
        cases e4
      · have gen : ∀ {as : List Addr} {es : List (List PyData)}, Paired (fun (q : Addr) (ds : List PyData) => ∃ xs, H q = some (.lst xs) ∧ DpAll K (hide ((p :: qs) ++ hs) H) xs ds) as es → a ∈ as → False := by
          intro as es hp
          induction hp with
          | nil => exact fun z => nomatch z
          | cons h t ih =>
            intro z
            rcases List.mem_cons.mp z with z | z
            · obtain ⟨xs, e1, _⟩ := h
              rw [← z, e4] at e1
              cases e1
            · exact ih z
        exact gen N.hq z
theorem NestS.grow (N : NestS K Y hs Hb σ H δ i p qs dss) (g : Gr Y H H1) (b : BagNow Y H1) : NestS K Y hs Hb σ H1 δ i p qs dss := by
  have ex : Same (hide ((p :: qs) ++ hs) H) (hide ((p :: qs) ++ hs) H1) := g.hide N.I.bgIn
  refine ⟨N.I.grow g b, N.di, N.si, N.nd, N.fr, g p _ (fun b c q => N.notBag p List.mem_cons_self b c q) N.hp, ?_, N.sub, N.tb, N.no, N.sm.trans (g.hide N.vis.bgIn)⟩
  have gen : ∀ {as : List Addr} {es : List (List PyData)}, (∀ a ∈ as, a ∈ p :: qs) → Paired (fun (q : Addr) (ds : List PyData) => ∃ xs, H q = some (.lst xs) ∧ DpAll K (hide ((p :: qs) ++ hs) H) xs ds) as es → Paired (fun (q : Addr) (ds : List PyData) => ∃ xs, H1 q = some (.lst xs) ∧ DpAll K (hide ((p :: qs) ++ hs) H1) xs ds) as es := by
    intro as es ho hp
    induction hp with
    | nil => exact .nil
    | cons h t ih =>
      obtain ⟨xs, e1, e2⟩ := h
      exact .cons ⟨xs, g _ _ (fun b c q => N.notBag _ (ho _ List.mem_cons_self) b c q) e1, dpAll_same ex _ _ e2⟩ (ih fun a ha => ho a (List.mem_cons_of_mem _ ha))
  exact gen (fun a ha => List.mem_cons_of_mem _ ha) N.hq
end
section
variable {K : PySem.W.Frag} {Y : Yc} {hs : List Addr} {σ : L2.St} {H H1 H2 Hb : Hp} {δ : List S} {i : Nat} {p : Addr} {qs : List Addr} {dss : List (List PyData)}
end
section
variable {vs : List Nat} {Y : Yc}
variable {X : Cx} {pos : Pos}
end
section
variable {X : Cx} {Y : Yc} {i : Nat} {st : Stmt} {rest : List Stmt} {t u : DS} {pos : Pos}
end
end DL
set_option maxHeartbeats 1000000
namespace DL
open PySem PySem.Spec PyProof.Rows L2
def frz (i : Nat) (δ : List S) : List S := match δ[i]? with
  | some (.own ds) => δ.set i (.dat (.list ds))
  | _ => δ
theorem Rel.frz {K : PySem.W.Frag} {Y : Yc} {hs : List Addr} {σ : L2.St} {H : Hp} {δ : List S} (I : Rel K Y hs σ H δ) (i : Nat) : ∃ hs', Rel K Y hs' σ H (DL.frz i δ) ∧ Same (hide hs H) (hide hs' H) := by
  unfold DL.frz
  split
  · rename_i ds e0
    obtain ⟨a, xs, f1, f2, f3, f4, f5⟩ := I.slot i _ e0
    have mem : ∀ b, b ∈ hs.filter (fun b => decide (b ≠ a)) ↔ b ∈ hs ∧ b ≠ a := fun b => by rw [List.mem_filter, decide_eq_true_iff]
    have ex : Same (hide hs H) (hide (hs.filter fun b => decide (b ≠ a)) H) := hide_sub fun b h => ((mem b).mp h).1
    have hil : i < δ.length := (List.getElem?_eq_some_iff.mp e0).1
    have dec : ∀ {j : Nat} {s : S}, (δ.set i (S.dat (.list ds)))[j]? = some s → (i = j ∧ s = .dat (.list ds)) ∨ (i ≠ j ∧ δ[j]? = some s) := fun {j s} e => by
      by_cases h : i = j
      · subst h
        rw [List.getElem?_set_self hil] at e
        cases e
        exact .inl ⟨rfl, rfl⟩
      · rw [List.getElem?_set_ne h] at e
        exact .inr ⟨h, e⟩
    refine ⟨_, ⟨by rw [List.length_set]; exact I.len, fun j s e => ?_, fun j k es fs n e1 e2 => ?_, fun b h => (mem b).mpr ⟨I.sub b h, fun z => f3 (z ▸ h)⟩, fun b h n => I.new b ((mem b).mp h).1 n, fun b h => I.tr b ((mem b).mp h).1, I.bag, I.gr, fun b h n => I.ls b ((mem b).mp h).1 n⟩, ex⟩
    · rcases dec e with ⟨rfl, rfl⟩ | ⟨h, e⟩
      · exact ⟨_, f1, .lst (SqL.of (hide_of (fun z => ((mem a).mp z).2 rfl) f4)) (dpAll_same ex _ _ f5)⟩
      · have q := I.slot j s e
        cases s with
        | un => trivial
        | dat d => obtain ⟨v, e1, e2⟩ := q; exact ⟨v, e1, dp_same ex _ _ e2⟩
        | own es =>
          obtain ⟨b, ys, e1, e2, e3, e4, e5⟩ := q
          exact ⟨b, ys, e1, (mem b).mpr ⟨e2, fun z => I.dist i j ds es h e0 e (by rw [f1, e1, z])⟩, e3, e4, dpAll_same ex _ _ e5⟩
        | bag => exact q
        | odt es =>
          obtain ⟨b, ys, e1, e2, e3, e4, e5⟩ := q
          exact ⟨b, ys, e1, (mem b).mpr ⟨e2, fun z => by rw [z, f4] at e4; cases e4⟩, e3, e4, dpKvsT_same ex _ _ e5⟩
    · rcases dec e1 with ⟨_, z⟩ | ⟨h1, g1⟩
      · cases z
      · rcases dec e2 with ⟨_, z⟩ | ⟨h2, g2⟩
        · cases z
        · exact I.dist j k es fs n g1 g2
  · exact ⟨hs, I, Same.refl _⟩
section
variable {X : Cx} {Y : Yc} {st : Stmt} {t : DS}
end
end DL
set_option maxHeartbeats 1000000
namespace DL
open PySem PySem.Spec PyProof.Rows L2
section
variable {X : Cx} {Y : Yc} {tg : Expr}
end
end DL
set_option maxHeartbeats 1000000
namespace DL
open PySem PySem.Spec PyProof.Rows L2
section
variable {X : Cx} {Y : Yc} {e e2 : Expr} {pos : Pos}
end
theorem Res.seq {K : PySem.W.Frag} {Y : Yc} {hs : List Addr} {H H' : Hp} {v : V} {r : R} {ds : List PyData} (q : Res K Y hs H H' v r) (e : seqR r = some ds) : ∃ a xs, v = .ref a ∧ (SqL K H' a xs ∨ SqT K H' a xs) ∧ DpAll K (hide hs H') xs ds := by
  unfold seqR at e
  split at e
  · cases e
    obtain ⟨a, xs, rfl, h1, h2⟩ := Res.tup q
    exact ⟨a, xs, rfl, .inr (sqT_same hide_same h1), h2⟩
  · cases e
    obtain ⟨a, xs, rfl, h1, h2⟩ := Res.lst q trivial rfl
    exact ⟨a, xs, rfl, .inl h1, h2⟩
  · cases e
    obtain ⟨a, xs, rfl, h1, h2⟩ := Res.lst q trivial rfl
    exact ⟨a, xs, rfl, .inl h1, h2⟩
  · cases e
    obtain ⟨a, xs, rfl, h1, h2⟩ := Res.lst q trivial rfl
    exact ⟨a, xs, rfl, .inl h1, h2⟩
  · cases e
end DL
set_option maxHeartbeats 1000000
namespace DL
open PySem PySem.Spec PyProof.Rows L2
section
variable {K : PySem.W.Frag} {Y : Yc} {hs ks : List Addr} {σ : L2.St} {H H1 H2 : Hp} {δ : List S}
end
section
variable {X : Cx} {Y : Yc} {e : Expr} {es : List Expr}
end
section
variable {X : Cx} {Y : Yc} {pos : Pos}
end
end DL
set_option maxHeartbeats 1000000
namespace DL
open PySem PySem.Spec PyProof.Rows L2
section
variable {prog : Program} {w : World} {A : Around} {s : Shared}
end
mutual
theorem alike_noErr : ∀ d : PyData, W.alike d d = true → noErr d = true
  | .none, _ => by simp only [noErr]
  | .bool _, _ => by simp only [noErr]
  | .int _, _ => by simp only [noErr]
  | .str _, _ => by simp only [noErr]
  | .list xs, h => by
    simp only [W.alike] at h
    simp only [noErr]
    exact alikeA_noErr xs h
  | .tuple xs, h => by
    simp only [W.alike] at h
    simp only [noErr]
    exact alikeA_noErr xs h
  | .dict _, h => by simp only [W.alike] at h; cases h
theorem alikeA_noErr : ∀ xs : List PyData, W.alikeAll xs xs = true → noErrAll xs = true
  | [], _ => by simp only [noErrAll]
  | x :: xs, h => by
    simp only [W.alikeAll, Bool.and_eq_true] at h
    simp only [noErrAll, alike_noErr x h.1, alikeA_noErr xs h.2, Bool.and_self]
end
section
variable {X : Cx}
end
end DL
set_option maxHeartbeats 1000000
namespace DL
open PySem PySem.Spec PyProof.Rows L2
section
variable {X : Cx} {Y : Yc} {a b c : Expr} {j : Nat} {p2 pos : Pos} {ta tb tc : DE}
end
section
variable {X : Cx} {Y : Yc} {e : Expr} {te : DE} {p p2 pos pos2 : Pos}
end
section
variable {X : Cx} {Y : Yc} {a b c : Expr} {pos : Pos} {ta tb tc : DE}
end
end DL
set_option maxHeartbeats 1000000
namespace DL
open PySem PySem.Spec PyProof.Rows L2
end DL
set_option maxHeartbeats 1000000
namespace DL
open PySem PySem.Spec PyProof.Rows L2
section
variable {X : Cx} {Y : Yc} {vs : List Nat} {e : Expr} {es : List Expr} {pos : Pos}
end
end DL
set_option maxHeartbeats 1000000
namespace DL
open PySem PySem.Spec PyProof.Rows L2
section
variable {X : Cx} {Y : Yc} {e : Expr} {p p2 pos : Pos}
def dDct0 : DE := fun _ P => P (.dat (.dict []))
theorem xe_dct0 : PE X (.Dict [] [] pos) (tl X.K Y dDct0) := pe_imp pe_dnewK fun σ H Q ⟨hs, δ, P, I, q, k⟩ p hp => by
  have e : Same H (L2.upd H p (.dK [])) := fun a o h => by rw [upd_ne (ne_of_none h hp)]; exact h
  have np : p ∉ hs := fun z => I.tr p z hp
  exact k _ _ _ q (.of e) (I.bag.same e) (Dp.dct (hide_of np upd_same) .nil rfl)
def dDctT (k i j : Int) : DE := fun _ P => P (.dat (.dict [(.int k, .tuple [.int i, .int j])]))
theorem xe_dctT {k i j : Int} {ka kb kc kt : Nat} {pa pb pc pt : Pos} : PE X (.Dict [some (.Constant (.int k) ka pa)] [.Tuple [.Constant (.int i) kb pb, .Constant (.int j) kc pc] kt pt] pos) (tl X.K Y (dDctT k i j)) :=
  pe_imp (pe_disp (pps_cons pe_int (pe_tup (pa_cons pe_int (pa_cons pe_int pa_nil))) pps_nil) (by rfl) (by rfl) (fun z => by cases z) (Nat.le_of_ble_eq_true rfl)) fun σ H Q ⟨hs, δ, P, I, q, kk⟩ p hp => by
    refine ⟨Nat.le_of_ble_eq_true rfl, fun r hr => ?_⟩
    have hpr : r ≠ p := fun z => by rw [z, upd_same] at hr; cases hr
    have hr0 : H r = none := by rw [upd_ne hpr] at hr; exact hr
    refine ⟨by rw [upd_ne (Ne.symm hpr), upd_same], [(.inl k, .ref r)], rfl, Nat.le_of_ble_eq_true rfl, ?_⟩
    have e : Same H (L2.upd (L2.upd (L2.upd H p (.dK [])) r (.tup [.int i, .int j])) p (.dK (mergeK [] [(.inl k, .ref r)]))) := fun a o h => by
      rw [upd_ne (ne_of_none h hp), upd_ne (ne_of_none h hr0), upd_ne (ne_of_none h hp)]; exact h
    have np : p ∉ hs := fun z => I.tr p z hp
    have nr : r ∉ hs := fun z => I.tr r z hr0
    refine kk _ _ _ q (.of e) (I.bag.same e) (Dp.dct (ds := [(keyD (.inl k), .tuple [.int i, .int j])]) (kvs := [(.inl k, .ref r)]) (hide_of np upd_same) (.cons (.tup ((hide_of nr ?_)) (.cons (.int i) (.cons (.int j) .nil))) .nil) rfl)
    rw [upd_ne hpr, upd_same]
end
end DL
set_option maxHeartbeats 1000000
namespace DL
open PySem PySem.Spec PyProof.Rows L2
section
variable {K : PySem.W.Frag} {Y : Yc} {hs : List Addr} {H : Hp}
end
section
variable {X : Cx} {Y : Yc} {e e2 e3 : Expr} {p pos tpos : Pos} {elts : List Expr} {kk : Nat}
end
end DL
set_option maxHeartbeats 1000000
namespace DL
open PySem PySem.Spec PyProof.Rows L2
end DL
set_option maxHeartbeats 1000000
namespace DLRev
open PySem PySem.Spec PyProof.Rows HT
section
variable {prog : Program} {w : World} {A : Around} {E : Value → Shared → Prop} {s : Shared}
end
end DLRev
namespace DL
open PySem PySem.Spec PyProof.Rows L2
section
variable {X : Cx} {Y : Yc}
end
section
variable {X : Cx} {Y : Yc} {e : Expr} {pos : Pos}
end
end DL
set_option maxHeartbeats 1000000
namespace DL
open PySem PySem.Spec PyProof.Rows L2
end DL
set_option maxHeartbeats 1000000
namespace DL
open PySem PySem.Spec PyProof.Rows L2
section
variable {X : Cx} {Y : Yc} {a : Expr} {t : DE} {p p2 pos pos2 : Pos}
end
end DL
set_option maxHeartbeats 4000000
namespace DL
open PySem PySem.Spec PyProof.Rows L2
def tMkV (C : Addr) (sp : Sp) (ta : TA) : TE := fun σ H Q => ta σ H fun vs H1 => vs.length ≤ 1000 ∧ ∀ a, H1 a = none → sp (.ref a :: vs) (upd H1 a (exo a C none)) (fun v H2 => v = .non ∧ Q (.ref a) H2) (fun _ _ _ => False)
theorem pe_oexV {X : Cx} {CX : CXT} {x : Str} {C fI : Addr} {k : Nat} {fd : FuncData} {ps : List Str} {sp : Sp} {e : Expr} {es : List Expr} {ta : TA} {p pos : Pos} (T : OexC X.K C) (iC : PySem.W.findIn X.K (.ref C) "__init__" = some (some (.ref fI))) (tI : PySem.W.typeIn X.K (.ref fI) = some (.type "function"))
    (F1 : FnOk X.prog X.w X.K X.mg X.base CX k fI fd ps sp) (hr : Room (k + 1) X.A) (hb : Binds X.K fd ps []) (hx : Passes CX X (fun _ _ _ => False)) (hg : Gl X x) (hm : X.mg x = some (.ref C)) (ha : PA X (e :: es) ta)
    (hdb : (x == ("__debug__" : Str)) = false := by decide) (he : starEach (e :: es) X.env = (false, eval e X.env) :: starEach es X.env := by rfl) (hpl : (backTo pos (starEach es X.env)).any (·.1) = false := by rfl) :
    PE X (.Call (.Name x p) (e :: es) [] pos) (tMkV C sp ta) := by
  refine ⟨fun pins s σ H Q I h => ?_⟩
  obtain ⟨nm, q, N, bs, bm, sn, sub, ab, col, dd, k0, k1, k2, k3, k5, hC, hbm⟩ := T.cls
  refine wpAny_Call_Name_kw (ld_glob I hg hm ?_ hdb)
  refine PySem.W.callWith_K (h₀ := X.base) I.ok.mod.kin T.kC (thn (ha.run pos pins s σ H _ I h) fun us s1 ⟨vs, H1, I1, r1, hz, q1⟩ => ⟨I1.kIn, ?_⟩) he hpl
  show wpAny _ _ (call (.ref C) us) _ _ _
  obtain ⟨hp, g, dr, tk, os⟩ := s1
  have hsz : hp.objs.size ≤ hp.objs.size + 1 := Nat.le_succ _
  have hn : H1 (hp.objs.size + 1) = none := I1.hok.fresh hsz
  have hq := q1 (hp.objs.size + 1) hn
  have kk : ∀ b o, hp.get? b = some o → ((hp.push (PySem.W.kdv_tup us)).push (PySem.HandSPX.excO C hp.objs.size)).get? b = some o := fun b o e => Heap.get?_push_of_some _ (Heap.get?_push_of_some _ e)
  have hget : ((hp.push (PySem.W.kdv_tup us)).push (PySem.HandSPX.excO C hp.objs.size)).get? (hp.objs.size + 1) = some (PySem.HandSPX.excO C hp.objs.size) := by heap_get
  have I2 : Inv X pins σ (upd H1 (hp.objs.size + 1) (exo (hp.objs.size + 1) C none)) ⟨(hp.push (PySem.W.kdv_tup us)).push (PySem.HandSPX.excO C hp.objs.size), g, dr, tk, os⟩ :=
    I1.laid (t' := tk) (a := hp.objs.size + 1) (o := exo (hp.objs.size + 1) C none) (h' := (hp.push (PySem.W.kdv_tup us)).push (PySem.HandSPX.excO C hp.objs.size)) kk hsz (exo_ok hget)
  have r2 : Vals (V.ref (hp.objs.size + 1) :: vs) (Value.ref (hp.objs.size + 1) :: us) := .cons rfl r1
  have hl : (Value.ref (hp.objs.size + 1) :: us).length = ps.length := by
    have e := r2.length
    rw [F1.len _ _ _ _ hq] at e
    exact e.symm
  have hus : us.length ≤ sizeLine := by
    rw [← Paired.length r1, sizeLine_eq]
    omega
  refine wpAny_call (PySem.HandSPX.call_own F.excBase_ValueError (fun Y => PySem.HandSPX.refsVE_contains Y bm hbm) (I1.kIn _ _ hC) (PySem.W.looks_findIn I1.kIn iC) (fun self => PySem.W.bind_fn I1.kIn self tI) hus
    (codeAny_mono (F1.run _ X.stack _ _ ⟨Value.ref (hp.objs.size + 1) :: us, []⟩ (Value.ref (hp.objs.size + 1) :: us) _ _ (fun _ _ _ => False) (hr.make C us []) (I2.env0.make C us []) (by
      have := hb _ (Value.ref (hp.objs.size + 1) :: us) I2.kIn (by simpa using hl)
      simpa using this) r2 hq) fun r s' hq' => ?_))
  cases r with
  | error er => exact hx pins σ _ _ er s' I2 hq'
  | ok fl =>
    cases fl with
    | ret u =>
      obtain ⟨v, H2, os2, bare2, un2, hok2, rv, ev, q2⟩ := hq'
      subst ev
      exact ⟨rv, .ref _, H2, I2.call' (ch := []) os2 un2 hok2 bare2 (fun b z => absurd z (by simp)), rfl, q2⟩
    | next => exact False.elim hq'
    | brk => exact False.elim hq'
    | cont => exact False.elim hq'
def spInit (C : Addr) (f : Str) : Sp := fun vs H Q _ => ∃ (a : Addr) (y : V), vs = [.ref a, y] ∧ H a = some (exo a C none) ∧ ∀ dx, H dx = none → dx ≠ a → Q .non (upd (upd H dx (exd dx [(f, y)])) a (exo a C (some dx)))
theorem ok_init {P : Program} {w : World} {K : PySem.W.Frag} {mg : Str → Option Value} {base : Heap} {x qual fn : Str} {st : Stmt} {fI C : Addr} {fd : FuncData} {p1 p2 p3 pos : Pos} (F : Fun K x qual st fI fd) (S : FnScope ["self", fn] ["self", fn] (defScope st))
    (v0 : Vis (defScope st) "self") (v1 : Vis (defScope st) fn) (f1 : (fn == ("__debug__" : Str)) = false) (f2 : (fn == ("__classdict__" : Str)) = false)
    (hb : defBody st = [.Assign [.Attribute (.Name "self" p1) fn p2] (.Name fn p3) pos]) (T : OexC K C) (hno : PySem.W.findIn K (.ref C) fn = some none) : FnOk P w K mg base CX0 1 fI fd ["self", fn] (spInit C fn) := by
  obtain ⟨oc, od, kV, doc, pm, an, cdv, ct, osl, rfl, lk, hcd⟩ := F.ex
  refine fn_of lk hcd S (fun vs H Q E ⟨a, y, e, _⟩ => by rw [e]; rfl) fun A outer s H vs Q E hr ⟨a, y, e, ha, q⟩ => ?_
  subst e
  rw [hb]
  refine ⟨_, pss_cons (ps_ost (te := tVar 1) (to := tVar 0) (f := fn) (pe_var rfl v0) (pe_var rfl v1 f1 f2) (by rfl)) pss_nil, ?_⟩
  exact ⟨y, rfl, .ref a, rfl, a, C, rfl, T, hno, .inl ⟨ha, q⟩⟩
section
variable {X : Cx} {Y : Yc} {e : Expr} {t : DE} {p pos : Pos} {x f : Str} {C fI : Addr} {k : Nat} {fd : FuncData} {ps : List Str}
end
def clsSt (s : Stmt) (j : Nat) : Stmt := match s with
  | .ClassDef _ _ _ body _ _ _ _ _ _ pos => body.getD j (.Pass pos)
  | s => s
theorem kit6 {K : PySem.W.Frag} {C : Addr} (h1 : PySem.W.kitOne K (.ref C) (.type "int") = some false) (h2 : PySem.W.kitOne K (.ref C) (.type "bool") = some false) (h3 : PySem.W.kitOne K (.ref C) (.type "tuple") = some false)
    (h4 : PySem.W.kitOne K (.ref C) (.type "list") = some false) (h5 : PySem.W.kitOne K (.ref C) (.type "str") = some false) (h6 : PySem.W.kitOne K (.ref C) (.type "dict") = some false) :
    ∀ T ∈ ["int", "bool", "tuple", "list", "str", "dict"], PySem.W.kitOne K (.ref C) (.type T) = some false := fun T hT => by
  simp only [List.mem_cons, List.not_mem_nil, or_false] at hT
  rcases hT with rfl | rfl | rfl | rfl | rfl | rfl
  · exact h1
  · exact h2
  · exact h3
  · exact h4
  · exact h5
  · exact h6
section
variable {X : Cx} {Y : Yc} {a b c : Expr} {pos : Pos} {t ta tb tc : DE}
end
theorem cls_some {K : PySem.W.Frag} {C nm q N bs bm sn sub ab col dd k0 k1 k2 k3 k5} (h : K.lookup C = some (excClassObj nm q C N bs bm true sn sub ab col dd k0 k1 k2 k3 k5 "ValueError.__new__")) : (PySem.W.clsIn K C).isSome = true := by
  unfold PySem.W.clsIn
  rw [h]
  rfl
end DL
set_option maxHeartbeats 4000000
namespace DL
open PySem PySem.Spec PyProof.Rows L2
structure Xc (K : PySem.W.Frag) (C : Addr) : Prop where
  o : OexC K C
  e : ErrC K C
  x : XfC K C
def ErrAt (H : Hp) (a C : Addr) (f : Str) (v : V) : Prop := ∃ dx, H a = some (exo a C (some dx)) ∧ H dx = some (exd dx [(f, v)])
def InsAt (H : Hp) (a C : Addr) : Prop := H a = some (exo a C none) ∨ ∃ dx fs, H a = some (exo a C (some dx)) ∧ H dx = some (exd dx fs)
theorem ErrAt.ins {H : Hp} {a C : Addr} {f : Str} {v : V} (h : ErrAt H a C f v) : InsAt H a C := by
  obtain ⟨dx, h1, h2⟩ := h
  exact .inr ⟨dx, _, h1, h2⟩
def KeepX (H H' : Hp) : Prop := ∀ a φ, H a = some (.ext φ) → H' a = some (.ext φ)
theorem KeepX.of {H H' : Hp} (e : Same H H') : KeepX H H' := fun a _ h => e a _ h
theorem KeepX.trans {H H1 H2 : Hp} (a : KeepX H H1) (b : KeepX H1 H2) : KeepX H H2 := fun x _ h => b x _ (a x _ h)
theorem ErrAt.keep {H H' : Hp} {a C : Addr} {f : Str} {v : V} (h : ErrAt H a C f v) (e : KeepX H H') : ErrAt H' a C f v := by
  obtain ⟨dx, h1, h2⟩ := h
  exact ⟨dx, e a _ h1, e dx _ h2⟩
theorem ErrAt.same {H H' : Hp} {a C : Addr} {f : Str} {v : V} (h : ErrAt H a C f v) (e : Same H H') : ErrAt H' a C f v := h.keep (.of e)
theorem InsAt.keep {H H' : Hp} {a C : Addr} (h : InsAt H a C) (e : KeepX H H') : InsAt H' a C := by
  rcases h with h | ⟨dx, fs, h1, h2⟩
  · exact .inl (e a _ h)
  · exact .inr ⟨dx, fs, e a _ h1, e dx _ h2⟩
theorem mkv_of {C : Addr} {f : Str} {v : V} {H1 : Hp} {Q : VK} (h : ∀ a H2, Same H1 H2 → H1 a = none → ErrAt H2 a C f v → Q (.ref a) H2) :
    ([v] : List V).length ≤ 1000 ∧ ∀ a, H1 a = none → spInit C f (.ref a :: [v]) (upd H1 a (exo a C none)) (fun w H2 => w = .non ∧ Q (.ref a) H2) (fun _ _ _ => False) := by
  refine ⟨Nat.le_of_ble_eq_true rfl, fun a ha => ⟨a, v, rfl, upd_same, fun dx hdx hne => ⟨rfl, ?_⟩⟩⟩
  have hd1 : H1 dx = none := by rwa [upd_ne hne] at hdx
  have sm : Same H1 (upd (upd (upd H1 a (exo a C none)) dx (exd dx [(f, v)])) a (exo a C (some dx))) := fun b o h => by
    rw [upd_ne (ne_of_none h ha), upd_ne (ne_of_none h hd1), upd_ne (ne_of_none h ha)]; exact h
  exact h a _ sm ha ⟨dx, upd_same, by rw [upd_ne hne, upd_same]⟩
theorem mkv_te {C : Addr} {f : Str} {i : Nat} {σ : L2.St} {v : V} {H : Hp} {Q : VK} (e : σ[i]? = some (some v)) (h : ∀ a H2, Same H H2 → H a = none → ErrAt H2 a C f v → Q (.ref a) H2) : tMkV C (spInit C f) (tCons (tVar i) tNil) σ H Q := by
  refine ⟨v, e, ?_⟩
  exact mkv_of h
theorem mkv_cons {C : Addr} {f : Str} {i : Nat} {σ : L2.St} {v : V} {H : Hp} {r : TA} {Q : List V → Hp → Prop} (e : σ[i]? = some (some v)) (h : ∀ a H2, Same H H2 → H a = none → ErrAt H2 a C f v → r σ H2 fun xs H3 => Q (.ref a :: xs) H3) :
    tCons (tMkV C (spInit C f) (tCons (tVar i) tNil)) r σ H Q := mkv_te (Q := fun x H1 => r σ H1 fun xs H2 => Q (x :: xs) H2) e h
def spInit0 : Sp := fun vs H Q _ => ∃ a : Addr, vs = [.ref a] ∧ Q .non H
theorem ok_init0 {P : Program} {w : World} {K : PySem.W.Frag} {mg : Str → Option Value} {base : Heap} {x qual : Str} {st : Stmt} {fI : Addr} {fd : FuncData} {pos : Pos} (F : Fun K x qual st fI fd) (S : FnScope ["self"] ["self"] (defScope st))
    (hb : defBody st = [.Pass pos]) : FnOk P w K mg base CX0 1 fI fd ["self"] spInit0 := by
  obtain ⟨oc, od, kV, doc, pm, an, cdv, ct, osl, rfl, lk, hcd⟩ := F.ex
  refine fn_of lk hcd S (fun vs H Q E ⟨a, e, _⟩ => by rw [e]; rfl) fun A outer s H vs Q E hr ⟨a, e, q⟩ => ?_
  subst e
  rw [hb]
  exact ⟨_, pss_cons ps_pass pss_nil, q⟩
def tMkV0 (C : Addr) (sp : Sp) : TE := fun _ H Q => ∀ a, H a = none → sp [.ref a] (upd H a (exo a C none)) (fun v H2 => v = .non ∧ Q (.ref a) H2) (fun _ _ _ => False)
theorem pe_oexV0 {X : Cx} {CX : CXT} {x : Str} {C fI : Addr} {k : Nat} {fd : FuncData} {ps : List Str} {sp : Sp} {p pos : Pos} (T : OexC X.K C) (iC : PySem.W.findIn X.K (.ref C) "__init__" = some (some (.ref fI))) (tI : PySem.W.typeIn X.K (.ref fI) = some (.type "function"))
    (F1 : FnOk X.prog X.w X.K X.mg X.base CX k fI fd ps sp) (hr : Room (k + 1) X.A) (hb : Binds X.K fd ps []) (hx : Passes CX X (fun _ _ _ => False)) (hg : Gl X x) (hm : X.mg x = some (.ref C))
    (hdb : (x == ("__debug__" : Str)) = false := by decide) :
    PE X (.Call (.Name x p) [] [] pos) (tMkV0 C sp) := by
  refine ⟨fun pins s σ H Q I h => ?_⟩
  obtain ⟨nm, q, N, bs, bm, sn, sub, ab, col, dd, k0, k1, k2, k3, k5, hC, hbm⟩ := T.cls
  refine wpAny_Call_Name_kw (ld_glob I hg hm ?_ hdb)
  refine PySem.W.callWith_K0 I.kIn T.kC ?_
  show wpAny _ _ (call (.ref C) []) _ _ _
  obtain ⟨hp, g, dr, tk, os⟩ := s
  have hsz : hp.objs.size ≤ hp.objs.size + 1 := Nat.le_succ _
  have hn : H (hp.objs.size + 1) = none := I.hok.fresh hsz
  have hq := h (hp.objs.size + 1) hn
  have kk : ∀ b o, hp.get? b = some o → ((hp.push (PySem.W.kdv_tup [])).push (PySem.HandSPX.excO C hp.objs.size)).get? b = some o := fun b o e => Heap.get?_push_of_some _ (Heap.get?_push_of_some _ e)
  have hget : ((hp.push (PySem.W.kdv_tup [])).push (PySem.HandSPX.excO C hp.objs.size)).get? (hp.objs.size + 1) = some (PySem.HandSPX.excO C hp.objs.size) := by heap_get
  have I2 : Inv X pins σ (upd H (hp.objs.size + 1) (exo (hp.objs.size + 1) C none)) ⟨(hp.push (PySem.W.kdv_tup [])).push (PySem.HandSPX.excO C hp.objs.size), g, dr, tk, os⟩ :=
    I.laid (t' := tk) (a := hp.objs.size + 1) (o := exo (hp.objs.size + 1) C none) (h' := (hp.push (PySem.W.kdv_tup [])).push (PySem.HandSPX.excO C hp.objs.size)) kk hsz (exo_ok hget)
  have r2 : Vals [V.ref (hp.objs.size + 1)] [Value.ref (hp.objs.size + 1)] := .cons rfl .nil
  have hl : ([Value.ref (hp.objs.size + 1)] : List Value).length = ps.length := by
    have e := r2.length
    rw [F1.len _ _ _ _ hq] at e
    exact e.symm
  refine wpAny_call (PySem.HandSPX.call_own F.excBase_ValueError (fun Y => PySem.HandSPX.refsVE_contains Y bm hbm) (I.kIn _ _ hC) (PySem.W.looks_findIn I.kIn iC) (fun self => PySem.W.bind_fn I.kIn self tI) (Nat.zero_le _)
    (codeAny_mono (F1.run _ X.stack _ _ ⟨[Value.ref (hp.objs.size + 1)], []⟩ [Value.ref (hp.objs.size + 1)] _ _ (fun _ _ _ => False) (hr.make C [] []) (I2.env0.make C [] []) (by
      have := hb _ [Value.ref (hp.objs.size + 1)] I2.kIn (by simpa using hl)
      simpa using this) r2 hq) fun r s' hq' => ?_))
  cases r with
  | error er => exact hx pins σ _ _ er s' I2 hq'
  | ok fl =>
    cases fl with
    | ret u =>
      obtain ⟨v, H2, os2, bare2, un2, hok2, rv, ev, q2⟩ := hq'
      subst ev
      exact ⟨rv, .ref _, H2, I2.call' (ch := []) os2 un2 hok2 bare2 (fun b z => absurd z (by simp)), rfl, q2⟩
    | next => exact False.elim hq'
    | brk => exact False.elim hq'
    | cont => exact False.elim hq'
section
variable {X : Cx}
def tFld (K : PySem.W.Frag) (n : Str) (te : TE) : TE := fun σ H Q => te σ H fun x H1 => ∃ (a C : Addr) (v : V), x = .ref a ∧ Xc K C ∧ PySem.W.findIn K (.ref C) n = some none ∧ ErrAt H1 a C n v ∧ Q v H1
theorem pe_fld {e : Expr} {te : TE} {n : Str} {pos : Pos} (he : PE X e te) (hb : attributeBase e n X.env (eval e X.env) = eval e X.env := by rfl) : PE X (.Attribute e n pos) (tFld X.K n te) := by
  refine ⟨fun pins s σ H Q I h => ?_⟩
  refine attr_of hb (thn (he.run pins s σ H _ I h) fun u s1 ⟨x, H1, I1, rx, a, C, v, ex, T, hno, ⟨dd, ha, hd⟩, q⟩ => ?_)
  subst ex
  obtain rfl : u = Value.ref a := rx
  obtain ⟨t1, ho⟩ := exo_at I1.hok ha
  obtain ⟨mA, hns, hr⟩ := exd_at I1.hok hd
  obtain ⟨od, ho2, hl⟩ := lookIn_ns hns
  obtain ⟨u, hu, ru⟩ := RelO.some_of (v := v) (o := mA n) (by
    have := hr n
    rw [lookup_put, if_pos rfl] at this
    exact this)
  have J : PySem.W.InstAt s1.heap a { cls := .ref C, dict := some dd, data := .fields #[.ref t1, .none, .none, .none, .bool false, .none] } C (some od) := ⟨ho, rfl, rfl, ho2⟩
  exact HandSPX.exc_get I1.kIn J T.x.ga T.x.gg T.x.exC (PySem.W.findObj_own T.x.hdC hno rfl (by rw [hl, hu])) (handed_of ru) ⟨v, H1, I1.tok _, ru, q⟩
def rIsX (K : PySem.W.Frag) : List V → Hp → VK → Prop := fun xs H Q => ∃ (a C : Addr) (c : V) (u : Value) (b : Bool), xs = [.ref a, c] ∧ InsAt H a C ∧ ErrC K C ∧ ClsV c u ∧ PySem.W.kitOne K (.ref C) u = some b ∧ Q (.bl b) H
theorem call_isX : CallR X (.builtin "isinstance") (rIsX X.K) := by
  intro pins s σ H xs us Q I r h
  obtain ⟨a, C, c, u, b, rfl, ha, hC, hc, hk, q⟩ := h
  cases r with
  | cons rx rr =>
    cases rr with
    | cons rt rr =>
      cases rr
      cases rx
      have e2 := hc.eq rt
      subst e2
      obtain ⟨gt, hgt⟩ := hC.hgt
      rcases ha with ha | ⟨d, fs, ha, hd⟩
      · obtain ⟨t1, ho⟩ := exo_at I.hok ha
        have J : PySem.W.InstAt s.heap a { cls := .ref C, dict := none, data := .fields #[.ref t1, .none, .none, .none, .bool false, .none] } C none := ⟨ho, rfl, rfl, trivial⟩
        exact PySem.W.kia_one (PySem.W.kitx_exc hC.hcl hC.hga hgt hC.hsub hC.ha hC.hn hC.htk hC.hm) I.kIn J hk (fun z => nomatch z) fun tk => ⟨.bl b, H, I.kept (t' := tk) fun _ _ z => z, rfl, q⟩
      · obtain ⟨t1, ho⟩ := exo_at I.hok ha
        obtain ⟨mA, hns, rel⟩ := exd_at I.hok hd
        obtain ⟨oD, _, _, hoD, _, _⟩ := hns.count (within_of rel)
        have J : PySem.W.InstAt s.heap a { cls := .ref C, dict := some d, data := .fields #[.ref t1, .none, .none, .none, .bool false, .none] } C (some oD) := ⟨ho, rfl, rfl, hoD⟩
        exact PySem.W.kia_one (PySem.W.kitx_exc hC.hcl hC.hga hgt hC.hsub hC.ha hC.hn hC.htk hC.hm) I.kIn J hk (fun z => nomatch z) fun tk => ⟨.bl b, H, I.kept (t' := tk) fun _ _ z => z, rfl, q⟩
def simpV : V → Bool
  | .non => true
  | .bl _ => true
  | .int _ => true
  | .str _ => true
  | .ref _ => true
  | _ => false
theorem eqAt_same {A : Around} {s : Shared} {x : V} {u v : Value} (h : simpV x = true) (r : RelV x u) (q : RelV x v) : SeqAt.EqAt A s u v true := by
  cases x with
  | non => cases r; cases q; exact .same _
  | bl b => cases r; cases q; exact .same _
  | int i =>
    obtain ⟨t, rfl⟩ := r
    obtain ⟨t2, rfl⟩ := q
    exact (by have h := SeqAt.EqAt.int_int (A := A) (s := s) i t i t2; rwa [beq_self_eq_true] at h)
  | str z =>
    obtain ⟨t, rfl⟩ := r
    obtain ⟨t2, rfl⟩ := q
    exact (by have h := SeqAt.EqAt.str_str (A := A) (s := s) z t z t2; rwa [beq_self_eq_true] at h)
  | ref a => cases r; cases q; exact .same _
  | _ => cases h
theorem all_true {n : Nat} : (List.range n).all (fun _ => true) = true := by
  rw [List.all_eq_true]
  exact fun _ _ => rfl
theorem vals_at : ∀ {xs : List V} {us : List Value} (r : Vals xs us) (j : Nat) (h : j < us.length), ∃ x, xs[j]? = some x ∧ RelV x us[j]
  | [], _, r, j, h => by cases r; exact absurd h (Nat.not_lt_zero _)
  | x :: xs, _, r, 0, h => by
    cases r with
    | cons r1 r2 => exact ⟨x, rfl, r1⟩
  | x :: xs, _, r, j + 1, h => by
    cases r with
    | cons r1 r2 =>
      obtain ⟨y, e, q⟩ := vals_at r2 j (by simpa using h)
      exact ⟨y, by simpa using e, by simpa using q⟩
theorem eqAt_lists {pins : List (Addr × Obj)} {σ : L2.St} {H : Hp} {s : Shared} {A : Around} {p q : Addr} {xs : List V} (I : Inv X pins σ H s) (h1 : SqL X.K H p xs) (h2 : SqL X.K H q xs) (hs : ∀ x ∈ xs, simpV x = true) (hu : A.units < cLine) :
    SeqAt.EqAt A s (.ref p) (.ref q) true := by
  by_cases e : p = q
  · subst e
    exact .same _
  obtain ⟨its, r1, l1, _⟩ := I.list h1
  obtain ⟨its2, r2, l2, _⟩ := I.list h2
  have hl : its.length = its2.length := r1.length.symm.trans r2.length
  refine .of_refs e ?_
  have := SeqAt.RcAt.lists (A := A) (s := s) (e := fun _ => true) l1.isList l2.isList (by simpa using hl) hu fun j g1 g2 => ?_
  · rw [all_true] at this
    exact this
  · obtain ⟨x, e1, q1⟩ := vals_at r1 j (by simpa using g1)
    obtain ⟨y, e2, q2⟩ := vals_at r2 j (by simpa using g2)
    rw [e1] at e2
    cases e2
    exact eqAt_same (hs x (List.mem_of_getElem? e1)) (by simpa using q1) (by simpa using q2)
def rEqLL (K : PySem.W.Frag) : R2 := fun x y H Q => ∃ (p q p1 p2 q1 q2 : Addr) (xs ys : List V), x = .ref p ∧ y = .ref q ∧ SqL K H p [.ref p1, .ref p2] ∧ SqL K H q [.ref q1, .ref q2] ∧ SqL K H p1 xs ∧ SqL K H q1 xs ∧ SqL K H p2 ys ∧ SqL K H q2 ys ∧
  (∀ z ∈ xs, simpV z = true) ∧ (∀ z ∈ ys, simpV z = true) ∧ Q (.bl true) H
theorem op_eqLL (hu : X.A.units + 66 < cLine) : OpR X (compareOp .Eq) (rEqLL X.K) := by
  intro pins s σ H x y v u Q I rx ry h
  obtain ⟨p, q, p1, p2, q1, q2, xs, ys, rfl, rfl, h1, h2, h3, h4, h5, h6, s1, s2, k⟩ := h
  cases rx
  cases ry
  obtain ⟨its, r1, l1, _⟩ := I.list h1
  obtain ⟨its2, r2, l2, _⟩ := I.list h2
  have hl : its.length = its2.length := r1.length.symm.trans r2.length
  have hu1 : X.A.in1.units < cLine := by show X.A.units + 1 < cLine; omega
  refine SeqAt.eq_listAt (e := fun _ => true) l1.isList l2.isList (by simpa using hl) (by omega) (fun j g1 g2 => ?_) (by rw [all_true]; exact ⟨.bl true, H, I, rfl, k⟩)
  obtain ⟨x, e1, c1⟩ := vals_at r1 j (by simpa using g1)
  obtain ⟨y, e2, c2⟩ := vals_at r2 j (by simpa using g2)
  have c1' : RelV x its.toArray[j] := by simpa using c1
  have c2' : RelV y its2.toArray[j] := by simpa using c2
  have hj : (x = .ref p1 ∧ y = .ref q1) ∨ (x = .ref p2 ∧ y = .ref q2) := by
    have hlen : j < 2 := by
      have := (List.getElem?_eq_some_iff.mp e1).1
      exact this
    have hj : j = 0 ∨ j = 1 := by omega
    rcases hj with rfl | rfl
    · cases e1
      cases e2
      exact .inl ⟨rfl, rfl⟩
    · cases e1
      cases e2
      exact .inr ⟨rfl, rfl⟩
  rcases hj with ⟨rfl, rfl⟩ | ⟨rfl, rfl⟩
  · rw [show its.toArray[j] = Value.ref p1 from c1', show its2.toArray[j] = Value.ref q1 from c2']
    exact eqAt_lists I h3 h4 s1 hu1
  · rw [show its.toArray[j] = Value.ref p2 from c1', show its2.toArray[j] = Value.ref q2 from c2']
    exact eqAt_lists I h5 h6 s2 hu1
def ModB (base : Heap) : Prop := ∃ mm, base.Ns sysModules mm
theorem not_mods (M : ModB X.base) {pins : List (Addr × Obj)} {σ : L2.St} {H : Hp} {s : Shared} (I : Inv X pins σ H s) {a : Addr} {o : Obj} {vs : Array Value} {n : Nat} (h : s.heap.get? a = some o) (hd : o.data = .seq vs n) : a ≠ sysModules := fun z => by
  obtain ⟨mm, ob, es, m, e, d, _⟩ := M
  have := I.bk _ _ e
  rw [z, this] at h
  have h := Option.some.inj h
  rw [← h, d] at hd
  cases hd
mutual
theorem Dp.readsM (M : ModB X.base) {pins : List (Addr × Obj)} {σ : L2.St} {H : Hp} {s : Shared} (I : Inv X pins σ H s) : ∀ (d : PyData) (v : V) (u : Value), Dp X.K H v d → RelV v u → noErr d = true → ∃ as, Reads s.heap u d as ∧ sysModules ∉ as
  | .none, _, _, h, r, _ => by
    cases h
    cases r
    exact ⟨_, Reads.none, fun z => nomatch z⟩
  | .bool b, _, _, h, r, _ => by
    cases h
    cases r
    exact ⟨_, Reads.bool b, fun z => nomatch z⟩
  | .int i, _, _, h, r, _ => by
    cases h
    obtain ⟨t, rfl⟩ := r
    exact ⟨_, Reads.int i t, fun z => nomatch z⟩
  | .str x, _, _, h, r, _ => by
    cases h
    obtain ⟨t, rfl⟩ := r
    exact ⟨_, Reads.str x t, fun z => nomatch z⟩
  | .list ds, _, _, h, r, ne => by
    simp only [noErr] at ne
    cases h with
    | lst hs ha =>
      cases r
      obtain ⟨its, rv, ⟨o, n, ho, hc, _, hd⟩, _⟩ := I.list hs
      obtain ⟨as, hr, q⟩ := Dp.readsAllM M I ds _ its ha rv ne
      exact ⟨_, Reads.list ho hc hd hr, fun m => (List.mem_cons.mp m).elim (fun m => not_mods M I ho hd m.symm) q⟩
  | .tuple ds, _, _, h, r, ne => by
    simp only [noErr] at ne
    cases h with
    | tup hs ha =>
      cases r
      obtain ⟨its, rv, ⟨o, ho, hc, n, hd⟩, _⟩ := I.tuple (SqT.of hs)
      obtain ⟨as, hr, q⟩ := Dp.readsAllM M I ds _ its ha rv ne
      exact ⟨_, Reads.tuple ho hc hd hr, q⟩
  | .dict ds, _, _, h, r, ne => by
    simp only [noErr, Bool.and_eq_true, Bool.not_eq_true'] at ne
    cases h with
    | err _ _ _ => exact absurd ne.1 (by rw [errB_mk]; simp)
    | dtt _ _ => exact absurd ne.1 (by rw [tdB_mk]; simp)
    | dct hs ha =>
      cases r
      obtain ⟨z, hd, vs, rel, o, es, ep, ho, hc, he, _, hp, _⟩ := dk_of I.hok hs
      obtain ⟨bs, hk, hv, q⟩ := Dp.readsKvsM M I ds _ vs es.toList ha rel hp ne.2
      refine ⟨_, Reads.dict ho hc.1 he hk hv, fun m => ?_⟩
      rcases List.mem_cons.mp (show sysModules ∈ _ :: bs from m) with m | m
      · rw [← m, beq_self_eq_true] at hd
        cases hd
      · exact q m
theorem Dp.readsAllM (M : ModB X.base) {pins : List (Addr × Obj)} {σ : L2.St} {H : Hp} {s : Shared} (I : Inv X pins σ H s) : ∀ (ds : List PyData) (vs : List V) (us : List Value), DpAll X.K H vs ds → Vals vs us → noErrAll ds = true → ∃ as, ReadsAll s.heap us ds as ∧ sysModules ∉ as
  | [], _, _, h, r, _ => by
    cases h
    cases r
    exact ⟨_, ReadsAll.nil, fun z => nomatch z⟩
  | d :: ds, _, _, h, r, ne => by
    simp only [noErrAll, Bool.and_eq_true] at ne
    cases h with
    | cons h1 h2 =>
      cases r with
      | cons r1 r2 =>
        obtain ⟨as, q1, n1⟩ := Dp.readsM M I d _ _ h1 r1 ne.1
        obtain ⟨bs, q2, n2⟩ := Dp.readsAllM M I ds _ _ h2 r2 ne.2
        exact ⟨_, ReadsAll.cons q1 q2, fun m => (List.mem_append.mp m).elim n1 n2⟩
theorem Dp.readsKvsM (M : ModB X.base) {pins : List (Addr × Obj)} {σ : L2.St} {H : Hp} {s : Shared} (I : Inv X pins σ H s) : ∀ (ds : List (PyData × PyData)) (kvs : List (Key × V)) (vs : List (Key × Value)) (es : List DictEntry), DpKvs X.K H kvs ds → KV kvs vs → Pairs (mixKind X.prog X.w) es vs → noErrKvs ds = true →
    ∃ bs, ReadsAll s.heap (es.map (·.key)) (ds.map (·.1)) [] ∧ ReadsAll s.heap (es.map (·.val)) (ds.map (·.2)) bs ∧ sysModules ∉ bs
  | [], _, _, _, h, r, p, _ => by
    cases h
    cases r
    cases p
    exact ⟨_, ReadsAll.nil, ReadsAll.nil, fun z => nomatch z⟩
  | (_, d) :: ds, _, _, _, h, r, p, ne => by
    simp only [noErrKvs, Bool.and_eq_true] at ne
    cases h with
    | cons h1 h2 =>
      cases r with
      | cons r1 r2 =>
        cases p with
        | cons p1 p2 p3 =>
          obtain ⟨bs, q1, q2, n2⟩ := Dp.readsKvsM M I ds _ _ _ h2 r2 p3 ne.2
          rw [← p2] at r1
          obtain ⟨as, q3, n1⟩ := Dp.readsM M I d _ _ h1 r1.2 ne.1
          have rk := reads_key (w := X.w) (h := s.heap) p1
          rw [← r1.1] at rk
          exact ⟨_, ReadsAll.cons rk q1, ReadsAll.cons q3 q2, fun m => (List.mem_append.mp m).elim n1 n2⟩
end
def showsM (d : PyData) : Prop := d.showable = true ∧ d.depth ≤ 64 ∧ d.shown.length ≤ sizeLine
def rReprM (K : PySem.W.Frag) : List V → Hp → VK → Prop := fun vs H Q => ∃ v ds, vs = [v] ∧ Dp K H v (.list ds) ∧ showsM (.list ds) ∧ Q (.str (PyData.list ds).shown) H
theorem call_reprM (M : ModB X.base) (hg : X.A.guards = some []) (hu : X.A.units + 66 < cLine) : CallR X (.builtin "repr") (rReprM X.K) := by
  intro pins s σ H vs us Q I r h
  obtain ⟨v, ds, rfl, hd, ⟨h1, h3, h4⟩, q⟩ := h
  obtain ⟨u, rfl, ru⟩ := vals1 r
  obtain ⟨as, rd, no⟩ := Dp.readsM M I _ _ _ hd ru (noErr_show _ h1)
  cases hd
  cases ru
  exact PySem.repr_of_reads' rd h1 (fun _ => no) hg (by omega) (fun _ _ e => e) (fun h' u' tk hk => ⟨.str _, H, I.kept hk, ⟨_, rfl⟩, q⟩) h4
end
theorem for_enum {K : PySem.W.Frag} {a : Addr} {xs : List V} {g : TG} {tb : TS} {D : Ends} {σ : L2.St} {H : Hp} (Pv : Nat → L2.St → Hp → Prop) (h0 : Pv 0 σ H) (hl : ∀ i σ H, i ≤ xs.length → Pv i σ H → SqL K H a xs)
    (hs : ∀ (i : Nat) x T σ H, xs[i]? = some x → Pv i σ H → H T = none → g (.ref T) σ (upd H T (.tup [.int (i : Int), x])) fun σ2 H2 => tb { D with nx := Pv (i + 1), ct := Pv (i + 1), bk := D.nx } σ2 H2) (hd : ∀ σ H, Pv xs.length σ H → D.nx σ H) :
    ∃ W : Nat → Nat → L2.St → Hp → Prop, (∃ m, W 0 m σ H) ∧ ∀ i m σ H, W i m σ H →
      ((Ite K a).stop i H ∧ D.nx σ H) ∨ ((Ite K a).go i H ∧ ∃ N : L2.St → Hp → Prop, (∀ σ' H', N σ' H' → ∃ m', m' < m ∧ W (i + 1) m' σ' H') ∧ ∀ x H', (Ite K a).yld i H x H' → g x σ H' fun σ2 H2 => tb { D with nx := N, ct := N, bk := D.nx } σ2 H2) := by
  refine ⟨fun i m σ H => m = xs.length - i ∧ i ≤ xs.length ∧ Pv i σ H, ⟨xs.length, by simp, Nat.zero_le _, h0⟩, ?_⟩
  rintro i m σ H ⟨rfl, hi, p⟩
  have q := hl i σ H hi p
  by_cases hlt : i < xs.length
  · refine .inr ⟨⟨xs, xs[i], q, by simp [hlt]⟩, Pv (i + 1), fun σ' H' p' => ⟨xs.length - (i + 1), by omega, rfl, hlt, p'⟩, fun v H' y => ?_⟩
    obtain ⟨T, x, rfl, hT, rfl, y⟩ := y
    exact hs i x T σ _ (y xs q) p hT
  · have e : i = xs.length := by omega
    subst e
    exact .inl ⟨⟨xs, q, Nat.le_refl _⟩, hd σ H p⟩
theorem law_callG2 {P : Program} {w : World} {K : PySem.W.Frag} {mg mb : Str → Option Value} {k : Nat} {fa a : Addr} {fd : FuncData} {x : Str} {sp : Sp} {s₁ : Shared} {vs : List Value} {ns : List Int}
    (KX : K.In s₁.heap) (hns : s₁.heap.Ns mainGlobals mg) (hb : s₁.heap.Ns builtinsNs mb) (hbb : ∀ x : Str, x ≠ "__name__" → mb x = bootBuiltins x) (hlim : s₁.heap.NoLimit) (hg : s₁.gens = #[])
    (ha : s₁.heap.get? a = some { cls := .type "list", data := .seq vs.toArray }) (hi : IntsAre vs ns) (hl : ns.length ≤ sizeLine) (hr : Room k callerA)
    (hmod : ∃ mm, s₁.heap.Ns sysModules mm) (F : ∀ base : Heap, K.In base → base.Ns mainGlobals mg → ModB base → FnG P w K mg base k fa fd [x] sp) (hbind : ∀ (s : Shared) (u : Value), BindsTo s fd ⟨[u], []⟩ [(x, u)])
    (hsp : ∀ H : Hp, Only H → SqL K H a (ns.map V.int) → sp [.ref a] H (fun v _ => v = .bl true) E0) :
    codeAny (model P w) callerA (.call (.ref fa) ⟨[.ref a], []⟩) (fun r s' => r = .ok (.ret (.bool true)) ∧ OldK s₁.heap s'.heap ∧ s'.os = s₁.os ∧ AllBare s'.gens) s₁ := by
  suffices core : ∀ H : Hp, Only H → SqL K H a (ns.map V.int) → HOk P w H s₁.heap → (∀ b o, H b = some o → b = a ∧ K.lookup a = none) →
      codeAny (model P w) callerA (.call (.ref fa) ⟨[.ref a], []⟩) (fun r s' => r = .ok (.ret (.bool true)) ∧ OldK s₁.heap s'.heap ∧ s'.os = s₁.os ∧ AllBare s'.gens) s₁ by
    have lv := hi.length
    have rv := vals_ints hi
    cases e : K.lookup a with
    | some o =>
      have e2 := (KX a o e).symm.trans ha
      cases e2
      apply core (fun _ => none) (fun _ => .inl rfl)
      · right
        exact ⟨_, vs.toArray, _, e, rfl, rfl, rfl, by rw [List.size_toArray, lv]; exact hl, by simpa using rv⟩
      · intro b u z
        cases (show (none : Option HO) = some u from z)
      · intro b u z
        cases (show (none : Option HO) = some u from z)
    | none =>
      let ob : Obj := { cls := .type "list", data := .seq vs.toArray }
      have at_a : ∀ b u, (if b = a then some (HO.frz ob (.lst (ns.map V.int))) else none) = some u → b = a ∧ u = .frz ob (.lst (ns.map V.int)) := by
        intro b u z
        by_cases h : b = a
        · rw [if_pos h] at z
          exact ⟨h, (Option.some.inj z).symm⟩
        · rw [if_neg h] at z
          cases z
      apply core (fun b => if b = a then some (.frz ob (.lst (ns.map V.int))) else none)
      · intro b
        by_cases h : b = a
        · right
          exact ⟨_, _, if_pos h⟩
        · left
          exact if_neg h
      · left; right
        exact ⟨ob, if_pos rfl⟩
      · intro b u z
        obtain ⟨h, rfl⟩ := at_a b u z
        subst h
        exact ⟨ha, by rw [List.length_map]; exact hl, vs, _, rv, ha⟩
      · intro b u z
        exact ⟨(at_a b u z).1, e⟩
  intro H hO hS hok only
  have tr_a : ∀ {b : Addr}, b ≠ a → H b = none := by
    intro b h
    cases q : H b with
    | none => rfl
    | some u => exact absurd (only b u q).1 h
  have free : ∀ {b : Addr} {o : Obj} {es : Array DictEntry} {n : Nat}, s₁.heap.get? b = some o → o.data = .dict es n → H b = none := by
    intro b o es n e d
    apply tr_a
    rintro rfl
    rw [ha] at e
    cases e
    cases (show Data.seq vs.toArray _ = Data.dict es n from d)
  have ns_at : ∀ {b : Addr} {m : Str → Option Value}, s₁.heap.Ns b m → (hidT s₁.heap H).Ns b m := by
    rintro b m ⟨o, es, n, e, d, r⟩
    exact ⟨o, es, n, hidT_get e (free e d), d, r⟩
  have kb : K.In (hidT s₁.heap H) := by
    intro b o e
    apply hidT_get (KX b o e)
    cases q : H b with
    | none => rfl
    | some u =>
      obtain ⟨rfl, z⟩ := only b u q
      rw [z] at e
      cases e
  have md : Mod K mg (hidT s₁.heap H) := by
    obtain ⟨mc, l1, l2⟩ := hlim
    exact ⟨kb, ns_at hns, ⟨mb, ns_at hb, hbb⟩, mc, ns_at l1, l2⟩
  have none_in : ∀ b : Addr, b ∉ ([] : List Addr) := fun b h => nomatch h
  have env : Env0 P w K mg (hidT s₁.heap H) callerA [] s₁ H := by
    refine ⟨rfl, md, fun b o e => of_hidT e, ?_, trivial, fun b h => absurd h (none_in b), hok, .of_eq hg⟩
    exact Nat.le_of_eq (hidT_size _ _)
  have run := (F _ kb (ns_at hns) (let ⟨mm, hmm⟩ := hmod; ⟨mm, ns_at hmm⟩)).run callerA [] s₁ H ⟨[.ref a], []⟩ [.ref a] [.ref a] _ hr rfl env (hbind s₁ (.ref a)) (.cons rfl .nil) (hsp H hO hS)
  apply codeAny_mono run
  intro r s' h
  cases r with
  | error e => exact False.elim h
  | ok fl =>
    cases fl with
    | next => exact False.elim h
    | brk => exact False.elim h
    | cont => exact False.elim h
    | ret u =>
      obtain ⟨v, H', hos, hbare, hun, hok', hrel, hv⟩ := h
      have hv' : v = .bl true := hv
      subst hv'
      have hu : u = Value.bool true := hrel
      subst hu
      refine ⟨rfl, OldK.of_keep ?_, hos, hbare⟩
      intro b o e
      cases q : H b with
      | none => exact hun.keep b o e q (none_in b) (none_in b)
      | some u =>
        rcases hO b with z | ⟨ob, xs, z⟩
        · rw [q] at z
          cases z
        · have e1 := (hok b _ z).1
          have e2 := (hok' b _ (hun.frzs b ob _ z)).1
          rw [e] at e1
          cases e1
          exact e2
theorem walk_ofG2 {l : PySem.W.OpenLaw} {n k : Nat} {q : Program} {loose : List Str} {XP : (Str → Option Value) → Heap → Prop} {YP : World → Heap → Prop} {d : DefRec} {K : Params → PySem.W.Frag} {sp : World → Sp} {x : Str}
    (hi : importsNone q = true) (hn : l.most = some n) (hn2 : n ≤ sizeLine) (hdf : d.params.defaults = []) (hr : Room k callerA) (hY : ∀ (w : World) (h : Heap), YP w h → (K w.params).In h)
    (F : ∀ (w : World) (mg : Str → Option Value) (fa : Addr) (h : Heap), (K w.params).In h → h.Ns mainGlobals mg → mg d.name = some (.ref fa) →
      ∃ fd : FuncData, (∀ (s : Shared) (u : Value), BindsTo s fd ⟨[u], []⟩ [(x, u)]) ∧ ∀ base : Heap, (K w.params).In base → base.Ns mainGlobals mg → ModB base → FnG l.prog w (K w.params) mg base k fa fd [x] (sp w))
    (hsp : ∀ (w : World) (H : Hp) (a : Addr) (ns : List Int), ns.length ≤ n → Only H → SqL (K w.params) H a (ns.map V.int) → sp w [.ref a] H (fun v _ => v = .bl true) E0) :
    PySem.W.WalkO q loose XP YP l.row.toRowW d [] (fun f vs => PySem.call f vs) := by
  apply Att.attach_call hn hdf
  intro w s₀ s₁ mg mb fa o pm cd doc a vs ns G Y ho hd hcd hmg hobj hints hlen hg
  obtain ⟨fd, hb, hF⟩ := F w mg fa _ (hY w _ Y) G.T.g hmg
  apply law_callG2 (hY w _ Y) G.T.g G.T.b G.T.builtins G.T.nolimit hg hobj hints (Nat.le_trans hlen hn2) hr (let ⟨mm, h1, _⟩ := (G.T.seer hi).mods; ⟨mm, h1⟩) hF hb
  intro H hO hS
  exact hsp w H a ns hlen hO hS
end DL
set_option maxHeartbeats 4000000
namespace DL
open PySem PySem.Spec PyProof.Rows L2
structure ShM (n dp : Nat) (d : PyData) : Prop where
  ok : d.showable = true
  dep : d.depth ≤ dp
  len : d.shown.length ≤ n
theorem ShM.mono {n dp n' dp' : Nat} {d : PyData} (h : ShM n dp d) (hn : n ≤ n') (hd : dp ≤ dp') : ShM n' dp' d := ⟨h.ok, Nat.le_trans h.dep hd, Nat.le_trans h.len hn⟩
theorem ShM.shows {n dp : Nat} {d : PyData} (h : ShM n dp d) (hd : dp ≤ 64) (hn : n ≤ 16000000) : showsM d :=
  ⟨h.ok, Nat.le_trans h.dep hd, Nat.le_trans h.len (Nat.le_trans hn (by decide))⟩
theorem shMAll {n dp : Nat} : ∀ {ds : List PyData}, (∀ d ∈ ds, ShM n dp d) → PyData.showableAll ds = true ∧ PyData.depthAll ds ≤ dp ∧ ((PyData.shownAll ds).map (·.length)).sum ≤ ds.length * n ∧ (PyData.shownAll ds).length = ds.length
  | [], _ => ⟨by simp only [PyData.showableAll], by simp only [PyData.depthAll]; exact Nat.zero_le _, by simp [PyData.shownAll], by simp [PyData.shownAll]⟩
  | d :: ds, h => by
    obtain ⟨h2, h4, h5, h6⟩ := shMAll (ds := ds) fun x hx => h x (List.mem_cons_of_mem _ hx)
    have g := h d List.mem_cons_self
    refine ⟨by simp only [PyData.showableAll, g.ok, h2, Bool.and_self], ?_, ?_, ?_⟩
    · simp only [PyData.depthAll]
      exact Nat.max_le.mpr ⟨g.dep, h4⟩
    · simp only [PyData.shownAll, List.map_cons, List.sum_cons]
      have := g.len
      rw [List.length_cons, Nat.succ_mul]
      omega
    · simp only [PyData.shownAll, List.length_cons, h6]
theorem ShM.list {n dp : Nat} {ds : List PyData} (h : ∀ d ∈ ds, ShM n dp d) : ShM (ds.length * (n + 2) + 3) (dp + 1) (.list ds) := by
  obtain ⟨h2, h4, h5, h6⟩ := shMAll h
  refine ⟨by simp only [PyData.showable, h2], by simp only [PyData.depth]; omega, ?_⟩
  have e := listText_len_le (PyData.shownAll ds)
  simp only [PyData.shown]
  rw [h6] at e
  rw [Nat.mul_add]
  omega
theorem ShM.dict2 {n dp : Nat} {a b : Str} {x y : PyData} (hx : ShM n dp x) (hy : ShM n dp y) (ha : (reprText a).length ≤ 10) (hb : (reprText b).length ≤ 10) : ShM (2 * n + 40) (dp + 1) (.dict [(.str a, x), (.str b, y)]) := by
  refine ⟨?_, ?_, ?_⟩
  · simp only [PyData.showable, PyData.showableKv, hx.ok, hy.ok, Bool.and_self]
  · simp only [PyData.depth, PyData.depthKv]
    have := hx.dep
    have := hy.dep
    omega
  · simp only [PyData.shown, PyData.shownKv]
    unfold dictText
    rw [strLen_append, strLen_append]
    have e := join_length_add [reprText a ++ ": " ++ x.shown, reprText b ++ ": " ++ y.shown] (by simp)
    simp only [piled, List.map_cons, List.map_nil, List.sum_cons, List.sum_nil, strLen_append] at e
    have l1 : (Str.ofString ": ").length = 2 := by decide +kernel
    have l2 : (Str.ofString "{").length = 1 := by decide +kernel
    have l3 : (Str.ofString "}").length = 1 := by decide +kernel
    have := hx.len
    have := hy.len
    have e2 : (("{" : Str)).length = 1 := l2
    have e3 : (("}" : Str)).length = 1 := l3
    have e4 : ((": " : Str)).length = 2 := l1
    rw [e4] at e
    rw [e2, e3]
    omega
def menu : List PyData := [.none, .bool true, .bool false, .int 0, .int 1, .int (-1), .int (10 ^ 39), .str (Str.ofString ""), .str (Str.ofString "way"), .tuple [], .list [], .dict [], .tuple [.int 0, .int 1], .tuple [.int 1, .int 0], .tuple [.int 2, .int 4], .tuple [.int 0, .int 2], .tuple [.int (-1), .int 1], .tuple [.int 1, .bool true], .tuple [.tuple [.int 1, .int 1]], .list [.tuple [.int 1, .int 1]], .tuple [.tuple [.tuple [.int 1, .int 1]], .tuple []], .tuple [.tuple [], .tuple []], .dict [(.int 0, .tuple [.int 1, .int 1])], .str (Str.ofString "1/2")]
theorem menu_sh {d : PyData} (h : d ∈ menu) : ShM 100 4 d := by
  have all : (menu.all fun d => d.showable && (decide (d.depth ≤ 4) && decide (d.shown.length ≤ 100))) = true := by decide +kernel
  rw [List.all_eq_true] at all
  have := all d h
  simp only [Bool.and_eq_true, decide_eq_true_eq] at this
  exact ⟨this.1, this.2.1, this.2.2⟩
theorem simp_dp {K : PySem.W.Frag} {H : Hp} {v : V} {d : PyData} (h : Dp K H v d) : simpV v = true := by cases h <;> rfl
theorem none_back {H H' : Hp} {p : Addr} (s : Same H H') (h : H' p = none) : H p = none := by
  cases e : H p with
  | none => rfl
  | some o => rw [s _ _ e] at h; cases h
def eight (x y : PyData) : PyData := .list [x, y, x, y, x, y, x, y]
theorem sh_eight {n dp : Nat} {x y : PyData} (hx : ShM n dp x) (hy : ShM n dp y) : ShM (8 * (n + 2) + 3) (dp + 1) (eight x y) := ShM.list (ds := [x, y, x, y, x, y, x, y]) fun d hd => by
  simp only [List.mem_cons, List.not_mem_nil, or_false] at hd
  rcases hd with rfl | rfl | rfl | rfl | rfl | rfl | rfl | rfl <;> assumption
theorem sh_both {n dp : Nat} {x y : PyData} (hx : ShM n dp x) (hy : ShM n dp y) : ShM (2 * ((8 * (n + 2) + 3) + 2) + 3) (dp + 2) (.list [eight x y, eight y x]) := ShM.list (ds := [eight x y, eight y x]) fun d hd => by
  simp only [List.mem_cons, List.not_mem_nil, or_false] at hd
  rcases hd with rfl | rfl
  · exact sh_eight hx hy
  · exact sh_eight hy hx
theorem dp_eight {K : PySem.W.Frag} {H : Hp} {p : Addr} {v w : V} {x y : PyData} (h : SqL K H p [v, w, v, w, v, w, v, w]) (hx : Dp K H v x) (hy : Dp K H w y) : Dp K H (.ref p) (eight x y) :=
  .lst h (.cons hx (.cons hy (.cons hx (.cons hy (.cons hx (.cons hy (.cons hx (.cons hy .nil))))))))
theorem dp_both {K : PySem.W.Frag} {H : Hp} {p p1 p2 : Addr} {v w : V} {x y : PyData} (h : SqL K H p [.ref p1, .ref p2]) (h1 : SqL K H p1 [v, w, v, w, v, w, v, w]) (h2 : SqL K H p2 [w, v, w, v, w, v, w, v]) (hx : Dp K H v x) (hy : Dp K H w y) :
    Dp K H (.ref p) (.list [eight x y, eight y x]) := .lst h (.cons (dp_eight h1 hx hy) (.cons (dp_eight h2 hy hx) .nil))
def spAlike (K : PySem.W.Frag) : Sp := fun vs H Q _ => ∃ (p q p1 p2 q1 q2 : Addr) (xs ys : List V) (ds : List PyData), vs = [.ref p, .ref q] ∧ SqL K H p [.ref p1, .ref p2] ∧ SqL K H q [.ref q1, .ref q2] ∧ SqL K H p1 xs ∧ SqL K H q1 xs ∧ SqL K H p2 ys ∧ SqL K H q2 ys ∧
  (∀ z ∈ xs, simpV z = true) ∧ (∀ z ∈ ys, simpV z = true) ∧ Dp K H (.ref p) (.list ds) ∧ Dp K H (.ref q) (.list ds) ∧ showsM (.list ds) ∧ Q (.bl true) H
theorem sp_both {K : PySem.W.Frag} {H : Hp} {Q : VK} {E : XK} {p q p1 p2 q1 q2 : Addr} {v w : V} {x y : PyData} {n dp : Nat} (hp : SqL K H p [.ref p1, .ref p2]) (hq : SqL K H q [.ref q1, .ref q2])
    (h1 : SqL K H p1 [v, w, v, w, v, w, v, w]) (h2 : SqL K H p2 [w, v, w, v, w, v, w, v]) (h3 : SqL K H q1 [v, w, v, w, v, w, v, w]) (h4 : SqL K H q2 [w, v, w, v, w, v, w, v])
    (hx : Dp K H v x) (hy : Dp K H w y) (sx : ShM n dp x) (sy : ShM n dp y) (hd : dp + 2 ≤ 64) (hn : 2 * ((8 * (n + 2) + 3) + 2) + 3 ≤ 16000000) (k : Q (.bl true) H) : spAlike K [.ref p, .ref q] H Q E := by
  have m : ∀ z ∈ [v, w, v, w, v, w, v, w], simpV z = true := fun z hz => by
    simp only [List.mem_cons, List.not_mem_nil, or_false] at hz
    rcases hz with rfl | rfl | rfl | rfl | rfl | rfl | rfl | rfl <;> first | exact simp_dp hx | exact simp_dp hy
  have m2 : ∀ z ∈ [w, v, w, v, w, v, w, v], simpV z = true := fun z hz => by
    simp only [List.mem_cons, List.not_mem_nil, or_false] at hz
    rcases hz with rfl | rfl | rfl | rfl | rfl | rfl | rfl | rfl <;> first | exact simp_dp hx | exact simp_dp hy
  exact ⟨p, q, p1, p2, q1, q2, _, _, _, rfl, hp, hq, h1, h3, h2, h4, m, m2, dp_both hp h1 h2 hx hy, dp_both hq h3 h4 hx hy, (sh_both sx sy).shows hd hn, k⟩
theorem rel_of {K : PySem.W.Frag} {σ : L2.St} {H : Hp} {δ : List S} (hl : σ.length = δ.length) (hs : ∀ (i : Nat) (s : S), δ[i]? = some s → s = .un ∨ ∃ d v, s = .dat d ∧ σ[i]? = some (some v) ∧ Dp K H v d) : Rel K ⟨H, [], none⟩ [] σ H δ := by
  refine ⟨hl, fun i s e => ?_, fun i j ds es _ e1 _ => ?_, fun a h => h, fun a h _ => absurd h (by simp), fun a h => absurd h (by simp), fun b c z => (by cases z), .refl, fun a h _ => absurd h (by simp)⟩
  · rcases hs i s e with rfl | ⟨d, v, rfl, e1, e2⟩
    · trivial
    · exact ⟨v, e1, dp_same (fun a o h => hide_of (by simp) h) _ _ e2⟩
  · rcases hs i _ e1 with z | ⟨d, v, z, _⟩ <;> cases z
def tlA (K : PySem.W.Frag) (t : DE) : TE := fun σ H Q => ∃ Y, tl K Y t σ H Q
theorem pe_any {X : Cx} {e : Expr} {t : DE} (h : ∀ Y, PE X e (tl X.K Y t)) : PE X e (tlA X.K t) := ⟨fun pins s σ H Q I ⟨Y, q⟩ => (h Y).run pins s σ H Q I q⟩
end DL
set_option maxHeartbeats 1000000
namespace DL
open PySem PySem.Spec PyProof.Rows L2
def tb_l_one : DS := (dRet (dOp gIx (dVar 1) (dCall T_l_take (dCons (dVar 0) (dCons (dCB gLen (dCons (dVar 1) dNil)) dNil)))))
def T_l_one : DT' := fun rs P => ∃ (ds : List PyData) (r : R), rs = [.bag, r] ∧ SeqR ds r ∧ ds ≠ [] ∧ ds.length ≤ 100000 ∧ ∀ d ∈ ds, P (.dat d)
theorem len_l_one : ∀ rs P, T_l_one rs P → rs.length = 2 := fun rs P ⟨_, _, e, _⟩ => by rw [e]; rfl
theorem spec_l_one : ∀ rs P, T_l_one rs P → tb_l_one { nx := fun _ => P (.dat .none), rt := fun r => r.isSolid = true ∧ P r } (start0 2 rs) := by
  rintro rs P ⟨ds, r, rfl, hr, h0, h1, hP⟩
  have hl : 0 < ds.length := List.length_pos_iff.mpr h0
  have fin : ∀ i : Int, 0 ≤ i → i < (ds.length : Int) → (match atI ds i with | some d => (fun r : R => r.isSolid = true ∧ P r) (.dat d) | none => False) := fun i i0 i1 => by
    obtain ⟨x, e, hx⟩ := atI_mem i0 i1
    rw [e]
    exact ⟨rfl, hP x hx⟩
  rcases hr with rfl | rfl
  · exact ⟨_, rfl, by omega, by omega, fun i i0 i1 => ⟨(fun z => nomatch z), fin i i0 i1⟩⟩
  · exact ⟨_, rfl, by omega, by omega, fun i i0 i1 => ⟨(fun z => nomatch z), fin i i0 i1⟩⟩
def tb_l_odd : DS := (dSeq (dAsg 1 (dLst (dCons (dC .none) (dCons (dC (.bool true)) (dCons (dC (.bool false)) (dCons (dC (.int 0)) (dCons (dC (.int 1)) (dCons (dNeg (dC (.int 1))) (dCons (dOp gPow (dC (.int 10)) (dC (.int 39))) (dCons (dC (.str (Str.ofString ""))) (dCons (dC (.str (Str.ofString "way"))) (dCons (dTup dNil) (dCons (dLst dNil) (dCons dDct0 (dCons (dTup (dCons (dC (.int 0)) (dCons (dC (.int 1)) dNil))) (dCons (dTup (dCons (dC (.int 1)) (dCons (dC (.int 0)) dNil))) (dCons (dTup (dCons (dC (.int 2)) (dCons (dC (.int 4)) dNil))) (dCons (dTup (dCons (dC (.int 0)) (dCons (dC (.int 2)) dNil))) (dCons (dTup (dCons (dNeg (dC (.int 1))) (dCons (dC (.int 1)) dNil))) dNil))))))))))))))))))) (dRet (dCall T_l_one (dCons (dVar 0) (dCons (dOp gAdd (dVar 1) (dLst (dCons (dTup (dCons (dC (.int 1)) (dCons (dC (.bool true)) dNil))) (dCons (dTup (dCons (dTup (dCons (dC (.int 1)) (dCons (dC (.int 1)) dNil))) dNil)) (dCons (dLst (dCons (dTup (dCons (dC (.int 1)) (dCons (dC (.int 1)) dNil))) dNil)) (dCons (dTup (dCons (dTup (dCons (dTup (dCons (dC (.int 1)) (dCons (dC (.int 1)) dNil))) dNil)) (dCons (dTup dNil) dNil))) (dCons (dTup (dCons (dTup dNil) (dCons (dTup dNil) dNil))) (dCons (dDctT 0 1 1) (dCons (dC (.str (Str.ofString "1/2"))) dNil))))))))) dNil)))))
def T_l_odd : DT' := fun rs P => rs = [.bag] ∧ ∀ d ∈ menu, P (.dat d)
theorem len_l_odd : ∀ rs P, T_l_odd rs P → rs.length = 1 := fun rs P e => by rw [e.1]; rfl
theorem spec_l_odd : ∀ rs P, T_l_odd rs P → tb_l_odd { nx := fun _ => P (.dat .none), rt := fun r => r.isSolid = true ∧ P r } (start0 2 rs) := by
  rintro rs P ⟨rfl, hP⟩
  show tb_l_odd _ [S.bag, S.un]
  refine ⟨⟨by decide, by decide, by decide⟩, ?_⟩
  repeat first
    | refine ⟨⟨rfl, Nat.le_of_ble_eq_true rfl⟩, ?_⟩
    | refine ⟨Nat.le_of_ble_eq_true rfl, ?_⟩
  exact ⟨_, _, rfl, .inl rfl, (fun z => nomatch z), Nat.le_of_ble_eq_true rfl, fun d hd => ⟨(fun z => nomatch z), rfl, hP d hd⟩⟩
end DL
set_option maxHeartbeats 4000000
namespace Kx
open PySem PySem.Spec PyProof.Rows L2 DL
def topS (i : Nat) : Stmt := PySem.Challenge.pw_neverjammed_k66_errors_made_of_any_value.main.body.getD i (.Pass ⟨0, 0, 0, 0⟩)
abbrev s_l_bag : Stmt := topS 12
abbrev N_l_bag : List Str := ["_law_script", "_law_cell"]
theorem sc_l_bag : FnScope N_l_bag ["_law_script"] (defScope s_l_bag) := ⟨rfl, rfl, rfl, by decide +kernel, rfl, by decide +kernel, by decide +kernel⟩
abbrev s_l_take : Stmt := topS 13
abbrev N_l_take : List Str := ["_law_bag_here", "_law_many", "_law_cell", "_law_stirred", "_law_value", "_law_begin", "_law_second"]
theorem sc_l_take : FnScope N_l_take ["_law_bag_here", "_law_many"] (defScope s_l_take) := ⟨rfl, rfl, rfl, by decide +kernel, rfl, by decide +kernel, by decide +kernel⟩
abbrev s_l_one : Stmt := topS 14
abbrev N_l_one : List Str := ["_law_bag_here", "_law_things"]
theorem sc_l_one : FnScope N_l_one ["_law_bag_here", "_law_things"] (defScope s_l_one) := ⟨rfl, rfl, rfl, by decide +kernel, rfl, by decide +kernel, by decide +kernel⟩
abbrev s_l_odd : Stmt := topS 15
abbrev N_l_odd : List Str := ["_law_bag_here", "_law_menu"]
theorem sc_l_odd : FnScope N_l_odd ["_law_bag_here"] (defScope s_l_odd) := ⟨rfl, rfl, rfl, by decide +kernel, rfl, by decide +kernel, by decide +kernel⟩
abbrev s_l_built : Stmt := topS 16
abbrev N_l_built : List Str := ["_law_one_here", "_law_other", "_law_found"]
theorem sc_l_built : FnScope N_l_built ["_law_one_here", "_law_other"] (defScope s_l_built) := ⟨rfl, rfl, rfl, by decide +kernel, rfl, by decide +kernel, by decide +kernel⟩
abbrev s_l_classes : Stmt := topS 17
abbrev N_l_classes : List Str := ["_law_error", "_law_found"]
theorem sc_l_classes : FnScope N_l_classes ["_law_error"] (defScope s_l_classes) := ⟨rfl, rfl, rfl, by decide +kernel, rfl, by decide +kernel, by decide +kernel⟩
abbrev s_l_are_apart : Stmt := topS 18
abbrev N_l_are_apart : List Str := ["_law_some", "_law_place", "_law_error", "_law_k"]
theorem sc_l_are_apart : FnScope N_l_are_apart ["_law_some"] (defScope s_l_are_apart) := ⟨rfl, rfl, rfl, by decide +kernel, rfl, by decide +kernel, by decide +kernel⟩
abbrev s_l_alike : Stmt := topS 19
abbrev N_l_alike : List Str := ["_law_found", "_law_due"]
theorem sc_l_alike : FnScope N_l_alike ["_law_found", "_law_due"] (defScope s_l_alike) := ⟨rfl, rfl, rfl, by decide +kernel, rfl, by decide +kernel, by decide +kernel⟩
abbrev s_l_fields : Stmt := topS 20
abbrev N_l_fields : List Str := ["_law_some", "_law_found"]
theorem sc_l_fields : FnScope N_l_fields ["_law_some"] (defScope s_l_fields) := ⟨rfl, rfl, rfl, by decide +kernel, rfl, by decide +kernel, by decide +kernel⟩
abbrev s_law : Stmt := topS 21
abbrev N_law : List Str := ["_law_script", "_law_bag_here", "_law_turn", "_law_one_here", "_law_other", "_law_some", "_law_others", "_law_rows", "_law_words"]
theorem sc_law : FnScope N_law ["_law_script"] (defScope s_law) := ⟨rfl, rfl, rfl, by decide +kernel, rfl, by decide +kernel, by decide +kernel⟩
abbrev si_Wrong : Stmt := clsSt (topS 2) 0
theorem sci_Wrong : FnScope ["self", "place"] ["self", "place"] (defScope si_Wrong) := ⟨rfl, rfl, rfl, by decide +kernel, rfl, by decide +kernel, by decide +kernel⟩
abbrev si_NoText : Stmt := clsSt (topS 3) 0
theorem sci_NoText : FnScope ["self", "line"] ["self", "line"] (defScope si_NoText) := ⟨rfl, rfl, rfl, by decide +kernel, rfl, by decide +kernel, by decide +kernel⟩
abbrev si_TooMany : Stmt := clsSt (topS 4) 0
theorem sci_TooMany : FnScope ["self", "most"] ["self", "most"] (defScope si_TooMany) := ⟨rfl, rfl, rfl, by decide +kernel, rfl, by decide +kernel, by decide +kernel⟩
abbrev si_NoneLet : Stmt := clsSt (topS 5) 0
theorem sci_NoneLet : FnScope ["self", "paper"] ["self", "paper"] (defScope si_NoneLet) := ⟨rfl, rfl, rfl, by decide +kernel, rfl, by decide +kernel, by decide +kernel⟩
abbrev si_Jammed : Stmt := clsSt (topS 6) 0
theorem sci_Jammed : FnScope ["self", "link"] ["self", "link"] (defScope si_Jammed) := ⟨rfl, rfl, rfl, by decide +kernel, rfl, by decide +kernel, by decide +kernel⟩
abbrev si_NoFlow : Stmt := clsSt (topS 7) 0
theorem sci_NoFlow : FnScope ["self", "flow"] ["self", "flow"] (defScope si_NoFlow) := ⟨rfl, rfl, rfl, by decide +kernel, rfl, by decide +kernel, by decide +kernel⟩
abbrev si_NoLink : Stmt := clsSt (topS 8) 0
theorem sci_NoLink : FnScope ["self", "link"] ["self", "link"] (defScope si_NoLink) := ⟨rfl, rfl, rfl, by decide +kernel, rfl, by decide +kernel, by decide +kernel⟩
abbrev si_NoOrder : Stmt := clsSt (topS 9) 0
theorem sci_NoOrder : FnScope ["self", "number"] ["self", "number"] (defScope si_NoOrder) := ⟨rfl, rfl, rfl, by decide +kernel, rfl, by decide +kernel, by decide +kernel⟩
abbrev si_NoCommand : Stmt := clsSt (topS 10) 0
theorem sci_NoCommand : FnScope ["self"] ["self"] (defScope si_NoCommand) := ⟨rfl, rfl, rfl, by decide +kernel, rfl, by decide +kernel, by decide +kernel⟩
structure Tx (K : PySem.W.Frag) (mg : Str → Option Value) where
  f_l_bag : Addr
  d_l_bag : FuncData
  F_l_bag : Fun K "_law_bag" "_law_bag" s_l_bag f_l_bag d_l_bag
  m_l_bag : mg "_law_bag" = some (.ref f_l_bag)
  f_l_take : Addr
  d_l_take : FuncData
  F_l_take : Fun K "_law_take" "_law_take" s_l_take f_l_take d_l_take
  m_l_take : mg "_law_take" = some (.ref f_l_take)
  f_l_one : Addr
  d_l_one : FuncData
  F_l_one : Fun K "_law_one" "_law_one" s_l_one f_l_one d_l_one
  m_l_one : mg "_law_one" = some (.ref f_l_one)
  f_l_odd : Addr
  d_l_odd : FuncData
  F_l_odd : Fun K "_law_odd" "_law_odd" s_l_odd f_l_odd d_l_odd
  m_l_odd : mg "_law_odd" = some (.ref f_l_odd)
  f_l_built : Addr
  d_l_built : FuncData
  F_l_built : Fun K "_law_built" "_law_built" s_l_built f_l_built d_l_built
  m_l_built : mg "_law_built" = some (.ref f_l_built)
  f_l_classes : Addr
  d_l_classes : FuncData
  F_l_classes : Fun K "_law_classes" "_law_classes" s_l_classes f_l_classes d_l_classes
  m_l_classes : mg "_law_classes" = some (.ref f_l_classes)
  f_l_are_apart : Addr
  d_l_are_apart : FuncData
  F_l_are_apart : Fun K "_law_are_apart" "_law_are_apart" s_l_are_apart f_l_are_apart d_l_are_apart
  m_l_are_apart : mg "_law_are_apart" = some (.ref f_l_are_apart)
  f_l_alike : Addr
  d_l_alike : FuncData
  F_l_alike : Fun K "_law_alike" "_law_alike" s_l_alike f_l_alike d_l_alike
  m_l_alike : mg "_law_alike" = some (.ref f_l_alike)
  f_l_fields : Addr
  d_l_fields : FuncData
  F_l_fields : Fun K "_law_fields" "_law_fields" s_l_fields f_l_fields d_l_fields
  m_l_fields : mg "_law_fields" = some (.ref f_l_fields)
  f_law : Addr
  d_law : FuncData
  F_law : Fun K "law" "law" s_law f_law d_law
  m_law : mg "law" = some (.ref f_law)
  c_Wrong : Addr
  fi_Wrong : Addr
  di_Wrong : FuncData
  Fi_Wrong : Fun K "__init__" "Wrong.__init__" si_Wrong fi_Wrong di_Wrong
  x_Wrong : Xc K c_Wrong
  i_Wrong : PySem.W.findIn K (.ref c_Wrong) "__init__" = some (some (.ref fi_Wrong))
  t_Wrong : PySem.W.typeIn K (.ref fi_Wrong) = some (.type "function")
  mc_Wrong : mg "Wrong" = some (.ref c_Wrong)
  h_Wrong : PySem.W.findIn K (.ref c_Wrong) "place" = some none
  c_NoText : Addr
  fi_NoText : Addr
  di_NoText : FuncData
  Fi_NoText : Fun K "__init__" "NoText.__init__" si_NoText fi_NoText di_NoText
  x_NoText : Xc K c_NoText
  i_NoText : PySem.W.findIn K (.ref c_NoText) "__init__" = some (some (.ref fi_NoText))
  t_NoText : PySem.W.typeIn K (.ref fi_NoText) = some (.type "function")
  mc_NoText : mg "NoText" = some (.ref c_NoText)
  h_NoText : PySem.W.findIn K (.ref c_NoText) "line" = some none
  c_TooMany : Addr
  fi_TooMany : Addr
  di_TooMany : FuncData
  Fi_TooMany : Fun K "__init__" "TooMany.__init__" si_TooMany fi_TooMany di_TooMany
  x_TooMany : Xc K c_TooMany
  i_TooMany : PySem.W.findIn K (.ref c_TooMany) "__init__" = some (some (.ref fi_TooMany))
  t_TooMany : PySem.W.typeIn K (.ref fi_TooMany) = some (.type "function")
  mc_TooMany : mg "TooMany" = some (.ref c_TooMany)
  h_TooMany : PySem.W.findIn K (.ref c_TooMany) "most" = some none
  c_NoneLet : Addr
  fi_NoneLet : Addr
  di_NoneLet : FuncData
  Fi_NoneLet : Fun K "__init__" "NoneLet.__init__" si_NoneLet fi_NoneLet di_NoneLet
  x_NoneLet : Xc K c_NoneLet
  i_NoneLet : PySem.W.findIn K (.ref c_NoneLet) "__init__" = some (some (.ref fi_NoneLet))
  t_NoneLet : PySem.W.typeIn K (.ref fi_NoneLet) = some (.type "function")
  mc_NoneLet : mg "NoneLet" = some (.ref c_NoneLet)
  h_NoneLet : PySem.W.findIn K (.ref c_NoneLet) "paper" = some none
  c_Jammed : Addr
  fi_Jammed : Addr
  di_Jammed : FuncData
  Fi_Jammed : Fun K "__init__" "Jammed.__init__" si_Jammed fi_Jammed di_Jammed
  x_Jammed : Xc K c_Jammed
  i_Jammed : PySem.W.findIn K (.ref c_Jammed) "__init__" = some (some (.ref fi_Jammed))
  t_Jammed : PySem.W.typeIn K (.ref fi_Jammed) = some (.type "function")
  mc_Jammed : mg "Jammed" = some (.ref c_Jammed)
  h_Jammed : PySem.W.findIn K (.ref c_Jammed) "link" = some none
  c_NoFlow : Addr
  fi_NoFlow : Addr
  di_NoFlow : FuncData
  Fi_NoFlow : Fun K "__init__" "NoFlow.__init__" si_NoFlow fi_NoFlow di_NoFlow
  x_NoFlow : Xc K c_NoFlow
  i_NoFlow : PySem.W.findIn K (.ref c_NoFlow) "__init__" = some (some (.ref fi_NoFlow))
  t_NoFlow : PySem.W.typeIn K (.ref fi_NoFlow) = some (.type "function")
  mc_NoFlow : mg "NoFlow" = some (.ref c_NoFlow)
  h_NoFlow : PySem.W.findIn K (.ref c_NoFlow) "flow" = some none
  c_NoLink : Addr
  fi_NoLink : Addr
  di_NoLink : FuncData
  Fi_NoLink : Fun K "__init__" "NoLink.__init__" si_NoLink fi_NoLink di_NoLink
  x_NoLink : Xc K c_NoLink
  i_NoLink : PySem.W.findIn K (.ref c_NoLink) "__init__" = some (some (.ref fi_NoLink))
  t_NoLink : PySem.W.typeIn K (.ref fi_NoLink) = some (.type "function")
  mc_NoLink : mg "NoLink" = some (.ref c_NoLink)
  h_NoLink : PySem.W.findIn K (.ref c_NoLink) "link" = some none
  c_NoOrder : Addr
  fi_NoOrder : Addr
  di_NoOrder : FuncData
  Fi_NoOrder : Fun K "__init__" "NoOrder.__init__" si_NoOrder fi_NoOrder di_NoOrder
  x_NoOrder : Xc K c_NoOrder
  i_NoOrder : PySem.W.findIn K (.ref c_NoOrder) "__init__" = some (some (.ref fi_NoOrder))
  t_NoOrder : PySem.W.typeIn K (.ref fi_NoOrder) = some (.type "function")
  mc_NoOrder : mg "NoOrder" = some (.ref c_NoOrder)
  h_NoOrder : PySem.W.findIn K (.ref c_NoOrder) "number" = some none
  c_NoCommand : Addr
  fi_NoCommand : Addr
  di_NoCommand : FuncData
  Fi_NoCommand : Fun K "__init__" "NoCommand.__init__" si_NoCommand fi_NoCommand di_NoCommand
  x_NoCommand : Xc K c_NoCommand
  i_NoCommand : PySem.W.findIn K (.ref c_NoCommand) "__init__" = some (some (.ref fi_NoCommand))
  t_NoCommand : PySem.W.typeIn K (.ref fi_NoCommand) = some (.type "function")
  mc_NoCommand : mg "NoCommand" = some (.ref c_NoCommand)
  c_JamError : Addr
  mc_JamError : mg "JamError" = some (.ref c_JamError)
  j0 : PySem.W.kitOne K (.ref c_Wrong) (.ref c_JamError) = some true
  v0 : PySem.W.kitOne K (.ref c_Wrong) (.type "ValueError") = some true
  k0_0 : PySem.W.kitOne K (.ref c_Wrong) (.ref c_Wrong) = some true
  k0_1 : PySem.W.kitOne K (.ref c_Wrong) (.ref c_NoText) = some false
  k0_2 : PySem.W.kitOne K (.ref c_Wrong) (.ref c_TooMany) = some false
  k0_3 : PySem.W.kitOne K (.ref c_Wrong) (.ref c_NoneLet) = some false
  k0_4 : PySem.W.kitOne K (.ref c_Wrong) (.ref c_Jammed) = some false
  k0_5 : PySem.W.kitOne K (.ref c_Wrong) (.ref c_NoFlow) = some false
  k0_6 : PySem.W.kitOne K (.ref c_Wrong) (.ref c_NoLink) = some false
  k0_7 : PySem.W.kitOne K (.ref c_Wrong) (.ref c_NoOrder) = some false
  k0_8 : PySem.W.kitOne K (.ref c_Wrong) (.ref c_NoCommand) = some false
  j1 : PySem.W.kitOne K (.ref c_NoText) (.ref c_JamError) = some true
  v1 : PySem.W.kitOne K (.ref c_NoText) (.type "ValueError") = some true
  k1_0 : PySem.W.kitOne K (.ref c_NoText) (.ref c_Wrong) = some false
  k1_1 : PySem.W.kitOne K (.ref c_NoText) (.ref c_NoText) = some true
  k1_2 : PySem.W.kitOne K (.ref c_NoText) (.ref c_TooMany) = some false
  k1_3 : PySem.W.kitOne K (.ref c_NoText) (.ref c_NoneLet) = some false
  k1_4 : PySem.W.kitOne K (.ref c_NoText) (.ref c_Jammed) = some false
  k1_5 : PySem.W.kitOne K (.ref c_NoText) (.ref c_NoFlow) = some false
  k1_6 : PySem.W.kitOne K (.ref c_NoText) (.ref c_NoLink) = some false
  k1_7 : PySem.W.kitOne K (.ref c_NoText) (.ref c_NoOrder) = some false
  k1_8 : PySem.W.kitOne K (.ref c_NoText) (.ref c_NoCommand) = some false
  j2 : PySem.W.kitOne K (.ref c_TooMany) (.ref c_JamError) = some true
  v2 : PySem.W.kitOne K (.ref c_TooMany) (.type "ValueError") = some true
  k2_0 : PySem.W.kitOne K (.ref c_TooMany) (.ref c_Wrong) = some false
  k2_1 : PySem.W.kitOne K (.ref c_TooMany) (.ref c_NoText) = some false
  k2_2 : PySem.W.kitOne K (.ref c_TooMany) (.ref c_TooMany) = some true
  k2_3 : PySem.W.kitOne K (.ref c_TooMany) (.ref c_NoneLet) = some false
  k2_4 : PySem.W.kitOne K (.ref c_TooMany) (.ref c_Jammed) = some false
  k2_5 : PySem.W.kitOne K (.ref c_TooMany) (.ref c_NoFlow) = some false
  k2_6 : PySem.W.kitOne K (.ref c_TooMany) (.ref c_NoLink) = some false
  k2_7 : PySem.W.kitOne K (.ref c_TooMany) (.ref c_NoOrder) = some false
  k2_8 : PySem.W.kitOne K (.ref c_TooMany) (.ref c_NoCommand) = some false
  j3 : PySem.W.kitOne K (.ref c_NoneLet) (.ref c_JamError) = some true
  v3 : PySem.W.kitOne K (.ref c_NoneLet) (.type "ValueError") = some true
  k3_0 : PySem.W.kitOne K (.ref c_NoneLet) (.ref c_Wrong) = some false
  k3_1 : PySem.W.kitOne K (.ref c_NoneLet) (.ref c_NoText) = some false
  k3_2 : PySem.W.kitOne K (.ref c_NoneLet) (.ref c_TooMany) = some false
  k3_3 : PySem.W.kitOne K (.ref c_NoneLet) (.ref c_NoneLet) = some true
  k3_4 : PySem.W.kitOne K (.ref c_NoneLet) (.ref c_Jammed) = some false
  k3_5 : PySem.W.kitOne K (.ref c_NoneLet) (.ref c_NoFlow) = some false
  k3_6 : PySem.W.kitOne K (.ref c_NoneLet) (.ref c_NoLink) = some false
  k3_7 : PySem.W.kitOne K (.ref c_NoneLet) (.ref c_NoOrder) = some false
  k3_8 : PySem.W.kitOne K (.ref c_NoneLet) (.ref c_NoCommand) = some false
  j4 : PySem.W.kitOne K (.ref c_Jammed) (.ref c_JamError) = some true
  v4 : PySem.W.kitOne K (.ref c_Jammed) (.type "ValueError") = some true
  k4_0 : PySem.W.kitOne K (.ref c_Jammed) (.ref c_Wrong) = some false
  k4_1 : PySem.W.kitOne K (.ref c_Jammed) (.ref c_NoText) = some false
  k4_2 : PySem.W.kitOne K (.ref c_Jammed) (.ref c_TooMany) = some false
  k4_3 : PySem.W.kitOne K (.ref c_Jammed) (.ref c_NoneLet) = some false
  k4_4 : PySem.W.kitOne K (.ref c_Jammed) (.ref c_Jammed) = some true
  k4_5 : PySem.W.kitOne K (.ref c_Jammed) (.ref c_NoFlow) = some false
  k4_6 : PySem.W.kitOne K (.ref c_Jammed) (.ref c_NoLink) = some false
  k4_7 : PySem.W.kitOne K (.ref c_Jammed) (.ref c_NoOrder) = some false
  k4_8 : PySem.W.kitOne K (.ref c_Jammed) (.ref c_NoCommand) = some false
  j5 : PySem.W.kitOne K (.ref c_NoFlow) (.ref c_JamError) = some true
  v5 : PySem.W.kitOne K (.ref c_NoFlow) (.type "ValueError") = some true
  k5_0 : PySem.W.kitOne K (.ref c_NoFlow) (.ref c_Wrong) = some false
  k5_1 : PySem.W.kitOne K (.ref c_NoFlow) (.ref c_NoText) = some false
  k5_2 : PySem.W.kitOne K (.ref c_NoFlow) (.ref c_TooMany) = some false
  k5_3 : PySem.W.kitOne K (.ref c_NoFlow) (.ref c_NoneLet) = some false
  k5_4 : PySem.W.kitOne K (.ref c_NoFlow) (.ref c_Jammed) = some false
  k5_5 : PySem.W.kitOne K (.ref c_NoFlow) (.ref c_NoFlow) = some true
  k5_6 : PySem.W.kitOne K (.ref c_NoFlow) (.ref c_NoLink) = some false
  k5_7 : PySem.W.kitOne K (.ref c_NoFlow) (.ref c_NoOrder) = some false
  k5_8 : PySem.W.kitOne K (.ref c_NoFlow) (.ref c_NoCommand) = some false
  j6 : PySem.W.kitOne K (.ref c_NoLink) (.ref c_JamError) = some true
  v6 : PySem.W.kitOne K (.ref c_NoLink) (.type "ValueError") = some true
  k6_0 : PySem.W.kitOne K (.ref c_NoLink) (.ref c_Wrong) = some false
  k6_1 : PySem.W.kitOne K (.ref c_NoLink) (.ref c_NoText) = some false
  k6_2 : PySem.W.kitOne K (.ref c_NoLink) (.ref c_TooMany) = some false
  k6_3 : PySem.W.kitOne K (.ref c_NoLink) (.ref c_NoneLet) = some false
  k6_4 : PySem.W.kitOne K (.ref c_NoLink) (.ref c_Jammed) = some false
  k6_5 : PySem.W.kitOne K (.ref c_NoLink) (.ref c_NoFlow) = some false
  k6_6 : PySem.W.kitOne K (.ref c_NoLink) (.ref c_NoLink) = some true
  k6_7 : PySem.W.kitOne K (.ref c_NoLink) (.ref c_NoOrder) = some false
  k6_8 : PySem.W.kitOne K (.ref c_NoLink) (.ref c_NoCommand) = some false
  j7 : PySem.W.kitOne K (.ref c_NoOrder) (.ref c_JamError) = some true
  v7 : PySem.W.kitOne K (.ref c_NoOrder) (.type "ValueError") = some true
  k7_0 : PySem.W.kitOne K (.ref c_NoOrder) (.ref c_Wrong) = some false
  k7_1 : PySem.W.kitOne K (.ref c_NoOrder) (.ref c_NoText) = some false
  k7_2 : PySem.W.kitOne K (.ref c_NoOrder) (.ref c_TooMany) = some false
  k7_3 : PySem.W.kitOne K (.ref c_NoOrder) (.ref c_NoneLet) = some false
  k7_4 : PySem.W.kitOne K (.ref c_NoOrder) (.ref c_Jammed) = some false
  k7_5 : PySem.W.kitOne K (.ref c_NoOrder) (.ref c_NoFlow) = some false
  k7_6 : PySem.W.kitOne K (.ref c_NoOrder) (.ref c_NoLink) = some false
  k7_7 : PySem.W.kitOne K (.ref c_NoOrder) (.ref c_NoOrder) = some true
  k7_8 : PySem.W.kitOne K (.ref c_NoOrder) (.ref c_NoCommand) = some false
  j8 : PySem.W.kitOne K (.ref c_NoCommand) (.ref c_JamError) = some true
  v8 : PySem.W.kitOne K (.ref c_NoCommand) (.type "ValueError") = some true
  k8_0 : PySem.W.kitOne K (.ref c_NoCommand) (.ref c_Wrong) = some false
  k8_1 : PySem.W.kitOne K (.ref c_NoCommand) (.ref c_NoText) = some false
  k8_2 : PySem.W.kitOne K (.ref c_NoCommand) (.ref c_TooMany) = some false
  k8_3 : PySem.W.kitOne K (.ref c_NoCommand) (.ref c_NoneLet) = some false
  k8_4 : PySem.W.kitOne K (.ref c_NoCommand) (.ref c_Jammed) = some false
  k8_5 : PySem.W.kitOne K (.ref c_NoCommand) (.ref c_NoFlow) = some false
  k8_6 : PySem.W.kitOne K (.ref c_NoCommand) (.ref c_NoLink) = some false
  k8_7 : PySem.W.kitOne K (.ref c_NoCommand) (.ref c_NoOrder) = some false
  k8_8 : PySem.W.kitOne K (.ref c_NoCommand) (.ref c_NoCommand) = some true
  n_ValueError : mg "ValueError" = none
  n_abs : mg "abs" = none
  n_enumerate : mg "enumerate" = none
  n_int : mg "int" = none
  n_isinstance : mg "isinstance" = none
  n_len : mg "len" = none
  n_range : mg "range" = none
  n_repr : mg "repr" = none
section
variable {P : Program} {w : World} {K : PySem.W.Frag} {mg : Str → Option Value} {base : Heap} (TX : Tx K mg)
theorem oki_Wrong : FnOk P w K mg base CX0 1 TX.fi_Wrong TX.di_Wrong ["self", "place"] (spInit TX.c_Wrong "place") := ok_init TX.Fi_Wrong sci_Wrong (.inl rfl) (.inl rfl) (by decide) (by decide) rfl TX.x_Wrong.o TX.h_Wrong
theorem bi_Wrong : Binds K TX.di_Wrong ["self", "place"] [] := TX.Fi_Wrong.binds (ps := ["self", "place"]) fun _ _ _ _ _ _ us hl => match us, hl with | [_, _], _ => rfl
theorem oki_NoText : FnOk P w K mg base CX0 1 TX.fi_NoText TX.di_NoText ["self", "line"] (spInit TX.c_NoText "line") := ok_init TX.Fi_NoText sci_NoText (.inl rfl) (.inl rfl) (by decide) (by decide) rfl TX.x_NoText.o TX.h_NoText
theorem bi_NoText : Binds K TX.di_NoText ["self", "line"] [] := TX.Fi_NoText.binds (ps := ["self", "line"]) fun _ _ _ _ _ _ us hl => match us, hl with | [_, _], _ => rfl
theorem oki_TooMany : FnOk P w K mg base CX0 1 TX.fi_TooMany TX.di_TooMany ["self", "most"] (spInit TX.c_TooMany "most") := ok_init TX.Fi_TooMany sci_TooMany (.inl rfl) (.inl rfl) (by decide) (by decide) rfl TX.x_TooMany.o TX.h_TooMany
theorem bi_TooMany : Binds K TX.di_TooMany ["self", "most"] [] := TX.Fi_TooMany.binds (ps := ["self", "most"]) fun _ _ _ _ _ _ us hl => match us, hl with | [_, _], _ => rfl
theorem oki_NoneLet : FnOk P w K mg base CX0 1 TX.fi_NoneLet TX.di_NoneLet ["self", "paper"] (spInit TX.c_NoneLet "paper") := ok_init TX.Fi_NoneLet sci_NoneLet (.inl rfl) (.inl rfl) (by decide) (by decide) rfl TX.x_NoneLet.o TX.h_NoneLet
theorem bi_NoneLet : Binds K TX.di_NoneLet ["self", "paper"] [] := TX.Fi_NoneLet.binds (ps := ["self", "paper"]) fun _ _ _ _ _ _ us hl => match us, hl with | [_, _], _ => rfl
theorem oki_Jammed : FnOk P w K mg base CX0 1 TX.fi_Jammed TX.di_Jammed ["self", "link"] (spInit TX.c_Jammed "link") := ok_init TX.Fi_Jammed sci_Jammed (.inl rfl) (.inl rfl) (by decide) (by decide) rfl TX.x_Jammed.o TX.h_Jammed
theorem bi_Jammed : Binds K TX.di_Jammed ["self", "link"] [] := TX.Fi_Jammed.binds (ps := ["self", "link"]) fun _ _ _ _ _ _ us hl => match us, hl with | [_, _], _ => rfl
theorem oki_NoFlow : FnOk P w K mg base CX0 1 TX.fi_NoFlow TX.di_NoFlow ["self", "flow"] (spInit TX.c_NoFlow "flow") := ok_init TX.Fi_NoFlow sci_NoFlow (.inl rfl) (.inl rfl) (by decide) (by decide) rfl TX.x_NoFlow.o TX.h_NoFlow
theorem bi_NoFlow : Binds K TX.di_NoFlow ["self", "flow"] [] := TX.Fi_NoFlow.binds (ps := ["self", "flow"]) fun _ _ _ _ _ _ us hl => match us, hl with | [_, _], _ => rfl
theorem oki_NoLink : FnOk P w K mg base CX0 1 TX.fi_NoLink TX.di_NoLink ["self", "link"] (spInit TX.c_NoLink "link") := ok_init TX.Fi_NoLink sci_NoLink (.inl rfl) (.inl rfl) (by decide) (by decide) rfl TX.x_NoLink.o TX.h_NoLink
theorem bi_NoLink : Binds K TX.di_NoLink ["self", "link"] [] := TX.Fi_NoLink.binds (ps := ["self", "link"]) fun _ _ _ _ _ _ us hl => match us, hl with | [_, _], _ => rfl
theorem oki_NoOrder : FnOk P w K mg base CX0 1 TX.fi_NoOrder TX.di_NoOrder ["self", "number"] (spInit TX.c_NoOrder "number") := ok_init TX.Fi_NoOrder sci_NoOrder (.inl rfl) (.inl rfl) (by decide) (by decide) rfl TX.x_NoOrder.o TX.h_NoOrder
theorem bi_NoOrder : Binds K TX.di_NoOrder ["self", "number"] [] := TX.Fi_NoOrder.binds (ps := ["self", "number"]) fun _ _ _ _ _ _ us hl => match us, hl with | [_, _], _ => rfl
theorem oki_NoCommand : FnOk P w K mg base CX0 1 TX.fi_NoCommand TX.di_NoCommand ["self"] spInit0 := ok_init0 TX.Fi_NoCommand sci_NoCommand rfl
theorem bi_NoCommand : Binds K TX.di_NoCommand ["self"] [] := TX.Fi_NoCommand.binds (ps := ["self"]) fun _ _ _ _ _ _ us hl => match us, hl with | [_], _ => rfl
theorem b_l_bag : Binds K TX.d_l_bag ["_law_script"] [] := TX.F_l_bag.binds (ps := ["_law_script"]) fun _ _ _ _ _ _ us hl => match us, hl with | [_], _ => rfl
theorem ok_l_bag : FnOk P w K mg base CX0 1 TX.f_l_bag TX.d_l_bag ["_law_script"] (spBag K) := by
  have ma := TX.n_abs
  refine TX.F_l_bag.ok sc_l_bag (fun vs H Q E h => ?_) (fun cdv A outer s H vs Q E hr h => ?_)
  · obtain ⟨a, ns, rfl, _⟩ := h
    rfl
  · obtain ⟨a, ns, rfl, hS, q⟩ := h
    refine ⟨_, pss_one (ps_ret (pe_lst (pa_cons pe_int (pa_cons pe_int (pa_cons pe_int (pa_cons (pe_lc (own := [("_law_cell", 1)]) (g := gName 1) (tt := tYes) rfl sc_l_bag.nd
      (pi_list (pe_slice sl_list (pv 0) po_none (po_some pe_int))) (blkOk_by (own := [("_law_cell", 1)]) (N := ["_law_script", "_law_cell"]) (sc := defScope s_l_bag) (by decide +kernel))
      (fun _ _ _ _ _ => pg_name (i := 1) sc_l_bag.nd rfl (Or.inl rfl)) (fun _ _ _ _ _ => pts_nil) (fun _ _ _ _ _ => pe_callB call_abs (by rfl) ma (by decide +kernel) (pa_cons (pv 1) pa_nil))) pa_nil)))))), ?_⟩
    refine ⟨.ref a, rfl, 63, rfl, a, ns.map V.int, rfl, hS, fun p hp => ?_⟩
    obtain ⟨ms, em⟩ := cut_ints ns none (some 63)
    rw [em]
    have hP : SqL K (L2.upd H p (.lst (ms.map V.int))) p (ms.map V.int) := SqL.of upd_same
    refine ⟨p, rfl, ⟨_, hP⟩, fun D hD => ?_⟩
    have nDp : D ≠ p := fun z => by
      rw [z, upd_same] at hD
      cases hD
    have hD0 : H D = none := by rwa [upd_ne nDp] at hD
    refine lc_list (K := K) (a := p) (xs := ms.map V.int) (fun i H' => Same H H' ∧ H' p = some (.lst (ms.map V.int)) ∧ ∃ os : List Int, H' D = some (.lst (os.map V.int)) ∧ os.length = i) ?_ ?_ ?_ ?_
    · exact ⟨(same_upd hp).trans (same_upd hD), by rw [upd_ne nDp.symm, upd_same], [], upd_same, rfl⟩
    · exact fun i H' _ h => SqL.of h.2.1
    · rintro i x H' hx ⟨s1, e1, os, e2, e3⟩
      rw [List.getElem?_map] at hx
      cases e4 : ms[i]? with
      | none => rw [e4] at hx; cases hx
      | some m =>
        rw [e4] at hx
        cases hx
        refine ⟨rfl, ?_⟩
        refine ⟨.int m, rfl, m, rfl, os.map V.int, e2, ?_, ?_, ?_, os ++ [if m < 0 then -m else m], ?_, ?_⟩
        · have := (List.getElem?_eq_some_iff.mp e4).1
          have h2 : (ms.map V.int).length ≤ 63 := by
            rw [← em]
            unfold cutV
            rw [List.length_take, show HT.sIx (ns.map V.int).length (ns.map V.int).length (some 63) = min 63 (ns.map V.int).length from HT.sIx_nat _ _ 63]
            omega
          rw [List.length_map] at h2 ⊢
          exact small1000 (by omega)
        · exact fun b o h => by
            rw [upd_ne (ne_of_none h hD0)]
            exact s1 b o h
        · rw [upd_ne nDp.symm]
          exact e1
        · rw [upd_same, List.map_append]
          rfl
        · rw [List.length_append, e3]
          rfl
    · rintro H' ⟨s1, e1, os, e2, e3⟩
      refine ⟨by show 4 ≤ sizeLine; decide, fun b hb => ?_⟩
      have nbD : b ≠ D := fun z => by
        rw [z, e2] at hb
        cases hb
      refine q _ b D (s1.trans (same_upd hb)) (s1.free hb) hD0 nbD ⟨0, 1234567891, 0, os, ?_, upd_same, ?_⟩
      · rw [e3, ← em]
        unfold cutV
        rw [List.length_take, show HT.sIx (ns.map V.int).length (ns.map V.int).length (some 63) = min 63 (ns.map V.int).length from HT.sIx_nat _ _ 63]
        omega
      rw [upd_ne nbD.symm]
      exact e2
theorem b_l_take : Binds K TX.d_l_take ["_law_bag_here", "_law_many"] [] := TX.F_l_take.binds (ps := ["_law_bag_here", "_law_many"]) fun _ _ _ _ _ _ us hl => match us, hl with | [_, _], _ => rfl
theorem ok_l_take : FnG P w K mg base 1 TX.f_l_take TX.d_l_take ["_law_bag_here", "_law_many"] (spD K T_l_take) := by
  have mi := TX.n_int
  refine FnOk.g (TX.F_l_take.ok sc_l_take (fun vs H Q E h => ?_) (fun cdv A outer s H vs Q E hr h => ?_))
  · obtain ⟨hs, bg, rs, P', _, _, ar, ⟨m, rfl, _⟩, _⟩ := h
    exact (paired_len ar : vs.length = 2)
  · obtain ⟨hs, bg, rs, P', tr, bn, ar, ⟨m, rfl, m0, m1, hP⟩, kk⟩ := h
    obtain ⟨b, c, hbg, rfl⟩ : ∃ b c, bg = some (b, c) ∧ vs = [.ref b, .int m] := by
      cases ar with
      | cons a1 a2 =>
        cases a2 with
        | cons a2 a3 =>
          cases a3
          obtain ⟨b, c, e1, rfl⟩ := a1
          cases a2
          exact ⟨b, c, e1, rfl⟩
    subst hbg
    obtain ⟨hbs, hcs, hbc, x0, y0, z0, ns, hns, eb, ec⟩ := bn b c rfl
    have ncb : c ≠ b := hbc.symm
    have fin : ∀ (r : Int) (H' : Hp) (x y z : Int), (∀ a o, a ≠ b → H a = some o → H' a = some o) → H' b = some (.lst [.int x, .int y, .int z, .ref c]) → 0 ≤ r → r < m → Q (.int r) H' := fun r H' x y z hk e h0 h1 =>
      kk (.int r) H' (.dat (.int r)) (hP r h0 h1) (fun a o n h => hk a o (n b c rfl) h) (fun b' c' q => by
        cases q
        exact ⟨hbs, hcs, hbc, x, y, z, ns, hns, e, hk c _ ncb ec⟩) (Dp.int r) rfl
    refine ⟨_, Evl.pss_cut (ps_if (pt_cmpR op_eq (pe_ix ix_list (pv 0) pe_int (fun _ _ => rfl)) pe_int (nomark _))
        (pss_cons (ps_set (i := 2) sc_l_take.nd rfl (.inl rfl) (pe_ix ix_list (pe_op op_cat (pe_slice sl_list (pe_ix ix_list (pv 0) pe_int (fun _ _ => rfl)) (po_some (pe_ix ix_list (pv 0) pe_int (fun _ _ => rfl))) po_none) (pe_lst (pa_cons pe_int pa_nil))) pe_int (fun _ _ => rfl)))
        (pss_cons (ps_augS (pv 0) pe_int get_list pe_int ip_add set_list)
        (Evl.pss_cut (ps_if (pt_cmpR op_ge (pv 2) (pe_op op_pow pe_int pe_int) (nomark _)) (pss_one (ps_asg (pv 2) (pg_sub (pv 0) pe_int set_list))) pss_nil)
        (pss_cons (ps_set (i := 3) sc_l_take.nd rfl (.inl rfl) (pe_op op_add (pe_op op_add (pe_op op_mul (pe_ix ix_list (pv 0) pe_int (fun _ _ => rfl)) pe_int) (pe_op op_mod (pe_callTy call_int1 (by rfl) mi boot_int (pa_cons (pv 2) pa_nil)) pe_int)) (pe_op op_mul pe_int (pe_ix ix_list (pv 0) pe_int (fun _ _ => rfl)))))
        (pss_one (ps_asg (pe_op op_mod (pe_callTy call_int1 (by rfl) mi boot_int (pa_cons (pv 3) pa_nil)) pe_int) (pg_sub (pv 0) pe_int set_list))))))) pss_nil)
      (pss_cons (ps_if (pt_cmpR op_gt (pe_ix ix_list (pv 0) pe_int (fun _ _ => rfl)) pe_int (nomark _))
        (pss_cons (ps_set (i := 4) sc_l_take.nd rfl (.inl rfl) (pe_op op_modA (pe_callTy call_int1 (by rfl) mi boot_int (pa_cons (pe_ix ix_list (pv 0) pe_int (fun _ _ => rfl)) pa_nil)) (pv 1)))
        (pss_cons (ps_asg (pe_op op_fdivA (pe_callTy call_int1 (by rfl) mi boot_int (pa_cons (pe_ix ix_list (pv 0) pe_int (fun _ _ => rfl)) pa_nil)) (pv 1)) (pg_sub (pv 0) pe_int set_list))
        (pss_one (ps_ret (pv 4))))) pss_nil)
      (pss_cons (ps_set (i := 5) sc_l_take.nd rfl (.inl rfl) (pe_op op_mod (pe_callTy call_int1 (by rfl) mi boot_int (pa_cons (pe_op op_mul (pe_op op_add (pe_ix ix_list (pv 0) pe_int (fun _ _ => rfl)) pe_int) pe_int) pa_nil)) pe_int))
      (pss_cons (ps_set (i := 6) sc_l_take.nd rfl (.inl rfl) (pe_op op_mod (pe_callTy call_int1 (by rfl) mi boot_int (pa_cons (pe_op op_mul (pe_op op_mod (pe_callTy call_int1 (by rfl) mi boot_int (pa_cons (pe_op op_mul (pv 5) (pv 5)) pa_nil)) pe_int) pe_int) pa_nil)) pe_int))
      (pss_one (ps_ret (pe_op op_modA (pe_callTy call_int1 (by rfl) mi boot_int (pa_cons (pe_op op_fdiv (pv 6) pe_int) pa_nil)) (pv 1))))))), ?_⟩
    refine ⟨fun σ' H' => ∃ v2 v3 x y z, σ' = [some (.ref b), some (.int m), v2, v3, none, none, none] ∧ (∀ a o, a ≠ b → H a = some o → H' a = some o) ∧ H' b = some (.lst [.int x, .int y, .int z, .ref c]), ?_, fun σ' H' hM => ?_⟩
    · refine ⟨.ref b, rfl, b, _, 0, .int x0, rfl, rfl, SqL.of eb, rfl, rfl, _, rfl, ite2 (fun h0 => ?_) (fun h0 => ⟨none, none, x0, y0, z0, rfl, fun _ _ _ h => h, eb⟩)⟩
      refine ⟨.ref b, rfl, b, _, 3, .ref c, rfl, rfl, SqL.of eb, rfl, .ref b, rfl, b, _, 2, .int z0, rfl, rfl, SqL.of eb, rfl, z0, rfl, c, _, rfl, SqL.of ec, fun p hp => ⟨by show 1 ≤ sizeLine; decide, fun p2 hp2 => ?_⟩⟩
      have n21 : p2 ≠ p := fun z => by
        rw [z, upd_same] at hp2
        cases hp2
      have hp2' : H p2 = none := by rwa [upd_ne n21] at hp2
      obtain ⟨cell, hcell⟩ := cut_at ns z0
      refine ⟨p, p2, _, _, rfl, rfl, by rw [upd_ne n21.symm, upd_same], upd_same, ?_, fun p3 hp3 => ?_⟩
      · have h1 : (cutV (ns.map V.int) (some z0) none).length ≤ (ns.map V.int).length := by
          unfold cutV
          rw [List.length_take, List.length_drop]
          omega
        have h2 : (ns.map V.int).length ≤ 999 := by rw [List.length_map]; omega
        show _ + 1 ≤ sizeLine
        exact small1000 (n := (cutV (ns.map V.int) (some z0) none).length + 1 ) (by omega) |> Nat.le_of_lt
      have n3 : ∀ a, H a ≠ none → a ≠ p3 := fun a ha z => by
        rw [← z] at hp3
        by_cases h2 : a = p2
        · rw [h2, upd_same] at hp3
          cases hp3
        · rw [upd_ne h2] at hp3
          by_cases h1 : a = p
          · rw [h1, upd_same] at hp3
            cases hp3
          · rw [upd_ne h1] at hp3
            exact ha hp3
      refine ⟨p3, _, 0, .int cell, rfl, rfl, SqL.of upd_same, hcell, ?_⟩
      have s3 : Same H (L2.upd (L2.upd (L2.upd H p (.lst (cutV (ns.map V.int) (some z0) none))) p2 (.lst [.int 0])) p3 (.lst (cutV (ns.map V.int) (some z0) none ++ [.int 0]))) :=
        ((same_upd hp).trans (same_upd hp2)).trans (same_upd hp3)
      generalize (L2.upd (L2.upd (L2.upd H p (.lst (cutV (ns.map V.int) (some z0) none))) p2 (.lst [.int 0])) p3 (.lst (cutV (ns.map V.int) (some z0) none ++ [.int 0]))) = H1 at s3
      have eb1 := s3 _ _ eb
      have ec1 := s3 _ _ ec
      refine ⟨.ref b, rfl, b, _, 2, .int z0, rfl, rfl, SqL.of eb1, rfl, z0, 1, rfl, rfl, b, _, 2, 2, rfl, rfl, eb1, rfl, ?_⟩
      have eb2 : (L2.upd H1 b (.lst [.int x0, .int y0, .int (z0 + 1), .ref c])) b = some (.lst [.int x0, .int y0, .int (z0 + 1), .ref c]) := upd_same
      have k2 : ∀ a o, a ≠ b → H a = some o → (L2.upd H1 b (.lst [.int x0, .int y0, .int (z0 + 1), .ref c])) a = some o := fun a o n h => by
        rw [upd_ne n]
        exact s3 a o h
      refine ⟨fun σ' H' => ∃ x, σ' = [some (.ref b), some (.int m), some (.int cell), none, none, none, none] ∧ (∀ a o, a ≠ b → H a = some o → H' a = some o) ∧ H' b = some (.lst [.int x, .int y0, .int (z0 + 1), .ref c]), ?_, fun σ' H' hM => ?_⟩
      · refine ⟨.int cell, rfl, 10, 18, rfl, rfl, ⟨by decide, by decide, by decide⟩, cell, _, rfl, rfl, _, rfl, ite2 (fun h0 => ?_) (fun h0 => ⟨x0, rfl, k2, eb2⟩)⟩
        refine ⟨.int cell, rfl, .ref b, rfl, b, _, 0, 0, rfl, rfl, eb2, rfl, cell, rfl, fun a o n h => ?_, upd_same⟩
        rw [upd_ne n]
        exact k2 a o n h
      · obtain ⟨x, rfl, hk, hb⟩ := hM
        refine ⟨.ref b, rfl, b, _, 1, .int y0, rfl, rfl, SqL.of hb, rfl, y0, 48271, rfl, rfl, .inr (by decide), .int cell, rfl, .inl ⟨cell, rfl, cell, _, rfl, rfl, (by decide : (0 : Int) < 2147483647), _, _, rfl, rfl, .ref b, rfl, b, _, 2, .int (z0 + 1), rfl, rfl, SqL.of hb, rfl, _, _, rfl, rfl, .inl (by decide), _, _, rfl, rfl, ?_⟩⟩
        refine ⟨.int _, rfl, .inl ⟨_, rfl, _, _, rfl, rfl, (by decide : (0 : Int) < 2147483647), .ref b, rfl, b, _, 1, 1, rfl, rfl, hb, rfl, _, _, x, _, z0 + 1, rfl, fun a o n h => ?_, upd_same⟩⟩
        rw [upd_ne n]
        exact hk a o n h
    · obtain ⟨v2, v3, x, y, z, rfl, hk, hb⟩ := hM
      refine ⟨.ref b, rfl, b, _, 0, .int x, rfl, rfl, SqL.of hb, rfl, x, 0, rfl, rfl, _, rfl, ite2 (fun h0 => ?_) (fun h0 => ?_)⟩
      · 
        refine ⟨.ref b, rfl, b, _, 0, .int x, rfl, rfl, SqL.of hb, rfl, .inl ⟨x, rfl, .int m, rfl, x, m, rfl, rfl, by omega, ?_⟩⟩
        refine ⟨.ref b, rfl, b, _, 0, .int x, rfl, rfl, SqL.of hb, rfl, .inl ⟨x, rfl, .int m, rfl, x, m, rfl, rfl, ⟨by omega, ?_⟩, ?_⟩⟩
        · exact log_small (by omega) (by omega)
        refine ⟨.ref b, rfl, b, _, 0, 0, rfl, rfl, hb, rfl, ?_⟩
        refine ⟨.int (x.fmod m), rfl, fin _ _ (x.fdiv m) y z (fun a o n h => ?_) upd_same (emod_lt' m0).1 (emod_lt' m0).2⟩
        rw [upd_ne n]
        exact hk a o n h
      · have pos : ∀ j : Int, 0 < j → ∀ i : Int, 0 ≤ i % j ∧ i % j < j := fun j h i => ⟨Int.emod_nonneg _ (by omega), Int.emod_lt_of_pos _ h⟩
        have p1 := pos 1000000007 (by decide) ((y + 1) * 39373)
        refine ⟨.ref b, rfl, b, _, 1, .int y, rfl, rfl, SqL.of hb, rfl, y, 1, rfl, rfl, y + 1, 39373, rfl, rfl, .inr (by decide), .inl ⟨_, rfl, _, _, rfl, rfl, (by decide : (0 : Int) < 1000000007), ?_⟩⟩
        refine ⟨.int ((y + 1) * 39373 % 1000000007), rfl, .int ((y + 1) * 39373 % 1000000007), rfl, _, _, rfl, rfl, .inl ⟨by omega, by omega⟩, .inl ⟨_, rfl, _, _, rfl, rfl, (by decide : (0 : Int) < 998244353), ?_⟩⟩
        refine ⟨_, 30011, rfl, rfl, .inr (by decide), .inl ⟨_, rfl, _, _, rfl, rfl, (by decide : (0 : Int) < 998244353), ?_⟩⟩
        exact ⟨.int _, rfl, _, 7, rfl, rfl, ⟨by decide, by decide⟩, .inl ⟨_, rfl, .int m, rfl, _, _, rfl, rfl, by omega, fin _ _ x y z hk hb (emod_lt' m0).1 (emod_lt' m0).2⟩⟩
theorem b_l_one : Binds K TX.d_l_one ["_law_bag_here", "_law_things"] [] := TX.F_l_one.binds (ps := ["_law_bag_here", "_law_things"]) fun _ _ _ _ _ _ us hl => match us, hl with | [_, _], _ => rfl
theorem ok_l_one : FnG P w K mg base 2 TX.f_l_one TX.d_l_one ["_law_bag_here", "_law_things"] (spD K T_l_one) :=
  fnD (tb := tb_l_one) TX.F_l_one sc_l_one len_l_one (fun cdv A outer s H Y hr hg =>
    (xss_one (xs_ret (xe_ix (xe_var (pv 1)) (xe_call (ok_l_take TX) (hr.mono (by decide)) hg (by rfl) TX.m_l_take TX.F_l_take.kp (b_l_take TX) (xa_cons (xe_var (pv 0)) (xa_cons (xe_callB call_len_seq lift_len (by rfl) TX.n_len (by decide +kernel) (xa_cons (xe_var (pv 1)) xa_nil)) xa_nil))) (fun _ _ => rfl))))) spec_l_one
theorem b_l_odd : Binds K TX.d_l_odd ["_law_bag_here"] [] := TX.F_l_odd.binds (ps := ["_law_bag_here"]) fun _ _ _ _ _ _ us hl => match us, hl with | [_], _ => rfl
theorem ok_l_odd : FnG P w K mg base 3 TX.f_l_odd TX.d_l_odd ["_law_bag_here"] (spD K T_l_odd) :=
  fnD (tb := tb_l_odd) TX.F_l_odd sc_l_odd len_l_odd (fun cdv A outer s H Y hr hg =>
    (xss_cons (xs_set (i := 1) sc_l_odd.nd rfl (.inl rfl) (xe_lst (xa_cons xe_non (xa_cons xe_bl (xa_cons xe_bl (xa_cons xe_int (xa_cons xe_int (xa_cons (xe_neg xe_int) (xa_cons (xe_pow xe_int xe_int) (xa_cons xe_str (xa_cons xe_str (xa_cons (xe_tup xa_nil) (xa_cons (xe_lst xa_nil) (xa_cons xe_dct0 (xa_cons (xe_tup (xa_cons xe_int (xa_cons xe_int xa_nil))) (xa_cons (xe_tup (xa_cons xe_int (xa_cons xe_int xa_nil))) (xa_cons (xe_tup (xa_cons xe_int (xa_cons xe_int xa_nil))) (xa_cons (xe_tup (xa_cons xe_int (xa_cons xe_int xa_nil))) (xa_cons (xe_tup (xa_cons (xe_neg xe_int) (xa_cons xe_int xa_nil))) xa_nil))))))))))))))))))) (xss_one (xs_ret (xe_call (ok_l_one TX) (hr.mono (by decide)) hg (by rfl) TX.m_l_one TX.F_l_one.kp (b_l_one TX) (xa_cons (xe_var (pv 0)) (xa_cons (xe_add (xe_var (pv 1)) (xe_lst (xa_cons (xe_tup (xa_cons xe_int (xa_cons xe_bl xa_nil))) (xa_cons (xe_tup (xa_cons (xe_tup (xa_cons xe_int (xa_cons xe_int xa_nil))) xa_nil)) (xa_cons (xe_lst (xa_cons (xe_tup (xa_cons xe_int (xa_cons xe_int xa_nil))) xa_nil)) (xa_cons (xe_tup (xa_cons (xe_tup (xa_cons (xe_tup (xa_cons xe_int (xa_cons xe_int xa_nil))) xa_nil)) (xa_cons (xe_tup xa_nil) xa_nil))) (xa_cons (xe_tup (xa_cons (xe_tup xa_nil) (xa_cons (xe_tup xa_nil) xa_nil))) (xa_cons xe_dctT (xa_cons xe_str xa_nil))))))))) xa_nil))))))) spec_l_odd
theorem b_l_built : Binds K TX.d_l_built ["_law_one_here", "_law_other"] [] := TX.F_l_built.binds (ps := ["_law_one_here", "_law_other"]) fun _ _ _ _ _ _ us hl => match us, hl with | [_, _], _ => rfl
def Errs (H : Hp) (es : List Addr) (x y : V) : Prop := ∃ e0 e1 e2 e3 e4 e5 e6 e7 e8 : Addr, es = [e0, e1, e2, e3, e4, e5, e6, e7, e8] ∧ ErrAt H e0 TX.c_Wrong "place" x ∧ ErrAt H e1 TX.c_NoText "line" y ∧ ErrAt H e2 TX.c_TooMany "most" x ∧
  ErrAt H e3 TX.c_NoneLet "paper" y ∧ ErrAt H e4 TX.c_Jammed "link" x ∧ ErrAt H e5 TX.c_NoFlow "flow" y ∧ ErrAt H e6 TX.c_NoLink "link" x ∧ ErrAt H e7 TX.c_NoOrder "number" y ∧ H e8 = some (exo e8 TX.c_NoCommand none)
theorem Errs.keep {H H' : Hp} {es : List Addr} {x y : V} (h : Errs TX H es x y) (e : KeepX H H') : Errs TX H' es x y := by
  obtain ⟨e0, e1, e2, e3, e4, e5, e6, e7, e8, rfl, h0, h1, h2, h3, h4, h5, h6, h7, h8⟩ := h
  exact ⟨e0, e1, e2, e3, e4, e5, e6, e7, e8, rfl, h0.keep e, h1.keep e, h2.keep e, h3.keep e, h4.keep e, h5.keep e, h6.keep e, h7.keep e, e _ _ h8⟩
def spBuilt : Sp := fun vs H Q _ => ∃ x y : V, vs = [x, y] ∧ ∀ (p : Addr) (es : List Addr) (H' : Hp), Same H H' → H p = none → H' p = some (.lst (es.map V.ref)) → Errs TX H' es x y → Q (.ref p) H'
theorem ok_l_built : FnG P w K mg base 3 TX.f_l_built TX.d_l_built ["_law_one_here", "_law_other"] (spBuilt TX) := by
  refine fnG_of TX.F_l_built sc_l_built (fun vs H Q E ⟨x, y, e, _⟩ => by rw [e]; rfl) fun cdv A outer s H vs Q hr hg ⟨x, y, e, q⟩ => ?_
  subst e
  refine ⟨_, pss_cons (ps_set (i := 2) sc_l_built.nd rfl (.inl rfl) (pe_lst
      (pa_cons (pe_oexV TX.x_Wrong.o TX.i_Wrong TX.t_Wrong (oki_Wrong TX) (hr.mono (by decide)) (bi_Wrong TX) (fun _ _ _ _ _ _ _ h => False.elim h) (by rfl) TX.mc_Wrong (pa_cons (pv 0) pa_nil))
      (pa_cons (pe_oexV TX.x_NoText.o TX.i_NoText TX.t_NoText (oki_NoText TX) (hr.mono (by decide)) (bi_NoText TX) (fun _ _ _ _ _ _ _ h => False.elim h) (by rfl) TX.mc_NoText (pa_cons (pv 1) pa_nil))
      (pa_cons (pe_oexV TX.x_TooMany.o TX.i_TooMany TX.t_TooMany (oki_TooMany TX) (hr.mono (by decide)) (bi_TooMany TX) (fun _ _ _ _ _ _ _ h => False.elim h) (by rfl) TX.mc_TooMany (pa_cons (pv 0) pa_nil))
      (pa_cons (pe_oexV TX.x_NoneLet.o TX.i_NoneLet TX.t_NoneLet (oki_NoneLet TX) (hr.mono (by decide)) (bi_NoneLet TX) (fun _ _ _ _ _ _ _ h => False.elim h) (by rfl) TX.mc_NoneLet (pa_cons (pv 1) pa_nil))
      (pa_cons (pe_oexV TX.x_Jammed.o TX.i_Jammed TX.t_Jammed (oki_Jammed TX) (hr.mono (by decide)) (bi_Jammed TX) (fun _ _ _ _ _ _ _ h => False.elim h) (by rfl) TX.mc_Jammed (pa_cons (pv 0) pa_nil))
      (pa_cons (pe_oexV TX.x_NoFlow.o TX.i_NoFlow TX.t_NoFlow (oki_NoFlow TX) (hr.mono (by decide)) (bi_NoFlow TX) (fun _ _ _ _ _ _ _ h => False.elim h) (by rfl) TX.mc_NoFlow (pa_cons (pv 1) pa_nil))
      (pa_cons (pe_oexV TX.x_NoLink.o TX.i_NoLink TX.t_NoLink (oki_NoLink TX) (hr.mono (by decide)) (bi_NoLink TX) (fun _ _ _ _ _ _ _ h => False.elim h) (by rfl) TX.mc_NoLink (pa_cons (pv 0) pa_nil)) pa_nil)))))))))
    (pss_one (ps_ret (pe_op op_cat (pv 2) (pe_lst
      (pa_cons (pe_oexV TX.x_NoOrder.o TX.i_NoOrder TX.t_NoOrder (oki_NoOrder TX) (hr.mono (by decide)) (bi_NoOrder TX) (fun _ _ _ _ _ _ _ h => False.elim h) (by rfl) TX.mc_NoOrder (pa_cons (pv 1) pa_nil))
      (pa_cons (pe_oexV0 TX.x_NoCommand.o TX.i_NoCommand TX.t_NoCommand (oki_NoCommand TX) (hr.mono (by decide)) (bi_NoCommand TX) (fun _ _ _ _ _ _ _ h => False.elim h) (by rfl) TX.mc_NoCommand) pa_nil)))))), ?_⟩
  dsimp only [tSeq, tAsg, tLst]
  refine mkv_cons (v := x) rfl ?_
  intro e0 H0 s0 n0 E0
  refine mkv_cons (v := y) rfl ?_
  intro e1 H1 s1 n1 E1
  refine mkv_cons (v := x) rfl ?_
  intro e2 H2 s2 n2 E2
  refine mkv_cons (v := y) rfl ?_
  intro e3 H3 s3 n3 E3
  refine mkv_cons (v := x) rfl ?_
  intro e4 H4 s4 n4 E4
  refine mkv_cons (v := y) rfl ?_
  intro e5 H5 s5 n5 E5
  refine mkv_cons (v := x) rfl ?_
  intro e6 H6 s6 n6 E6
  refine ⟨Nat.le_of_ble_eq_true rfl, fun l nl => ?_⟩
  refine ⟨.ref l, rfl, ?_⟩
  dsimp only [tLst]
  refine mkv_cons (v := y) rfl ?_
  intro e7 H7 s7 n7 E7
  intro e8 n8
  refine ⟨e8, rfl, rfl, ?_⟩
  refine ⟨Nat.le_of_ble_eq_true rfl, fun m nm => ⟨l, m, [.ref e0, .ref e1, .ref e2, .ref e3, .ref e4, .ref e5, .ref e6], _, rfl, rfl, ?_, upd_same, Nat.le_of_ble_eq_true rfl, fun p np => ?_⟩⟩
  · exact (same_upd nm) _ _ ((same_upd n8) _ _ (s7 _ _ upd_same))
  have sl := same_upd (o := HO.lst [.ref e0, .ref e1, .ref e2, .ref e3, .ref e4, .ref e5, .ref e6]) nl
  have sa := (same_upd (o := HO.lst [.ref e7, .ref e8]) nm).trans (same_upd (o := HO.lst ([.ref e0, .ref e1, .ref e2, .ref e3, .ref e4, .ref e5, .ref e6] ++ [.ref e7, .ref e8])) np)
  have sp0 := (same_upd (o := exo e8 TX.c_NoCommand none) n8).trans (same_upd (o := HO.lst [.ref e7, .ref e8]) nm)
  have sp := sp0.trans (same_upd (o := HO.lst ([.ref e0, .ref e1, .ref e2, .ref e3, .ref e4, .ref e5, .ref e6] ++ [.ref e7, .ref e8])) np)
  have s6' := (sl.trans s7).trans sp
  have s5' := s6.trans s6'
  have s4' := s5.trans s5'
  have s3' := s4.trans s4'
  have s2' := s3.trans s3'
  have s1' := s2.trans s2'
  have s0' := s1.trans s1'
  have sm := s0.trans s0'
  have sb := s0.trans (s1.trans (s2.trans (s3.trans (s4.trans (s5.trans (s6.trans ((sl.trans s7).trans sp0)))))))
  exact q p [e0, e1, e2, e3, e4, e5, e6, e7, e8] _ sm (none_back sb np) upd_same
    ⟨e0, e1, e2, e3, e4, e5, e6, e7, e8, rfl, E0.same s0', E1.same s1', E2.same s2', E3.same s3', E4.same s4', E5.same s5', E6.same s6', E7.same sp, sa _ _ upd_same⟩
theorem b_l_classes : Binds K TX.d_l_classes ["_law_error"] [] := TX.F_l_classes.binds (ps := ["_law_error"]) fun _ _ _ _ _ _ us hl => match us, hl with | [_], _ => rfl
def spClasses : Sp := fun vs H Q _ => ∃ (a C : Addr) (b0 b1 b2 b3 b4 b5 b6 b7 b8 : Bool), vs = [.ref a] ∧ InsAt H a C ∧ ErrC K C ∧ (PySem.W.kitOne K (.ref C) (.ref TX.c_Wrong) = some b0 ∧ PySem.W.kitOne K (.ref C) (.ref TX.c_NoText) = some b1 ∧ PySem.W.kitOne K (.ref C) (.ref TX.c_TooMany) = some b2 ∧
  PySem.W.kitOne K (.ref C) (.ref TX.c_NoneLet) = some b3 ∧ PySem.W.kitOne K (.ref C) (.ref TX.c_Jammed) = some b4 ∧ PySem.W.kitOne K (.ref C) (.ref TX.c_NoFlow) = some b5 ∧ PySem.W.kitOne K (.ref C) (.ref TX.c_NoLink) = some b6 ∧ PySem.W.kitOne K (.ref C) (.ref TX.c_NoOrder) = some b7 ∧ PySem.W.kitOne K (.ref C) (.ref TX.c_NoCommand) = some b8) ∧
  ∀ p H', Same H H' → H p = none → H' p = some (.lst [.bl b0, .bl b1, .bl b2, .bl b3, .bl b4, .bl b5, .bl b6, .bl b7, .bl b8]) → Q (.ref p) H'
theorem ok_l_classes : FnG P w K mg base 3 TX.f_l_classes TX.d_l_classes ["_law_error"] (spClasses TX) := by
  refine fnG_of TX.F_l_classes sc_l_classes (fun vs H Q E ⟨a, C, b0, b1, b2, b3, b4, b5, b6, b7, b8, e, _⟩ => by rw [e]; rfl) fun cdv A outer s H vs Q hr hg ⟨a, C, b0, b1, b2, b3, b4, b5, b6, b7, b8, e, ha, hC, ⟨k0, k1, k2, k3, k4, k5, k6, k7, k8⟩, q⟩ => ?_
  subst e
  refine ⟨_, pss_cons (ps_set (i := 1) sc_l_classes.nd rfl (.inl rfl) (pe_lst (pa_cons (pe_callB call_isX (by rfl) TX.n_isinstance PyProof.Rows.boot_isinstance (pa_cons (pv 0) (pa_cons (pe_glob (v := .ref TX.c_Wrong) (by rfl) TX.mc_Wrong rfl) pa_nil))) (pa_cons (pe_callB call_isX (by rfl) TX.n_isinstance PyProof.Rows.boot_isinstance (pa_cons (pv 0) (pa_cons (pe_glob (v := .ref TX.c_NoText) (by rfl) TX.mc_NoText rfl) pa_nil))) (pa_cons (pe_callB call_isX (by rfl) TX.n_isinstance PyProof.Rows.boot_isinstance (pa_cons (pv 0) (pa_cons (pe_glob (v := .ref TX.c_TooMany) (by rfl) TX.mc_TooMany rfl) pa_nil))) pa_nil)))))
    (pss_cons (ps_set (i := 1) sc_l_classes.nd rfl (.inl rfl) (pe_op op_cat (pv 1) (pe_lst (pa_cons (pe_callB call_isX (by rfl) TX.n_isinstance PyProof.Rows.boot_isinstance (pa_cons (pv 0) (pa_cons (pe_glob (v := .ref TX.c_NoneLet) (by rfl) TX.mc_NoneLet rfl) pa_nil))) (pa_cons (pe_callB call_isX (by rfl) TX.n_isinstance PyProof.Rows.boot_isinstance (pa_cons (pv 0) (pa_cons (pe_glob (v := .ref TX.c_Jammed) (by rfl) TX.mc_Jammed rfl) pa_nil))) (pa_cons (pe_callB call_isX (by rfl) TX.n_isinstance PyProof.Rows.boot_isinstance (pa_cons (pv 0) (pa_cons (pe_glob (v := .ref TX.c_NoFlow) (by rfl) TX.mc_NoFlow rfl) pa_nil))) pa_nil))))))
    (pss_one (ps_ret (pe_op op_cat (pv 1) (pe_lst (pa_cons (pe_callB call_isX (by rfl) TX.n_isinstance PyProof.Rows.boot_isinstance (pa_cons (pv 0) (pa_cons (pe_glob (v := .ref TX.c_NoLink) (by rfl) TX.mc_NoLink rfl) pa_nil))) (pa_cons (pe_callB call_isX (by rfl) TX.n_isinstance PyProof.Rows.boot_isinstance (pa_cons (pv 0) (pa_cons (pe_glob (v := .ref TX.c_NoOrder) (by rfl) TX.mc_NoOrder rfl) pa_nil))) (pa_cons (pe_callB call_isX (by rfl) TX.n_isinstance PyProof.Rows.boot_isinstance (pa_cons (pv 0) (pa_cons (pe_glob (v := .ref TX.c_NoCommand) (by rfl) TX.mc_NoCommand rfl) pa_nil))) pa_nil)))))))), ?_⟩
  refine ⟨.ref a, rfl, a, C, _, _, _, rfl, ha, hC, .own _, k0, .ref a, rfl, a, C, _, _, _, rfl, ha, hC, .own _, k1, .ref a, rfl, a, C, _, _, _, rfl, ha, hC, .own _, k2, Nat.le_of_ble_eq_true rfl, fun l nl => ?_⟩
  have s1 := same_upd (o := HO.lst [.bl b0, .bl b1, .bl b2]) nl
  have ha1 := ha.keep (.of s1)
  refine ⟨.ref l, rfl, .ref a, rfl, a, C, _, _, _, rfl, ha1, hC, .own _, k3, .ref a, rfl, a, C, _, _, _, rfl, ha1, hC, .own _, k4, .ref a, rfl, a, C, _, _, _, rfl, ha1, hC, .own _, k5, Nat.le_of_ble_eq_true rfl, fun l2 nl2 => ⟨l, l2, [.bl b0, .bl b1, .bl b2], _, rfl, rfl, (same_upd nl2) _ _ upd_same, upd_same, Nat.le_of_ble_eq_true rfl, fun l3 nl3 => ?_⟩⟩
  have s2 := (same_upd (o := HO.lst [.bl b3, .bl b4, .bl b5]) nl2).trans (same_upd (o := HO.lst ([.bl b0, .bl b1, .bl b2] ++ [.bl b3, .bl b4, .bl b5])) nl3)
  have ha2 := ha1.keep (.of s2)
  refine ⟨.ref l3, rfl, .ref a, rfl, a, C, _, _, _, rfl, ha2, hC, .own _, k6, .ref a, rfl, a, C, _, _, _, rfl, ha2, hC, .own _, k7, .ref a, rfl, a, C, _, _, _, rfl, ha2, hC, .own _, k8, Nat.le_of_ble_eq_true rfl, fun l4 nl4 => ⟨l3, l4, [.bl b0, .bl b1, .bl b2] ++ [.bl b3, .bl b4, .bl b5], _, rfl, rfl, (same_upd nl4) _ _ upd_same, upd_same, Nat.le_of_ble_eq_true rfl, fun p np => ?_⟩⟩
  have s3 := same_upd (o := HO.lst [.bl b6, .bl b7, .bl b8]) nl4
  have s4 := same_upd (o := HO.lst (([.bl b0, .bl b1, .bl b2] ++ [.bl b3, .bl b4, .bl b5]) ++ [.bl b6, .bl b7, .bl b8])) np
  exact q p _ ((s1.trans s2).trans (s3.trans s4)) (none_back ((s1.trans s2).trans s3) np) upd_same
theorem b_l_are_apart : Binds K TX.d_l_are_apart ["_law_some"] [] := TX.F_l_are_apart.binds (ps := ["_law_some"]) fun _ _ _ _ _ _ us hl => match us, hl with | [_], _ => rfl
def clsB (i : Nat) : List PyData := [.bool (decide (0 = i)), .bool (decide (1 = i)), .bool (decide (2 = i)), .bool (decide (3 = i)), .bool (decide (4 = i)), .bool (decide (5 = i)), .bool (decide (6 = i)), .bool (decide (7 = i)), .bool (decide (8 = i))]
theorem errs_at {H : Hp} {es : List Addr} {x y v : V} {i : Nat} (h : Errs TX H es x y) (e : (es.map V.ref)[i]? = some v) : ∃ e C : Addr, v = .ref e ∧ i < 9 ∧ InsAt H e C ∧ ErrC K C ∧ PySem.W.kitOne K (.ref C) (.ref TX.c_JamError) = some true ∧ PySem.W.kitOne K (.ref C) (.type "ValueError") = some true ∧
    (PySem.W.kitOne K (.ref C) (.ref TX.c_Wrong) = some (decide (0 = i)) ∧ PySem.W.kitOne K (.ref C) (.ref TX.c_NoText) = some (decide (1 = i)) ∧ PySem.W.kitOne K (.ref C) (.ref TX.c_TooMany) = some (decide (2 = i)) ∧
    PySem.W.kitOne K (.ref C) (.ref TX.c_NoneLet) = some (decide (3 = i)) ∧ PySem.W.kitOne K (.ref C) (.ref TX.c_Jammed) = some (decide (4 = i)) ∧ PySem.W.kitOne K (.ref C) (.ref TX.c_NoFlow) = some (decide (5 = i)) ∧ PySem.W.kitOne K (.ref C) (.ref TX.c_NoLink) = some (decide (6 = i)) ∧ PySem.W.kitOne K (.ref C) (.ref TX.c_NoOrder) = some (decide (7 = i)) ∧ PySem.W.kitOne K (.ref C) (.ref TX.c_NoCommand) = some (decide (8 = i))) := by
  obtain ⟨e0, e1, e2, e3, e4, e5, e6, e7, e8, rfl, E0, E1, E2, E3, E4, E5, E6, E7, E8⟩ := h
  have hi : i < 9 := (List.getElem?_eq_some_iff.mp e).1
  have hc : i = 0 ∨ i = 1 ∨ i = 2 ∨ i = 3 ∨ i = 4 ∨ i = 5 ∨ i = 6 ∨ i = 7 ∨ i = 8 := by omega
  rcases hc with rfl | rfl | rfl | rfl | rfl | rfl | rfl | rfl | rfl
  · cases e; exact ⟨e0, _, rfl, hi, E0.ins, TX.x_Wrong.e, TX.j0, TX.v0, TX.k0_0, TX.k0_1, TX.k0_2, TX.k0_3, TX.k0_4, TX.k0_5, TX.k0_6, TX.k0_7, TX.k0_8⟩
  · cases e; exact ⟨e1, _, rfl, hi, E1.ins, TX.x_NoText.e, TX.j1, TX.v1, TX.k1_0, TX.k1_1, TX.k1_2, TX.k1_3, TX.k1_4, TX.k1_5, TX.k1_6, TX.k1_7, TX.k1_8⟩
  · cases e; exact ⟨e2, _, rfl, hi, E2.ins, TX.x_TooMany.e, TX.j2, TX.v2, TX.k2_0, TX.k2_1, TX.k2_2, TX.k2_3, TX.k2_4, TX.k2_5, TX.k2_6, TX.k2_7, TX.k2_8⟩
  · cases e; exact ⟨e3, _, rfl, hi, E3.ins, TX.x_NoneLet.e, TX.j3, TX.v3, TX.k3_0, TX.k3_1, TX.k3_2, TX.k3_3, TX.k3_4, TX.k3_5, TX.k3_6, TX.k3_7, TX.k3_8⟩
  · cases e; exact ⟨e4, _, rfl, hi, E4.ins, TX.x_Jammed.e, TX.j4, TX.v4, TX.k4_0, TX.k4_1, TX.k4_2, TX.k4_3, TX.k4_4, TX.k4_5, TX.k4_6, TX.k4_7, TX.k4_8⟩
  · cases e; exact ⟨e5, _, rfl, hi, E5.ins, TX.x_NoFlow.e, TX.j5, TX.v5, TX.k5_0, TX.k5_1, TX.k5_2, TX.k5_3, TX.k5_4, TX.k5_5, TX.k5_6, TX.k5_7, TX.k5_8⟩
  · cases e; exact ⟨e6, _, rfl, hi, E6.ins, TX.x_NoLink.e, TX.j6, TX.v6, TX.k6_0, TX.k6_1, TX.k6_2, TX.k6_3, TX.k6_4, TX.k6_5, TX.k6_6, TX.k6_7, TX.k6_8⟩
  · cases e; exact ⟨e7, _, rfl, hi, E7.ins, TX.x_NoOrder.e, TX.j7, TX.v7, TX.k7_0, TX.k7_1, TX.k7_2, TX.k7_3, TX.k7_4, TX.k7_5, TX.k7_6, TX.k7_7, TX.k7_8⟩
  · cases e; exact ⟨e8, _, rfl, hi, .inl E8, TX.x_NoCommand.e, TX.j8, TX.v8, TX.k8_0, TX.k8_1, TX.k8_2, TX.k8_3, TX.k8_4, TX.k8_5, TX.k8_6, TX.k8_7, TX.k8_8⟩
theorem clsB_ev {i : Nat} (hi : i < 9) : (fLc (fiR (fCons (fC (.int 9)) fNil)) (fgName 3) ftYes (fOp (fEq false) (fVar 3) (fVar 1)) [3]) [S.un, S.dat (.int (i : Int)), S.un, S.un] = some (.new (clsB i)) := by
  have hc : i = 0 ∨ i = 1 ∨ i = 2 ∨ i = 3 ∨ i = 4 ∨ i = 5 ∨ i = 6 ∨ i = 7 ∨ i = 8 := by omega
  rcases hc with rfl | rfl | rfl | rfl | rfl | rfl | rfl | rfl | rfl <;> rfl
theorem clsB_eq {i : Nat} (hi : i < 9) : SeqAt.shaped (.list (clsB i)) = true ∧ (!PyData.eqv (.list (clsB i)) (.list (clsB i))) = false := by
  have hc : i = 0 ∨ i = 1 ∨ i = 2 ∨ i = 3 ∨ i = 4 ∨ i = 5 ∨ i = 6 ∨ i = 7 ∨ i = 8 := by omega
  rcases hc with rfl | rfl | rfl | rfl | rfl | rfl | rfl | rfl | rfl <;> exact ⟨by decide +kernel, by decide +kernel⟩
def spApart : Sp := fun vs H Q _ => ∃ (a : Addr) (es : List Addr) (x y : V), vs = [.ref a] ∧ H a = some (.lst (es.map V.ref)) ∧ Errs TX H es x y ∧ ∀ H', Same H H' → Q (.bl true) H'
theorem ok_l_are_apart : FnG P w K mg base 6 TX.f_l_are_apart TX.d_l_are_apart ["_law_some"] (spApart TX) := by
  refine fnG_of TX.F_l_are_apart sc_l_are_apart (fun vs H Q E ⟨a, es, x, y, e, _⟩ => by rw [e]; rfl) fun cdv A outer s H vs Q hr hg ⟨a, es, x, y, e, hl, hE, q⟩ => ?_
  subst e
  refine ⟨_, pss_cons (ps_for PassesOwn.never rfl (pi_enum (by rfl) TX.n_enumerate (pa_cons (pv 0) pa_nil)) (pg_tup rfl (pgs_cons (pg_name (i := 1) sc_l_are_apart.nd rfl (by first | exact Or.inl rfl | exact Or.inr rfl)) (pgs_cons (pg_name (i := 2) sc_l_are_apart.nd rfl (by first | exact Or.inl rfl | exact Or.inr rfl)) pgs_nil)))
      (pss_cons (ps_if (PW.pt (pw_or (pt_not (pt_val (pe_callB call_isX (by rfl) TX.n_isinstance PyProof.Rows.boot_isinstance (pa_cons (pv 2) (pa_cons (pe_glob (v := .ref TX.c_JamError) (by rfl) TX.mc_JamError rfl) pa_nil))))) (pw_or1 (pt_not (pt_val (pe_callB call_isX (by rfl) TX.n_isinstance PyProof.Rows.boot_isinstance (pa_cons (pv 2) (pa_cons (pe_bltn (v := .ty "ValueError") (by rfl) TX.n_ValueError (by decide +kernel) rfl) pa_nil)))))))) (pss_one (ps_ret pe_bl)) pss_nil)
      (pss_one (ps_if (pt_cmpR (DL.op_neD hr.units) (pe_callG (ok_l_classes TX) (hr.mono (by decide)) hg (by rfl) TX.m_l_classes TX.F_l_classes.kp (b_l_classes TX) (pa_cons (pv 2) pa_nil)) (pe_any fun Y => (xe_lc (own := [("_law_k", 3)]) rfl sc_l_are_apart.nd (xi_range (by rfl) TX.n_range (xa_cons xe_int xa_nil)) (blkOk_by (own := [("_law_k", 3)]) (N := N_l_are_apart) (sc := defScope s_l_are_apart) (by decide +kernel)) (fun _ _ _ _ _ => (xg_name (i := 3) (by decide) sc_l_are_apart.nd rfl (by first | exact Or.inl rfl | exact Or.inr rfl))) (fun _ _ _ _ _ => xts_nil) (fun _ _ _ _ _ => (xe_cmp (op_eqA hr.units) lift_eq (xe_var (pv 3)) (xe_var (pv 1)) (nomark _))))) (nomark _)) (pss_one (ps_ret pe_bl)) pss_nil))))
    (pss_one (ps_ret pe_bl)), ?_⟩
  refine ⟨.ref a, rfl, a, _, rfl, SqL.of hl, for_enum (xs := es.map V.ref) (fun i σ H' => (∃ v1 v2 v3, σ = [some (.ref a), v1, v2, v3]) ∧ Same H H') ⟨⟨none, none, none, rfl⟩, .refl _⟩ (fun i σ H' _ p => SqL.of (p.2 _ _ hl)) ?_ ?_⟩
  · rintro i v T σ H1 hx ⟨⟨v1, v2, v3, rfl⟩, s1⟩ nT
    obtain ⟨e, C, rfl, hi, ins, hC, kj, kv, row⟩ := errs_at TX (hE.keep TX (.of s1)) hx
    have s2 := same_upd (o := HO.tup [.int (i : Int), .ref e]) nT
    have ins2 := ins.keep (.of s2)
    refine ⟨T, _, rfl, SqT.of upd_same, rfl, _, _, rfl, _, _, rfl, rfl, ?_⟩
    refine ⟨.ref e, rfl, e, C, _, _, true, rfl, ins2, hC, .own _, kj, true, rfl, ?_⟩
    refine ⟨.ref e, rfl, e, C, _, _, true, rfl, ins2, hC, .ty _, kv, true, rfl, ?_⟩
    refine ⟨.ref e, rfl, e, C, _, _, _, _, _, _, _, _, _, rfl, ins2, hC, row, fun p H2 s3 np hp => ?_⟩
    refine ⟨⟨H2, [], none⟩, [], [S.un, S.dat (.int (i : Int)), S.un, S.un], fun r => r = .new (clsB i), rel_of rfl (fun j s e => ?_), ((se_lc (si_R (sa_cons se_c sa_nil)) sg_name st_yes (se_op s2_eq se_var se_var)) : SE _ _) _ _ _ (clsB_ev hi) rfl, fun r v2 H3 er g3 b3 r3 => ?_⟩
    · match j, e with
      | 0, e => cases e; exact .inl rfl
      | 1, e => cases e; exact .inr ⟨_, _, rfl, rfl, .int _⟩
      | 2, e => cases e; exact .inl rfl
      | 3, e => cases e; exact .inl rfl
    · subst er
      have s4 : Same H2 H3 := fun a o h => g3 a o (fun b c z => by cases z) h
      have dq : DL.Dp K H3 v2 (.list (clsB i)) := r3.read trivial
      have dp : DL.Dp K H3 (.ref p) (.list (clsB i)) := .lst (SqL.of (s4 _ _ hp)) (.cons (.bl _) (.cons (.bl _) (.cons (.bl _) (.cons (.bl _) (.cons (.bl _) (.cons (.bl _) (.cons (.bl _) (.cons (.bl _) (.cons (.bl _) .nil)))))))))
      obtain ⟨c1, c2⟩ := clsB_eq hi
      refine ⟨_, _, dp, dq, c1, c1, ?_⟩
      rw [c2]
      exact ⟨false, rfl, ⟨_, _, _, rfl⟩, s1.trans (s2.trans (s3.trans s4))⟩
  · rintro σ H' ⟨⟨v1, v2, v3, rfl⟩, s1⟩
    exact q H' s1
theorem b_l_alike : Binds K TX.d_l_alike ["_law_found", "_law_due"] [] := TX.F_l_alike.binds (ps := ["_law_found", "_law_due"]) fun _ _ _ _ _ _ us hl => match us, hl with | [_, _], _ => rfl
theorem ok_l_alike (zm : ModB base) : FnG P w K mg base 3 TX.f_l_alike TX.d_l_alike ["_law_found", "_law_due"] (spAlike K) := by
  refine fnG_of TX.F_l_alike sc_l_alike (fun vs H Q E ⟨p, q, _, _, _, _, _, _, _, e, _⟩ => by rw [e]; rfl) fun cdv A outer s H vs Q hr hg ⟨p, q, p1, p2, q1, q2, xs, ys, ds, e, hp, hq, h1, h2, h3, h4, s1, s2, d1, d2, sh, k⟩ => ?_
  subst e
  refine ⟨_, pss_one (ps_ret (pe_and (pe_cmpR (op_eqLL (hu66 hr)) (pv 0) (pv 1) (nomark _)) (pe_one (pe_cmpR op_eq (pe_callB (call_reprM zm hg (hu66 hr)) (by rfl) TX.n_repr (by decide +kernel) (pa_cons (pv 0) pa_nil)) (pe_callB (call_reprM zm hg (hu66 hr)) (by rfl) TX.n_repr (by decide +kernel) (pa_cons (pv 1) pa_nil)) (nomark _))))), ?_⟩
  refine ⟨.ref p, rfl, .ref q, rfl, p, q, p1, p2, q1, q2, xs, ys, rfl, rfl, hp, hq, h1, h2, h3, h4, s1, s2, true, rfl, ?_⟩
  rw [if_pos rfl]
  refine ⟨.ref p, rfl, .ref p, ds, rfl, d1, sh, .ref q, rfl, .ref q, ds, rfl, d2, sh, rfl, ?_⟩
  rw [decide_eq_true rfl]
  exact k
theorem b_l_fields : Binds K TX.d_l_fields ["_law_some"] [] := TX.F_l_fields.binds (ps := ["_law_some"]) fun _ _ _ _ _ _ us hl => match us, hl with | [_], _ => rfl
def spFields : Sp := fun vs H Q _ => ∃ (a : Addr) (es : List Addr) (x y : V), vs = [.ref a] ∧ H a = some (.lst (es.map V.ref)) ∧ Errs TX H es x y ∧ ∀ p H', Same H H' → H p = none → H' p = some (.lst [x, y, x, y, x, y, x, y]) → Q (.ref p) H'
theorem ok_l_fields : FnG P w K mg base 3 TX.f_l_fields TX.d_l_fields ["_law_some"] (spFields TX) := by
  refine fnG_of TX.F_l_fields sc_l_fields (fun vs H Q E ⟨a, es, x, y, e, _⟩ => by rw [e]; rfl) fun cdv A outer s H vs Q hr hg ⟨a, es, x, y, e, hl, hE, q⟩ => ?_
  subst e
  refine ⟨_, pss_cons (ps_set (i := 1) sc_l_fields.nd rfl (.inl rfl) (pe_lst (pa_cons (pe_fld (pe_ix ix_list (pv 0) pe_int (fun _ _ => rfl))) (pa_cons (pe_fld (pe_ix ix_list (pv 0) pe_int (fun _ _ => rfl))) (pa_cons (pe_fld (pe_ix ix_list (pv 0) pe_int (fun _ _ => rfl))) (pa_cons (pe_fld (pe_ix ix_list (pv 0) pe_int (fun _ _ => rfl))) (pa_cons (pe_fld (pe_ix ix_list (pv 0) pe_int (fun _ _ => rfl))) (pa_cons (pe_fld (pe_ix ix_list (pv 0) pe_int (fun _ _ => rfl))) (pa_cons (pe_fld (pe_ix ix_list (pv 0) pe_int (fun _ _ => rfl))) pa_nil)))))))))
    (pss_one (ps_ret (pe_op op_cat (pv 1) (pe_lst (pa_cons (pe_fld (pe_ix ix_list (pv 0) pe_int (fun _ _ => rfl))) pa_nil))))), ?_⟩
  obtain ⟨e0, e1, e2, e3, e4, e5, e6, e7, e8, rfl, E0, E1, E2, E3, E4, E5, E6, E7, E8⟩ := hE
  refine ⟨.ref a, rfl, a, _, 0, _, rfl, rfl, SqL.of hl, rfl, e0, _, x, rfl, TX.x_Wrong, TX.h_Wrong, E0, .ref a, rfl, a, _, 1, _, rfl, rfl, SqL.of hl, rfl, e1, _, y, rfl, TX.x_NoText, TX.h_NoText, E1,
    .ref a, rfl, a, _, 2, _, rfl, rfl, SqL.of hl, rfl, e2, _, x, rfl, TX.x_TooMany, TX.h_TooMany, E2, .ref a, rfl, a, _, 3, _, rfl, rfl, SqL.of hl, rfl, e3, _, y, rfl, TX.x_NoneLet, TX.h_NoneLet, E3,
    .ref a, rfl, a, _, 4, _, rfl, rfl, SqL.of hl, rfl, e4, _, x, rfl, TX.x_Jammed, TX.h_Jammed, E4, .ref a, rfl, a, _, 5, _, rfl, rfl, SqL.of hl, rfl, e5, _, y, rfl, TX.x_NoFlow, TX.h_NoFlow, E5,
    .ref a, rfl, a, _, 6, _, rfl, rfl, SqL.of hl, rfl, e6, _, x, rfl, TX.x_NoLink, TX.h_NoLink, E6, Nat.le_of_ble_eq_true rfl, fun l nl => ?_⟩
  have s1 := same_upd (o := HO.lst [x, y, x, y, x, y, x]) nl
  refine ⟨.ref l, rfl, .ref a, rfl, a, _, 7, _, rfl, rfl, SqL.of (s1 _ _ hl), rfl, e7, _, y, rfl, TX.x_NoOrder, TX.h_NoOrder, E7.same s1, Nat.le_of_ble_eq_true rfl, fun l2 nl2 => ⟨l, l2, [x, y, x, y, x, y, x], _, rfl, rfl, (same_upd nl2) _ _ upd_same, upd_same, Nat.le_of_ble_eq_true rfl, fun p np => ?_⟩⟩
  have s2 := same_upd (o := HO.lst [y]) nl2
  have s3 := same_upd (o := HO.lst ([x, y, x, y, x, y, x] ++ [y])) np
  exact q p _ (s1.trans (s2.trans s3)) (none_back (s1.trans s2) np) upd_same
theorem odd_sp {H : Hp} {b c : Addr} {Q : VK} {E : XK} (bc : b ≠ c) (hb : BagAt H b c) (k : ∀ v H' d, d ∈ menu → (∀ a o, a ≠ b → H a = some o → H' a = some o) → BagAt H' b c → DL.Dp K (hide [b, c] H') v d → Q v H') : spD K T_l_odd [.ref b] H Q E := by
  obtain ⟨x, y, z, ns, nl, e1, e2⟩ := id hb
  refine ⟨[b, c], some (b, c), [.bag], fun r => ∃ d ∈ menu, r = .dat d, fun a ha => ?_, fun b' c' q => ?_, .cons ⟨b, c, rfl, rfl⟩ .nil, ⟨rfl, fun d hd => ⟨d, hd, rfl⟩⟩, fun v H' r ⟨d, hd, e⟩ g bn rs _ => ?_⟩
  · simp only [List.mem_cons, List.not_mem_nil, or_false] at ha
    rcases ha with rfl | rfl
    · exact .l e1
    · exact .l e2
  · cases q
    exact ⟨by simp, by simp, bc, hb⟩
  · subst e
    obtain ⟨_, _, _, hb'⟩ := bn b c rfl
    exact k v H' d hd (fun a o n h => g a o (fun b' c' z => by cases z; exact n) h) hb' rs
theorem take_sp {H : Hp} {b c : Addr} {Q : VK} {E : XK} (bc : b ≠ c) (hb : BagAt H b c) (k : ∀ (r : Int) H', 0 ≤ r → r < 9 → (∀ a o, a ≠ b → H a = some o → H' a = some o) → BagAt H' b c → Q (.int r) H') : spD K T_l_take [.ref b, .int 9] H Q E := by
  obtain ⟨x, y, z, ns, nl, e1, e2⟩ := id hb
  refine ⟨[b, c], some (b, c), [.bag, .dat (.int 9)], fun r => ∃ i : Int, 0 ≤ i ∧ i < 9 ∧ r = .dat (.int i), fun a ha => ?_, fun b' c' q => ?_, .cons ⟨b, c, rfl, rfl⟩ (.cons (DL.Dp.int 9) .nil), ⟨9, rfl, by decide, by decide, fun i i0 i9 => ⟨i, i0, i9, rfl⟩⟩, fun v H' r ⟨i, i0, i9, e⟩ g bn rs _ => ?_⟩
  · simp only [List.mem_cons, List.not_mem_nil, or_false] at ha
    rcases ha with rfl | rfl
    · exact .l e1
    · exact .l e2
  · cases q
    exact ⟨by simp, by simp, bc, hb⟩
  · subst e
    obtain ⟨_, _, _, hb'⟩ := bn b c rfl
    cases (show DL.Dp K (hide [b, c] H') v (.int i) from rs)
    exact k i H' i0 i9 (fun a o n h => g a o (fun b' c' z => by cases z; exact n) h) hb'
theorem bag_same {H H' : Hp} {b c : Addr} (e : Same H H') (h : BagAt H b c) : BagAt H' b c := by
  obtain ⟨x, y, z, ns, nl, e1, e2⟩ := h
  exact ⟨x, y, z, ns, nl, e _ _ e1, e _ _ e2⟩
theorem keepX_upd {H : Hp} {r : Addr} {o u : HO} (h : H r = some u) (n : ∀ φ, u ≠ .ext φ) : KeepX H (upd H r o) := fun a φ e => by
  rw [upd_ne (fun z => ?_)]
  · exact e
  · rw [z, h] at e
    exact n φ (Option.some.inj e)
theorem hide_to {hs ks : List Addr} {H H' : Hp} (s : ∀ a o, a ∉ hs → H a = some o → a ∉ ks ∧ H' a = some o) : Same (hide hs H) (hide ks H') := fun a o h => by
  obtain ⟨n, e⟩ := hide_some h
  obtain ⟨m, e'⟩ := s a o n e
  exact hide_of m e'
theorem shown_nil : (PyData.list []).shown = ("[]" : Str) := by decide +kernel
theorem ok_law (zm : ModB base) : FnG P w K mg base 9 TX.f_law TX.d_law ["_law_script"] (spLaw K) := by
  refine fnG_of TX.F_law sc_law (fun vs H Q E ⟨a, ns, e, _⟩ => by rw [e]; rfl) fun cdv A outer s H vs Q hr hg ⟨a, ns, e, hS, q⟩ => ?_
  subst e
  refine ⟨_, pss_cons (ps_set (i := 1) sc_law.nd rfl (by first | exact Or.inl rfl | exact Or.inr rfl) (pe_call (ok_l_bag TX) (hr.mono (by decide)) (by rfl) TX.m_l_bag TX.F_l_bag.kp (b_l_bag TX) .nil pass0 (pa_cons (pv 0) pa_nil)))
    (pss_cons (ps_for PassesOwn.never rfl (pi_range1 (by rfl) TX.n_range (pa_cons pe_int pa_nil)) (pg_name (i := 2) sc_law.nd rfl (by first | exact Or.inl rfl | exact Or.inr rfl))
        (pss_cons (ps_par (i := 3) (j := 4) rfl sc_law.nd rfl rfl (by decide) rfl rfl (pa_cons (pe_callG (ok_l_odd TX) (hr.mono (by decide)) hg (by rfl) TX.m_l_odd TX.F_l_odd.kp (b_l_odd TX) (pa_cons (pv 1) pa_nil)) (pa_cons (pe_callG (ok_l_odd TX) (hr.mono (by decide)) hg (by rfl) TX.m_l_odd TX.F_l_odd.kp (b_l_odd TX) (pa_cons (pv 1) pa_nil)) pa_nil)) (by rfl))
        (pss_cons (ps_par (i := 5) (j := 6) rfl sc_law.nd rfl rfl (by decide) rfl rfl (pa_cons (pe_callG (ok_l_built TX) (hr.mono (by decide)) hg (by rfl) TX.m_l_built TX.F_l_built.kp (b_l_built TX) (pa_cons (pv 3) (pa_cons (pv 4) pa_nil))) (pa_cons (pe_callG (ok_l_built TX) (hr.mono (by decide)) hg (by rfl) TX.m_l_built TX.F_l_built.kp (b_l_built TX) (pa_cons (pv 4) (pa_cons (pv 3) pa_nil))) pa_nil)) (by rfl))
        (pss_cons (ps_if (PW.pt (pw_or (pt_not (pt_val (pe_callG (ok_l_are_apart TX) (hr.mono (by decide)) hg (by rfl) TX.m_l_are_apart TX.F_l_are_apart.kp (b_l_are_apart TX) (pa_cons (pv 5) pa_nil)))) (pw_or1 (pt_not (pt_val (pe_callG (ok_l_are_apart TX) (hr.mono (by decide)) hg (by rfl) TX.m_l_are_apart TX.F_l_are_apart.kp (b_l_are_apart TX) (pa_cons (pv 6) pa_nil))))))) (pss_one (ps_ret pe_bl)) pss_nil)
        (pss_cons (ps_if (pt_not (pt_val (pe_callG (ok_l_alike TX zm) (hr.mono (by decide)) hg (by rfl) TX.m_l_alike TX.F_l_alike.kp (b_l_alike TX) (pa_cons (pe_lst (pa_cons (pe_callG (ok_l_fields TX) (hr.mono (by decide)) hg (by rfl) TX.m_l_fields TX.F_l_fields.kp (b_l_fields TX) (pa_cons (pv 5) pa_nil)) (pa_cons (pe_callG (ok_l_fields TX) (hr.mono (by decide)) hg (by rfl) TX.m_l_fields TX.F_l_fields.kp (b_l_fields TX) (pa_cons (pv 6) pa_nil)) pa_nil))) (pa_cons (pe_lst (pa_cons (pe_op op_rep (pe_lst (pa_cons (pv 3) (pa_cons (pv 4) pa_nil))) pe_int) (pa_cons (pe_op op_rep (pe_lst (pa_cons (pv 4) (pa_cons (pv 3) pa_nil))) pe_int) pa_nil))) pa_nil))))) (pss_one (ps_ret pe_bl)) pss_nil)
        (pss_cons (ps_par (i := 7) (j := 8) rfl sc_law.nd rfl rfl (by decide) rfl rfl (pa_cons (pe_lst (pa_cons (pv 3) pa_nil)) (pa_cons (pe_disp (pps_cons pe_str (pv 4) pps_nil) (by rfl) (by rfl) (fun z => by cases z) (Nat.le_of_ble_eq_true rfl)) pa_nil)) (by rfl))
        (pss_cons (ps_par (i := 5) (j := 6) rfl sc_law.nd rfl rfl (by decide) rfl rfl (pa_cons (pe_callG (ok_l_built TX) (hr.mono (by decide)) hg (by rfl) TX.m_l_built TX.F_l_built.kp (b_l_built TX) (pa_cons (pv 7) (pa_cons (pv 8) pa_nil))) (pa_cons (pe_callG (ok_l_built TX) (hr.mono (by decide)) hg (by rfl) TX.m_l_built TX.F_l_built.kp (b_l_built TX) (pa_cons (pv 8) (pa_cons (pv 7) pa_nil))) pa_nil)) (by rfl))
        (pss_cons (ps_expr (pe_bm PySem.F.plainAttrs_list PySem.F.slot_list_append PySem.F.type_list_append mt_append (pv 7) (pa_cons (pe_callG (ok_l_take TX) (hr.mono (by decide)) hg (by rfl) TX.m_l_take TX.F_l_take.kp (b_l_take TX) (pa_cons (pv 1) (pa_cons pe_int pa_nil))) pa_nil)))
        (pss_cons (ps_dput (Nat.lt_of_le_of_lt (Nat.add_le_add_left (show 1 ≤ 66 by decide) _) (hu66 hr)) (pv 8) pe_str (pv 3) (by rfl))
        (pss_cons (ps_if (pt_not (pt_val (pe_callG (ok_l_alike TX zm) (hr.mono (by decide)) hg (by rfl) TX.m_l_alike TX.F_l_alike.kp (b_l_alike TX) (pa_cons (pe_lst (pa_cons (pe_callG (ok_l_fields TX) (hr.mono (by decide)) hg (by rfl) TX.m_l_fields TX.F_l_fields.kp (b_l_fields TX) (pa_cons (pv 5) pa_nil)) (pa_cons (pe_callG (ok_l_fields TX) (hr.mono (by decide)) hg (by rfl) TX.m_l_fields TX.F_l_fields.kp (b_l_fields TX) (pa_cons (pv 6) pa_nil)) pa_nil))) (pa_cons (pe_lst (pa_cons (pe_op op_rep (pe_lst (pa_cons (pv 7) (pa_cons (pv 8) pa_nil))) pe_int) (pa_cons (pe_op op_rep (pe_lst (pa_cons (pv 8) (pa_cons (pv 7) pa_nil))) pe_int) pa_nil))) pa_nil))))) (pss_one (ps_ret pe_bl)) pss_nil)
        (pss_cons (ps_expr (pe_bm0 PySem.F.plainAttrs_list PySem.F.slot_list_clear PySem.F.type_list_clear mt_clear (pv 7)))
        (pss_one (ps_if (PW.pt (pw_or (pt_cmpR op_ne (pe_callB (call_reprM zm hg (hu66 hr)) (by rfl) TX.n_repr (by decide +kernel) (pa_cons (pe_ix ix_list (pe_callG (ok_l_fields TX) (hr.mono (by decide)) hg (by rfl) TX.m_l_fields TX.F_l_fields.kp (b_l_fields TX) (pa_cons (pv 5) pa_nil)) pe_int (fun _ _ => rfl)) pa_nil)) pe_str (nomark _)) (pw_or1 (pt_cmpR op_ne (pe_callB (call_reprM zm hg (hu66 hr)) (by rfl) TX.n_repr (by decide +kernel) (pa_cons (pe_ix ix_list (pe_callG (ok_l_fields TX) (hr.mono (by decide)) hg (by rfl) TX.m_l_fields TX.F_l_fields.kp (b_l_fields TX) (pa_cons (pv 6) pa_nil)) pe_int (fun _ _ => rfl)) pa_nil)) pe_str (nomark _))))) (pss_one (ps_ret pe_bl)) pss_nil)))))))))))))
    (pss_one (ps_ret pe_bl))), ?_⟩
  refine ⟨.ref a, rfl, a, ns, rfl, hS, fun H1 b c s1 nb nc bc hb => ?_⟩
  refine ⟨4, rfl, by decide, by decide, for_range (n := 4) (fun i σ H' => (∃ v2 v3 v4 v5 v6 v7 v8, σ = [some (.ref a), some (.ref b), v2, v3, v4, v5, v6, v7, v8]) ∧ BagAt H' b c) ⟨⟨_, _, _, _, _, _, _, rfl⟩, hb⟩ ?_ (fun σ H' _ => q H')⟩
  rintro i σ H0 hi ⟨⟨v2, v3, v4, v5, v6, v7, v8, rfl⟩, hb0⟩
  refine ⟨.ref b, rfl, odd_sp (E := E0) bc hb0 fun x1 H1 d1 m1 g1 hb1 D1 => ⟨.ref b, rfl, odd_sp (E := E0) bc hb1 fun x2 H2 d2 m2 g2 hb2 D2 => ⟨x1, x2, rfl, ?_⟩⟩⟩
  have D1 : DL.Dp K (hide [b, c] H2) x1 d1 := dp_same (hide_to fun a o n h => ⟨n, g2 a o (fun z => n (by simp [z])) h⟩) _ _ D1
  refine ⟨x1, rfl, x2, rfl, x1, x2, rfl, fun p es H3 s3 np hp E1 => ⟨x2, rfl, x1, rfl, x2, x1, rfl, fun p' es' H4 s4 np' hp' E2 => ⟨.ref p, .ref p', rfl, ?_⟩⟩⟩
  have hp4 := s4 _ _ hp
  have E14 := E1.keep TX (.of s4)
  refine ⟨.ref p, rfl, p, es, x1, x2, rfl, hp4, E14, fun H5 s5 => ⟨true, rfl, ?_⟩⟩
  refine ⟨.ref p', rfl, p', es', x2, x1, rfl, s5 _ _ hp', E2.keep TX (.of s5), fun H6 s6 => ⟨true, rfl, ?_⟩⟩
  have s26 : Same H2 H6 := s3.trans (s4.trans (s5.trans s6))
  have hp6 := s6 _ _ (s5 _ _ hp4)
  have hp6' := s6 _ _ (s5 _ _ hp')
  have E16 := E14.keep TX (.of (s5.trans s6))
  have E26 := E2.keep TX (.of (s5.trans s6))
  have D16 : DL.Dp K (hide [b, c] H6) x1 d1 := dp_same (hide_to fun a o n h => ⟨n, s26 _ _ h⟩) _ _ D1
  have D26 : DL.Dp K (hide [b, c] H6) x2 d2 := dp_same (hide_to fun a o n h => ⟨n, s26 _ _ h⟩) _ _ D2
  refine ⟨.ref p, rfl, p, es, x1, x2, rfl, hp6, E16, fun f1 H7 s7 nf1 hf1 => ?_⟩
  refine ⟨.ref p', rfl, p', es', x2, x1, rfl, s7 _ _ hp6', E26.keep TX (.of s7), fun f2 H8 s8 nf2 hf2 => ⟨Nat.le_of_ble_eq_true rfl, fun f nf => ?_⟩⟩
  have s9 := same_upd (o := HO.lst [.ref f1, .ref f2]) nf
  refine ⟨x1, rfl, x2, rfl, Nat.le_of_ble_eq_true rfl, fun l1 nl1 => ⟨l1, 4, _, rfl, rfl, upd_same, by decide, by decide, Nat.le_of_ble_eq_true rfl, fun l2 nl2 => ?_⟩⟩
  have s10 := same_upd (o := HO.lst [x1, x2]) nl1
  have s11 := same_upd (o := HO.lst [x1, x2, x1, x2, x1, x2, x1, x2]) nl2
  refine ⟨x2, rfl, x1, rfl, Nat.le_of_ble_eq_true rfl, fun l3 nl3 => ⟨l3, 4, _, rfl, rfl, upd_same, by decide, by decide, Nat.le_of_ble_eq_true rfl, fun l4 nl4 => ⟨Nat.le_of_ble_eq_true rfl, fun g ng => ?_⟩⟩⟩
  have s12 := same_upd (o := HO.lst [x2, x1]) nl3
  have s13 := same_upd (o := HO.lst [x2, x1, x2, x1, x2, x1, x2, x1]) nl4
  have s14 := same_upd (o := HO.lst [.ref l2, .ref l4]) ng
  have s8g := s9.trans (s10.trans (s11.trans (s12.trans (s13.trans s14))))
  have s6g := (s7.trans s8).trans s8g
  dsimp only [tNil]
  refine sp_both (n := 100) (dp := 4) (v := x1) (w := x2) (x := d1) (y := d2) (p1 := f1) (p2 := f2) (q1 := l2) (q2 := l4) (SqL.of ((s10.trans (s11.trans (s12.trans (s13.trans s14)))) _ _ upd_same)) (SqL.of upd_same) (SqL.of ((s8.trans s8g) _ _ hf1)) (SqL.of (s8g _ _ hf2)) (SqL.of ((s12.trans (s13.trans s14)) _ _ upd_same)) (SqL.of (s14 _ _ upd_same))
    (dp_same (fun a o h => s6g _ _ (hide_some h).2) _ _ D16) (dp_same (fun a o h => s6g _ _ (hide_some h).2) _ _ D26) (menu_sh m1) (menu_sh m2) (by decide) (by decide) ?_
  refine ⟨true, rfl, ?_⟩
  generalize hG : upd _ g _ = G at s14 s8g s6g ⊢
  have hbG : BagAt G b c := bag_same (s26.trans s6g) hb2
  have DG1 : DL.Dp K (hide [b, c] G) x1 d1 := dp_same (hide_to fun a o n h => ⟨n, s6g _ _ h⟩) _ _ D16
  have DG2 : DL.Dp K (hide [b, c] G) x2 d2 := dp_same (hide_to fun a o n h => ⟨n, s6g _ _ h⟩) _ _ D26
  have hd2 : (errB [(PyData.str (Str.ofString "a"), d2), (PyData.str (Str.ofString "b"), d1)] || tdB [(PyData.str (Str.ofString "a"), d2), (PyData.str (Str.ofString "b"), d1)]) = false := rfl
  clear hG s14 s8g s6g s13 s12 s11 s10 s9
  obtain ⟨bx, by', bz, bns, bnl, eb, ec⟩ := id hbG
  refine ⟨x1, rfl, Nat.le_of_ble_eq_true rfl, fun r nr => fun wd nw => ⟨x2, rfl, upd_same, [(.inr "a", x2)], rfl, Nat.le_of_ble_eq_true rfl, .ref r, .ref wd, rfl, ?_⟩⟩
  have wr : wd ≠ r := fun z => by rw [z, upd_same] at nw; cases nw
  have nw0 : G wd = none := by rwa [upd_ne wr] at nw
  have rb : r ≠ b := fun z => by rw [z, eb] at nr; cases nr
  have wb : wd ≠ b := fun z => by rw [z, eb] at nw0; cases nw0
  have sG : Same G (upd (upd (upd G r (.lst [x1])) wd (.dK [])) wd (.dK (mergeK [] [(.inr "a", x2)]))) := fun a o h => by
    rw [upd_ne (ne_of_none h nw0), upd_ne (ne_of_none h nw0), upd_ne (ne_of_none h nr)]; exact h
  have hr5 : (upd (upd (upd G r (.lst [x1])) wd (.dK [])) wd (.dK (mergeK [] [(.inr "a", x2)]))) r = some (.lst [x1]) := by rw [upd_ne wr.symm, upd_ne wr.symm, upd_same]
  have hw5 : (upd (upd (upd G r (.lst [x1])) wd (.dK [])) wd (.dK (mergeK [] [(.inr "a", x2)]))) wd = some (.dK [(.inr "a", x2)]) := upd_same
  generalize (upd (upd (upd G r (.lst [x1])) wd (.dK [])) wd (.dK (mergeK [] [(.inr "a", x2)]))) = G5 at sG hr5 hw5 ⊢
  refine ⟨.ref r, rfl, .ref wd, rfl, .ref r, .ref wd, rfl, fun p es H1 s1 np hp E1 => ⟨.ref wd, rfl, .ref r, rfl, .ref wd, .ref r, rfl, fun p' es' H2 s2 np' hp' E2 => ⟨.ref p, .ref p', rfl, ?_⟩⟩⟩
  have E12 := E1.keep TX (.of s2)
  have hp2 := s2 _ _ hp
  have hr2 := s2 _ _ (s1 _ _ hr5)
  have hw2 := s2 _ _ (s1 _ _ hw5)
  have hb2' : BagAt H2 b c := bag_same (sG.trans (s1.trans s2)) hbG
  have pr : p ≠ r := fun z => by rw [z, hr5] at np; cases np
  have pw : p ≠ wd := fun z => by rw [z, hw5] at np; cases np
  have pb : p ≠ b := fun z => by rw [z, sG _ _ eb] at np; cases np
  have pr' : p' ≠ r := fun z => by rw [z, s1 _ _ hr5] at np'; cases np'
  have pw' : p' ≠ wd := fun z => by rw [z, s1 _ _ hw5] at np'; cases np'
  have pb' : p' ≠ b := fun z => by rw [z, s1 _ _ (sG _ _ eb)] at np'; cases np'
  refine ⟨.ref r, rfl, .inl ⟨rfl, _, SqL.of hr2⟩, .ref b, rfl, take_sp (E := E0) bc hb2' fun k H3 k0 k9 g3 hb3 => ⟨r, _, _, rfl, rfl, g3 _ _ rb hr2, Nat.le_of_ble_eq_true rfl, ?_⟩⟩
  refine ⟨x1, rfl, .ref wd, rfl, wd, _, rfl, DPut.k (k := .inr "b") (kvs := [(.inr "a", x2)]) (by rw [upd_ne wr]; exact g3 _ _ wb hw2) (Nat.le_of_ble_eq_true rfl), ?_⟩
  have kM : ∀ a o, a ≠ b → a ≠ r → a ≠ wd → H2 a = some o → (upd (upd H3 r (.lst ([x1] ++ [.int k]))) wd (.dK (putK [(.inr "a", x2)] (.inr "b") x1))) a = some o := fun a o n1 n2 n3 h => by
    rw [upd_ne n3, upd_ne n2]; exact g3 _ _ n1 h
  have hrM : (upd (upd H3 r (.lst ([x1] ++ [.int k]))) wd (.dK (putK [(.inr "a", x2)] (.inr "b") x1))) r = some (.lst [x1, .int k]) := by rw [upd_ne wr.symm, upd_same]; rfl
  have hwM : (upd (upd H3 r (.lst ([x1] ++ [.int k]))) wd (.dK (putK [(.inr "a", x2)] (.inr "b") x1))) wd = some (.dK [(.inr "a", x2), (.inr "b", x1)]) := by
    rw [upd_same, putK_new x1 (show valV [((.inr "a" : Key), x2)] (.inr "b") = none from valV_neg (p := ((.inr "a" : Key), x2)) (r := []) (show ¬ ((.inr "a" : Key) = .inr "b") by decide))]; rfl
  have hbM : BagAt (upd (upd H3 r (.lst ([x1] ++ [.int k]))) wd (.dK (putK [(.inr "a", x2)] (.inr "b") x1))) b c := by
    obtain ⟨ux, uy, uz, uns, unl, ub, uc⟩ := hb3
    have cr : c ≠ r := fun z => by rw [z] at ec; rw [ec] at nr; cases nr
    have cw : c ≠ wd := fun z => by rw [z] at ec; rw [ec] at nw0; cases nw0
    exact ⟨ux, uy, uz, uns, unl, by rw [upd_ne wb.symm, upd_ne rb.symm]; exact ub, by rw [upd_ne cw, upd_ne cr]; exact uc⟩
  generalize (upd (upd H3 r (.lst ([x1] ++ [.int k]))) wd (.dK (putK [(.inr "a", x2)] (.inr "b") x1))) = M at kM hrM hwM hbM ⊢
  obtain ⟨_, _, _, _, _, eb2, _⟩ := id hb2'
  have kx : KeepX H2 M := fun a φ h => kM a _ (fun z => by rw [z, eb2] at h; cases h) (fun z => by rw [z, hr2] at h; cases h) (fun z => by rw [z, hw2] at h; cases h) h
  have hpM := kM _ _ pb pr pw hp2
  have hpM' := kM _ _ pb' pr' pw' hp'
  have toM : Same (hide [b, c] G) (hide [b, c, r, wd] M) := hide_to fun a o n h => by
    have n1 : a ≠ r := ne_of_none h nr
    have n2 : a ≠ wd := ne_of_none h nw0
    simp only [List.mem_cons, List.not_mem_nil, or_false, not_or] at n
    refine ⟨?_, kM _ _ n.1 n1 n2 (s2 _ _ (s1 _ _ (sG _ _ h)))⟩
    simp only [List.mem_cons, List.not_mem_nil, or_false, not_or]
    exact ⟨n.1, n.2, n1, n2⟩
  have DM1 := dp_same toM _ _ DG1
  have DM2 := dp_same toM _ _ DG2
  have EM1 := E12.keep TX kx
  have EM2 := E2.keep TX kx
  refine ⟨.ref p, rfl, p, es, .ref r, .ref wd, rfl, hpM, EM1, fun f1 H7 s7 nf1 hf1 => ?_⟩
  refine ⟨.ref p', rfl, p', es', .ref wd, .ref r, rfl, s7 _ _ hpM', EM2.keep TX (.of s7), fun f2 H8 s8 nf2 hf2 => ⟨Nat.le_of_ble_eq_true rfl, fun f nf => ?_⟩⟩
  have s9 := same_upd (o := HO.lst [.ref f1, .ref f2]) nf
  refine ⟨.ref r, rfl, .ref wd, rfl, Nat.le_of_ble_eq_true rfl, fun l1 nl1 => ⟨l1, 4, _, rfl, rfl, upd_same, by decide, by decide, Nat.le_of_ble_eq_true rfl, fun l2 nl2 => ?_⟩⟩
  have s10 := same_upd (o := HO.lst [.ref r, .ref wd]) nl1
  have s11 := same_upd (o := HO.lst [.ref r, .ref wd, .ref r, .ref wd, .ref r, .ref wd, .ref r, .ref wd]) nl2
  refine ⟨.ref wd, rfl, .ref r, rfl, Nat.le_of_ble_eq_true rfl, fun l3 nl3 => ⟨l3, 4, _, rfl, rfl, upd_same, by decide, by decide, Nat.le_of_ble_eq_true rfl, fun l4 nl4 => ⟨Nat.le_of_ble_eq_true rfl, fun g ng => ?_⟩⟩⟩
  have s12 := same_upd (o := HO.lst [.ref wd, .ref r]) nl3
  have s13 := same_upd (o := HO.lst [.ref wd, .ref r, .ref wd, .ref r, .ref wd, .ref r, .ref wd, .ref r]) nl4
  have s14 := same_upd (o := HO.lst [.ref l2, .ref l4]) ng
  have s8g := s9.trans (s10.trans (s11.trans (s12.trans (s13.trans s14))))
  have s6g := (s7.trans s8).trans s8g
  have toG : Same (hide [b, c, r, wd] M) _ := fun a o h => s6g _ _ (hide_some h).2
  have W1 := dp_same toG _ _ DM1
  have W2 := dp_same toG _ _ DM2
  have shk : ShM 100 4 (.int k) := by
    have hc : k = 0 ∨ k = 1 ∨ k = 2 ∨ k = 3 ∨ k = 4 ∨ k = 5 ∨ k = 6 ∨ k = 7 ∨ k = 8 := by omega
    rcases hc with rfl | rfl | rfl | rfl | rfl | rfl | rfl | rfl | rfl <;> exact ⟨by decide +kernel, by decide +kernel, by decide +kernel⟩
  have DR : DL.Dp K _ (.ref r) (.list [d1, .int k]) := .lst (SqL.of (s6g _ _ hrM)) (.cons W1 (.cons (.int k) .nil))
  have DW : DL.Dp K _ (.ref wd) (.dict [(.str "a", d2), (.str "b", d1)]) := .dct (kvs := [(.inr "a", x2), (.inr "b", x1)]) (s6g _ _ hwM) (.cons W2 (.cons W1 .nil)) hd2
  have SR : ShM 240 5 (.list [d1, .int k]) := (ShM.list (n := 100) (dp := 4) (ds := [d1, .int k]) fun d hd => by
    simp only [List.mem_cons, List.not_mem_nil, or_false] at hd
    rcases hd with rfl | rfl
    · exact menu_sh m1
    · exact shk).mono (Nat.le_of_ble_eq_true rfl) (by decide)
  have SW : ShM 240 5 (.dict [(.str "a", d2), (.str "b", d1)]) := (ShM.dict2 (menu_sh m2) (menu_sh m1) (by decide +kernel) (by decide +kernel)).mono (Nat.le_of_ble_eq_true rfl) (by decide)
  dsimp only [tNil]
  refine sp_both (n := 240) (dp := 5) (v := .ref r) (w := .ref wd) (x := .list [d1, .int k]) (y := .dict [(.str "a", d2), (.str "b", d1)]) (p1 := f1) (p2 := f2) (q1 := l2) (q2 := l4) (SqL.of ((s10.trans (s11.trans (s12.trans (s13.trans s14)))) _ _ upd_same)) (SqL.of upd_same) (SqL.of ((s8.trans s8g) _ _ hf1)) (SqL.of (s8g _ _ hf2)) (SqL.of ((s12.trans (s13.trans s14)) _ _ upd_same)) (SqL.of (s14 _ _ upd_same))
    DR DW SR SW (by decide) (by decide) ?_
  refine ⟨true, rfl, ?_⟩
  have hrN := s6g _ _ hrM
  have hpN := s6g _ _ hpM
  have hpN' := s6g _ _ hpM'
  have hbN := bag_same s6g hbM
  have EN1 := EM1.keep TX (.of s6g)
  have EN2 := EM2.keep TX (.of s6g)
  clear DR DW W1 W2 toG s14 s13 s12 s11 s10 s9 s8g
  generalize hN : upd _ g _ = N at s6g hrN hpN hpN' hbN EN1 EN2 ⊢
  clear hN
  refine ⟨.ref r, rfl, .inl ⟨rfl, _, SqL.of hrN⟩, r, _, rfl, rfl, hrN, ?_⟩
  have kx2 : KeepX N (upd N r (.lst [])) := keepX_upd hrN fun φ z => by cases z
  have hbL : BagAt (upd N r (.lst [])) b c := by
    obtain ⟨ux, uy, uz, uns, unl, ub, uc⟩ := hbN
    have cr : c ≠ r := fun z => by rw [z] at ec; rw [ec] at nr; cases nr
    exact ⟨ux, uy, uz, uns, unl, by rw [upd_ne rb.symm]; exact ub, by rw [upd_ne cr]; exact uc⟩
  refine ⟨.ref p, rfl, p, es, .ref r, .ref wd, rfl, by rw [upd_ne pr]; exact hpN, EN1.keep TX kx2, fun f3 H9 s9 nf3 hf3 => ⟨f3, _, 2, .ref r, rfl, rfl, SqL.of hf3, rfl, ?_⟩⟩
  have hr9 := s9 _ _ (upd_same (H := N) (a := r) (o := HO.lst []))
  have sn : showsM (.list []) := ⟨by decide +kernel, by decide +kernel, by decide +kernel⟩
  refine ⟨_, [], rfl, .lst (SqL.of hr9) .nil, sn, rfl, false, by rw [shown_nil]; rfl, ?_⟩
  refine ⟨.ref p', rfl, p', es', .ref wd, .ref r, rfl, s9 _ _ (by rw [upd_ne pr']; exact hpN'), EN2.keep TX (kx2.trans (.of s9)), fun f4 H10 s10 nf4 hf4 => ⟨f4, _, 3, .ref r, rfl, rfl, SqL.of hf4, rfl, ?_⟩⟩
  refine ⟨_, [], rfl, .lst (SqL.of (s10 _ _ hr9)) .nil, sn, rfl, false, by rw [shown_nil]; rfl, ?_⟩
  exact ⟨⟨_, _, _, _, _, _, _, rfl⟩, bag_same (s9.trans s10) hbL⟩
end
theorem all_mk {l : PySem.W.OpenLaw} {w : World} {K : PySem.W.Frag} {h : Heap} {mg : Str → Option Value} {fa : Addr} (X : K.In h) (G : h.Ns mainGlobals mg) (hfa : mg "law" = some (.ref fa))
    {f0 : Addr} {od0 an0 : Option Addr} {sl0 : Array (Option Value)} {oc0 kV0 dc0 pm0 cd0 ct0 : Value}
    {f1 : Addr} {od1 an1 : Option Addr} {sl1 : Array (Option Value)} {oc1 kV1 dc1 pm1 cd1 ct1 : Value}
    {f2 : Addr} {od2 an2 : Option Addr} {sl2 : Array (Option Value)} {oc2 kV2 dc2 pm2 cd2 ct2 : Value}
    {f3 : Addr} {od3 an3 : Option Addr} {sl3 : Array (Option Value)} {oc3 kV3 dc3 pm3 cd3 ct3 : Value}
    {f4 : Addr} {od4 an4 : Option Addr} {sl4 : Array (Option Value)} {oc4 kV4 dc4 pm4 cd4 ct4 : Value}
    {f5 : Addr} {od5 an5 : Option Addr} {sl5 : Array (Option Value)} {oc5 kV5 dc5 pm5 cd5 ct5 : Value}
    {f6 : Addr} {od6 an6 : Option Addr} {sl6 : Array (Option Value)} {oc6 kV6 dc6 pm6 cd6 ct6 : Value}
    {f7 : Addr} {od7 an7 : Option Addr} {sl7 : Array (Option Value)} {oc7 kV7 dc7 pm7 cd7 ct7 : Value}
    {f8 : Addr} {od8 an8 : Option Addr} {sl8 : Array (Option Value)} {oc8 kV8 dc8 pm8 cd8 ct8 : Value}
    {f9 : Addr} {od9 an9 : Option Addr} {sl9 : Array (Option Value)} {oc9 kV9 dc9 pm9 cd9 ct9 : Value}
    {hc0 hf0 : Addr} {hod0 han0 : Option Addr} {hsl0 : Array (Option Value)} {hoc0 hkV0 hdc0 hpm0 hcd0 hct0 : Value}
    {hnm0 : _} {hq0 : _} {hN0 : _} {hbs0 : _} {hbm0 : _} {hsn0 : _} {hsub0 : _} {hab0 : _} {hcol0 : _} {hdd0 : _} {hk00 : _} {hk10 : _} {hk20 : _} {hk30 : _} {hk50 : _}
    {hc1 hf1 : Addr} {hod1 han1 : Option Addr} {hsl1 : Array (Option Value)} {hoc1 hkV1 hdc1 hpm1 hcd1 hct1 : Value}
    {hnm1 : _} {hq1 : _} {hN1 : _} {hbs1 : _} {hbm1 : _} {hsn1 : _} {hsub1 : _} {hab1 : _} {hcol1 : _} {hdd1 : _} {hk01 : _} {hk11 : _} {hk21 : _} {hk31 : _} {hk51 : _}
    {hc2 hf2 : Addr} {hod2 han2 : Option Addr} {hsl2 : Array (Option Value)} {hoc2 hkV2 hdc2 hpm2 hcd2 hct2 : Value}
    {hnm2 : _} {hq2 : _} {hN2 : _} {hbs2 : _} {hbm2 : _} {hsn2 : _} {hsub2 : _} {hab2 : _} {hcol2 : _} {hdd2 : _} {hk02 : _} {hk12 : _} {hk22 : _} {hk32 : _} {hk52 : _}
    {hc3 hf3 : Addr} {hod3 han3 : Option Addr} {hsl3 : Array (Option Value)} {hoc3 hkV3 hdc3 hpm3 hcd3 hct3 : Value}
    {hnm3 : _} {hq3 : _} {hN3 : _} {hbs3 : _} {hbm3 : _} {hsn3 : _} {hsub3 : _} {hab3 : _} {hcol3 : _} {hdd3 : _} {hk03 : _} {hk13 : _} {hk23 : _} {hk33 : _} {hk53 : _}
    {hc4 hf4 : Addr} {hod4 han4 : Option Addr} {hsl4 : Array (Option Value)} {hoc4 hkV4 hdc4 hpm4 hcd4 hct4 : Value}
    {hnm4 : _} {hq4 : _} {hN4 : _} {hbs4 : _} {hbm4 : _} {hsn4 : _} {hsub4 : _} {hab4 : _} {hcol4 : _} {hdd4 : _} {hk04 : _} {hk14 : _} {hk24 : _} {hk34 : _} {hk54 : _}
    {hc5 hf5 : Addr} {hod5 han5 : Option Addr} {hsl5 : Array (Option Value)} {hoc5 hkV5 hdc5 hpm5 hcd5 hct5 : Value}
    {hnm5 : _} {hq5 : _} {hN5 : _} {hbs5 : _} {hbm5 : _} {hsn5 : _} {hsub5 : _} {hab5 : _} {hcol5 : _} {hdd5 : _} {hk05 : _} {hk15 : _} {hk25 : _} {hk35 : _} {hk55 : _}
    {hc6 hf6 : Addr} {hod6 han6 : Option Addr} {hsl6 : Array (Option Value)} {hoc6 hkV6 hdc6 hpm6 hcd6 hct6 : Value}
    {hnm6 : _} {hq6 : _} {hN6 : _} {hbs6 : _} {hbm6 : _} {hsn6 : _} {hsub6 : _} {hab6 : _} {hcol6 : _} {hdd6 : _} {hk06 : _} {hk16 : _} {hk26 : _} {hk36 : _} {hk56 : _}
    {hc7 hf7 : Addr} {hod7 han7 : Option Addr} {hsl7 : Array (Option Value)} {hoc7 hkV7 hdc7 hpm7 hcd7 hct7 : Value}
    {hnm7 : _} {hq7 : _} {hN7 : _} {hbs7 : _} {hbm7 : _} {hsn7 : _} {hsub7 : _} {hab7 : _} {hcol7 : _} {hdd7 : _} {hk07 : _} {hk17 : _} {hk27 : _} {hk37 : _} {hk57 : _}
    {hc8 hf8 : Addr} {hod8 han8 : Option Addr} {hsl8 : Array (Option Value)} {hoc8 hkV8 hdc8 hpm8 hcd8 hct8 : Value}
    {hnm8 : _} {hq8 : _} {hN8 : _} {hbs8 : _} {hbm8 : _} {hsn8 : _} {hsub8 : _} {hab8 : _} {hcol8 : _} {hdd8 : _} {hk08 : _} {hk18 : _} {hk28 : _} {hk38 : _} {hk58 : _}
    {hcJ : Addr}
    (a0 : PySem.W.nsIn K mainGlobals "_law_bag" = some (some (.ref f0))) (l0 : K.lookup f0 = some ⟨oc0, od0, .func (PySem.W.fnOf "_law_bag" "_law_bag" (defArgs s_l_bag) (defBody s_l_bag) (defScope s_l_bag) .none kV0 dc0 pm0 an0 cd0 ct0), sl0⟩) (c0 : PySem.W.codeIn K cd0 "_law_bag" = true) (k0 : PySem.W.keepIn K (.ref f0) = true)
    (a1 : PySem.W.nsIn K mainGlobals "_law_take" = some (some (.ref f1))) (l1 : K.lookup f1 = some ⟨oc1, od1, .func (PySem.W.fnOf "_law_take" "_law_take" (defArgs s_l_take) (defBody s_l_take) (defScope s_l_take) .none kV1 dc1 pm1 an1 cd1 ct1), sl1⟩) (c1 : PySem.W.codeIn K cd1 "_law_take" = true) (k1 : PySem.W.keepIn K (.ref f1) = true)
    (a2 : PySem.W.nsIn K mainGlobals "_law_one" = some (some (.ref f2))) (l2 : K.lookup f2 = some ⟨oc2, od2, .func (PySem.W.fnOf "_law_one" "_law_one" (defArgs s_l_one) (defBody s_l_one) (defScope s_l_one) .none kV2 dc2 pm2 an2 cd2 ct2), sl2⟩) (c2 : PySem.W.codeIn K cd2 "_law_one" = true) (k2 : PySem.W.keepIn K (.ref f2) = true)
    (a3 : PySem.W.nsIn K mainGlobals "_law_odd" = some (some (.ref f3))) (l3 : K.lookup f3 = some ⟨oc3, od3, .func (PySem.W.fnOf "_law_odd" "_law_odd" (defArgs s_l_odd) (defBody s_l_odd) (defScope s_l_odd) .none kV3 dc3 pm3 an3 cd3 ct3), sl3⟩) (c3 : PySem.W.codeIn K cd3 "_law_odd" = true) (k3 : PySem.W.keepIn K (.ref f3) = true)
    (a4 : PySem.W.nsIn K mainGlobals "_law_built" = some (some (.ref f4))) (l4 : K.lookup f4 = some ⟨oc4, od4, .func (PySem.W.fnOf "_law_built" "_law_built" (defArgs s_l_built) (defBody s_l_built) (defScope s_l_built) .none kV4 dc4 pm4 an4 cd4 ct4), sl4⟩) (c4 : PySem.W.codeIn K cd4 "_law_built" = true) (k4 : PySem.W.keepIn K (.ref f4) = true)
    (a5 : PySem.W.nsIn K mainGlobals "_law_classes" = some (some (.ref f5))) (l5 : K.lookup f5 = some ⟨oc5, od5, .func (PySem.W.fnOf "_law_classes" "_law_classes" (defArgs s_l_classes) (defBody s_l_classes) (defScope s_l_classes) .none kV5 dc5 pm5 an5 cd5 ct5), sl5⟩) (c5 : PySem.W.codeIn K cd5 "_law_classes" = true) (k5 : PySem.W.keepIn K (.ref f5) = true)
    (a6 : PySem.W.nsIn K mainGlobals "_law_are_apart" = some (some (.ref f6))) (l6 : K.lookup f6 = some ⟨oc6, od6, .func (PySem.W.fnOf "_law_are_apart" "_law_are_apart" (defArgs s_l_are_apart) (defBody s_l_are_apart) (defScope s_l_are_apart) .none kV6 dc6 pm6 an6 cd6 ct6), sl6⟩) (c6 : PySem.W.codeIn K cd6 "_law_are_apart" = true) (k6 : PySem.W.keepIn K (.ref f6) = true)
    (a7 : PySem.W.nsIn K mainGlobals "_law_alike" = some (some (.ref f7))) (l7 : K.lookup f7 = some ⟨oc7, od7, .func (PySem.W.fnOf "_law_alike" "_law_alike" (defArgs s_l_alike) (defBody s_l_alike) (defScope s_l_alike) .none kV7 dc7 pm7 an7 cd7 ct7), sl7⟩) (c7 : PySem.W.codeIn K cd7 "_law_alike" = true) (k7 : PySem.W.keepIn K (.ref f7) = true)
    (a8 : PySem.W.nsIn K mainGlobals "_law_fields" = some (some (.ref f8))) (l8 : K.lookup f8 = some ⟨oc8, od8, .func (PySem.W.fnOf "_law_fields" "_law_fields" (defArgs s_l_fields) (defBody s_l_fields) (defScope s_l_fields) .none kV8 dc8 pm8 an8 cd8 ct8), sl8⟩) (c8 : PySem.W.codeIn K cd8 "_law_fields" = true) (k8 : PySem.W.keepIn K (.ref f8) = true)
    (a9 : PySem.W.nsIn K mainGlobals "law" = some (some (.ref f9))) (l9 : K.lookup f9 = some ⟨oc9, od9, .func (PySem.W.fnOf "law" "law" (defArgs s_law) (defBody s_law) (defScope s_law) .none kV9 dc9 pm9 an9 cd9 ct9), sl9⟩) (c9 : PySem.W.codeIn K cd9 "law" = true) (k9 : PySem.W.keepIn K (.ref f9) = true)
    (ha_0 : PySem.W.nsIn K mainGlobals "Wrong" = some (some (.ref hc0))) (hi_0 : PySem.W.findIn K (.ref hc0) "__init__" = some (some (.ref hf0))) (hl_0 : K.lookup hf0 = some ⟨hoc0, hod0, .func (PySem.W.fnOf "__init__" "Wrong.__init__" (defArgs si_Wrong) (defBody si_Wrong) (defScope si_Wrong) .none hkV0 hdc0 hpm0 han0 hcd0 hct0), hsl0⟩) (hk_0 : PySem.W.codeIn K hcd0 "Wrong.__init__" = true) (hp_0 : PySem.W.keepIn K (.ref hf0) = true)
    (ho_0 : K.lookup hc0 = some (excClassObj hnm0 hq0 hc0 hN0 hbs0 hbm0 true hsn0 hsub0 hab0 hcol0 hdd0 hk00 hk10 hk20 hk30 hk50 "ValueError.__new__")) (hb_0 : PySem.HandSPX.refsVE hbm0 = true) (hs_0 : PySem.W.findIn K (.ref hc0) "__setattr__" = some (some (.builtin "object.__setattr__"))) (hx_0 : PySem.W.subIn K (.ref hc0) (.type "BaseException") = some true) (hy_0 : PySem.W.typeIn K (.ref hc0) = some (.type "type")) (hq_0 : PySem.W.keepIn K (.ref hc0) = true) (ht_0 : PySem.W.typeIn K (.ref hf0) = some (.type "function")) (hh_0 : PySem.W.findIn K (.ref hc0) "place" = some none) (e2_0 : PySem.W.findIn K (.ref hc0) "__getattribute__" = some (some (.builtin "BaseException.__getattribute__"))) (e3_0 : PySem.W.findIn K (.ref hc0) "__getattr__" = some none) (e5_0 : PySem.W.findIn K (.ref hc0) "__class__" = some (some (.builtin "object.__class__"))) (e6_0 : PySem.W.specialIn K (.builtin "object.__class__") "__get__" = some (some (.builtin "getset_descriptor.__get__"))) (e7_0 : PySem.W.takesIn K (.builtin "object.__class__") = some true) (e8_0 : PySem.W.mroIn K hc0 (.type "object") = some true) (e9_0 : PySem.W.hasDictIn K hc0 = true) (u0_0 : PySem.W.kitOne K (.ref hc0) (.type "int") = some false) (u1_0 : PySem.W.kitOne K (.ref hc0) (.type "bool") = some false) (u2_0 : PySem.W.kitOne K (.ref hc0) (.type "tuple") = some false) (u3_0 : PySem.W.kitOne K (.ref hc0) (.type "list") = some false) (u4_0 : PySem.W.kitOne K (.ref hc0) (.type "str") = some false) (u5_0 : PySem.W.kitOne K (.ref hc0) (.type "dict") = some false)
    (ha_1 : PySem.W.nsIn K mainGlobals "NoText" = some (some (.ref hc1))) (hi_1 : PySem.W.findIn K (.ref hc1) "__init__" = some (some (.ref hf1))) (hl_1 : K.lookup hf1 = some ⟨hoc1, hod1, .func (PySem.W.fnOf "__init__" "NoText.__init__" (defArgs si_NoText) (defBody si_NoText) (defScope si_NoText) .none hkV1 hdc1 hpm1 han1 hcd1 hct1), hsl1⟩) (hk_1 : PySem.W.codeIn K hcd1 "NoText.__init__" = true) (hp_1 : PySem.W.keepIn K (.ref hf1) = true)
    (ho_1 : K.lookup hc1 = some (excClassObj hnm1 hq1 hc1 hN1 hbs1 hbm1 true hsn1 hsub1 hab1 hcol1 hdd1 hk01 hk11 hk21 hk31 hk51 "ValueError.__new__")) (hb_1 : PySem.HandSPX.refsVE hbm1 = true) (hs_1 : PySem.W.findIn K (.ref hc1) "__setattr__" = some (some (.builtin "object.__setattr__"))) (hx_1 : PySem.W.subIn K (.ref hc1) (.type "BaseException") = some true) (hy_1 : PySem.W.typeIn K (.ref hc1) = some (.type "type")) (hq_1 : PySem.W.keepIn K (.ref hc1) = true) (ht_1 : PySem.W.typeIn K (.ref hf1) = some (.type "function")) (hh_1 : PySem.W.findIn K (.ref hc1) "line" = some none) (e2_1 : PySem.W.findIn K (.ref hc1) "__getattribute__" = some (some (.builtin "BaseException.__getattribute__"))) (e3_1 : PySem.W.findIn K (.ref hc1) "__getattr__" = some none) (e5_1 : PySem.W.findIn K (.ref hc1) "__class__" = some (some (.builtin "object.__class__"))) (e6_1 : PySem.W.specialIn K (.builtin "object.__class__") "__get__" = some (some (.builtin "getset_descriptor.__get__"))) (e7_1 : PySem.W.takesIn K (.builtin "object.__class__") = some true) (e8_1 : PySem.W.mroIn K hc1 (.type "object") = some true) (e9_1 : PySem.W.hasDictIn K hc1 = true) (u0_1 : PySem.W.kitOne K (.ref hc1) (.type "int") = some false) (u1_1 : PySem.W.kitOne K (.ref hc1) (.type "bool") = some false) (u2_1 : PySem.W.kitOne K (.ref hc1) (.type "tuple") = some false) (u3_1 : PySem.W.kitOne K (.ref hc1) (.type "list") = some false) (u4_1 : PySem.W.kitOne K (.ref hc1) (.type "str") = some false) (u5_1 : PySem.W.kitOne K (.ref hc1) (.type "dict") = some false)
    (ha_2 : PySem.W.nsIn K mainGlobals "TooMany" = some (some (.ref hc2))) (hi_2 : PySem.W.findIn K (.ref hc2) "__init__" = some (some (.ref hf2))) (hl_2 : K.lookup hf2 = some ⟨hoc2, hod2, .func (PySem.W.fnOf "__init__" "TooMany.__init__" (defArgs si_TooMany) (defBody si_TooMany) (defScope si_TooMany) .none hkV2 hdc2 hpm2 han2 hcd2 hct2), hsl2⟩) (hk_2 : PySem.W.codeIn K hcd2 "TooMany.__init__" = true) (hp_2 : PySem.W.keepIn K (.ref hf2) = true)
    (ho_2 : K.lookup hc2 = some (excClassObj hnm2 hq2 hc2 hN2 hbs2 hbm2 true hsn2 hsub2 hab2 hcol2 hdd2 hk02 hk12 hk22 hk32 hk52 "ValueError.__new__")) (hb_2 : PySem.HandSPX.refsVE hbm2 = true) (hs_2 : PySem.W.findIn K (.ref hc2) "__setattr__" = some (some (.builtin "object.__setattr__"))) (hx_2 : PySem.W.subIn K (.ref hc2) (.type "BaseException") = some true) (hy_2 : PySem.W.typeIn K (.ref hc2) = some (.type "type")) (hq_2 : PySem.W.keepIn K (.ref hc2) = true) (ht_2 : PySem.W.typeIn K (.ref hf2) = some (.type "function")) (hh_2 : PySem.W.findIn K (.ref hc2) "most" = some none) (e2_2 : PySem.W.findIn K (.ref hc2) "__getattribute__" = some (some (.builtin "BaseException.__getattribute__"))) (e3_2 : PySem.W.findIn K (.ref hc2) "__getattr__" = some none) (e5_2 : PySem.W.findIn K (.ref hc2) "__class__" = some (some (.builtin "object.__class__"))) (e6_2 : PySem.W.specialIn K (.builtin "object.__class__") "__get__" = some (some (.builtin "getset_descriptor.__get__"))) (e7_2 : PySem.W.takesIn K (.builtin "object.__class__") = some true) (e8_2 : PySem.W.mroIn K hc2 (.type "object") = some true) (e9_2 : PySem.W.hasDictIn K hc2 = true) (u0_2 : PySem.W.kitOne K (.ref hc2) (.type "int") = some false) (u1_2 : PySem.W.kitOne K (.ref hc2) (.type "bool") = some false) (u2_2 : PySem.W.kitOne K (.ref hc2) (.type "tuple") = some false) (u3_2 : PySem.W.kitOne K (.ref hc2) (.type "list") = some false) (u4_2 : PySem.W.kitOne K (.ref hc2) (.type "str") = some false) (u5_2 : PySem.W.kitOne K (.ref hc2) (.type "dict") = some false)
    (ha_3 : PySem.W.nsIn K mainGlobals "NoneLet" = some (some (.ref hc3))) (hi_3 : PySem.W.findIn K (.ref hc3) "__init__" = some (some (.ref hf3))) (hl_3 : K.lookup hf3 = some ⟨hoc3, hod3, .func (PySem.W.fnOf "__init__" "NoneLet.__init__" (defArgs si_NoneLet) (defBody si_NoneLet) (defScope si_NoneLet) .none hkV3 hdc3 hpm3 han3 hcd3 hct3), hsl3⟩) (hk_3 : PySem.W.codeIn K hcd3 "NoneLet.__init__" = true) (hp_3 : PySem.W.keepIn K (.ref hf3) = true)
    (ho_3 : K.lookup hc3 = some (excClassObj hnm3 hq3 hc3 hN3 hbs3 hbm3 true hsn3 hsub3 hab3 hcol3 hdd3 hk03 hk13 hk23 hk33 hk53 "ValueError.__new__")) (hb_3 : PySem.HandSPX.refsVE hbm3 = true) (hs_3 : PySem.W.findIn K (.ref hc3) "__setattr__" = some (some (.builtin "object.__setattr__"))) (hx_3 : PySem.W.subIn K (.ref hc3) (.type "BaseException") = some true) (hy_3 : PySem.W.typeIn K (.ref hc3) = some (.type "type")) (hq_3 : PySem.W.keepIn K (.ref hc3) = true) (ht_3 : PySem.W.typeIn K (.ref hf3) = some (.type "function")) (hh_3 : PySem.W.findIn K (.ref hc3) "paper" = some none) (e2_3 : PySem.W.findIn K (.ref hc3) "__getattribute__" = some (some (.builtin "BaseException.__getattribute__"))) (e3_3 : PySem.W.findIn K (.ref hc3) "__getattr__" = some none) (e5_3 : PySem.W.findIn K (.ref hc3) "__class__" = some (some (.builtin "object.__class__"))) (e6_3 : PySem.W.specialIn K (.builtin "object.__class__") "__get__" = some (some (.builtin "getset_descriptor.__get__"))) (e7_3 : PySem.W.takesIn K (.builtin "object.__class__") = some true) (e8_3 : PySem.W.mroIn K hc3 (.type "object") = some true) (e9_3 : PySem.W.hasDictIn K hc3 = true) (u0_3 : PySem.W.kitOne K (.ref hc3) (.type "int") = some false) (u1_3 : PySem.W.kitOne K (.ref hc3) (.type "bool") = some false) (u2_3 : PySem.W.kitOne K (.ref hc3) (.type "tuple") = some false) (u3_3 : PySem.W.kitOne K (.ref hc3) (.type "list") = some false) (u4_3 : PySem.W.kitOne K (.ref hc3) (.type "str") = some false) (u5_3 : PySem.W.kitOne K (.ref hc3) (.type "dict") = some false)
    (ha_4 : PySem.W.nsIn K mainGlobals "Jammed" = some (some (.ref hc4))) (hi_4 : PySem.W.findIn K (.ref hc4) "__init__" = some (some (.ref hf4))) (hl_4 : K.lookup hf4 = some ⟨hoc4, hod4, .func (PySem.W.fnOf "__init__" "Jammed.__init__" (defArgs si_Jammed) (defBody si_Jammed) (defScope si_Jammed) .none hkV4 hdc4 hpm4 han4 hcd4 hct4), hsl4⟩) (hk_4 : PySem.W.codeIn K hcd4 "Jammed.__init__" = true) (hp_4 : PySem.W.keepIn K (.ref hf4) = true)
    (ho_4 : K.lookup hc4 = some (excClassObj hnm4 hq4 hc4 hN4 hbs4 hbm4 true hsn4 hsub4 hab4 hcol4 hdd4 hk04 hk14 hk24 hk34 hk54 "ValueError.__new__")) (hb_4 : PySem.HandSPX.refsVE hbm4 = true) (hs_4 : PySem.W.findIn K (.ref hc4) "__setattr__" = some (some (.builtin "object.__setattr__"))) (hx_4 : PySem.W.subIn K (.ref hc4) (.type "BaseException") = some true) (hy_4 : PySem.W.typeIn K (.ref hc4) = some (.type "type")) (hq_4 : PySem.W.keepIn K (.ref hc4) = true) (ht_4 : PySem.W.typeIn K (.ref hf4) = some (.type "function")) (hh_4 : PySem.W.findIn K (.ref hc4) "link" = some none) (e2_4 : PySem.W.findIn K (.ref hc4) "__getattribute__" = some (some (.builtin "BaseException.__getattribute__"))) (e3_4 : PySem.W.findIn K (.ref hc4) "__getattr__" = some none) (e5_4 : PySem.W.findIn K (.ref hc4) "__class__" = some (some (.builtin "object.__class__"))) (e6_4 : PySem.W.specialIn K (.builtin "object.__class__") "__get__" = some (some (.builtin "getset_descriptor.__get__"))) (e7_4 : PySem.W.takesIn K (.builtin "object.__class__") = some true) (e8_4 : PySem.W.mroIn K hc4 (.type "object") = some true) (e9_4 : PySem.W.hasDictIn K hc4 = true) (u0_4 : PySem.W.kitOne K (.ref hc4) (.type "int") = some false) (u1_4 : PySem.W.kitOne K (.ref hc4) (.type "bool") = some false) (u2_4 : PySem.W.kitOne K (.ref hc4) (.type "tuple") = some false) (u3_4 : PySem.W.kitOne K (.ref hc4) (.type "list") = some false) (u4_4 : PySem.W.kitOne K (.ref hc4) (.type "str") = some false) (u5_4 : PySem.W.kitOne K (.ref hc4) (.type "dict") = some false)
    (ha_5 : PySem.W.nsIn K mainGlobals "NoFlow" = some (some (.ref hc5))) (hi_5 : PySem.W.findIn K (.ref hc5) "__init__" = some (some (.ref hf5))) (hl_5 : K.lookup hf5 = some ⟨hoc5, hod5, .func (PySem.W.fnOf "__init__" "NoFlow.__init__" (defArgs si_NoFlow) (defBody si_NoFlow) (defScope si_NoFlow) .none hkV5 hdc5 hpm5 han5 hcd5 hct5), hsl5⟩) (hk_5 : PySem.W.codeIn K hcd5 "NoFlow.__init__" = true) (hp_5 : PySem.W.keepIn K (.ref hf5) = true)
    (ho_5 : K.lookup hc5 = some (excClassObj hnm5 hq5 hc5 hN5 hbs5 hbm5 true hsn5 hsub5 hab5 hcol5 hdd5 hk05 hk15 hk25 hk35 hk55 "ValueError.__new__")) (hb_5 : PySem.HandSPX.refsVE hbm5 = true) (hs_5 : PySem.W.findIn K (.ref hc5) "__setattr__" = some (some (.builtin "object.__setattr__"))) (hx_5 : PySem.W.subIn K (.ref hc5) (.type "BaseException") = some true) (hy_5 : PySem.W.typeIn K (.ref hc5) = some (.type "type")) (hq_5 : PySem.W.keepIn K (.ref hc5) = true) (ht_5 : PySem.W.typeIn K (.ref hf5) = some (.type "function")) (hh_5 : PySem.W.findIn K (.ref hc5) "flow" = some none) (e2_5 : PySem.W.findIn K (.ref hc5) "__getattribute__" = some (some (.builtin "BaseException.__getattribute__"))) (e3_5 : PySem.W.findIn K (.ref hc5) "__getattr__" = some none) (e5_5 : PySem.W.findIn K (.ref hc5) "__class__" = some (some (.builtin "object.__class__"))) (e6_5 : PySem.W.specialIn K (.builtin "object.__class__") "__get__" = some (some (.builtin "getset_descriptor.__get__"))) (e7_5 : PySem.W.takesIn K (.builtin "object.__class__") = some true) (e8_5 : PySem.W.mroIn K hc5 (.type "object") = some true) (e9_5 : PySem.W.hasDictIn K hc5 = true) (u0_5 : PySem.W.kitOne K (.ref hc5) (.type "int") = some false) (u1_5 : PySem.W.kitOne K (.ref hc5) (.type "bool") = some false) (u2_5 : PySem.W.kitOne K (.ref hc5) (.type "tuple") = some false) (u3_5 : PySem.W.kitOne K (.ref hc5) (.type "list") = some false) (u4_5 : PySem.W.kitOne K (.ref hc5) (.type "str") = some false) (u5_5 : PySem.W.kitOne K (.ref hc5) (.type "dict") = some false)
    (ha_6 : PySem.W.nsIn K mainGlobals "NoLink" = some (some (.ref hc6))) (hi_6 : PySem.W.findIn K (.ref hc6) "__init__" = some (some (.ref hf6))) (hl_6 : K.lookup hf6 = some ⟨hoc6, hod6, .func (PySem.W.fnOf "__init__" "NoLink.__init__" (defArgs si_NoLink) (defBody si_NoLink) (defScope si_NoLink) .none hkV6 hdc6 hpm6 han6 hcd6 hct6), hsl6⟩) (hk_6 : PySem.W.codeIn K hcd6 "NoLink.__init__" = true) (hp_6 : PySem.W.keepIn K (.ref hf6) = true)
    (ho_6 : K.lookup hc6 = some (excClassObj hnm6 hq6 hc6 hN6 hbs6 hbm6 true hsn6 hsub6 hab6 hcol6 hdd6 hk06 hk16 hk26 hk36 hk56 "ValueError.__new__")) (hb_6 : PySem.HandSPX.refsVE hbm6 = true) (hs_6 : PySem.W.findIn K (.ref hc6) "__setattr__" = some (some (.builtin "object.__setattr__"))) (hx_6 : PySem.W.subIn K (.ref hc6) (.type "BaseException") = some true) (hy_6 : PySem.W.typeIn K (.ref hc6) = some (.type "type")) (hq_6 : PySem.W.keepIn K (.ref hc6) = true) (ht_6 : PySem.W.typeIn K (.ref hf6) = some (.type "function")) (hh_6 : PySem.W.findIn K (.ref hc6) "link" = some none) (e2_6 : PySem.W.findIn K (.ref hc6) "__getattribute__" = some (some (.builtin "BaseException.__getattribute__"))) (e3_6 : PySem.W.findIn K (.ref hc6) "__getattr__" = some none) (e5_6 : PySem.W.findIn K (.ref hc6) "__class__" = some (some (.builtin "object.__class__"))) (e6_6 : PySem.W.specialIn K (.builtin "object.__class__") "__get__" = some (some (.builtin "getset_descriptor.__get__"))) (e7_6 : PySem.W.takesIn K (.builtin "object.__class__") = some true) (e8_6 : PySem.W.mroIn K hc6 (.type "object") = some true) (e9_6 : PySem.W.hasDictIn K hc6 = true) (u0_6 : PySem.W.kitOne K (.ref hc6) (.type "int") = some false) (u1_6 : PySem.W.kitOne K (.ref hc6) (.type "bool") = some false) (u2_6 : PySem.W.kitOne K (.ref hc6) (.type "tuple") = some false) (u3_6 : PySem.W.kitOne K (.ref hc6) (.type "list") = some false) (u4_6 : PySem.W.kitOne K (.ref hc6) (.type "str") = some false) (u5_6 : PySem.W.kitOne K (.ref hc6) (.type "dict") = some false)
    (ha_7 : PySem.W.nsIn K mainGlobals "NoOrder" = some (some (.ref hc7))) (hi_7 : PySem.W.findIn K (.ref hc7) "__init__" = some (some (.ref hf7))) (hl_7 : K.lookup hf7 = some ⟨hoc7, hod7, .func (PySem.W.fnOf "__init__" "NoOrder.__init__" (defArgs si_NoOrder) (defBody si_NoOrder) (defScope si_NoOrder) .none hkV7 hdc7 hpm7 han7 hcd7 hct7), hsl7⟩) (hk_7 : PySem.W.codeIn K hcd7 "NoOrder.__init__" = true) (hp_7 : PySem.W.keepIn K (.ref hf7) = true)
    (ho_7 : K.lookup hc7 = some (excClassObj hnm7 hq7 hc7 hN7 hbs7 hbm7 true hsn7 hsub7 hab7 hcol7 hdd7 hk07 hk17 hk27 hk37 hk57 "ValueError.__new__")) (hb_7 : PySem.HandSPX.refsVE hbm7 = true) (hs_7 : PySem.W.findIn K (.ref hc7) "__setattr__" = some (some (.builtin "object.__setattr__"))) (hx_7 : PySem.W.subIn K (.ref hc7) (.type "BaseException") = some true) (hy_7 : PySem.W.typeIn K (.ref hc7) = some (.type "type")) (hq_7 : PySem.W.keepIn K (.ref hc7) = true) (ht_7 : PySem.W.typeIn K (.ref hf7) = some (.type "function")) (hh_7 : PySem.W.findIn K (.ref hc7) "number" = some none) (e2_7 : PySem.W.findIn K (.ref hc7) "__getattribute__" = some (some (.builtin "BaseException.__getattribute__"))) (e3_7 : PySem.W.findIn K (.ref hc7) "__getattr__" = some none) (e5_7 : PySem.W.findIn K (.ref hc7) "__class__" = some (some (.builtin "object.__class__"))) (e6_7 : PySem.W.specialIn K (.builtin "object.__class__") "__get__" = some (some (.builtin "getset_descriptor.__get__"))) (e7_7 : PySem.W.takesIn K (.builtin "object.__class__") = some true) (e8_7 : PySem.W.mroIn K hc7 (.type "object") = some true) (e9_7 : PySem.W.hasDictIn K hc7 = true) (u0_7 : PySem.W.kitOne K (.ref hc7) (.type "int") = some false) (u1_7 : PySem.W.kitOne K (.ref hc7) (.type "bool") = some false) (u2_7 : PySem.W.kitOne K (.ref hc7) (.type "tuple") = some false) (u3_7 : PySem.W.kitOne K (.ref hc7) (.type "list") = some false) (u4_7 : PySem.W.kitOne K (.ref hc7) (.type "str") = some false) (u5_7 : PySem.W.kitOne K (.ref hc7) (.type "dict") = some false)
    (ha_8 : PySem.W.nsIn K mainGlobals "NoCommand" = some (some (.ref hc8))) (hi_8 : PySem.W.findIn K (.ref hc8) "__init__" = some (some (.ref hf8))) (hl_8 : K.lookup hf8 = some ⟨hoc8, hod8, .func (PySem.W.fnOf "__init__" "NoCommand.__init__" (defArgs si_NoCommand) (defBody si_NoCommand) (defScope si_NoCommand) .none hkV8 hdc8 hpm8 han8 hcd8 hct8), hsl8⟩) (hk_8 : PySem.W.codeIn K hcd8 "NoCommand.__init__" = true) (hp_8 : PySem.W.keepIn K (.ref hf8) = true)
    (ho_8 : K.lookup hc8 = some (excClassObj hnm8 hq8 hc8 hN8 hbs8 hbm8 true hsn8 hsub8 hab8 hcol8 hdd8 hk08 hk18 hk28 hk38 hk58 "ValueError.__new__")) (hb_8 : PySem.HandSPX.refsVE hbm8 = true) (hs_8 : PySem.W.findIn K (.ref hc8) "__setattr__" = some (some (.builtin "object.__setattr__"))) (hx_8 : PySem.W.subIn K (.ref hc8) (.type "BaseException") = some true) (hy_8 : PySem.W.typeIn K (.ref hc8) = some (.type "type")) (hq_8 : PySem.W.keepIn K (.ref hc8) = true) (ht_8 : PySem.W.typeIn K (.ref hf8) = some (.type "function")) (e2_8 : PySem.W.findIn K (.ref hc8) "__getattribute__" = some (some (.builtin "BaseException.__getattribute__"))) (e3_8 : PySem.W.findIn K (.ref hc8) "__getattr__" = some none) (e5_8 : PySem.W.findIn K (.ref hc8) "__class__" = some (some (.builtin "object.__class__"))) (e6_8 : PySem.W.specialIn K (.builtin "object.__class__") "__get__" = some (some (.builtin "getset_descriptor.__get__"))) (e7_8 : PySem.W.takesIn K (.builtin "object.__class__") = some true) (e8_8 : PySem.W.mroIn K hc8 (.type "object") = some true) (e9_8 : PySem.W.hasDictIn K hc8 = true) (u0_8 : PySem.W.kitOne K (.ref hc8) (.type "int") = some false) (u1_8 : PySem.W.kitOne K (.ref hc8) (.type "bool") = some false) (u2_8 : PySem.W.kitOne K (.ref hc8) (.type "tuple") = some false) (u3_8 : PySem.W.kitOne K (.ref hc8) (.type "list") = some false) (u4_8 : PySem.W.kitOne K (.ref hc8) (.type "str") = some false) (u5_8 : PySem.W.kitOne K (.ref hc8) (.type "dict") = some false)
    (ha_J : PySem.W.nsIn K mainGlobals "JamError" = some (some (.ref hcJ)))
    (jj0 : PySem.W.kitOne K (.ref hc0) (.ref hcJ) = some true) (vv0 : PySem.W.kitOne K (.ref hc0) (.type "ValueError") = some true)
    (kk0_0 : PySem.W.kitOne K (.ref hc0) (.ref hc0) = some true)
    (kk0_1 : PySem.W.kitOne K (.ref hc0) (.ref hc1) = some false)
    (kk0_2 : PySem.W.kitOne K (.ref hc0) (.ref hc2) = some false)
    (kk0_3 : PySem.W.kitOne K (.ref hc0) (.ref hc3) = some false)
    (kk0_4 : PySem.W.kitOne K (.ref hc0) (.ref hc4) = some false)
    (kk0_5 : PySem.W.kitOne K (.ref hc0) (.ref hc5) = some false)
    (kk0_6 : PySem.W.kitOne K (.ref hc0) (.ref hc6) = some false)
    (kk0_7 : PySem.W.kitOne K (.ref hc0) (.ref hc7) = some false)
    (kk0_8 : PySem.W.kitOne K (.ref hc0) (.ref hc8) = some false)
    (jj1 : PySem.W.kitOne K (.ref hc1) (.ref hcJ) = some true) (vv1 : PySem.W.kitOne K (.ref hc1) (.type "ValueError") = some true)
    (kk1_0 : PySem.W.kitOne K (.ref hc1) (.ref hc0) = some false)
    (kk1_1 : PySem.W.kitOne K (.ref hc1) (.ref hc1) = some true)
    (kk1_2 : PySem.W.kitOne K (.ref hc1) (.ref hc2) = some false)
    (kk1_3 : PySem.W.kitOne K (.ref hc1) (.ref hc3) = some false)
    (kk1_4 : PySem.W.kitOne K (.ref hc1) (.ref hc4) = some false)
    (kk1_5 : PySem.W.kitOne K (.ref hc1) (.ref hc5) = some false)
    (kk1_6 : PySem.W.kitOne K (.ref hc1) (.ref hc6) = some false)
    (kk1_7 : PySem.W.kitOne K (.ref hc1) (.ref hc7) = some false)
    (kk1_8 : PySem.W.kitOne K (.ref hc1) (.ref hc8) = some false)
    (jj2 : PySem.W.kitOne K (.ref hc2) (.ref hcJ) = some true) (vv2 : PySem.W.kitOne K (.ref hc2) (.type "ValueError") = some true)
    (kk2_0 : PySem.W.kitOne K (.ref hc2) (.ref hc0) = some false)
    (kk2_1 : PySem.W.kitOne K (.ref hc2) (.ref hc1) = some false)
    (kk2_2 : PySem.W.kitOne K (.ref hc2) (.ref hc2) = some true)
    (kk2_3 : PySem.W.kitOne K (.ref hc2) (.ref hc3) = some false)
    (kk2_4 : PySem.W.kitOne K (.ref hc2) (.ref hc4) = some false)
    (kk2_5 : PySem.W.kitOne K (.ref hc2) (.ref hc5) = some false)
    (kk2_6 : PySem.W.kitOne K (.ref hc2) (.ref hc6) = some false)
    (kk2_7 : PySem.W.kitOne K (.ref hc2) (.ref hc7) = some false)
    (kk2_8 : PySem.W.kitOne K (.ref hc2) (.ref hc8) = some false)
    (jj3 : PySem.W.kitOne K (.ref hc3) (.ref hcJ) = some true) (vv3 : PySem.W.kitOne K (.ref hc3) (.type "ValueError") = some true)
    (kk3_0 : PySem.W.kitOne K (.ref hc3) (.ref hc0) = some false)
    (kk3_1 : PySem.W.kitOne K (.ref hc3) (.ref hc1) = some false)
    (kk3_2 : PySem.W.kitOne K (.ref hc3) (.ref hc2) = some false)
    (kk3_3 : PySem.W.kitOne K (.ref hc3) (.ref hc3) = some true)
    (kk3_4 : PySem.W.kitOne K (.ref hc3) (.ref hc4) = some false)
    (kk3_5 : PySem.W.kitOne K (.ref hc3) (.ref hc5) = some false)
    (kk3_6 : PySem.W.kitOne K (.ref hc3) (.ref hc6) = some false)
    (kk3_7 : PySem.W.kitOne K (.ref hc3) (.ref hc7) = some false)
    (kk3_8 : PySem.W.kitOne K (.ref hc3) (.ref hc8) = some false)
    (jj4 : PySem.W.kitOne K (.ref hc4) (.ref hcJ) = some true) (vv4 : PySem.W.kitOne K (.ref hc4) (.type "ValueError") = some true)
    (kk4_0 : PySem.W.kitOne K (.ref hc4) (.ref hc0) = some false)
    (kk4_1 : PySem.W.kitOne K (.ref hc4) (.ref hc1) = some false)
    (kk4_2 : PySem.W.kitOne K (.ref hc4) (.ref hc2) = some false)
    (kk4_3 : PySem.W.kitOne K (.ref hc4) (.ref hc3) = some false)
    (kk4_4 : PySem.W.kitOne K (.ref hc4) (.ref hc4) = some true)
    (kk4_5 : PySem.W.kitOne K (.ref hc4) (.ref hc5) = some false)
    (kk4_6 : PySem.W.kitOne K (.ref hc4) (.ref hc6) = some false)
    (kk4_7 : PySem.W.kitOne K (.ref hc4) (.ref hc7) = some false)
    (kk4_8 : PySem.W.kitOne K (.ref hc4) (.ref hc8) = some false)
    (jj5 : PySem.W.kitOne K (.ref hc5) (.ref hcJ) = some true) (vv5 : PySem.W.kitOne K (.ref hc5) (.type "ValueError") = some true)
    (kk5_0 : PySem.W.kitOne K (.ref hc5) (.ref hc0) = some false)
    (kk5_1 : PySem.W.kitOne K (.ref hc5) (.ref hc1) = some false)
    (kk5_2 : PySem.W.kitOne K (.ref hc5) (.ref hc2) = some false)
    (kk5_3 : PySem.W.kitOne K (.ref hc5) (.ref hc3) = some false)
    (kk5_4 : PySem.W.kitOne K (.ref hc5) (.ref hc4) = some false)
    (kk5_5 : PySem.W.kitOne K (.ref hc5) (.ref hc5) = some true)
    (kk5_6 : PySem.W.kitOne K (.ref hc5) (.ref hc6) = some false)
    (kk5_7 : PySem.W.kitOne K (.ref hc5) (.ref hc7) = some false)
    (kk5_8 : PySem.W.kitOne K (.ref hc5) (.ref hc8) = some false)
    (jj6 : PySem.W.kitOne K (.ref hc6) (.ref hcJ) = some true) (vv6 : PySem.W.kitOne K (.ref hc6) (.type "ValueError") = some true)
    (kk6_0 : PySem.W.kitOne K (.ref hc6) (.ref hc0) = some false)
    (kk6_1 : PySem.W.kitOne K (.ref hc6) (.ref hc1) = some false)
    (kk6_2 : PySem.W.kitOne K (.ref hc6) (.ref hc2) = some false)
    (kk6_3 : PySem.W.kitOne K (.ref hc6) (.ref hc3) = some false)
    (kk6_4 : PySem.W.kitOne K (.ref hc6) (.ref hc4) = some false)
    (kk6_5 : PySem.W.kitOne K (.ref hc6) (.ref hc5) = some false)
    (kk6_6 : PySem.W.kitOne K (.ref hc6) (.ref hc6) = some true)
    (kk6_7 : PySem.W.kitOne K (.ref hc6) (.ref hc7) = some false)
    (kk6_8 : PySem.W.kitOne K (.ref hc6) (.ref hc8) = some false)
    (jj7 : PySem.W.kitOne K (.ref hc7) (.ref hcJ) = some true) (vv7 : PySem.W.kitOne K (.ref hc7) (.type "ValueError") = some true)
    (kk7_0 : PySem.W.kitOne K (.ref hc7) (.ref hc0) = some false)
    (kk7_1 : PySem.W.kitOne K (.ref hc7) (.ref hc1) = some false)
    (kk7_2 : PySem.W.kitOne K (.ref hc7) (.ref hc2) = some false)
    (kk7_3 : PySem.W.kitOne K (.ref hc7) (.ref hc3) = some false)
    (kk7_4 : PySem.W.kitOne K (.ref hc7) (.ref hc4) = some false)
    (kk7_5 : PySem.W.kitOne K (.ref hc7) (.ref hc5) = some false)
    (kk7_6 : PySem.W.kitOne K (.ref hc7) (.ref hc6) = some false)
    (kk7_7 : PySem.W.kitOne K (.ref hc7) (.ref hc7) = some true)
    (kk7_8 : PySem.W.kitOne K (.ref hc7) (.ref hc8) = some false)
    (jj8 : PySem.W.kitOne K (.ref hc8) (.ref hcJ) = some true) (vv8 : PySem.W.kitOne K (.ref hc8) (.type "ValueError") = some true)
    (kk8_0 : PySem.W.kitOne K (.ref hc8) (.ref hc0) = some false)
    (kk8_1 : PySem.W.kitOne K (.ref hc8) (.ref hc1) = some false)
    (kk8_2 : PySem.W.kitOne K (.ref hc8) (.ref hc2) = some false)
    (kk8_3 : PySem.W.kitOne K (.ref hc8) (.ref hc3) = some false)
    (kk8_4 : PySem.W.kitOne K (.ref hc8) (.ref hc4) = some false)
    (kk8_5 : PySem.W.kitOne K (.ref hc8) (.ref hc5) = some false)
    (kk8_6 : PySem.W.kitOne K (.ref hc8) (.ref hc6) = some false)
    (kk8_7 : PySem.W.kitOne K (.ref hc8) (.ref hc7) = some false)
    (kk8_8 : PySem.W.kitOne K (.ref hc8) (.ref hc8) = some true)
    (z0 : PySem.W.nsIn K mainGlobals "ValueError" = some none)
    (z1 : PySem.W.nsIn K mainGlobals "abs" = some none)
    (z2 : PySem.W.nsIn K mainGlobals "enumerate" = some none)
    (z3 : PySem.W.nsIn K mainGlobals "int" = some none)
    (z4 : PySem.W.nsIn K mainGlobals "isinstance" = some none)
    (z5 : PySem.W.nsIn K mainGlobals "len" = some none)
    (z6 : PySem.W.nsIn K mainGlobals "range" = some none)
    (z7 : PySem.W.nsIn K mainGlobals "repr" = some none) :
    ∃ fd : FuncData, (∀ (s : Shared) (v : Value), BindsTo s fd ⟨[v], []⟩ [("_law_script", v)]) ∧ ∀ base : Heap, K.In base → base.Ns mainGlobals mg → ModB base → FnG l.prog w K mg base 9 fa fd ["_law_script"] (spLaw K) := by
  have e := hfa.symm.trans (PySem.W.mg_of X G a9)
  cases e
  let TX : Tx K mg := { f_l_bag := f0, d_l_bag := PySem.W.fnOf "_law_bag" "_law_bag" (defArgs s_l_bag) (defBody s_l_bag) (defScope s_l_bag) .none kV0 dc0 pm0 an0 cd0 ct0, F_l_bag := fun_mk (st := s_l_bag) l0 c0 k0, m_l_bag := PySem.W.mg_of X G a0, f_l_take := f1, d_l_take := PySem.W.fnOf "_law_take" "_law_take" (defArgs s_l_take) (defBody s_l_take) (defScope s_l_take) .none kV1 dc1 pm1 an1 cd1 ct1, F_l_take := fun_mk (st := s_l_take) l1 c1 k1, m_l_take := PySem.W.mg_of X G a1, f_l_one := f2, d_l_one := PySem.W.fnOf "_law_one" "_law_one" (defArgs s_l_one) (defBody s_l_one) (defScope s_l_one) .none kV2 dc2 pm2 an2 cd2 ct2, F_l_one := fun_mk (st := s_l_one) l2 c2 k2, m_l_one := PySem.W.mg_of X G a2, f_l_odd := f3, d_l_odd := PySem.W.fnOf "_law_odd" "_law_odd" (defArgs s_l_odd) (defBody s_l_odd) (defScope s_l_odd) .none kV3 dc3 pm3 an3 cd3 ct3, F_l_odd := fun_mk (st := s_l_odd) l3 c3 k3, m_l_odd := PySem.W.mg_of X G a3, f_l_built := f4, d_l_built := PySem.W.fnOf "_law_built" "_law_built" (defArgs s_l_built) (defBody s_l_built) (defScope s_l_built) .none kV4 dc4 pm4 an4 cd4 ct4, F_l_built := fun_mk (st := s_l_built) l4 c4 k4, m_l_built := PySem.W.mg_of X G a4, f_l_classes := f5, d_l_classes := PySem.W.fnOf "_law_classes" "_law_classes" (defArgs s_l_classes) (defBody s_l_classes) (defScope s_l_classes) .none kV5 dc5 pm5 an5 cd5 ct5, F_l_classes := fun_mk (st := s_l_classes) l5 c5 k5, m_l_classes := PySem.W.mg_of X G a5, f_l_are_apart := f6, d_l_are_apart := PySem.W.fnOf "_law_are_apart" "_law_are_apart" (defArgs s_l_are_apart) (defBody s_l_are_apart) (defScope s_l_are_apart) .none kV6 dc6 pm6 an6 cd6 ct6, F_l_are_apart := fun_mk (st := s_l_are_apart) l6 c6 k6, m_l_are_apart := PySem.W.mg_of X G a6, f_l_alike := f7, d_l_alike := PySem.W.fnOf "_law_alike" "_law_alike" (defArgs s_l_alike) (defBody s_l_alike) (defScope s_l_alike) .none kV7 dc7 pm7 an7 cd7 ct7, F_l_alike := fun_mk (st := s_l_alike) l7 c7 k7, m_l_alike := PySem.W.mg_of X G a7, f_l_fields := f8, d_l_fields := PySem.W.fnOf "_law_fields" "_law_fields" (defArgs s_l_fields) (defBody s_l_fields) (defScope s_l_fields) .none kV8 dc8 pm8 an8 cd8 ct8, F_l_fields := fun_mk (st := s_l_fields) l8 c8 k8, m_l_fields := PySem.W.mg_of X G a8, f_law := fa, d_law := PySem.W.fnOf "law" "law" (defArgs s_law) (defBody s_law) (defScope s_law) .none kV9 dc9 pm9 an9 cd9 ct9, F_law := fun_mk (st := s_law) l9 c9 k9, m_law := PySem.W.mg_of X G a9, c_Wrong := hc0, fi_Wrong := hf0, di_Wrong := PySem.W.fnOf "__init__" "Wrong.__init__" (defArgs si_Wrong) (defBody si_Wrong) (defScope si_Wrong) .none hkV0 hdc0 hpm0 han0 hcd0 hct0, Fi_Wrong := fun_mk (st := si_Wrong) hl_0 hk_0 hp_0, x_Wrong := ⟨⟨⟨_, _, _, _, _, _, _, _, _, _, _, _, _, _, _, ho_0, hb_0⟩, hs_0, hx_0, hy_0, hq_0⟩, ⟨cls_some ho_0, e2_0, ⟨_, e3_0⟩, hx_0, e5_0, e6_0, e7_0, e8_0, kit6 u0_0 u1_0 u2_0 u3_0 u4_0 u5_0⟩, ⟨e2_0, e3_0, hx_0, e9_0⟩⟩, i_Wrong := hi_0, t_Wrong := ht_0, mc_Wrong := PySem.W.mg_of X G ha_0, h_Wrong := hh_0, c_NoText := hc1, fi_NoText := hf1, di_NoText := PySem.W.fnOf "__init__" "NoText.__init__" (defArgs si_NoText) (defBody si_NoText) (defScope si_NoText) .none hkV1 hdc1 hpm1 han1 hcd1 hct1, Fi_NoText := fun_mk (st := si_NoText) hl_1 hk_1 hp_1, x_NoText := ⟨⟨⟨_, _, _, _, _, _, _, _, _, _, _, _, _, _, _, ho_1, hb_1⟩, hs_1, hx_1, hy_1, hq_1⟩, ⟨cls_some ho_1, e2_1, ⟨_, e3_1⟩, hx_1, e5_1, e6_1, e7_1, e8_1, kit6 u0_1 u1_1 u2_1 u3_1 u4_1 u5_1⟩, ⟨e2_1, e3_1, hx_1, e9_1⟩⟩, i_NoText := hi_1, t_NoText := ht_1, mc_NoText := PySem.W.mg_of X G ha_1, h_NoText := hh_1, c_TooMany := hc2, fi_TooMany := hf2, di_TooMany := PySem.W.fnOf "__init__" "TooMany.__init__" (defArgs si_TooMany) (defBody si_TooMany) (defScope si_TooMany) .none hkV2 hdc2 hpm2 han2 hcd2 hct2, Fi_TooMany := fun_mk (st := si_TooMany) hl_2 hk_2 hp_2, x_TooMany := ⟨⟨⟨_, _, _, _, _, _, _, _, _, _, _, _, _, _, _, ho_2, hb_2⟩, hs_2, hx_2, hy_2, hq_2⟩, ⟨cls_some ho_2, e2_2, ⟨_, e3_2⟩, hx_2, e5_2, e6_2, e7_2, e8_2, kit6 u0_2 u1_2 u2_2 u3_2 u4_2 u5_2⟩, ⟨e2_2, e3_2, hx_2, e9_2⟩⟩, i_TooMany := hi_2, t_TooMany := ht_2, mc_TooMany := PySem.W.mg_of X G ha_2, h_TooMany := hh_2, c_NoneLet := hc3, fi_NoneLet := hf3, di_NoneLet := PySem.W.fnOf "__init__" "NoneLet.__init__" (defArgs si_NoneLet) (defBody si_NoneLet) (defScope si_NoneLet) .none hkV3 hdc3 hpm3 han3 hcd3 hct3, Fi_NoneLet := fun_mk (st := si_NoneLet) hl_3 hk_3 hp_3, x_NoneLet := ⟨⟨⟨_, _, _, _, _, _, _, _, _, _, _, _, _, _, _, ho_3, hb_3⟩, hs_3, hx_3, hy_3, hq_3⟩, ⟨cls_some ho_3, e2_3, ⟨_, e3_3⟩, hx_3, e5_3, e6_3, e7_3, e8_3, kit6 u0_3 u1_3 u2_3 u3_3 u4_3 u5_3⟩, ⟨e2_3, e3_3, hx_3, e9_3⟩⟩, i_NoneLet := hi_3, t_NoneLet := ht_3, mc_NoneLet := PySem.W.mg_of X G ha_3, h_NoneLet := hh_3, c_Jammed := hc4, fi_Jammed := hf4, di_Jammed := PySem.W.fnOf "__init__" "Jammed.__init__" (defArgs si_Jammed) (defBody si_Jammed) (defScope si_Jammed) .none hkV4 hdc4 hpm4 han4 hcd4 hct4, Fi_Jammed := fun_mk (st := si_Jammed) hl_4 hk_4 hp_4, x_Jammed := ⟨⟨⟨_, _, _, _, _, _, _, _, _, _, _, _, _, _, _, ho_4, hb_4⟩, hs_4, hx_4, hy_4, hq_4⟩, ⟨cls_some ho_4, e2_4, ⟨_, e3_4⟩, hx_4, e5_4, e6_4, e7_4, e8_4, kit6 u0_4 u1_4 u2_4 u3_4 u4_4 u5_4⟩, ⟨e2_4, e3_4, hx_4, e9_4⟩⟩, i_Jammed := hi_4, t_Jammed := ht_4, mc_Jammed := PySem.W.mg_of X G ha_4, h_Jammed := hh_4, c_NoFlow := hc5, fi_NoFlow := hf5, di_NoFlow := PySem.W.fnOf "__init__" "NoFlow.__init__" (defArgs si_NoFlow) (defBody si_NoFlow) (defScope si_NoFlow) .none hkV5 hdc5 hpm5 han5 hcd5 hct5, Fi_NoFlow := fun_mk (st := si_NoFlow) hl_5 hk_5 hp_5, x_NoFlow := ⟨⟨⟨_, _, _, _, _, _, _, _, _, _, _, _, _, _, _, ho_5, hb_5⟩, hs_5, hx_5, hy_5, hq_5⟩, ⟨cls_some ho_5, e2_5, ⟨_, e3_5⟩, hx_5, e5_5, e6_5, e7_5, e8_5, kit6 u0_5 u1_5 u2_5 u3_5 u4_5 u5_5⟩, ⟨e2_5, e3_5, hx_5, e9_5⟩⟩, i_NoFlow := hi_5, t_NoFlow := ht_5, mc_NoFlow := PySem.W.mg_of X G ha_5, h_NoFlow := hh_5, c_NoLink := hc6, fi_NoLink := hf6, di_NoLink := PySem.W.fnOf "__init__" "NoLink.__init__" (defArgs si_NoLink) (defBody si_NoLink) (defScope si_NoLink) .none hkV6 hdc6 hpm6 han6 hcd6 hct6, Fi_NoLink := fun_mk (st := si_NoLink) hl_6 hk_6 hp_6, x_NoLink := ⟨⟨⟨_, _, _, _, _, _, _, _, _, _, _, _, _, _, _, ho_6, hb_6⟩, hs_6, hx_6, hy_6, hq_6⟩, ⟨cls_some ho_6, e2_6, ⟨_, e3_6⟩, hx_6, e5_6, e6_6, e7_6, e8_6, kit6 u0_6 u1_6 u2_6 u3_6 u4_6 u5_6⟩, ⟨e2_6, e3_6, hx_6, e9_6⟩⟩, i_NoLink := hi_6, t_NoLink := ht_6, mc_NoLink := PySem.W.mg_of X G ha_6, h_NoLink := hh_6, c_NoOrder := hc7, fi_NoOrder := hf7, di_NoOrder := PySem.W.fnOf "__init__" "NoOrder.__init__" (defArgs si_NoOrder) (defBody si_NoOrder) (defScope si_NoOrder) .none hkV7 hdc7 hpm7 han7 hcd7 hct7, Fi_NoOrder := fun_mk (st := si_NoOrder) hl_7 hk_7 hp_7, x_NoOrder := ⟨⟨⟨_, _, _, _, _, _, _, _, _, _, _, _, _, _, _, ho_7, hb_7⟩, hs_7, hx_7, hy_7, hq_7⟩, ⟨cls_some ho_7, e2_7, ⟨_, e3_7⟩, hx_7, e5_7, e6_7, e7_7, e8_7, kit6 u0_7 u1_7 u2_7 u3_7 u4_7 u5_7⟩, ⟨e2_7, e3_7, hx_7, e9_7⟩⟩, i_NoOrder := hi_7, t_NoOrder := ht_7, mc_NoOrder := PySem.W.mg_of X G ha_7, h_NoOrder := hh_7, c_NoCommand := hc8, fi_NoCommand := hf8, di_NoCommand := PySem.W.fnOf "__init__" "NoCommand.__init__" (defArgs si_NoCommand) (defBody si_NoCommand) (defScope si_NoCommand) .none hkV8 hdc8 hpm8 han8 hcd8 hct8, Fi_NoCommand := fun_mk (st := si_NoCommand) hl_8 hk_8 hp_8, x_NoCommand := ⟨⟨⟨_, _, _, _, _, _, _, _, _, _, _, _, _, _, _, ho_8, hb_8⟩, hs_8, hx_8, hy_8, hq_8⟩, ⟨cls_some ho_8, e2_8, ⟨_, e3_8⟩, hx_8, e5_8, e6_8, e7_8, e8_8, kit6 u0_8 u1_8 u2_8 u3_8 u4_8 u5_8⟩, ⟨e2_8, e3_8, hx_8, e9_8⟩⟩, i_NoCommand := hi_8, t_NoCommand := ht_8, mc_NoCommand := PySem.W.mg_of X G ha_8, c_JamError := hcJ, mc_JamError := PySem.W.mg_of X G ha_J, j0 := jj0, v0 := vv0, k0_0 := kk0_0, k0_1 := kk0_1, k0_2 := kk0_2, k0_3 := kk0_3, k0_4 := kk0_4, k0_5 := kk0_5, k0_6 := kk0_6, k0_7 := kk0_7, k0_8 := kk0_8, j1 := jj1, v1 := vv1, k1_0 := kk1_0, k1_1 := kk1_1, k1_2 := kk1_2, k1_3 := kk1_3, k1_4 := kk1_4, k1_5 := kk1_5, k1_6 := kk1_6, k1_7 := kk1_7, k1_8 := kk1_8, j2 := jj2, v2 := vv2, k2_0 := kk2_0, k2_1 := kk2_1, k2_2 := kk2_2, k2_3 := kk2_3, k2_4 := kk2_4, k2_5 := kk2_5, k2_6 := kk2_6, k2_7 := kk2_7, k2_8 := kk2_8, j3 := jj3, v3 := vv3, k3_0 := kk3_0, k3_1 := kk3_1, k3_2 := kk3_2, k3_3 := kk3_3, k3_4 := kk3_4, k3_5 := kk3_5, k3_6 := kk3_6, k3_7 := kk3_7, k3_8 := kk3_8, j4 := jj4, v4 := vv4, k4_0 := kk4_0, k4_1 := kk4_1, k4_2 := kk4_2, k4_3 := kk4_3, k4_4 := kk4_4, k4_5 := kk4_5, k4_6 := kk4_6, k4_7 := kk4_7, k4_8 := kk4_8, j5 := jj5, v5 := vv5, k5_0 := kk5_0, k5_1 := kk5_1, k5_2 := kk5_2, k5_3 := kk5_3, k5_4 := kk5_4, k5_5 := kk5_5, k5_6 := kk5_6, k5_7 := kk5_7, k5_8 := kk5_8, j6 := jj6, v6 := vv6, k6_0 := kk6_0, k6_1 := kk6_1, k6_2 := kk6_2, k6_3 := kk6_3, k6_4 := kk6_4, k6_5 := kk6_5, k6_6 := kk6_6, k6_7 := kk6_7, k6_8 := kk6_8, j7 := jj7, v7 := vv7, k7_0 := kk7_0, k7_1 := kk7_1, k7_2 := kk7_2, k7_3 := kk7_3, k7_4 := kk7_4, k7_5 := kk7_5, k7_6 := kk7_6, k7_7 := kk7_7, k7_8 := kk7_8, j8 := jj8, v8 := vv8, k8_0 := kk8_0, k8_1 := kk8_1, k8_2 := kk8_2, k8_3 := kk8_3, k8_4 := kk8_4, k8_5 := kk8_5, k8_6 := kk8_6, k8_7 := kk8_7, k8_8 := kk8_8, n_ValueError := PySem.W.mg_none_of X G z0, n_abs := PySem.W.mg_none_of X G z1, n_enumerate := PySem.W.mg_none_of X G z2, n_int := PySem.W.mg_none_of X G z3, n_isinstance := PySem.W.mg_none_of X G z4, n_len := PySem.W.mg_none_of X G z5, n_range := PySem.W.mg_none_of X G z6, n_repr := PySem.W.mg_none_of X G z7 }
  exact ⟨TX.d_law, fun s v => .of_eq rfl, fun base _ _ M => ok_law TX M⟩
end Kx
open PySem PySem.W PyProof.Rows
set_option maxHeartbeats 0 in
theorem PySem.Challenge.cw_neverjammed_k66_errors_made_of_any_value_holds : PySem.Challenge.rw_neverjammed_k66_errors_made_of_any_value.Holds := by
  w_on; o_law; k_head; (case hw => w_witness2)
  k_fill
  refine DL.walk_ofG2 (by decide +kernel) (l := PySem.Challenge.rw_neverjammed_k66_errors_made_of_any_value) (n := 63) (k := 9) (x := "_law_script") (sp := fun w => DL.spLaw _) rfl (by decide) rfl ⟨rfl, by decide, by decide⟩ (fun w h Y => PySem.W.kIn_of Y) ?F (fun _ _ a ns hl _ hS => ⟨a, ns, rfl, hS, fun _ => rfl⟩)
  case F =>
    intro w mg fa h KX G hmg
    refine' Kx.all_mk KX G hmg ?a0 ?l0 ?c0 ?k0 ?a1 ?l1 ?c1 ?k1 ?a2 ?l2 ?c2 ?k2 ?a3 ?l3 ?c3 ?k3 ?a4 ?l4 ?c4 ?k4 ?a5 ?l5 ?c5 ?k5 ?a6 ?l6 ?c6 ?k6 ?a7 ?l7 ?c7 ?k7 ?a8 ?l8 ?c8 ?k8 ?a9 ?l9 ?c9 ?k9 ?ha_0 ?hi_0 ?hl_0 ?hk_0 ?hp_0 ?ho_0 ?hb_0 ?hs_0 ?hx_0 ?hy_0 ?hq_0 ?ht_0 ?hh_0 ?e2_0 ?e3_0 ?e5_0 ?e6_0 ?e7_0 ?e8_0 ?e9_0 ?u0_0 ?u1_0 ?u2_0 ?u3_0 ?u4_0 ?u5_0 ?ha_1 ?hi_1 ?hl_1 ?hk_1 ?hp_1 ?ho_1 ?hb_1 ?hs_1 ?hx_1 ?hy_1 ?hq_1 ?ht_1 ?hh_1 ?e2_1 ?e3_1 ?e5_1 ?e6_1 ?e7_1 ?e8_1 ?e9_1 ?u0_1 ?u1_1 ?u2_1 ?u3_1 ?u4_1 ?u5_1 ?ha_2 ?hi_2 ?hl_2 ?hk_2 ?hp_2 ?ho_2 ?hb_2 ?hs_2 ?hx_2 ?hy_2 ?hq_2 ?ht_2 ?hh_2 ?e2_2 ?e3_2 ?e5_2 ?e6_2 ?e7_2 ?e8_2 ?e9_2 ?u0_2 ?u1_2 ?u2_2 ?u3_2 ?u4_2 ?u5_2 ?ha_3 ?hi_3 ?hl_3 ?hk_3 ?hp_3 ?ho_3 ?hb_3 ?hs_3 ?hx_3 ?hy_3 ?hq_3 ?ht_3 ?hh_3 ?e2_3 ?e3_3 ?e5_3 ?e6_3 ?e7_3 ?e8_3 ?e9_3 ?u0_3 ?u1_3 ?u2_3 ?u3_3 ?u4_3 ?u5_3 ?ha_4 ?hi_4 ?hl_4 ?hk_4 ?hp_4 ?ho_4 ?hb_4 ?hs_4 ?hx_4 ?hy_4 ?hq_4 ?ht_4 ?hh_4 ?e2_4 ?e3_4 ?e5_4 ?e6_4 ?e7_4 ?e8_4 ?e9_4 ?u0_4 ?u1_4 ?u2_4 ?u3_4 ?u4_4 ?u5_4 ?ha_5 ?hi_5 ?hl_5 ?hk_5 ?hp_5 ?ho_5 ?hb_5 ?hs_5 ?hx_5 ?hy_5 ?hq_5 ?ht_5 ?hh_5 ?e2_5 ?e3_5 ?e5_5 ?e6_5 ?e7_5 ?e8_5 ?e9_5 ?u0_5 ?u1_5 ?u2_5 ?u3_5 ?u4_5 ?u5_5 ?ha_6 ?hi_6 ?hl_6 ?hk_6 ?hp_6 ?ho_6 ?hb_6 ?hs_6 ?hx_6 ?hy_6 ?hq_6 ?ht_6 ?hh_6 ?e2_6 ?e3_6 ?e5_6 ?e6_6 ?e7_6 ?e8_6 ?e9_6 ?u0_6 ?u1_6 ?u2_6 ?u3_6 ?u4_6 ?u5_6 ?ha_7 ?hi_7 ?hl_7 ?hk_7 ?hp_7 ?ho_7 ?hb_7 ?hs_7 ?hx_7 ?hy_7 ?hq_7 ?ht_7 ?hh_7 ?e2_7 ?e3_7 ?e5_7 ?e6_7 ?e7_7 ?e8_7 ?e9_7 ?u0_7 ?u1_7 ?u2_7 ?u3_7 ?u4_7 ?u5_7 ?ha_8 ?hi_8 ?hl_8 ?hk_8 ?hp_8 ?ho_8 ?hb_8 ?hs_8 ?hx_8 ?hy_8 ?hq_8 ?ht_8 ?e2_8 ?e3_8 ?e5_8 ?e6_8 ?e7_8 ?e8_8 ?e9_8 ?u0_8 ?u1_8 ?u2_8 ?u3_8 ?u4_8 ?u5_8 ?ha_J ?jj0 ?vv0 ?kk0_0 ?kk0_1 ?kk0_2 ?kk0_3 ?kk0_4 ?kk0_5 ?kk0_6 ?kk0_7 ?kk0_8 ?jj1 ?vv1 ?kk1_0 ?kk1_1 ?kk1_2 ?kk1_3 ?kk1_4 ?kk1_5 ?kk1_6 ?kk1_7 ?kk1_8 ?jj2 ?vv2 ?kk2_0 ?kk2_1 ?kk2_2 ?kk2_3 ?kk2_4 ?kk2_5 ?kk2_6 ?kk2_7 ?kk2_8 ?jj3 ?vv3 ?kk3_0 ?kk3_1 ?kk3_2 ?kk3_3 ?kk3_4 ?kk3_5 ?kk3_6 ?kk3_7 ?kk3_8 ?jj4 ?vv4 ?kk4_0 ?kk4_1 ?kk4_2 ?kk4_3 ?kk4_4 ?kk4_5 ?kk4_6 ?kk4_7 ?kk4_8 ?jj5 ?vv5 ?kk5_0 ?kk5_1 ?kk5_2 ?kk5_3 ?kk5_4 ?kk5_5 ?kk5_6 ?kk5_7 ?kk5_8 ?jj6 ?vv6 ?kk6_0 ?kk6_1 ?kk6_2 ?kk6_3 ?kk6_4 ?kk6_5 ?kk6_6 ?kk6_7 ?kk6_8 ?jj7 ?vv7 ?kk7_0 ?kk7_1 ?kk7_2 ?kk7_3 ?kk7_4 ?kk7_5 ?kk7_6 ?kk7_7 ?kk7_8 ?jj8 ?vv8 ?kk8_0 ?kk8_1 ?kk8_2 ?kk8_3 ?kk8_4 ?kk8_5 ?kk8_6 ?kk8_7 ?kk8_8 ?z0 ?z1 ?z2 ?z3 ?z4 ?z5 ?z6 ?z7
    (case a0 => k_is); (case l0 => k_is); (case c0 => k_is); (case k0 => k_is); (case a1 => k_is); (case l1 => k_is); (case c1 => k_is); (case k1 => k_is); (case a2 => k_is); (case l2 => k_is); (case c2 => k_is); (case k2 => k_is); (case a3 => k_is); (case l3 => k_is); (case c3 => k_is); (case k3 => k_is); (case a4 => k_is); (case l4 => k_is); (case c4 => k_is); (case k4 => k_is); (case a5 => k_is); (case l5 => k_is); (case c5 => k_is); (case k5 => k_is); (case a6 => k_is); (case l6 => k_is); (case c6 => k_is); (case k6 => k_is); (case a7 => k_is); (case l7 => k_is); (case c7 => k_is); (case k7 => k_is); (case a8 => k_is); (case l8 => k_is); (case c8 => k_is); (case k8 => k_is); (case a9 => k_is); (case l9 => k_is); (case c9 => k_is); (case k9 => k_is); (case ha_0 => k_is); (case hi_0 => k_is); (case hl_0 => k_is); (case hk_0 => k_is); (case hp_0 => k_is); (case ho_0 => k_is); (case hb_0 => rfl); (case hs_0 => k_is); (case hx_0 => k_is); (case hy_0 => k_is); (case hq_0 => k_is); (case ht_0 => k_is); (case hh_0 => k_is); (case e2_0 => k_is); (case e3_0 => k_is); (case e5_0 => k_is); (case e6_0 => k_is); (case e7_0 => k_is); (case e8_0 => k_is); (case e9_0 => k_is); (case u0_0 => kit_is); (case u1_0 => kit_is); (case u2_0 => kit_is); (case u3_0 => kit_is); (case u4_0 => kit_is); (case u5_0 => kit_is); (case ha_1 => k_is); (case hi_1 => k_is); (case hl_1 => k_is); (case hk_1 => k_is); (case hp_1 => k_is); (case ho_1 => k_is); (case hb_1 => rfl); (case hs_1 => k_is); (case hx_1 => k_is); (case hy_1 => k_is); (case hq_1 => k_is); (case ht_1 => k_is); (case hh_1 => k_is); (case e2_1 => k_is); (case e3_1 => k_is); (case e5_1 => k_is); (case e6_1 => k_is); (case e7_1 => k_is); (case e8_1 => k_is); (case e9_1 => k_is); (case u0_1 => kit_is); (case u1_1 => kit_is); (case u2_1 => kit_is); (case u3_1 => kit_is); (case u4_1 => kit_is); (case u5_1 => kit_is); (case ha_2 => k_is); (case hi_2 => k_is); (case hl_2 => k_is); (case hk_2 => k_is); (case hp_2 => k_is); (case ho_2 => k_is); (case hb_2 => rfl); (case hs_2 => k_is); (case hx_2 => k_is); (case hy_2 => k_is); (case hq_2 => k_is); (case ht_2 => k_is); (case hh_2 => k_is); (case e2_2 => k_is); (case e3_2 => k_is); (case e5_2 => k_is); (case e6_2 => k_is); (case e7_2 => k_is); (case e8_2 => k_is); (case e9_2 => k_is); (case u0_2 => kit_is); (case u1_2 => kit_is); (case u2_2 => kit_is); (case u3_2 => kit_is); (case u4_2 => kit_is); (case u5_2 => kit_is); (case ha_3 => k_is); (case hi_3 => k_is); (case hl_3 => k_is); (case hk_3 => k_is); (case hp_3 => k_is); (case ho_3 => k_is); (case hb_3 => rfl); (case hs_3 => k_is); (case hx_3 => k_is); (case hy_3 => k_is); (case hq_3 => k_is); (case ht_3 => k_is); (case hh_3 => k_is); (case e2_3 => k_is); (case e3_3 => k_is); (case e5_3 => k_is); (case e6_3 => k_is); (case e7_3 => k_is); (case e8_3 => k_is); (case e9_3 => k_is); (case u0_3 => kit_is); (case u1_3 => kit_is); (case u2_3 => kit_is); (case u3_3 => kit_is); (case u4_3 => kit_is); (case u5_3 => kit_is); (case ha_4 => k_is); (case hi_4 => k_is); (case hl_4 => k_is); (case hk_4 => k_is); (case hp_4 => k_is); (case ho_4 => k_is); (case hb_4 => rfl); (case hs_4 => k_is); (case hx_4 => k_is); (case hy_4 => k_is); (case hq_4 => k_is); (case ht_4 => k_is); (case hh_4 => k_is); (case e2_4 => k_is); (case e3_4 => k_is); (case e5_4 => k_is); (case e6_4 => k_is); (case e7_4 => k_is); (case e8_4 => k_is); (case e9_4 => k_is); (case u0_4 => kit_is); (case u1_4 => kit_is); (case u2_4 => kit_is); (case u3_4 => kit_is); (case u4_4 => kit_is); (case u5_4 => kit_is); (case ha_5 => k_is); (case hi_5 => k_is); (case hl_5 => k_is); (case hk_5 => k_is); (case hp_5 => k_is); (case ho_5 => k_is); (case hb_5 => rfl); (case hs_5 => k_is); (case hx_5 => k_is); (case hy_5 => k_is); (case hq_5 => k_is); (case ht_5 => k_is); (case hh_5 => k_is); (case e2_5 => k_is); (case e3_5 => k_is); (case e5_5 => k_is); (case e6_5 => k_is); (case e7_5 => k_is); (case e8_5 => k_is); (case e9_5 => k_is); (case u0_5 => kit_is); (case u1_5 => kit_is); (case u2_5 => kit_is); (case u3_5 => kit_is); (case u4_5 => kit_is); (case u5_5 => kit_is); (case ha_6 => k_is); (case hi_6 => k_is); (case hl_6 => k_is); (case hk_6 => k_is); (case hp_6 => k_is); (case ho_6 => k_is); (case hb_6 => rfl); (case hs_6 => k_is); (case hx_6 => k_is); (case hy_6 => k_is); (case hq_6 => k_is); (case ht_6 => k_is); (case hh_6 => k_is); (case e2_6 => k_is); (case e3_6 => k_is); (case e5_6 => k_is); (case e6_6 => k_is); (case e7_6 => k_is); (case e8_6 => k_is); (case e9_6 => k_is); (case u0_6 => kit_is); (case u1_6 => kit_is); (case u2_6 => kit_is); (case u3_6 => kit_is); (case u4_6 => kit_is); (case u5_6 => kit_is); (case ha_7 => k_is); (case hi_7 => k_is); (case hl_7 => k_is); (case hk_7 => k_is); (case hp_7 => k_is); (case ho_7 => k_is); (case hb_7 => rfl); (case hs_7 => k_is); (case hx_7 => k_is); (case hy_7 => k_is); (case hq_7 => k_is); (case ht_7 => k_is); (case hh_7 => k_is); (case e2_7 => k_is); (case e3_7 => k_is); (case e5_7 => k_is); (case e6_7 => k_is); (case e7_7 => k_is); (case e8_7 => k_is); (case e9_7 => k_is); (case u0_7 => kit_is); (case u1_7 => kit_is); (case u2_7 => kit_is); (case u3_7 => kit_is); (case u4_7 => kit_is); (case u5_7 => kit_is); (case ha_8 => k_is); (case hi_8 => k_is); (case hl_8 => k_is); (case hk_8 => k_is); (case hp_8 => k_is); (case ho_8 => k_is); (case hb_8 => rfl); (case hs_8 => k_is); (case hx_8 => k_is); (case hy_8 => k_is); (case hq_8 => k_is); (case ht_8 => k_is); (case e2_8 => k_is); (case e3_8 => k_is); (case e5_8 => k_is); (case e6_8 => k_is); (case e7_8 => k_is); (case e8_8 => k_is); (case e9_8 => k_is); (case u0_8 => kit_is); (case u1_8 => kit_is); (case u2_8 => kit_is); (case u3_8 => kit_is); (case u4_8 => kit_is); (case u5_8 => kit_is); (case ha_J => k_is); (case jj0 => kit_is); (case vv0 => kit_is); (case kk0_0 => kit_is); (case kk0_1 => kit_is); (case kk0_2 => kit_is); (case kk0_3 => kit_is); (case kk0_4 => kit_is); (case kk0_5 => kit_is); (case kk0_6 => kit_is); (case kk0_7 => kit_is); (case kk0_8 => kit_is); (case jj1 => kit_is); (case vv1 => kit_is); (case kk1_0 => kit_is); (case kk1_1 => kit_is); (case kk1_2 => kit_is); (case kk1_3 => kit_is); (case kk1_4 => kit_is); (case kk1_5 => kit_is); (case kk1_6 => kit_is); (case kk1_7 => kit_is); (case kk1_8 => kit_is); (case jj2 => kit_is); (case vv2 => kit_is); (case kk2_0 => kit_is); (case kk2_1 => kit_is); (case kk2_2 => kit_is); (case kk2_3 => kit_is); (case kk2_4 => kit_is); (case kk2_5 => kit_is); (case kk2_6 => kit_is); (case kk2_7 => kit_is); (case kk2_8 => kit_is); (case jj3 => kit_is); (case vv3 => kit_is); (case kk3_0 => kit_is); (case kk3_1 => kit_is); (case kk3_2 => kit_is); (case kk3_3 => kit_is); (case kk3_4 => kit_is); (case kk3_5 => kit_is); (case kk3_6 => kit_is); (case kk3_7 => kit_is); (case kk3_8 => kit_is); (case jj4 => kit_is); (case vv4 => kit_is); (case kk4_0 => kit_is); (case kk4_1 => kit_is); (case kk4_2 => kit_is); (case kk4_3 => kit_is); (case kk4_4 => kit_is); (case kk4_5 => kit_is); (case kk4_6 => kit_is); (case kk4_7 => kit_is); (case kk4_8 => kit_is); (case jj5 => kit_is); (case vv5 => kit_is); (case kk5_0 => kit_is); (case kk5_1 => kit_is); (case kk5_2 => kit_is); (case kk5_3 => kit_is); (case kk5_4 => kit_is); (case kk5_5 => kit_is); (case kk5_6 => kit_is); (case kk5_7 => kit_is); (case kk5_8 => kit_is); (case jj6 => kit_is); (case vv6 => kit_is); (case kk6_0 => kit_is); (case kk6_1 => kit_is); (case kk6_2 => kit_is); (case kk6_3 => kit_is); (case kk6_4 => kit_is); (case kk6_5 => kit_is); (case kk6_6 => kit_is); (case kk6_7 => kit_is); (case kk6_8 => kit_is); (case jj7 => kit_is); (case vv7 => kit_is); (case kk7_0 => kit_is); (case kk7_1 => kit_is); (case kk7_2 => kit_is); (case kk7_3 => kit_is); (case kk7_4 => kit_is); (case kk7_5 => kit_is); (case kk7_6 => kit_is); (case kk7_7 => kit_is); (case kk7_8 => kit_is); (case jj8 => kit_is); (case vv8 => kit_is); (case kk8_0 => kit_is); (case kk8_1 => kit_is); (case kk8_2 => kit_is); (case kk8_3 => kit_is); (case kk8_4 => kit_is); (case kk8_5 => kit_is); (case kk8_6 => kit_is); (case kk8_7 => kit_is); (case kk8_8 => kit_is); (case z0 => k_is); (case z1 => k_is); (case z2 => k_is); (case z3 => k_is); (case z4 => k_is); (case z5 => k_is); (case z6 => k_is); (case z7 => k_is)
