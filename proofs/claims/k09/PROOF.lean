import PyProof.Rows.All
import Wide.All
import OpenK.AllK
import Wide.FinOn
import HandS.ForMost
import HandS.Evl
import HandS.Walk
import HandS.IsInst
import HandS.Strs
import HandS.Conv
import HandS.TupLe
import HandS.Wide
import HandS.Flow
import HandS.Deep
import HandS.TupAny
import HandS.SortInts
import HandS.TupSets
import HandS.Exc
import HandS.ExcOwn
import HandS.FStr
import HandS.TryOnly
import HandS.WordsExc
import HandS.WrittenGet
import KE.DataMinMax
import PyProof.Walk
import PyProof.WalkLemmas
import PyProof.RaisesAny
import PyProof.FactsSeq
import PyProof.SeqWrite
import PyProof.AutoSeq1
import KE.KRevSl
import HandS.Text
import HandS.SetFor
import PyProof.Rows.SortShell
import HandS.SetBool
import HandS.RepeatKit
import HandS.SortKw
import KE.GoesEnumKw
import HandS.DictTup
import KE.KDictItemsList
import Flt.RightSqrt
import HandS.Gcd
import KE.KIntText
import HandS.ExcInit
import HandS.ExcField
import HandS.ReplaceList
import HandS.ReplaceLit
import HandS.ReplaceDef
import PyProof.StrReplace2
import HandS.Ends
import HandS.ExcIs
import OpenK.KOwn
import PySem.Challenge.RW_onefriend_k09_whole_texts
set_option Elab.async false
set_option linter.all false
set_option maxRecDepth 100000
set_option maxHeartbeats 4000000
/-! A small logic of data over the hand layer: what a name holds is data (PyData), or an object of the def's own. -/
namespace NB
open PySem L2 Evl

/-- the heap without the objects that may change -/
def cut (H : Hp) (z : Addr → Bool) : Hp := fun a => if z a = true then none else H a
theorem cut_some {H : Hp} {z : Addr → Bool} {a : Addr} {o : HO} (h : cut H z a = some o) : z a = false ∧ H a = some o := by
  unfold cut at h
  by_cases e : z a = true
  · rw [if_pos e] at h; cases h
  · rw [if_neg e] at h
    exact ⟨by simpa using e, h⟩
theorem cut_of {H : Hp} {z : Addr → Bool} {a : Addr} {o : HO} (hz : z a = false) (h : H a = some o) : cut H z a = some o := by
  unfold cut
  rw [if_neg (by simp [hz])]
  exact h
theorem cut_sub {H : Hp} {z : Addr → Bool} : Ex (cut H z) H := fun a o h => (cut_some h).2
theorem cut_ex {H H' : Hp} {z : Addr → Bool} (e : Ex H H') : Ex (cut H z) (cut H' z) := fun a o h => by
  obtain ⟨h1, h2⟩ := cut_some h
  exact cut_of h1 (e a o h2)
/-- an object of z changes: the data stay -/
theorem cut_upd {H : Hp} {z : Addr → Bool} {a : Addr} {o : HO} (h : z a = true) : cut (upd H a o) z = cut H z := by
  funext b
  unfold cut
  by_cases e : z b = true
  · rw [if_pos e, if_pos e]
  · rw [if_neg e, if_neg e]
    exact upd_ne fun q => e (by rw [q]; exact h)

/-! data, told by what stands in the heap; an empty dict too -/
mutual
inductive Dp (K : PySem.W.Frag) (H : Hp) : V → PyData → Prop
  | non : Dp K H .non .none
  | bl (b : Bool) : Dp K H (.bl b) (.bool b)
  | int (i : Int) : Dp K H (.int i) (.int i)
  | str (x : Str) : Dp K H (.str x) (.str x)
  | lst {a : Addr} {xs : List V} {ds : List PyData} (hs : SqL K H a xs) (ha : DpAll K H xs ds) : Dp K H (.ref a) (.list ds)
  | tup {a : Addr} {xs : List V} {ds : List PyData} (hs : SqT K H a xs) (ha : DpAll K H xs ds) : Dp K H (.ref a) (.tuple ds)
  | dct {a : Addr} (hs : H a = some (.dK [])) : Dp K H (.ref a) (.dict [])
inductive DpAll (K : PySem.W.Frag) (H : Hp) : List V → List PyData → Prop
  | nil : DpAll K H [] []
  | cons {v : V} {vs : List V} {d : PyData} {ds : List PyData} (h1 : Dp K H v d) (h2 : DpAll K H vs ds) : DpAll K H (v :: vs) (d :: ds)
end
mutual
theorem Dp.toL {K : PySem.W.Frag} {G : Hp} : ∀ (d : PyData) {v : V}, Dp K G v d → d.canLay0 = true → L2.Dp K G v d
  | .none, _, h, _ => by cases h; exact .non
  | .bool b, _, h, _ => by cases h; exact .bl b
  | .int i, _, h, _ => by cases h; exact .int i
  | .str x, _, h, _ => by cases h; exact .str x
  | .list ds, _, h, c => by
    cases h with
    | lst hs ha => exact .lst hs (DpAll.toL ds ha (by simpa [PyData.canLay0] using c))
  | .tuple ds, _, h, c => by
    cases h with
    | tup hs ha => exact .tup hs (DpAll.toL ds ha (by simpa [PyData.canLay0] using c))
  | .dict _, _, _, c => nomatch c
theorem DpAll.toL {K : PySem.W.Frag} {G : Hp} : ∀ (ds : List PyData) {vs : List V}, DpAll K G vs ds → PyData.canLayAll0 ds = true → L2.DpAll K G vs ds
  | [], _, h, _ => by cases h; exact .nil
  | d :: ds, _, h, c => by
    have c' : d.canLay0 = true ∧ PyData.canLayAll0 ds = true := by simpa [PyData.canLayAll0] using c
    cases h with
    | cons h1 h2 => exact .cons (Dp.toL d h1 c'.1) (DpAll.toL ds h2 c'.2)
end
theorem sh_lay {d : PyData} (h : SeqAt.shaped d = true) : d.canLay0 = true := by
  have h' : (d.canLay0 && decide (d.depth ≤ 64)) = true := h
  simp only [Bool.and_eq_true] at h'
  exact h'.1
theorem Dp.toS {K : PySem.W.Frag} {G : Hp} {d : PyData} {v : V} (h : Dp K G v d) (s : SeqAt.shaped d = true) : L2.Dp K G v d := h.toL d (sh_lay s)
mutual
theorem dp_mono {K : PySem.W.Frag} {G G' : Hp} (e : Ex G G') : ∀ (d : PyData) (v : V), Dp K G v d → Dp K G' v d
  | .none, _, h => by cases h; exact .non
  | .bool b, _, h => by cases h; exact .bl b
  | .int i, _, h => by cases h; exact .int i
  | .str x, _, h => by cases h; exact .str x
  | .list ds, _, h => by
    cases h with
    | lst hs ha => exact .lst (ex_l e hs) (dpa_mono e ds _ ha)
  | .tuple ds, _, h => by
    cases h with
    | tup hs ha => exact .tup (ex_t e hs) (dpa_mono e ds _ ha)
  | .dict _, _, h => by
    cases h with
    | dct hs => exact .dct (e _ _ hs)
theorem dpa_mono {K : PySem.W.Frag} {G G' : Hp} (e : Ex G G') : ∀ (ds : List PyData) (vs : List V), DpAll K G vs ds → DpAll K G' vs ds
  | [], _, h => by cases h; exact .nil
  | d :: ds, _, h => by
    cases h with
    | cons h1 h2 => exact .cons (dp_mono e d _ h1) (dpa_mono e ds _ h2)
end
theorem Dpm {K : PySem.W.Frag} {G G' : Hp} {v : V} {d : PyData} (e : Ex G G') (h : Dp K G v d) : Dp K G' v d := dp_mono e d v h
theorem Dpam {K : PySem.W.Frag} {G G' : Hp} {vs : List V} {ds : List PyData} (e : Ex G G') (h : DpAll K G vs ds) : DpAll K G' vs ds := dpa_mono e ds vs h
section
variable {K : PySem.W.Frag} {G : Hp} {vs ws : List V} {ds es : List PyData} {v : V} {d : PyData}
theorem dpa_len (h : DpAll K G vs ds) : vs.length = ds.length := by
  induction ds generalizing vs with
  | nil => cases h; rfl
  | cons d ds ih =>
    cases h with
    | cons h1 h2 => rw [List.length_cons, List.length_cons, ih h2]
theorem dpa_get : ∀ {vs : List V} {ds : List PyData} {i : Nat} {d : PyData}, DpAll K G vs ds → ds[i]? = some d → ∃ v, vs[i]? = some v ∧ Dp K G v d
  | _, [], i, d, h, e => by simp at e
  | _, x :: ds, 0, d, h, e => by
    cases h with
    | cons h1 h2 =>
      simp at e
      subst e
      exact ⟨_, rfl, h1⟩
  | _, x :: ds, i + 1, d, h, e => by
    cases h with
    | cons h1 h2 =>
      obtain ⟨v, e1, e2⟩ := dpa_get (i := i) (d := d) h2 (by simpa using e)
      exact ⟨v, by simpa using e1, e2⟩
theorem dpa_get' {i : Nat} (h : DpAll K G vs ds) (e : vs[i]? = some v) : ∃ d, ds[i]? = some d ∧ Dp K G v d := by
  have hl := dpa_len h
  have hi : i < ds.length := by
    have := (List.getElem?_eq_some_iff.mp e).1
    omega
  obtain ⟨u, e1, e2⟩ := dpa_get (i := i) (d := ds[i]) h (by simp [hi])
  rw [e] at e1
  cases e1
  exact ⟨ds[i], by simp [hi], e2⟩
theorem dpa_app : ∀ {vs : List V} {ds : List PyData}, DpAll K G vs ds → DpAll K G ws es → DpAll K G (vs ++ ws) (ds ++ es)
  | _, [], h, k => by cases h; exact k
  | _, x :: ds, h, k => by
    cases h with
    | cons h1 h2 => exact .cons h1 (dpa_app h2 k)
theorem dpa_one (h : Dp K G v d) : DpAll K G [v] [d] := .cons h .nil
theorem dpa_take (n : Nat) : ∀ {vs : List V} {ds : List PyData}, DpAll K G vs ds → DpAll K G (vs.take n) (ds.take n) := by
  induction n with
  | zero => intro vs ds _; simp; exact .nil
  | succ n ih =>
    intro vs ds h
    cases h with
    | nil => simp; exact .nil
    | cons h1 h2 => simp only [List.take_succ_cons]; exact .cons h1 (ih h2)
theorem dpa_drop (n : Nat) : ∀ {vs : List V} {ds : List PyData}, DpAll K G vs ds → DpAll K G (vs.drop n) (ds.drop n) := by
  induction n with
  | zero => intro vs ds h; simpa using h
  | succ n ih =>
    intro vs ds h
    cases h with
    | nil => simp; exact .nil
    | cons h1 h2 => simp only [List.drop_succ_cons]; exact ih h2
theorem dpa_rev : ∀ {vs : List V} {ds : List PyData}, DpAll K G vs ds → DpAll K G vs.reverse ds.reverse
  | _, [], h => by cases h; exact .nil
  | _, x :: ds, h => by
    cases h with
    | cons h1 h2 =>
      simp only [List.reverse_cons]
      exact dpa_app (dpa_rev h2) (dpa_one h1)
theorem dpa_set (i : Nat) (hd : Dp K G v d) : ∀ {vs : List V} {ds : List PyData}, DpAll K G vs ds → DpAll K G (vs.set i v) (ds.set i d) := by
  induction i with
  | zero =>
    intro vs ds h
    cases h with
    | nil => exact .nil
    | cons h1 h2 => exact .cons hd h2
  | succ i ih =>
    intro vs ds h
    cases h with
    | nil => exact .nil
    | cons h1 h2 => exact .cons h1 (ih h2)
theorem dpa_erase (i : Nat) : ∀ {vs : List V} {ds : List PyData}, DpAll K G vs ds → DpAll K G (vs.eraseIdx i) (ds.eraseIdx i) := by
  induction i with
  | zero =>
    intro vs ds h
    cases h with
    | nil => exact .nil
    | cons h1 h2 => exact h2
  | succ i ih =>
    intro vs ds h
    cases h with
    | nil => exact .nil
    | cons h1 h2 => exact .cons h1 (ih h2)
theorem dpa_ints {ns : List Int} : DpAll K G (ns.map V.int) (ns.map PyData.int) := by
  induction ns with
  | nil => exact .nil
  | cons n ns ih => exact .cons (.int n) ih
/-- data that are ints are ints -/
theorem dpa_ints_eq {ns : List Int} : ∀ {vs : List V}, DpAll K G vs (ns.map PyData.int) → vs = ns.map V.int := by
  induction ns with
  | nil => intro vs h; cases h; rfl
  | cons n ns ih =>
    intro vs h
    cases h with
    | cons h1 h2 =>
      cases h1
      rw [ih h2]
      rfl
end

/-- these tuples of ints stand there -/
def TsAt (K : PySem.W.Frag) (G : Hp) (L : List (Addr × List Int)) : Prop := ∀ p ∈ L, SqT K G p.1 (p.2.map V.int)
theorem TsAt.mono {K : PySem.W.Frag} {G G' : Hp} {L : List (Addr × List Int)} (e : Ex G G') (h : TsAt K G L) : TsAt K G' L := fun p hp => ex_t e (h p hp)
/-- what a name holds -/
inductive Sl where
  /-- nothing that is known -/
  | u
  /-- data -/
  | d (x : PyData)
  /-- the caller's list, of which this def may change the items -/
  | p (xs : List PyData)
  /-- a list of the def's own -/
  | l (xs : List PyData)
  /-- another object of the def's own (a set), with the tuples in it -/
  | x (f : Addr → HO) (L : List (Addr × List Int))
  /-- a list of the def's own, of lists of ints of its own -/
  | y (rows : List (List Int))
  /-- just this -/
  | v (x : V)
  /-- whatever it holds: the object at P, which may change, and what is known of all that stays -/
  | q (P : Addr) (o : HO) (ψ : Hp → Prop) (m : ∀ G G' : Hp, Ex G G' → ψ G → ψ G')
abbrev En := List Sl
/-- the lists of ints at as -/
structure RowsAt (G H : Hp) (a : Addr) (as : List Addr) (rows : List (List Int)) : Prop where
  nd : (a :: as).Nodup
  new : ∀ b ∈ a :: as, G b = none
  top : H a = some (.lst (as.map V.ref))
  len : as.length = rows.length
  row : ∀ (i : Nat) (b : Addr) (r : List Int), as[i]? = some b → rows[i]? = some r → H b = some (.lst (r.map V.int))
theorem RowsAt.mono {G H H' : Hp} {a : Addr} {as : List Addr} {rows : List (List Int)} (h : RowsAt G H a as rows) (k : ∀ b o, b ∈ a :: as → H b = some o → H' b = some o) : RowsAt G H' a as rows :=
  ⟨h.nd, h.new, k a _ List.mem_cons_self h.top, h.len, fun i b r h1 h2 => k b _ (List.mem_cons_of_mem _ (List.mem_of_getElem? h1)) (h.row i b r h1 h2)⟩

/-- the frame: the heap at the entry, what may change of it, what no data there lead through -/
structure Fr where
  H : Hp
  W : Addr → Bool
  z : Addr → Bool
  /-- what no name holds and what stays: a comprehension's list -/
  T : Hp := fun _ => none
structure Fr.Ok (Γ : Fr) : Prop where
  gz : ∀ a, Γ.z a = true → Γ.H a ≠ none
  gW : ∀ a, Γ.W a = true → Γ.z a = true

def Hold (K : PySem.W.Frag) (w : World) (Γ : Fr) (z : Addr → Bool) (H : Hp) (o : Option V) : Sl → List Addr → Prop
  | .u, fp => fp = []
  | .d x, fp => fp = [] ∧ ∃ v, o = some v ∧ Dp K (cut H z) v x
  | .p xs, fp => ∃ a us, fp = [a] ∧ o = some (.ref a) ∧ Γ.W a = true ∧ H a = some (.lst us) ∧ DpAll K (cut H z) us xs
  | .l xs, fp => ∃ a us, fp = [a] ∧ o = some (.ref a) ∧ Γ.H a = none ∧ H a = some (.lst us) ∧ DpAll K (cut H z) us xs
  | .y rows, fp => ∃ a as, fp = a :: as ∧ o = some (.ref a) ∧ RowsAt Γ.H H a as rows
  | .x f L, fp => ∃ a, fp = [a] ∧ o = some (.ref a) ∧ Γ.H a = none ∧ H a = some (f a) ∧ TsAt K (cut H z) L
  | .v x, fp => fp = [] ∧ o = some x
  | .q P ob ψ _, fp => fp = [P] ∧ H P = some ob ∧ ψ (cut H z)

structure SD (K : PySem.W.Frag) (w : World) (Γ : Fr) (z : Addr → Bool) (H : Hp) (σ : L2.St) (env : En) : Prop where
  ok : Γ.Ok
  ext : ∀ a o, Γ.W a = false → Γ.H a = some o → H a = some o
  zs : ∀ a, Γ.z a = true → z a = true
  zn : ∀ a, z a = true → Γ.z a = true ∨ Γ.H a = none
  zd : ∀ a, z a = true → H a ≠ none
  tm : ∀ a o, Γ.T a = some o → H a = some o
  len : σ.length = env.length
  sl : ∃ fp : Nat → List Addr, (∀ i s, env[i]? = some s → Hold K w Γ z H (σ.getD i none) s (fp i)) ∧ (∀ i j a, a ∈ fp i → a ∈ fp j → i = j) ∧
    ∀ i a, a ∈ fp i → z a = true ∧ (Γ.W a = true ∨ Γ.H a = none) ∧ Γ.T a = none

section
variable {K : PySem.W.Frag} {w : World} {Γ : Fr} {z : Addr → Bool} {H H' : Hp} {σ : L2.St} {env : En}
theorem Hold.mono {o : Option V} {s : Sl} {fp : List Addr} (e : Ex (cut H z) (cut H' z)) (k : ∀ a o, a ∈ fp → H a = some o → H' a = some o) (h : Hold K w Γ z H o s fp) : Hold K w Γ z H' o s fp := by
  cases s with
  | u => exact h
  | d x =>
    obtain ⟨h1, v, h2, h3⟩ := h
    exact ⟨h1, v, h2, Dpm e h3⟩
  | p xs =>
    obtain ⟨a, us, h1, h2, h3, h4, h5⟩ := h
    exact ⟨a, us, h1, h2, h3, k a _ (by rw [h1]; simp) h4, Dpam e h5⟩
  | l xs =>
    obtain ⟨a, us, h1, h2, h3, h4, h5⟩ := h
    exact ⟨a, us, h1, h2, h3, k a _ (by rw [h1]; simp) h4, Dpam e h5⟩
  | x f L =>
    obtain ⟨a, h1, h2, h3, h4, h5⟩ := h
    exact ⟨a, h1, h2, h3, k a _ (by rw [h1]; simp) h4, h5.mono e⟩
  | y rows =>
    obtain ⟨a, as, h1, h2, h3⟩ := h
    exact ⟨a, as, h1, h2, h3.mono fun b o hb q => k b o (by rw [h1]; exact hb) q⟩
  | v x => exact h
  | q P ob ψ m =>
    obtain ⟨h1, h2, h3⟩ := h
    exact ⟨h1, k P _ (by rw [h1]; simp) h2, m _ _ e h3⟩
/-- more is laid -/
theorem SD.grow (h : SD K w Γ z H σ env) (e : Ex H H') : SD K w Γ z H' σ env := by
  obtain ⟨ok, ext, zs, zn, zd, tm, len, fp, f1, f2, f3⟩ := h
  refine ⟨ok, fun a o h1 h2 => e a o (ext a o h1 h2), zs, zn, fun a ha q => ?_, fun a o h1 => e a o (tm a o h1), len, fp, fun i s hs => (f1 i s hs).mono (cut_ex e) fun a o _ q => e a o q, f2, f3⟩
  cases r : H a with
  | none => exact zd a ha r
  | some o =>
    rw [e a o r] at q
    cases q
theorem SD.var {i : Nat} {x : PyData} (h : SD K w Γ z H σ env) (e : env[i]? = some (.d x)) : ∃ v, σ[i]? = some (some v) ∧ Dp K (cut H z) v x := by
  obtain ⟨fp, f1, _, _⟩ := h.sl
  obtain ⟨_, v, h2, h3⟩ := f1 i _ e
  refine ⟨v, ?_, h3⟩
  have hi : i < σ.length := by
    rw [h.len]
    exact (List.getElem?_eq_some_iff.mp e).1
  rw [List.getD_eq_getElem?_getD, List.getElem?_eq_getElem hi] at h2
  rw [List.getElem?_eq_getElem hi]
  exact congrArg some h2
theorem getD_of {i : Nat} {v : V} {σ : L2.St} (h : σ.getD i none = some v) : σ[i]? = some (some v) := by
  rw [List.getD_eq_getElem?_getD] at h
  cases e : σ[i]? with
  | none => rw [e] at h; cases h
  | some x =>
    rw [e] at h
    exact congrArg some h
theorem SD.own {i : Nat} {xs : List PyData} (h : SD K w Γ z H σ env) (e : env[i]? = some (.l xs) ∨ env[i]? = some (.p xs)) : ∃ a us, σ[i]? = some (some (.ref a)) ∧ z a = true ∧ H a = some (.lst us) ∧ DpAll K (cut H z) us xs := by
  obtain ⟨fp, f1, _, f3⟩ := h.sl
  rcases e with e | e
  · obtain ⟨a, us, h1, h2, h3, h4, h5⟩ := f1 i _ e
    exact ⟨a, us, getD_of h2, (f3 i a (by rw [h1]; simp)).1, h4, h5⟩
  · obtain ⟨a, us, h1, h2, h3, h4, h5⟩ := f1 i _ e
    exact ⟨a, us, getD_of h2, (f3 i a (by rw [h1]; simp)).1, h4, h5⟩
theorem SD.seto {i : Nat} {f : Addr → HO} {L : List (Addr × List Int)} (h : SD K w Γ z H σ env) (e : env[i]? = some (.x f L)) : ∃ a, σ[i]? = some (some (.ref a)) ∧ z a = true ∧ H a = some (f a) ∧ TsAt K (cut H z) L := by
  obtain ⟨fp, f1, _, f3⟩ := h.sl
  obtain ⟨a, h1, h2, h3, h4, h5⟩ := f1 i _ e
  exact ⟨a, getD_of h2, (f3 i a (by rw [h1]; simp)).1, h4, h5⟩

theorem getD_set_self {i : Nat} {σ : L2.St} {o : Option V} (h : i < σ.length) : (σ.set i o).getD i none = o := by
  rw [List.getD_eq_getElem?_getD, List.getElem?_set_self h]
  rfl
theorem getD_set_ne {i j : Nat} {σ : L2.St} {o : Option V} (h : i ≠ j) : (σ.set i o).getD j none = σ.getD j none := by
  rw [List.getD_eq_getElem?_getD, List.getElem?_set_ne h, List.getD_eq_getElem?_getD]
/-- the general store: slot i holds s, whose own objects are fpn -/
theorem SD.put {i : Nat} {o : Option V} {s : Sl} {fpn : List Addr} {z' : Addr → Bool} (h : SD K w Γ z H σ env) (hx : ∀ a o, H a = some o → H' a = some o ∨ (z a = true ∧ False)) (hz : ∀ a, z a = true → z' a = true)
    (hzn : ∀ a, z' a = true → z a = true ∨ (H a = none ∧ H' a ≠ none)) (hi : i < env.length) (hs : Hold K w Γ z' H' o s fpn) (hf : ∀ a ∈ fpn, z' a = true ∧ z a = false ∧ Γ.H a = none ∧ Γ.T a = none) : SD K w Γ z' H' (σ.set i o) (env.set i s) := by
  have e : Ex H H' := fun a o q => (hx a o q).elim id fun r => r.2.elim
  have hh := h.grow e
  obtain ⟨ok, ext, zs, zn, zd, tm, len, fp, f1, f2, f3⟩ := h
  have fresh : ∀ a, H a = none → Γ.H a = none := fun a ha => by
    cases r : Γ.H a with
    | none => rfl
    | some q =>
      cases r2 : Γ.W a with
      | false => rw [ext a q r2 r] at ha; cases ha
      | true => exact (zd a (zs a (ok.gW a r2)) ha).elim
  have ec : Ex (cut H z) (cut H' z') := fun a o q => by
    obtain ⟨q1, q2⟩ := cut_some q
    refine cut_of ?_ (e a o q2)
    cases r : z' a with
    | false => rfl
    | true =>
      rcases hzn a r with k | k
      · rw [k] at q1; cases q1
      · rw [k.1] at q2; cases q2
  refine ⟨ok, hh.ext, fun a ha => hz a (zs a ha), fun a ha => ?_, fun a ha => ?_, hh.tm, by rw [List.length_set, List.length_set]; exact len, fun j => if j = i then fpn else fp j, fun j t ht => ?_, fun j k a hj hk => ?_, fun j a hj => ?_⟩
  · rcases hzn a ha with k | k
    · exact zn a k
    · exact .inr (fresh a k.1)
  · rcases hzn a ha with k | k
    · exact hh.zd a k
    · exact k.2
  · by_cases q : i = j
    · subst q
      rw [List.getElem?_set_self hi] at ht
      cases ht
      rw [getD_set_self (by rw [len]; exact hi)]
      show Hold K w Γ z' H' o s (if i = i then fpn else fp i)
      rw [if_pos rfl]
      exact hs
    · rw [List.getElem?_set_ne q] at ht
      rw [getD_set_ne q]
      show Hold K w Γ z' H' _ t (if j = i then fpn else fp j)
      rw [if_neg (Ne.symm q)]
      have h1 := f1 j t ht
      clear hs hf hh
      cases t with
      | u => exact h1
      | d x =>
        obtain ⟨k1, v, k2, k3⟩ := h1
        exact ⟨k1, v, k2, Dpm ec k3⟩
      | p xs =>
        obtain ⟨a, us, k1, k2, k3, k4, k5⟩ := h1
        exact ⟨a, us, k1, k2, k3, e a _ k4, Dpam ec k5⟩
      | l xs =>
        obtain ⟨a, us, k1, k2, k3, k4, k5⟩ := h1
        exact ⟨a, us, k1, k2, k3, e a _ k4, Dpam ec k5⟩
      | x f L =>
        obtain ⟨a, k1, k2, k3, k4, k5⟩ := h1
        exact ⟨a, k1, k2, k3, e a _ k4, k5.mono ec⟩
      | y rows =>
        obtain ⟨a, as, k1, k2, k3⟩ := h1
        exact ⟨a, as, k1, k2, k3.mono fun b o _ q => e b o q⟩
      | v x => exact h1
      | q P ob ψ m =>
        obtain ⟨k1, k2, k3⟩ := h1
        exact ⟨k1, e P _ k2, m _ _ ec k3⟩
  · dsimp only at hj hk
    by_cases q1 : j = i
    · by_cases q2 : k = i
      · rw [q1, q2]
      · rw [if_pos q1] at hj
        rw [if_neg q2] at hk
        have := (hf a hj).2.1
        rw [(f3 k a hk).1] at this
        cases this
    · by_cases q2 : k = i
      · rw [if_neg q1] at hj
        rw [if_pos q2] at hk
        have := (hf a hk).2.1
        rw [(f3 j a hj).1] at this
        cases this
      · rw [if_neg q1] at hj
        rw [if_neg q2] at hk
        exact f2 j k a hj hk
  · dsimp only at hj
    by_cases q1 : j = i
    · rw [if_pos q1] at hj
      exact ⟨(hf a hj).1, .inr (hf a hj).2.2.1, (hf a hj).2.2.2⟩
    · rw [if_neg q1] at hj
      exact ⟨hz a (f3 j a hj).1, (f3 j a hj).2⟩
/-- a name is given data -/
theorem SD.setD {i : Nat} {v : V} {x : PyData} (h : SD K w Γ z H σ env) (hv : Dp K (cut H z) v x) (hi : i < env.length) : SD K w Γ z H (σ.set i (some v)) (env.set i (.d x)) :=
  h.put (fun a o q => .inl q) (fun _ q => q) (fun _ q => .inl q) hi (show Hold K w Γ z H (some v) (.d x) [] from ⟨rfl, v, rfl, hv⟩) (fun a ha => by cases ha)
theorem SD.setU {i : Nat} {o : Option V} (h : SD K w Γ z H σ env) (hi : i < env.length) : SD K w Γ z H (σ.set i o) (env.set i .u) :=
  h.put (fun a o q => .inl q) (fun _ q => q) (fun _ q => .inl q) hi (show Hold K w Γ z H o .u [] from rfl) (fun a ha => by cases ha)
def addZ (z : Addr → Bool) (p : Addr) : Addr → Bool := fun a => decide (a = p) || z a
theorem SD.fresh (h : SD K w Γ z H σ env) {a : Addr} (ha : H a = none) : Γ.H a = none := by
  cases r : Γ.H a with
  | none => rfl
  | some q =>
    cases r2 : Γ.W a with
    | false => rw [h.ext a q r2 r] at ha; cases ha
    | true => exact (h.zd a (h.zs a (h.ok.gW a r2)) ha).elim
theorem SD.tfresh (h : SD K w Γ z H σ env) {a : Addr} (ha : H a = none) : Γ.T a = none := by
  cases r : Γ.T a with
  | none => rfl
  | some o => rw [h.tm a o r] at ha; cases ha
theorem SD.zfresh (h : SD K w Γ z H σ env) {a : Addr} (ha : H a = none) : z a = false := by
  cases r : z a with
  | false => rfl
  | true => exact (h.zd a r ha).elim
theorem addZ_self {z : Addr → Bool} {p : Addr} : addZ z p p = true := by simp [addZ]
theorem addZ_ne {z : Addr → Bool} {p a : Addr} (h : a ≠ p) : addZ z p a = z a := by simp [addZ, h]
theorem cut_addZ {H H' : Hp} {z : Addr → Bool} {p : Addr} (e : Ex H H') (hp : H p = none) : Ex (cut H z) (cut H' (addZ z p)) := fun a o q => by
  obtain ⟨q1, q2⟩ := cut_some q
  have ne : a ≠ p := fun r => by rw [r, hp] at q2; cases q2
  exact cut_of (by rw [addZ_ne ne]; exact q1) (e a o q2)
/-- a name is given a new list, to be changed -/
theorem SD.setL {i : Nat} {p : Addr} {us : List V} {xs : List PyData} (h : SD K w Γ z H σ env) (e : Ex H H') (hp : H p = none) (hl : H' p = some (.lst us)) (hd : DpAll K (cut H' (addZ z p)) us xs) (hi : i < env.length) :
    SD K w Γ (addZ z p) H' (σ.set i (some (.ref p))) (env.set i (.l xs)) := by
  refine h.put (fun a o q => .inl (e a o q)) (fun a q => ?_) (fun a q => ?_) hi (show Hold K w Γ (addZ z p) H' (some (.ref p)) (.l xs) [p] from ⟨p, us, rfl, rfl, h.fresh hp, hl, hd⟩) (fun a ha => ?_)
  · unfold addZ
    rw [q, Bool.or_true]
  · by_cases r : a = p
    · right
      rw [r, hl]
      exact ⟨hp, fun q => by cases q⟩
    · rw [addZ_ne r] at q
      exact .inl q
  · have r : a = p := by simpa using ha
    rw [r]
    exact ⟨addZ_self, h.zfresh hp, h.fresh hp, h.tfresh hp⟩
theorem SD.setS {i : Nat} {p : Addr} {f : Addr → HO} {L : List (Addr × List Int)} (h : SD K w Γ z H σ env) (e : Ex H H') (hp : H p = none) (hl : H' p = some (f p)) (ht : TsAt K (cut H z) L) (hi : i < env.length) :
    SD K w Γ (addZ z p) H' (σ.set i (some (.ref p))) (env.set i (.x f L)) := by
  refine h.put (fun a o q => .inl (e a o q)) (fun a q => ?_) (fun a q => ?_) hi (show Hold K w Γ (addZ z p) H' (some (.ref p)) (.x f L) [p] from ⟨p, rfl, rfl, h.fresh hp, hl, ht.mono (cut_addZ e hp)⟩) (fun a ha => ?_)
  · unfold addZ
    rw [q, Bool.or_true]
  · by_cases r : a = p
    · right
      rw [r, hl]
      exact ⟨hp, fun q => by cases q⟩
    · rw [addZ_ne r] at q
      exact .inl q
  · have r : a = p := by simpa using ha
    rw [r]
    exact ⟨addZ_self, h.zfresh hp, h.fresh hp, h.tfresh hp⟩
/-- the object of slot i changes -/
theorem SD.change {i : Nat} {a : Addr} {s s' : Sl} (h : SD K w Γ z H σ env) (hs : env[i]? = some s) (ha : σ[i]? = some (some (.ref a)))
    (hfp : ∀ fp, Hold K w Γ z H (some (.ref a)) s fp → fp = [a]) (hx : ∀ b o, b ≠ a → H b = some o → H' b = some o) (hn : H' a ≠ none) (hnew : Hold K w Γ z H (some (.ref a)) s [a] → Ex (cut H z) (cut H' z) → Hold K w Γ z H' (some (.ref a)) s' [a]) :
    SD K w Γ z H' σ (env.set i s') ∧ Ex (cut H z) (cut H' z) := by
  obtain ⟨ok, ext, zs, zn, zd, tm, len, fp, f1, f2, f3⟩ := h
  have hi : i < env.length := (List.getElem?_eq_some_iff.mp hs).1
  have hσ : σ.getD i none = some (.ref a) := by rw [List.getD_eq_getElem?_getD, ha]; rfl
  have h1 := f1 i s hs
  rw [hσ] at h1
  have hfi := hfp _ h1
  have hza : z a = true ∧ (Γ.W a = true ∨ Γ.H a = none) ∧ Γ.T a = none := f3 i a (by rw [hfi]; simp)
  have ec : Ex (cut H z) (cut H' z) := fun b o q => by
    obtain ⟨q1, q2⟩ := cut_some q
    exact cut_of q1 (hx b o (fun r => by rw [r, hza.1] at q1; cases q1) q2)
  refine ⟨⟨ok, fun b o k1 k2 => ?_, zs, zn, fun b hb => ?_, fun b o k => hx b o (fun r => by rw [r, hza.2.2] at k; cases k) (tm b o k), by rw [List.length_set]; exact len, fp, fun j t ht => ?_, f2, f3⟩, ec⟩
  · refine hx b o (fun r => ?_) (ext b o k1 k2)
    rcases hza.2.1 with k | k
    · rw [r, k] at k1; cases k1
    · rw [r, k] at k2; cases k2
  · by_cases r : b = a
    · rw [r]; exact hn
    · intro q
      cases q2 : H b with
      | none => exact zd b hb q2
      | some o => rw [hx b o r q2] at q; cases q
  · by_cases q : i = j
    · subst q
      rw [List.getElem?_set_self hi] at ht
      cases ht
      rw [hσ, hfi]
      rw [hfi] at h1
      exact hnew h1 ec
    · rw [List.getElem?_set_ne q] at ht
      have na : a ∉ fp j := fun r => q (f2 i j a (by rw [hfi]; simp) r)
      exact (f1 j t ht).mono ec fun b o hb k => hx b o (fun r => na (r ▸ hb)) k
/-- the list of slot i is given other items -/
theorem SD.chL {i : Nat} {a : Addr} {us : List V} {xs ys : List PyData} (h : SD K w Γ z H σ env) (hs : env[i]? = some (.l xs)) (ha : σ[i]? = some (some (.ref a))) (hx : ∀ b o, b ≠ a → H b = some o → H' b = some o) (hn : H' a = some (.lst us))
    (hd : Ex (cut H z) (cut H' z) → DpAll K (cut H' z) us ys) : SD K w Γ z H' σ (env.set i (.l ys)) ∧ Ex (cut H z) (cut H' z) :=
  h.change hs ha (fun fp q => by
    obtain ⟨b, us, h1, h2, _⟩ := q
    cases h2
    exact h1) hx (by rw [hn]; exact fun q => by cases q) fun q e => by
      obtain ⟨b, us', h1, h2, h3, h4, h5⟩ := q
      cases h2
      exact ⟨a, us, rfl, rfl, h3, hn, hd e⟩
theorem SD.chP {i : Nat} {a : Addr} {us : List V} {xs ys : List PyData} (h : SD K w Γ z H σ env) (hs : env[i]? = some (.p xs)) (ha : σ[i]? = some (some (.ref a))) (hx : ∀ b o, b ≠ a → H b = some o → H' b = some o) (hn : H' a = some (.lst us))
    (hd : Ex (cut H z) (cut H' z) → DpAll K (cut H' z) us ys) : SD K w Γ z H' σ (env.set i (.p ys)) ∧ Ex (cut H z) (cut H' z) :=
  h.change hs ha (fun fp q => by
    obtain ⟨b, us, h1, h2, _⟩ := q
    cases h2
    exact h1) hx (by rw [hn]; exact fun q => by cases q) fun q e => by
      obtain ⟨b, us', h1, h2, h3, h4, h5⟩ := q
      cases h2
      exact ⟨a, us, rfl, rfl, h3, hn, hd e⟩
theorem SD.chS {i : Nat} {a : Addr} {f f' : Addr → HO} {L : List (Addr × List Int)} (h : SD K w Γ z H σ env) (hs : env[i]? = some (.x f L)) (ha : σ[i]? = some (some (.ref a))) (hx : ∀ b o, b ≠ a → H b = some o → H' b = some o) (hn : H' a = some (f' a)) :
    SD K w Γ z H' σ (env.set i (.x f' L)) ∧ Ex (cut H z) (cut H' z) :=
  h.change hs ha (fun fp q => by
    obtain ⟨b, h1, h2, _⟩ := q
    cases h2
    exact h1) hx (by rw [hn]; exact fun q => by cases q) fun q e => by
      obtain ⟨b, h1, h2, h3, h4, h5⟩ := q
      cases h2
      exact ⟨a, rfl, rfl, h3, hn, h5.mono e⟩
/-- less is said of the names -/
def Le (env' env : En) : Prop := env'.length = env.length ∧ ∀ (i : Nat) (s : Sl), env'[i]? = some s → s = Sl.u ∨ env[i]? = some s
theorem Le.refl (env : En) : Le env env := ⟨rfl, fun _ _ h => .inr h⟩
theorem Le.of_eq {a b : En} (h : a = b) : Le a b := h ▸ Le.refl _
theorem le_nil : Le [] [] := Le.refl _
theorem le_cons {s t : Sl} {e e' : En} (h : s = .u ∨ s = t) (k : Le e e') : Le (s :: e) (t :: e') := by
  refine ⟨by rw [List.length_cons, List.length_cons, k.1], fun i r hr => ?_⟩
  cases i with
  | zero =>
    simp at hr
    subst hr
    rcases h with h | h
    · exact .inl h
    · exact .inr (by simp [h])
  | succ i =>
    simp only [List.getElem?_cons_succ] at hr ⊢
    exact k.2 i r hr
theorem SD.weak {env' : En} (h : SD K w Γ z H σ env) (l : Le env' env) : SD K w Γ z H σ env' := by
  obtain ⟨ok, ext, zs, zn, zd, tm, len, fp, f1, f2, f3⟩ := h
  refine ⟨ok, ext, zs, zn, zd, tm, by rw [len, l.1], fun i => match env'[i]? with | some .u => [] | _ => fp i, fun i s hs => ?_, fun i j a hi hj => ?_, fun i a hi => ?_⟩
  · have q := l.2 i s hs
    simp only [hs]
    cases s with
    | u => exact rfl
    | d x => exact f1 i _ (q.resolve_left (fun r => by cases r))
    | p x => exact f1 i _ (q.resolve_left (fun r => by cases r))
    | l x => exact f1 i _ (q.resolve_left (fun r => by cases r))
    | x f L => exact f1 i _ (q.resolve_left (fun r => by cases r))
    | y rows => exact f1 i _ (q.resolve_left (fun r => by cases r))
    | v x => exact f1 i _ (q.resolve_left (fun r => by cases r))
    | q P ob ψ m => exact f1 i _ (q.resolve_left (fun r => by cases r))
  · refine f2 i j a ?_ ?_
    · revert hi
      dsimp only
      split
      · intro r; cases r
      · exact id
    · revert hj
      dsimp only
      split
      · intro r; cases r
      · exact id
  · refine f3 i a ?_
    revert hi
    dsimp only
    split
    · intro r; cases r
    · exact id
/-- a list of the def's own becomes data -/
theorem SD.freeze {i : Nat} {xs : List PyData} (h : SD K w Γ z H σ env) (e : env[i]? = some (.l xs)) : ∃ z', SD K w Γ z' H σ (env.set i (.d (.list xs))) ∧ Ex (cut H z) (cut H z') := by
  obtain ⟨ok, ext, zs, zn, zd, tm, len, fp, f1, f2, f3⟩ := h
  obtain ⟨a, us, h1, h2, h3, h4, h5⟩ := f1 i _ e
  have hi : i < env.length := (List.getElem?_eq_some_iff.mp e).1
  have hza := (f3 i a (by rw [h1]; simp)).1
  have ec : Ex (cut H z) (cut H fun b => !decide (b = a) && z b) := fun b o q => by
    obtain ⟨q1, q2⟩ := cut_some q
    exact cut_of (by rw [q1, Bool.and_false]) q2
  refine ⟨fun b => !decide (b = a) && z b, ⟨ok, ext, fun b hb => ?_, fun b hb => ?_, fun b hb => ?_, tm, by rw [List.length_set]; exact len, fun j => if j = i then [] else fp j, fun j t ht => ?_, fun j k b hj hk => ?_, fun j b hj => ?_⟩, ec⟩
  · have ne : b ≠ a := fun r => ok.gz b hb (r ▸ h3)
    simp [ne, zs b hb]
  · simp only [Bool.and_eq_true] at hb
    exact zn b hb.2
  · simp only [Bool.and_eq_true] at hb
    exact zd b hb.2
  · by_cases q : i = j
    · subst q
      rw [List.getElem?_set_self hi] at ht
      cases ht
      dsimp only
      rw [if_pos rfl]
      exact ⟨rfl, .ref a, h2, .lst (sq_of (cut_of (by simp) h4)) (Dpam ec h5)⟩
    · rw [List.getElem?_set_ne q] at ht
      dsimp only
      rw [if_neg (Ne.symm q)]
      have k1 := f1 j t ht
      cases t with
      | u => exact k1
      | d x =>
        obtain ⟨k1, v, k2, k3⟩ := k1
        exact ⟨k1, v, k2, Dpm ec k3⟩
      | p xs =>
        obtain ⟨a, us, k1, k2, k3, k4, k5⟩ := k1
        exact ⟨a, us, k1, k2, k3, k4, Dpam ec k5⟩
      | l xs =>
        obtain ⟨a, us, k1, k2, k3, k4, k5⟩ := k1
        exact ⟨a, us, k1, k2, k3, k4, Dpam ec k5⟩
      | x f L =>
        obtain ⟨a, k1, k2, k3, k4, k5⟩ := k1
        exact ⟨a, k1, k2, k3, k4, k5.mono ec⟩
      | y rows => exact k1
      | v x => exact k1
      | q P ob ψ m =>
        obtain ⟨k1, k2, k3⟩ := k1
        exact ⟨k1, k2, m _ _ ec k3⟩
  · dsimp only at hj hk
    by_cases q1 : j = i
    · rw [if_pos q1] at hj
      cases hj
    · by_cases q2 : k = i
      · rw [if_pos q2] at hk
        cases hk
      · rw [if_neg q1] at hj
        rw [if_neg q2] at hk
        exact f2 j k b hj hk
  · dsimp only at hj
    by_cases q1 : j = i
    · rw [if_pos q1] at hj
      cases hj
    · rw [if_neg q1] at hj
      obtain ⟨k1, k2⟩ := f3 j b hj
      have ne : b ≠ a := fun r => q1 (f2 j i b hj (by rw [h1, r]; simp))
      exact ⟨by simp [ne, k1], k2⟩
/-- the object D that no name holds: it is told apart, or changes -/
abbrev Fr.tmp (Γ : Fr) (D : Addr) (o : HO) : Fr := { Γ with T := upd Γ.T D o }
theorem hold_tmp {Γ' : Fr} (h1 : Γ'.H = Γ.H) (h2 : Γ'.W = Γ.W) {o : Option V} {s : Sl} {fp : List Addr} (h : Hold K w Γ z H o s fp) : Hold K w Γ' z H o s fp := by
  cases s with
  | u => exact h
  | d x => exact h
  | p xs =>
    obtain ⟨a, us, k1, k2, k3, k4⟩ := h
    exact ⟨a, us, k1, k2, by rw [h2]; exact k3, k4⟩
  | l xs =>
    obtain ⟨a, us, k1, k2, k3, k4⟩ := h
    exact ⟨a, us, k1, k2, by rw [h1]; exact k3, k4⟩
  | x f L =>
    obtain ⟨a, k1, k2, k3, k4⟩ := h
    exact ⟨a, k1, k2, by rw [h1]; exact k3, k4⟩
  | y rows =>
    obtain ⟨a, as, k1, k2, k3⟩ := h
    exact ⟨a, as, k1, k2, by rw [h1]; exact k3⟩
  | v x => exact h
  | q P ob ψ m => exact h
/-- a new object D is laid and told apart -/
theorem SD.lay' {D : Addr} {o : HO} (h : SD K w Γ z H σ env) (ex : Ex H H') (hD : H D = none) (hD' : H' D = some o) : SD K w (Γ.tmp D o) (addZ z D) H' σ env := by
  have gD := h.fresh hD
  have zD := h.zfresh hD
  have tD := h.tfresh hD
  have c1 : Ex (cut H z) (cut H' (addZ z D)) := cut_addZ ex hD
  obtain ⟨ok, ext, zs, zn, zd, tm, len, fp, f1, f2, f3⟩ := h
  refine ⟨⟨ok.gz, ok.gW⟩, fun a u k1 k2 => ex a u (ext a u k1 k2), fun a ha => by unfold addZ; rw [zs a ha, Bool.or_true], fun a ha => ?_, fun a ha => ?_, fun a u k => ?_, len, fp, fun i s hs => ?_, f2, fun i a ha => ?_⟩
  · by_cases e : a = D
    · rw [e]; exact .inr gD
    · rw [addZ_ne e] at ha; exact zn a ha
  · by_cases e : a = D
    · rw [e, hD']; exact fun q => by cases q
    · rw [addZ_ne e] at ha
      intro q
      cases r : H a with
      | none => exact zd a ha r
      | some u => rw [ex a u r] at q; cases q
  · by_cases e : a = D
    · rw [e] at k ⊢
      have k' : upd Γ.T D o D = some u := k
      rw [upd_same] at k'
      rw [hD']
      exact k'
    · have k' : Γ.T a = some u := by rw [← k]; exact (upd_ne e).symm
      exact ex a u (tm a u k')
  · have k := f1 i s hs
    refine hold_tmp (w := w) (Γ := Γ) rfl rfl ?_
    cases s with
    | u => exact k
    | d x =>
      obtain ⟨k1, v, k2, k3⟩ := k
      exact ⟨k1, v, k2, Dpm c1 k3⟩
    | p xs =>
      obtain ⟨a, us, k1, k2, k3, k4, k5⟩ := k
      exact ⟨a, us, k1, k2, k3, ex a _ k4, Dpam c1 k5⟩
    | l xs =>
      obtain ⟨a, us, k1, k2, k3, k4, k5⟩ := k
      exact ⟨a, us, k1, k2, k3, ex a _ k4, Dpam c1 k5⟩
    | x f L =>
      obtain ⟨a, k1, k2, k3, k4, k5⟩ := k
      exact ⟨a, k1, k2, k3, ex a _ k4, k5.mono c1⟩
    | y rows =>
      obtain ⟨a, as, k1, k2, k3⟩ := k
      exact ⟨a, as, k1, k2, k3.mono fun b o _ q => ex b o q⟩
    | v x => exact k
    | q P ob ψ m =>
      obtain ⟨k1, k2, k3⟩ := k
      exact ⟨k1, ex P _ k2, m _ _ c1 k3⟩
  · obtain ⟨k1, k2, k3⟩ := f3 i a ha
    have ne : a ≠ D := fun e => by rw [e, zD] at k1; cases k1
    exact ⟨by unfold addZ; rw [k1, Bool.or_true], k2, (upd_ne ne).trans k3⟩
theorem SD.lay {D : Addr} {o : HO} (h : SD K w Γ z H σ env) (hD : H D = none) : SD K w (Γ.tmp D o) (addZ z D) (upd H D o) σ env := h.lay' (Ex.new hD) hD upd_same
/-- D is given a name -/
theorem SD.adopt {D : Addr} {us : List V} {xs : List PyData} {i : Nat} (h : SD K w (Γ.tmp D (.lst us)) z H σ env) (hz : z D = true) (hg : Γ.H D = none) (ht : Γ.T D = none) (hd : DpAll K (cut H z) us xs) (hi : i < env.length) : SD K w Γ z H (σ.set i (some (.ref D))) (env.set i (.l xs)) := by
  obtain ⟨ok, ext, zs, zn, zd, tm, len, fp, f1, f2, f3⟩ := h
  have hD : H D = some (.lst us) := tm D _ upd_same
  have nD : ∀ i a, a ∈ fp i → a ≠ D := fun i a ha e => by
    have := (f3 i a ha).2.2
    rw [e] at this
    have q : upd Γ.T D (.lst us) D = none := this
    rw [upd_same] at q
    cases q
  refine ⟨⟨ok.gz, ok.gW⟩, ext, zs, zn, zd, fun a u k => ?_, by rw [List.length_set, List.length_set]; exact len, fun j => if j = i then [D] else fp j, fun j t ht' => ?_, fun j k a hj hk => ?_, fun j a hj => ?_⟩
  · have e : a ≠ D := fun e => by rw [e, ht] at k; cases k
    exact tm a u ((upd_ne e).trans k)
  · by_cases q : i = j
    · subst q
      rw [List.getElem?_set_self hi] at ht'
      cases ht'
      dsimp only
      rw [if_pos rfl, getD_set_self (by rw [len]; exact hi)]
      exact ⟨D, us, rfl, rfl, hg, hD, hd⟩
    · rw [List.getElem?_set_ne q] at ht'
      dsimp only
      rw [if_neg (Ne.symm q), getD_set_ne q]
      exact hold_tmp (Γ := Γ.tmp D (.lst us)) (Γ' := Γ) rfl rfl (f1 j t ht')
  · dsimp only at hj hk
    by_cases q1 : j = i
    · by_cases q2 : k = i
      · rw [q1, q2]
      · rw [if_pos q1] at hj
        rw [if_neg q2] at hk
        exact (nD k a hk (by simpa using hj)).elim
    · by_cases q2 : k = i
      · rw [if_neg q1] at hj
        rw [if_pos q2] at hk
        exact (nD j a hj (by simpa using hk)).elim
      · rw [if_neg q1] at hj
        rw [if_neg q2] at hk
        exact f2 j k a hj hk
  · dsimp only at hj
    by_cases q1 : j = i
    · rw [if_pos q1] at hj
      have e : a = D := by simpa using hj
      rw [e]
      exact ⟨hz, .inr hg, ht⟩
    · rw [if_neg q1] at hj
      obtain ⟨k1, k2, k3⟩ := f3 j a hj
      exact ⟨k1, k2, (upd_ne (nD j a hj)).symm.trans k3⟩
/-- D changes -/
theorem SD.retmp {D : Addr} {o o' : HO} (h : SD K w (Γ.tmp D o) z H σ env) (hz : z D = true) (hg : Γ.H D = none) : SD K w (Γ.tmp D o') z (upd H D o') σ env := by
  obtain ⟨ok, ext, zs, zn, zd, tm, len, fp, f1, f2, f3⟩ := h
  have nD : ∀ i a, a ∈ fp i → a ≠ D := fun i a ha e => by
    have := (f3 i a ha).2.2
    rw [e] at this
    have q : upd Γ.T D o D = none := this
    rw [upd_same] at q
    cases q
  refine ⟨⟨ok.gz, ok.gW⟩, fun a u k1 k2 => ?_, zs, zn, fun a ha => ?_, fun a u k => ?_, len, fp, fun i s hs => ?_, f2, fun i a ha => ?_⟩
  · have ne : a ≠ D := fun e => by
      have k2' : Γ.H a = some u := k2
      rw [e, hg] at k2'
      cases k2'
    rw [upd_ne ne]
    exact ext a u k1 k2
  · by_cases e : a = D
    · rw [e, upd_same]; exact fun q => by cases q
    · rw [upd_ne e]; exact zd a ha
  · by_cases e : a = D
    · rw [e] at k ⊢
      have k' : upd Γ.T D o' D = some u := k
      rw [upd_same] at k' ⊢
      exact k'
    · have k' : upd Γ.T D o' a = some u := k
      rw [upd_ne e] at k' ⊢
      exact tm a u ((upd_ne e).trans k')
  · have k := hold_tmp (Γ := Γ.tmp D o) (Γ' := Γ.tmp D o') rfl rfl (f1 i s hs)
    exact k.mono (by rw [cut_upd hz]; exact Ex.refl _) fun a u ha q => (upd_ne (nD i a ha)).trans q
  · obtain ⟨k1, k2, k3⟩ := f3 i a ha
    have ne := nD i a ha
    have k3' : upd Γ.T D o a = none := k3
    rw [upd_ne ne] at k3'
    exact ⟨k1, k2, (upd_ne ne).trans k3'⟩
/-- without D -/
theorem SD.unlay {D : Addr} {o : HO} (h : SD K w (Γ.tmp D o) (addZ z D) H σ env) (hz : z D = false) (hzs : ∀ a, Γ.z a = true → z a = true) (hg : Γ.H D = none) (ht : Γ.T D = none) : SD K w Γ z (fun a => if a = D then none else H a) σ env := by
  obtain ⟨ok, ext, zs, zn, zd, tm, len, fp, f1, f2, f3⟩ := h
  have nD : ∀ i a, a ∈ fp i → a ≠ D := fun i a ha e => by
    have := (f3 i a ha).2.2
    rw [e] at this
    have q : upd Γ.T D o D = none := this
    rw [upd_same] at q
    cases q
  have hc : cut (fun a => if a = D then none else H a) z = cut H (addZ z D) := by
    funext a
    unfold cut addZ
    by_cases e : a = D
    · subst e
      simp [hz]
    · simp [e]
  have old : ∀ a o, a ≠ D → H a = some o → (fun a => if a = D then none else H a) a = some o := fun a o e q => by
    dsimp only
    rw [if_neg e]
    exact q
  refine ⟨⟨ok.gz, ok.gW⟩, fun a u k1 k2 => old a u (fun e => by rw [e, hg] at k2; cases k2) (ext a u k1 k2), hzs, fun a k => zn a (by unfold addZ; rw [k, Bool.or_true]), fun a k q => ?_, fun a u k => ?_, len, fp, fun i s hs => ?_, f2, fun i a ha => ?_⟩
  · have e : a ≠ D := fun e => by rw [e, hz] at k; cases k
    have q' : (if a = D then none else H a) = none := q
    rw [if_neg e] at q'
    exact zd a (by unfold addZ; rw [k, Bool.or_true]) q'
  · have e : a ≠ D := fun e => by rw [e, ht] at k; cases k
    exact old a u e (tm a u ((upd_ne e).trans k))
  · have k := f1 i s hs
    have nD' := nD i
    cases s with
    | u => exact k
    | d x =>
      obtain ⟨k1, v, k2, k3⟩ := k
      exact ⟨k1, v, k2, hc ▸ k3⟩
    | p xs =>
      obtain ⟨a, us, k1, k2, k3, k4, k5⟩ := k
      exact ⟨a, us, k1, k2, k3, old a _ (nD' a (by rw [k1]; simp)) k4, hc ▸ k5⟩
    | l xs =>
      obtain ⟨a, us, k1, k2, k3, k4, k5⟩ := k
      exact ⟨a, us, k1, k2, k3, old a _ (nD' a (by rw [k1]; simp)) k4, hc ▸ k5⟩
    | x f L =>
      obtain ⟨a, k1, k2, k3, k4, k5⟩ := k
      exact ⟨a, k1, k2, k3, old a _ (nD' a (by rw [k1]; simp)) k4, hc ▸ k5⟩
    | y rows =>
      obtain ⟨a, as, k1, k2, k3⟩ := k
      exact ⟨a, as, k1, k2, k3.mono fun b o hb q => old b o (nD' b (by rw [k1]; exact hb)) q⟩
    | v x => exact k
    | q P ob ψ m =>
      obtain ⟨k1, k2, k3⟩ := k
      exact ⟨k1, old P _ (nD' P (by rw [k1]; simp)) k2, hc ▸ k3⟩
  · obtain ⟨k1, k2, k3⟩ := f3 i a ha
    have ne := nD i a ha
    have k3' : upd Γ.T D o a = none := k3
    rw [upd_ne ne] at k3'
    rw [addZ_ne ne] at k1
    exact ⟨k1, k2, k3'⟩
end
end NB

set_option Elab.async false
set_option linter.all false
set_option maxRecDepth 100000
set_option maxHeartbeats 4000000
/-! the logic's rules: expressions -/
namespace NB
open PySem L2 Evl

/-! ### readings may be weakened; a reading for each of many -/
section
variable {X : Cx}
theorem pe_imp {e : Expr} {t t' : TE} (h : PE X e t) (i : ∀ σ H Q, t' σ H Q → t σ H Q) : PE X e t' := ⟨fun pins s σ H Q I hw => h.run pins s σ H Q I (i σ H Q hw)⟩
theorem pt_imp {e : Expr} {t t' : TT} (h : PT X e t) (i : ∀ σ H Q, t' σ H Q → t σ H Q) : PT X e t' := ⟨fun pins s σ H Q I hw => h.run pins s σ H Q I (i σ H Q hw)⟩
theorem pw_imp {e : Expr} {t t' : TT} (h : PW X e t) (i : ∀ σ H Q, t' σ H Q → t σ H Q) : PW X e t' := ⟨fun wh pins s σ H Q I hw => h.run wh pins s σ H Q I (i σ H Q hw)⟩
theorem pts_imp {e : List Expr} {t t' : TT} (h : PTs X e t) (i : ∀ σ H Q, t' σ H Q → t σ H Q) : PTs X e t' := ⟨fun pins s σ H Q I hw => h.run pins s σ H Q I (i σ H Q hw)⟩
theorem pa_imp {e : List Expr} {t t' : TA} (h : PA X e t) (i : ∀ σ H Q, t' σ H Q → t σ H Q) : PA X e t' := ⟨fun pos pins s σ H Q I hw => h.run pos pins s σ H Q I (i σ H Q hw)⟩
theorem ps_imp {e : Stmt} {t t' : TS} (h : PS X e t) (i : ∀ D σ H, t' D σ H → t D σ H) : PS X e t' := ⟨fun pins s σ H D I hw => h.run pins s σ H D I (i D σ H hw)⟩
theorem pss_imp {e : List Stmt} {t t' : TS} (h : PSs X e t) (i : ∀ D σ H, t' D σ H → t D σ H) : PSs X e t' := ⟨fun pins s σ H D I hw => h.run pins s σ H D I (i D σ H hw)⟩
theorem pi_imp {tg e : Expr} {t t' : TI} (h : PI X tg e t) (i : ∀ σ H Q, t' σ H Q → t σ H Q) : PI X tg e t' := ⟨fun pins s σ H Q I hw => h.run pins s σ H Q I (i σ H Q hw)⟩
theorem pg_imp {e : Expr} {t t' : TG} (h : PG X e t) (i : ∀ v σ H Q, t' v σ H Q → t v σ H Q) : PG X e t' := ⟨fun pins s σ H v u Q I r hw => h.run pins s σ H v u Q I r (i v σ H Q hw)⟩
theorem pe_all {α : Sort _} {C : α → Prop} {e : Expr} {t : α → TE} (h : ∀ a, C a → PE X e (t a)) : PE X e (fun σ H Q => ∃ a, C a ∧ t a σ H Q) := ⟨fun pins s σ H Q I hw => by
  obtain ⟨a, c, q⟩ := hw
  exact (h a c).run pins s σ H Q I q⟩
theorem pt_all {α : Sort _} {C : α → Prop} {e : Expr} {t : α → TT} (h : ∀ a, C a → PT X e (t a)) : PT X e (fun σ H Q => ∃ a, C a ∧ t a σ H Q) := ⟨fun pins s σ H Q I hw => by
  obtain ⟨a, c, q⟩ := hw
  exact (h a c).run pins s σ H Q I q⟩
theorem pts_all {α : Sort _} {C : α → Prop} {e : List Expr} {t : α → TT} (h : ∀ a, C a → PTs X e (t a)) : PTs X e (fun σ H Q => ∃ a, C a ∧ t a σ H Q) := ⟨fun pins s σ H Q I hw => by
  obtain ⟨a, c, q⟩ := hw
  exact (h a c).run pins s σ H Q I q⟩
theorem pss_all {α : Sort _} {C : α → Prop} {e : List Stmt} {t : α → TS} (h : ∀ a, C a → PSs X e (t a)) : PSs X e (fun D σ H => ∃ a, C a ∧ t a D σ H) := ⟨fun pins s σ H D I hw => by
  obtain ⟨a, c, q⟩ := hw
  exact (h a c).run pins s σ H D I q⟩
end

theorem pg_all {X : Cx} {α : Sort _} {C : α → Prop} {e : Expr} {t : α → TG} (h : ∀ a, C a → PG X e (t a)) : PG X e (fun v σ H Q => ∃ a, C a ∧ t a v σ H Q) := ⟨fun pins s σ H v u Q I r hw => by
  obtain ⟨a, c, q⟩ := hw
  exact (h a c).run pins s σ H v u Q I r q⟩

/-! ### what is said of an expression, a test, arguments -/
def tD (K : PySem.W.Frag) (w : World) (env : En) (d : PyData) (env' : En) : TE := fun σ H Q => ∃ Γ z, SD K w Γ z H σ env ∧ ∀ v H', Ex (cut H z) (cut H' z) → SD K w Γ z H' σ env' → Dp K (cut H' z) v d → Q v H'
def tT (K : PySem.W.Frag) (w : World) (env : En) (b : Bool) (env' : En) : TT := fun σ H Q => ∃ Γ z, SD K w Γ z H σ env ∧ ∀ H', Ex (cut H z) (cut H' z) → SD K w Γ z H' σ env' → Q b H'
def tAD (K : PySem.W.Frag) (w : World) (env : En) (ds : List PyData) (env' : En) : TA := fun σ H Q => ∃ Γ z, SD K w Γ z H σ env ∧ ∀ vs H', Ex (cut H z) (cut H' z) → SD K w Γ z H' σ env' → DpAll K (cut H' z) vs ds → Q vs H'
/-- a new list, not yet anybody's -/
def tF (K : PySem.W.Frag) (w : World) (env : En) (ds : List PyData) (env' : En) : TE := fun σ H Q => ∃ Γ z, SD K w Γ z H σ env ∧
  ∀ p H1 H2 us, Ex (cut H z) (cut H1 z) → SD K w Γ z H1 σ env' → Ex H1 H2 → H1 p = none → H2 p = some (.lst us) → DpAll K (cut H1 z) us ds → Q (.ref p) H2
abbrev PD (X : Cx) (e : Expr) (env : En) (d : PyData) (env' : En) : Prop := PE X e (tD X.K X.w env d env')
abbrev PB (X : Cx) (e : Expr) (env : En) (b : Bool) (env' : En) : Prop := PT X e (tT X.K X.w env b env')
abbrev PAD (X : Cx) (e : List Expr) (env : En) (ds : List PyData) (env' : En) : Prop := PA X e (tAD X.K X.w env ds env')
abbrev PF (X : Cx) (e : Expr) (env : En) (ds : List PyData) (env' : En) : Prop := PE X e (tF X.K X.w env ds env')

section
variable {X : Cx} {env env1 env2 env3 : En} {d d1 d2 d3 : PyData} {ds : List PyData} {e a b c : Expr} {pos : Pos}
/-- a new list is data -/
theorem pf_d (h : PF X e env ds env1) : PD X e env (.list ds) env1 := pe_imp h fun σ H Q ⟨Γ, z, sd, k⟩ => ⟨Γ, z, sd, fun p H1 H2 us e1 s1 e2 hp hl hd =>
  k _ H2 (e1.trans (cut_ex e2)) (s1.grow e2) (.lst (sq_of (cut_of (s1.zfresh hp) hl)) (Dpam (cut_ex e2) hd))⟩
theorem pd_var (i : Nat) {x : Str} (hd : env[i]? = some (.d d)) (hN : X.N[i]? = some x := by rfl) (hv : Vis X.env.scope x := by first | exact Or.inl rfl | exact Or.inr (Or.inl rfl) | exact Or.inr (Or.inr rfl))
    (hb : (x == ("__debug__" : Str)) = false := by decide) (hcd : (x == ("__classdict__" : Str)) = false := by decide) : PD X (.Name x pos) env d env :=
  pe_imp (pv i hN hv hb hcd) fun σ H Q ⟨Γ, z, sd, k⟩ => by
    obtain ⟨v, h1, h2⟩ := sd.var hd
    exact ⟨v, h1, k v H (Ex.refl _) sd h2⟩
theorem pd_c {v : V} (h : PE X e (tC v)) (hv : ∀ G, Dp X.K G v d) : PD X e env d env := pe_imp h fun σ H Q ⟨Γ, z, sd, k⟩ => k v H (Ex.refl _) sd (hv _)
theorem pd_int {i : Int} {j} : PD X (.Constant (.int i) j pos) env (.int i) env := pd_c pe_int fun _ => .int i
theorem pd_bl {i : Bool} {j} : PD X (.Constant (.bool i) j pos) env (.bool i) env := pd_c pe_bl fun _ => .bl i
theorem pd_non {j} : PD X (.Constant .none j pos) env .none env := pd_c pe_non fun _ => .non
theorem pd_str {i : Str} {j} : PD X (.Constant (.str i) j pos) env (.str i) env := pd_c pe_str fun _ => .str i

/-! ### operators by values -/
def BinD (X : Cx) (f : Value → Value → Sem Value) (d1 d2 d3 : PyData) : Prop :=
  OpR X f (fun x y H Q => ∃ z, (∀ a, z a = true → H a ≠ none) ∧ Dp X.K (cut H z) x d1 ∧ Dp X.K (cut H z) y d2 ∧ ∀ v H', Ex H H' → Dp X.K (cut H' z) v d3 → Q v H')
theorem opr_imp {f : Value → Value → Sem Value} {r r' : R2} (h : OpR X f r) (i : ∀ x y H Q, r' x y H Q → r x y H Q) : OpR X f r' := fun pins s σ H x y v u Q I rx ry hw => h pins s σ H x y v u Q I rx ry (i x y H Q hw)
/-- two operands in a row, then what asks of them alone -/
theorem two_run {env : En} {ta tb : TE} {r : R2} (hab : ∀ σ H (R : V → V → Hp → Prop), (∃ Γ z, SD X.K X.w Γ z H σ env ∧ ∀ v u H', Ex (cut H z) (cut H' z) → SD X.K X.w Γ z H' σ env2 → Dp X.K (cut H' z) v d1 → Dp X.K (cut H' z) u d2 → R v u H') → ta σ H fun x H1 => tb σ H1 fun y H2 => R x y H2)
    (hr : ∀ x y H Q, (∃ z, (∀ a, z a = true → H a ≠ none) ∧ Dp X.K (cut H z) x d1 ∧ Dp X.K (cut H z) y d2 ∧ ∀ v H', Ex H H' → Dp X.K (cut H' z) v d3 → Q v H') → r x y H Q) :
    ∀ σ H Q, tD X.K X.w env d3 env2 σ H Q → tOp r ta tb σ H Q := fun σ H Q ⟨Γ, z, sd, k⟩ =>
  hab σ H _ ⟨Γ, z, sd, fun v u H' ex sd' h1 h2 => hr v u H' Q ⟨z, sd'.zd, h1, h2, fun v' H'' ex' h3 => k v' H'' (ex.trans (cut_ex ex')) (sd'.grow ex') h3⟩⟩
theorem seq2 : ∀ σ H (R : V → V → Hp → Prop), (∃ Γ z, SD X.K X.w Γ z H σ env ∧ ∀ v u H', Ex (cut H z) (cut H' z) → SD X.K X.w Γ z H' σ env2 → Dp X.K (cut H' z) v d1 → Dp X.K (cut H' z) u d2 → R v u H') →
    (tD X.K X.w env d1 env1) σ H fun x H1 => (tD X.K X.w env1 d2 env2) σ H1 fun y H2 => R x y H2 := fun σ H R ⟨Γ, z, sd, k⟩ =>
  ⟨Γ, z, sd, fun v H' ex sd' h1 => ⟨Γ, z, sd', fun u H'' ex' sd'' h2 => k v u H'' (ex.trans ex') sd'' (Dpm ex' h1) h2⟩⟩
theorem pd_op {op : Operator} (ha : PD X a env d1 env1) (hb : PD X b env1 d2 env2) (ho : BinD X (binaryOp op) d1 d2 d3) : PD X (.BinOp a op b pos) env d3 env2 :=
  pe_imp (pe_op ho ha hb) (two_run seq2 fun _ _ _ _ h => h)
theorem pd_cmp {op : CmpOp} (ha : PD X a env d1 env1) (hb : PD X b env1 d2 env2) (ho : BinD X (compareOp op) d1 d2 d3) (hm : behindInMarks op b = false := by first | exact nomark _ | with_unfolding_all rfl) : PD X (.Compare a [op] [b] pos) env d3 env2 :=
  pe_imp (pe_cmpR ho ha hb hm) (two_run seq2 fun _ _ _ _ h => h)
theorem pb_cmp {op : CmpOp} {k : Bool} (ha : PD X a env d1 env1) (hb : PD X b env1 d2 env2) (ho : BinD X (compareOp op) d1 d2 (.bool k)) (hm : behindInMarks op b = false := by first | exact nomark _ | with_unfolding_all rfl) : PB X (.Compare a [op] [b] pos) env k env2 :=
  pt_imp (pt_cmpR ho ha hb hm) fun σ H Q ⟨Γ, z, sd, kk⟩ => seq2 σ H _ ⟨Γ, z, sd, fun v u H' ex sd' h1 h2 => ⟨z, sd'.zd, h1, h2, fun v' H'' ex' h3 => by
    cases h3
    exact ⟨k, rfl, kk H'' (ex.trans (cut_ex ex')) (sd'.grow ex')⟩⟩⟩
/-- a value that is a bool, as a test -/
theorem pb_val {k : Bool} (h : PD X e env (.bool k) env1) (he : ∀ whole, isTrue e X.env whole = (do let v ← whole; standAt e.pos; holding [v] (truthy v)) := by intro _; rfl) : PB X e env k env1 :=
  pt_imp (pt_val h he) fun σ H Q ⟨Γ, z, sd, kk⟩ => ⟨Γ, z, sd, fun v H' ex sd' h1 => by
    cases h1
    exact ⟨k, rfl, kk H' ex sd'⟩⟩
theorem pb_not {k : Bool} (h : PB X a env k env1) : PB X (.UnaryOp .Not a pos) env (!k) env1 := pt_imp (pt_not h) fun σ H Q ⟨Γ, z, sd, kk⟩ => ⟨Γ, z, sd, fun H' ex sd' => kk H' ex sd'⟩
theorem pd_not {k : Bool} (h : PD X a env (.bool k) env1) : PD X (.UnaryOp .Not a pos) env (.bool (!k)) env1 := pe_imp (pe_not h) fun σ H Q ⟨Γ, z, sd, kk⟩ => ⟨Γ, z, sd, fun v H' ex sd' h1 => by
  cases h1
  exact ⟨k, rfl, kk _ H' ex sd' (.bl _)⟩⟩

/-! ### and, or: the second is only asked where the first does not settle it; both leave the names as they are -/
theorem tT_ite {t u : TT} {k1 k2 : Bool} {σ : L2.St} {H : Hp} {Q : Bool → Hp → Prop} : True := trivial
theorem pw_one {k : Bool} {op} (h : PB X a env k env1) (hop : op = .And ∨ op = .Or) : PW X (.BoolOp op [a] pos) (tT X.K X.w env k env1) := by
  rcases hop with rfl | rfl
  · exact pw_and1 h
  · exact pw_or1 h
theorem pw_andD {rest : List Expr} {k1 k2 : Bool} (ha : PB X a env k1 env) (hb : k1 = true → PW X (.BoolOp .And (b :: rest) pos) (tT X.K X.w env k2 env)) : PW X (.BoolOp .And (a :: b :: rest) pos) (tT X.K X.w env (k1 && k2) env) := by
  cases k1 with
  | true => exact pw_imp (pw_and ha (hb rfl)) fun σ H Q ⟨Γ, z, sd, kk⟩ => ⟨Γ, z, sd, fun H' ex sd' => by
      refine iteT ?_
      exact ⟨Γ, z, sd', fun H'' ex' sd'' => kk H'' (ex.trans ex') sd''⟩⟩
  | false => exact pw_imp (pw_and ha (tB' := fun _ _ _ => False) ⟨fun _ _ _ _ _ _ _ h => h.elim⟩) fun σ H Q ⟨Γ, z, sd, kk⟩ => ⟨Γ, z, sd, fun H' ex sd' => by
      refine iteF ?_
      exact kk H' ex sd'⟩
theorem pw_orD {rest : List Expr} {k1 k2 : Bool} (ha : PB X a env k1 env) (hb : k1 = false → PW X (.BoolOp .Or (b :: rest) pos) (tT X.K X.w env k2 env)) : PW X (.BoolOp .Or (a :: b :: rest) pos) (tT X.K X.w env (k1 || k2) env) := by
  cases k1 with
  | false => exact pw_imp (pw_or ha (hb rfl)) fun σ H Q ⟨Γ, z, sd, kk⟩ => ⟨Γ, z, sd, fun H' ex sd' => by
      refine iteF ?_
      exact ⟨Γ, z, sd', fun H'' ex' sd'' => kk H'' (ex.trans ex') sd''⟩⟩
  | true => exact pw_imp (pw_or ha (tB' := fun _ _ _ => False) ⟨fun _ _ _ _ _ _ _ h => h.elim⟩) fun σ H Q ⟨Γ, z, sd, kk⟩ => ⟨Γ, z, sd, fun H' ex sd' => by
      refine iteT ?_
      exact kk H' ex sd'⟩
theorem pb_of {k : Bool} (h : PW X e (tT X.K X.w env k env1)) : PB X e env k env1 := h.pt
theorem pb_is {k k' : Bool} (h : PB X e env k env1) (q : k = k') : PB X e env k' env1 := q ▸ h
theorem pd_is (h : PD X e env d env1) (q : d = d1) : PD X e env d1 env1 := q ▸ h
theorem pd_and {rest : List Expr} {k1 k2 : Bool} (ha : PD X a env (.bool k1) env) (hb : k1 = true → PD X (.BoolOp .And (b :: rest) pos) env (.bool k2) env) : PD X (.BoolOp .And (a :: b :: rest) pos) env (.bool (k1 && k2)) env := by
  cases k1 with
  | true => exact pe_imp (pe_and ha (hb rfl)) fun σ H Q ⟨Γ, z, sd, kk⟩ => ⟨Γ, z, sd, fun v H' ex sd' h1 => by
      cases h1
      refine ⟨true, rfl, ?_⟩
      refine iteT ?_
      exact ⟨Γ, z, sd', fun v' H'' ex' sd'' h2 => kk v' H'' (ex.trans ex') sd'' h2⟩⟩
  | false => exact pe_imp (pe_and ha (tb := fun _ _ _ => False) ⟨fun _ _ _ _ _ _ h => h.elim⟩) fun σ H Q ⟨Γ, z, sd, kk⟩ => ⟨Γ, z, sd, fun v H' ex sd' h1 => by
      cases h1
      refine ⟨false, rfl, ?_⟩
      refine iteF ?_
      exact kk _ H' ex sd' (.bl false)⟩
theorem pd_or {rest : List Expr} {k1 k2 : Bool} (ha : PD X a env (.bool k1) env) (hb : k1 = false → PD X (.BoolOp .Or (b :: rest) pos) env (.bool k2) env) : PD X (.BoolOp .Or (a :: b :: rest) pos) env (.bool (k1 || k2)) env := by
  cases k1 with
  | false => exact pe_imp (pe_or ha (hb rfl)) fun σ H Q ⟨Γ, z, sd, kk⟩ => ⟨Γ, z, sd, fun v H' ex sd' h1 => by
      cases h1
      refine ⟨false, rfl, ?_⟩
      refine iteF ?_
      exact ⟨Γ, z, sd', fun v' H'' ex' sd'' h2 => kk v' H'' (ex.trans ex') sd'' h2⟩⟩
  | true => exact pe_imp (pe_or ha (tb := fun _ _ _ => False) ⟨fun _ _ _ _ _ _ h => h.elim⟩) fun σ H Q ⟨Γ, z, sd, kk⟩ => ⟨Γ, z, sd, fun v H' ex sd' h1 => by
      cases h1
      refine ⟨true, rfl, ?_⟩
      refine iteT ?_
      exact kk _ H' ex sd' (.bl true)⟩
theorem pd_one {op} (h : PD X a env d env1) : PD X (.BoolOp op [a] pos) env d env1 := pe_one h
theorem pd_if {k : Bool} (hc : PB X c env k env1) (ha : k = true → PD X a env1 d env2) (hb : k = false → PD X b env1 d env2) : PD X (.IfExp c a b pos) env d env2 := by
  cases k with
  | true => exact pe_imp (pe_ifExp hc (ha rfl) (tb := fun _ _ _ => False) ⟨fun _ _ _ _ _ _ h => h.elim⟩) fun σ H Q ⟨Γ, z, sd, kk⟩ => ⟨Γ, z, sd, fun H' ex sd' => by
      refine iteT ?_
      exact ⟨Γ, z, sd', fun v' H'' ex' sd'' h2 => kk v' H'' (ex.trans ex') sd'' h2⟩⟩
  | false => exact pe_imp (pe_ifExp hc (ta := fun _ _ _ => False) ⟨fun _ _ _ _ _ _ h => h.elim⟩ (hb rfl)) fun σ H Q ⟨Γ, z, sd, kk⟩ => ⟨Γ, z, sd, fun H' ex sd' => by
      refine iteF ?_
      exact ⟨Γ, z, sd', fun v' H'' ex' sd'' h2 => kk v' H'' (ex.trans ex') sd'' h2⟩⟩

/-! ### arguments, displays -/
theorem pad_nil : PAD X [] env [] env := pa_imp pa_nil fun σ H Q ⟨Γ, z, sd, kk⟩ => kk [] H (Ex.refl _) sd .nil
theorem pad_cons {es : List Expr} (ha : PD X a env d env1) (hr : PAD X es env1 ds env2) (hs : starEach (a :: es) X.env = (false, eval a X.env) :: starEach es X.env := by rfl) : PAD X (a :: es) env (d :: ds) env2 :=
  pa_imp (pa_cons ha hr hs) fun σ H Q ⟨Γ, z, sd, kk⟩ => ⟨Γ, z, sd, fun v H' ex sd' h1 => ⟨Γ, z, sd', fun vs H'' ex' sd'' h2 => kk (v :: vs) H'' (ex.trans ex') sd'' (.cons (Dpm ex' h1) h2)⟩⟩
theorem pd_tup {es : List Expr} {k} (h : PAD X es env ds env1) (hl : ds.length ≤ 100000 := by simp) : PD X (.Tuple es k pos) env (.tuple ds) env1 :=
  pe_imp (pe_tup h) fun σ H Q ⟨Γ, z, sd, kk⟩ => ⟨Γ, z, sd, fun vs H' ex sd' h1 => ⟨sz_of (by rw [dpa_len h1]; exact hl), fun p hp =>
    kk _ _ (ex.trans (cut_ex (Ex.new hp))) (sd'.grow (Ex.new hp)) (.tup (st_of (cut_of (sd'.zfresh hp) upd_same)) (Dpam (cut_ex (Ex.new hp)) h1))⟩⟩
theorem pf_lst {es : List Expr} (h : PAD X es env ds env1) (hl : ds.length ≤ 100000 := by simp) : PF X (.List es pos) env ds env1 :=
  pe_imp (pe_lst h) fun σ H Q ⟨Γ, z, sd, kk⟩ => ⟨Γ, z, sd, fun vs H' ex sd' h1 => ⟨sz_of (by rw [dpa_len h1]; exact hl), fun p hp =>
    kk _ H' _ vs ex sd' (Ex.new hp) hp upd_same h1⟩⟩

/-! ### calls of built-ins by values -/
def CalD (X : Cx) (f : Value) (ds : List PyData) (d : PyData) : Prop :=
  CallR X f (fun xs H Q => ∃ z, (∀ a, z a = true → H a ≠ none) ∧ DpAll X.K (cut H z) xs ds ∧ ∀ v H', Ex H H' → Dp X.K (cut H' z) v d → Q v H')
/-- .. that gives a new list -/
def CalF (X : Cx) (f : Value) (ds : List PyData) (es : List PyData) : Prop :=
  CallR X f (fun xs H Q => ∃ z, (∀ a, z a = true → H a ≠ none) ∧ DpAll X.K (cut H z) xs ds ∧ ∀ p H' us, Ex H H' → H p = none → H' p = some (.lst us) → DpAll X.K (cut H z) us es → Q (.ref p) H')
theorem calr_imp {f : Value} {r r' : List V → Hp → VK → Prop} (h : CallR X f r) (i : ∀ xs H Q, r' xs H Q → r xs H Q) : CallR X f r' := fun pins s σ H xs us Q I rs hw => h pins s σ H xs us Q I rs (i xs H Q hw)
theorem calF_D {f : Value} {es : List PyData} (h : CalF X f ds es) : CalD X f ds (.list es) := calr_imp h fun xs H Q ⟨z, zd, h1, k⟩ => ⟨z, zd, h1, fun p H' us ex hp hl hd => k _ H' ex (.lst (sq_of (cut_of (by
  cases r : z p with
  | false => rfl
  | true => exact (zd p r hp).elim) hl)) (Dpam (cut_ex ex) hd))⟩
theorem pd_callB {x : Str} {p : Pos} {id : String} {es : List Expr} (hc : CalD X (.builtin id) ds d) (hm : X.mg x = none) (ha : PAD X (e :: es) env ds env1) (hg : Gl X x := by rfl) (hv : bootBuiltins x = some (.builtin id) := by decide +kernel) (hn : x ≠ "__name__" := by decide) (hdb : (x == ("__debug__" : Str)) = false := by decide)
    (he : starEach (e :: es) X.env = (false, eval e X.env) :: starEach es X.env := by rfl) (hpl : (backTo pos (starEach es X.env)).any (·.1) = false := by rfl) : PD X (.Call (.Name x p) (e :: es) [] pos) env d env1 :=
  pe_imp (pe_callB hc hg hm hv ha hn hdb he hpl) fun σ H Q ⟨Γ, z, sd, kk⟩ => ⟨Γ, z, sd, fun vs H' ex sd' h1 => ⟨z, sd'.zd, h1, fun v H'' ex' h2 => kk v H'' (ex.trans (cut_ex ex')) (sd'.grow ex') h2⟩⟩
theorem pd_callTy {x : Str} {p : Pos} {T : String} {es : List Expr} (hc : CalD X (.type T) ds d) (hm : X.mg x = none) (ha : PAD X (e :: es) env ds env1) (hg : Gl X x := by rfl) (hv : bootBuiltins x = some (.type T) := by decide +kernel) (hn : x ≠ "__name__" := by decide) (hdb : (x == ("__debug__" : Str)) = false := by decide)
    (he : starEach (e :: es) X.env = (false, eval e X.env) :: starEach es X.env := by rfl) (hpl : (backTo pos (starEach es X.env)).any (·.1) = false := by rfl) : PD X (.Call (.Name x p) (e :: es) [] pos) env d env1 :=
  pe_imp (pe_callTy hc hg hm hv ha hn hdb he hpl) fun σ H Q ⟨Γ, z, sd, kk⟩ => ⟨Γ, z, sd, fun vs H' ex sd' h1 => ⟨z, sd'.zd, h1, fun v H'' ex' h2 => kk v H'' (ex.trans (cut_ex ex')) (sd'.grow ex') h2⟩⟩

/-! ### an item -/
def ItD (X : Cx) (d1 d2 d3 : PyData) : Prop :=
  IxR X (fun x y H Q => ∃ z, (∀ a, z a = true → H a ≠ none) ∧ Dp X.K (cut H z) x d1 ∧ Dp X.K (cut H z) y d2 ∧ ∀ v H', Ex H H' → Dp X.K (cut H' z) v d3 → Q v H')
theorem ixr_imp {r r' : R2} (h : IxR X r) (i : ∀ x y H Q, r' x y H Q → r x y H Q) : IxR X r' := by
  intro value slice pins s σ H x y v u Q I rx ry hw hs
  exact h value slice pins s σ H x y v u Q I rx ry (i x y H Q hw) hs
theorem pd_ix (ha : PD X a env d1 env1) (hb : PD X b env1 d2 env2) (hi : ItD X d1 d2 d3) (hs : PlainIx b := by exact fun _ _ => rfl) : PD X (.Subscript a b pos) env d3 env2 :=
  pe_imp (pe_ix hi ha hb hs) (two_run seq2 fun _ _ _ _ h => h)
theorem ix_T {i : Int} (h : atI ds i = some d) : ItD X (.tuple ds) (.int i) d := ixr_imp ix_tup fun x y H Q ⟨z, zd, h1, h2, k⟩ => by
  cases h2
  cases h1 with
  | @tup p xs _ hs ha =>
    obtain ⟨j, hj, hl⟩ : ∃ j, ixN ds.length i = some j ∧ ds[j]? = some d := by
      unfold atI at h
      cases q : ixN ds.length i with
      | none => rw [q] at h; cases h
      | some j => rw [q] at h; exact ⟨j, rfl, h⟩
    obtain ⟨v, hv, hd⟩ := dpa_get ha hl
    refine ⟨p, xs, i, v, rfl, rfl, ex_t cut_sub hs, ?_, k v H (Ex.refl _) hd⟩
    unfold atI
    rw [dpa_len ha, hj]
    exact hv
theorem ix_L {i : Int} (h : atI ds i = some d) : ItD X (.list ds) (.int i) d := ixr_imp ix_list fun x y H Q ⟨z, zd, h1, h2, k⟩ => by
  cases h2
  cases h1 with
  | @lst p xs _ hs ha =>
    obtain ⟨j, hj, hl⟩ : ∃ j, ixN ds.length i = some j ∧ ds[j]? = some d := by
      unfold atI at h
      cases q : ixN ds.length i with
      | none => rw [q] at h; cases h
      | some j => rw [q] at h; exact ⟨j, rfl, h⟩
    obtain ⟨v, hv, hd⟩ := dpa_get ha hl
    refine ⟨p, xs, i, v, rfl, rfl, ex_l cut_sub hs, ?_, k v H (Ex.refl _) hd⟩
    unfold atI
    rw [dpa_len ha, hj]
    exact hv
/-- of a list of one's own, by its name -/
theorem pd_ixO (i : Nat) {x : Str} {xp : Pos} {k : Int} (he : env[i]? = some (.l ds) ∨ env[i]? = some (.p ds)) (hb : PD X b env (.int k) env) (h : atI ds k = some d) (hs : PlainIx b := by exact fun _ _ => rfl) (hN : X.N[i]? = some x := by rfl) (hv : Vis X.env.scope x := by first | exact Or.inl rfl | exact Or.inr (Or.inl rfl) | exact Or.inr (Or.inr rfl))
    (hb1 : (x == ("__debug__" : Str)) = false := by decide) (hcd : (x == ("__classdict__" : Str)) = false := by decide) : PD X (.Subscript (.Name x xp) b pos) env d env :=
  pe_imp (pe_ix ix_list (pv i hN hv hb1 hcd) hb hs) fun σ H Q ⟨Γ, z, sd, kk⟩ => by
    obtain ⟨p, us, h1, h2, h3, h4⟩ := sd.own he
    refine ⟨_, h1, Γ, z, sd, fun v H' ex sd' hd => ?_⟩
    obtain ⟨p', us', h1', h2', h3', h4'⟩ := sd'.own he
    rw [h1] at h1'
    cases h1'
    cases hd
    obtain ⟨j, hj, hl⟩ : ∃ j, ixN ds.length k = some j ∧ ds[j]? = some d := by
      unfold atI at h
      cases q : ixN ds.length k with
      | none => rw [q] at h; cases h
      | some j => rw [q] at h; exact ⟨j, rfl, h⟩
    obtain ⟨v, hv, hd⟩ := dpa_get h4' hl
    refine ⟨p, us', k, v, rfl, rfl, sq_of h3', ?_, kk v H' ex sd' hd⟩
    unfold atI
    rw [dpa_len h4', hj]
    exact hv

/-! ### arithmetic and comparisons of data -/
theorem bin_of {f : Value → Value → Sem Value} {r : R2} (h : OpR X f r) (i : ∀ z x y H Q, (∀ a, z a = true → H a ≠ none) → Dp X.K (cut H z) x d1 → Dp X.K (cut H z) y d2 → (∀ v H', Ex H H' → Dp X.K (cut H' z) v d3 → Q v H') → r x y H Q) : BinD X f d1 d2 d3 :=
  opr_imp h fun x y H Q ⟨z, zd, h1, h2, k⟩ => i z x y H Q zd h1 h2 k
theorem bin_I0 {f : Value → Value → Sem Value} {g : Int → Int → V} {i j : Int} (h : OpR X f (rI0 g)) (hg : ∀ G, Dp X.K G (g i j) d) : BinD X f (.int i) (.int j) d :=
  bin_of h fun z x y H Q zd h1 h2 k => by
    cases h1; cases h2
    exact ⟨i, j, rfl, rfl, k _ H (Ex.refl _) (hg _)⟩
theorem bin_I {f : Value → Value → Sem Value} {C : Int → Int → Prop} {g : Int → Int → V} {i j : Int} (h : OpR X f (rI C g)) (hc : C i j) (hg : ∀ G, Dp X.K G (g i j) d) : BinD X f (.int i) (.int j) d :=
  bin_of h fun z x y H Q zd h1 h2 k => by
    cases h1; cases h2
    exact ⟨i, j, rfl, rfl, hc, k _ H (Ex.refl _) (hg _)⟩
theorem b_add {i j : Int} : BinD X (binaryOp .Add) (.int i) (.int j) (.int (i + j)) := bin_I0 op_add fun _ => .int _
theorem b_sub {i j : Int} : BinD X (binaryOp .Sub) (.int i) (.int j) (.int (i - j)) := bin_I0 op_sub fun _ => .int _
theorem b_mul {i j : Int} (h : CMul i j) : BinD X (binaryOp .Mult) (.int i) (.int j) (.int (i * j)) := bin_I op_mul h fun _ => .int _
theorem b_mod {i j : Int} (h : 0 < j) : BinD X (binaryOp .Mod) (.int i) (.int j) (.int (i % j)) := bin_I op_mod h fun _ => .int _
theorem b_div {i j : Int} (h : CDiv i j) : BinD X (binaryOp .FloorDiv) (.int i) (.int j) (.int (i / j)) := bin_I op_fdiv h fun _ => .int _
theorem b_pow {i j : Int} (h : CPow i j) : BinD X (binaryOp .Pow) (.int i) (.int j) (.int (i ^ j.toNat)) := bin_I op_pow h fun _ => .int _
theorem c_lt {i j : Int} : BinD X (compareOp .Lt) (.int i) (.int j) (.bool (decide (i < j))) := bin_I0 op_lt fun _ => .bl _
theorem c_le {i j : Int} : BinD X (compareOp .LtE) (.int i) (.int j) (.bool (decide (i ≤ j))) := bin_I0 op_le fun _ => .bl _
theorem c_gt {i j : Int} : BinD X (compareOp .Gt) (.int i) (.int j) (.bool (decide (j < i))) := bin_I0 op_gt fun _ => .bl _
theorem c_ge {i j : Int} : BinD X (compareOp .GtE) (.int i) (.int j) (.bool (decide (j ≤ i))) := bin_I0 op_ge fun _ => .bl _
theorem c_eqI {i j : Int} : BinD X (compareOp .Eq) (.int i) (.int j) (.bool (decide (i = j))) := bin_of op_eq fun z x y H Q zd h1 h2 k => by
  cases h1; cases h2
  refine ⟨rfl, ?_⟩
  have e : decide (V.int i = V.int j) = decide (i = j) := by simp
  rw [e]
  exact k _ H (Ex.refl _) (.bl _)
theorem c_neI {i j : Int} : BinD X (compareOp .NotEq) (.int i) (.int j) (.bool (!decide (i = j))) := bin_of op_ne fun z x y H Q zd h1 h2 k => by
  cases h1; cases h2
  refine ⟨rfl, ?_⟩
  have e : decide (V.int i = V.int j) = decide (i = j) := by simp
  rw [e]
  exact k _ H (Ex.refl _) (.bl _)
theorem c_eqB {i j : Bool} : BinD X (compareOp .Eq) (.bool i) (.bool j) (.bool (decide (i = j))) := bin_of op_eq fun z x y H Q zd h1 h2 k => by
  cases h1; cases h2
  refine ⟨rfl, ?_⟩
  have e : decide (V.bl i = V.bl j) = decide (i = j) := by simp
  rw [e]
  exact k _ H (Ex.refl _) (.bl _)
theorem c_neB {i j : Bool} : BinD X (compareOp .NotEq) (.bool i) (.bool j) (.bool (!decide (i = j))) := bin_of op_ne fun z x y H Q zd h1 h2 k => by
  cases h1; cases h2
  refine ⟨rfl, ?_⟩
  have e : decide (V.bl i = V.bl j) = decide (i = j) := by simp
  rw [e]
  exact k _ H (Ex.refl _) (.bl _)
/-- == of any data -/
theorem c_eqD (hu : X.A.units + 64 < cLine) (s1 : SeqAt.shaped d1 = true) (s2 : SeqAt.shaped d2 = true) : BinD X (compareOp .Eq) d1 d2 (.bool (PyData.eqv d1 d2)) := bin_of (op_eqD hu) fun z x y H Q zd h1 h2 k =>
  ⟨d1, d2, (Dpm cut_sub h1).toS s1, (Dpm cut_sub h2).toS s2, s1, s2, k _ H (Ex.refl _) (.bl _)⟩
theorem c_neD (hu : X.A.units + 64 < cLine) (s1 : SeqAt.shaped d1 = true) (s2 : SeqAt.shaped d2 = true) : BinD X (compareOp .NotEq) d1 d2 (.bool (!PyData.eqv d1 d2)) := bin_of (op_neD hu) fun z x y H Q zd h1 h2 k =>
  ⟨d1, d2, (Dpm cut_sub h1).toS s1, (Dpm cut_sub h2).toS s2, s1, s2, k _ H (Ex.refl _) (.bl _)⟩
def isNon : PyData → Bool
  | .none => true
  | _ => false
theorem dp_non {K : PySem.W.Frag} {G : Hp} {v : V} (h : Dp K G v d) : decide (v = .non) = isNon d := by
  cases h <;> simp [isNon]
theorem c_isN : BinD X (compareOp .Is) d .none (.bool (isNon d)) := bin_of op_isN fun z x y H Q zd h1 h2 k => by
  cases h2
  refine ⟨rfl, ?_⟩
  rw [dp_non h1]
  exact k _ H (Ex.refl _) (.bl _)
theorem c_notN : BinD X (compareOp .IsNot) d .none (.bool (!isNon d)) := bin_of op_notN fun z x y H Q zd h1 h2 k => by
  cases h2
  refine ⟨rfl, ?_⟩
  rw [dp_non h1]
  exact k _ H (Ex.refl _) (.bl _)
theorem c_isB {i j : Bool} : BinD X (compareOp .Is) (.bool i) (.bool j) (.bool (decide (i = j))) := bin_of op_is_bl fun z x y H Q zd h1 h2 k => by
  cases h1; cases h2
  exact ⟨i, j, rfl, rfl, k _ H (Ex.refl _) (.bl _)⟩
theorem c_isnB {i j : Bool} : BinD X (compareOp .IsNot) (.bool i) (.bool j) (.bool (!decide (i = j))) := bin_of op_isnot_bl fun z x y H Q zd h1 h2 k => by
  cases h1; cases h2
  exact ⟨i, j, rfl, rfl, k _ H (Ex.refl _) (.bl _)⟩
/-- x in a list of any data -/
theorem c_inL (hu : X.A.units + 65 < cLine) (s1 : SeqAt.shaped d = true) (s2 : SeqAt.shaped (.list ds) = true) : BinD X (compareOp .In) d (.list ds) (.bool (ds.any fun z => PyData.eqv z d)) := bin_of (op_inD hu) fun z x y H Q zd h1 h2 k =>
  ⟨d, ds, (Dpm cut_sub h1).toS s1, (Dpm cut_sub h2).toS s2, s1, s2, k _ H (Ex.refl _) (.bl _)⟩
theorem c_ninL (hu : X.A.units + 65 < cLine) (s1 : SeqAt.shaped d = true) (s2 : SeqAt.shaped (.list ds) = true) : BinD X (compareOp .NotIn) d (.list ds) (.bool (!ds.any fun z => PyData.eqv z d)) := bin_of (op_notInD hu) fun z x y H Q zd h1 h2 k =>
  ⟨d, ds, (Dpm cut_sub h1).toS s1, (Dpm cut_sub h2).toS s2, s1, s2, k _ H (Ex.refl _) (.bl _)⟩

/-! ### + of tuples, of lists -/
theorem b_catT {es : List PyData} (hl : ds.length + es.length ≤ 100000) : BinD X (binaryOp .Add) (.tuple ds) (.tuple es) (.tuple (ds ++ es)) := bin_of op_catA fun z x y H Q zd h1 h2 k => by
  cases h1 with
  | @tup p xs _ hs ha =>
    cases h2 with
    | @tup q ys _ hs2 ha2 =>
      have l1 := dpa_len ha
      have l2 := dpa_len ha2
      refine ⟨p, q, xs, ys, rfl, rfl, ex_t cut_sub hs, ex_t cut_sub hs2, sz_of (by omega), fun e => ?_, fun e1 e2 => ?_, fun e1 e2 r hr => ?_⟩
      · subst e
        have e' : ds = [] := List.eq_nil_of_length_eq_zero l1.symm
        subst e'
        exact k _ H (Ex.refl _) (.tup hs2 ha2)
      · subst e2
        have e' : es = [] := List.eq_nil_of_length_eq_zero l2.symm
        subst e'
        rw [List.append_nil] at k
        exact k _ H (Ex.refl _) (.tup hs ha)
      · have zr : z r = false := by
          cases q : z r with
          | false => rfl
          | true => exact (zd r q hr).elim
        exact k _ _ (Ex.new hr) (.tup (st_of (cut_of zr upd_same)) (Dpam (cut_ex (Ex.new hr)) (dpa_app ha ha2)))
/-- list + list, both read in any way -/
def rCatS (K : PySem.W.Frag) : R2 := fun x y H Q => ∃ l b xs zs, x = .ref l ∧ y = .ref b ∧ SqL K H l xs ∧ SqL K H b zs ∧ xs.length + zs.length ≤ sizeLine ∧ ∀ p, H p = none → Q (.ref p) (upd H p (.lst (xs ++ zs)))
theorem op_catS : OpR X (binaryOp .Add) (rCatS X.K) := by
  intro pins s σ H x y v u Q I rx ry h
  obtain ⟨l, b, xs, zs, rfl, rfl, hH, hB, hz, q⟩ := h
  cases rx
  cases ry
  obtain ⟨its, r, pl, z⟩ := I.list hH
  obtain ⟨its2, r2, pl2, z2⟩ := I.list hB
  obtain ⟨⟨cls, dd, data, sl⟩, ho, hc, n, hd⟩ := pl.isList
  obtain ⟨⟨cls2, dd2, data2, sl2⟩, ho2, hc2, n2, hd2⟩ := pl2.isList
  simp only at hc hd hc2 hd2
  subst hc hd hc2 hd2
  have e : its.toArray ++ its2.toArray = (its ++ its2).toArray := by simp
  refine PySem.concat_meets ⟨_, ho, rfl⟩ ⟨_, ho2, rfl⟩ PySem.noFill_list_add PySem.seq_list_add PySem.F.slot_list_add PySem.F.entry_list_add (PySem.F.args_list_add_2 _ _) (PyProof.Rows.list_addW l b its.toArray its2.toArray n n2 dd dd2 sl sl2 (by rw [List.size_toArray, List.size_toArray, ← r.length, ← r2.length]; exact hz)) ⟨ho, ho2, ?_⟩
  rw [e]
  exact ⟨.ref _, _, I.lnew (t' := s.toks) (r.append r2) (by rw [List.length_append]; exact hz), rfl, q _ I.fresh⟩
theorem b_catL {es : List PyData} (hl : ds.length + es.length ≤ 100000) : BinD X (binaryOp .Add) (.list ds) (.list es) (.list (ds ++ es)) := bin_of op_catS fun z x y H Q zd h1 h2 k => by
  cases h1 with
  | @lst p xs _ hs ha =>
    cases h2 with
    | @lst q ys _ hs2 ha2 =>
      have l1 := dpa_len ha
      have l2 := dpa_len ha2
      refine ⟨p, q, xs, ys, rfl, rfl, ex_l cut_sub hs, ex_l cut_sub hs2, sz_of (by omega), fun r hr => ?_⟩
      have zr : z r = false := by
        cases q : z r with
        | false => rfl
        | true => exact (zd r q hr).elim
      exact k _ _ (Ex.new hr) (.lst (sq_of (cut_of zr upd_same)) (Dpam (cut_ex (Ex.new hr)) (dpa_app ha ha2)))

/-! ### len, int, min, max, list, tuple, sorted -/
theorem cal_of {f : Value} {r : List V → Hp → VK → Prop} (h : CallR X f r) (i : ∀ z xs H Q, (∀ a, z a = true → H a ≠ none) → DpAll X.K (cut H z) xs ds → (∀ v H', Ex H H' → Dp X.K (cut H' z) v d → Q v H') → r xs H Q) : CalD X f ds d :=
  calr_imp h fun xs H Q ⟨z, zd, h1, k⟩ => i z xs H Q zd h1 k
theorem calF_of {es : List PyData} {f : Value} {r : List V → Hp → VK → Prop} (h : CallR X f r) (i : ∀ z xs H Q, (∀ a, z a = true → H a ≠ none) → DpAll X.K (cut H z) xs ds → (∀ p H' us, Ex H H' → H p = none → H' p = some (.lst us) → DpAll X.K (cut H z) us es → Q (.ref p) H') → r xs H Q) : CalF X f ds es :=
  calr_imp h fun xs H Q ⟨z, zd, h1, k⟩ => i z xs H Q zd h1 k
theorem zfree {z : Addr → Bool} {H : Hp} {r : Addr} (zd : ∀ a, z a = true → H a ≠ none) (hr : H r = none) : z r = false := by
  cases q : z r with
  | false => rfl
  | true => exact (zd r q hr).elim
theorem f_lenL : CalD X (.builtin "len") [.list ds] (.int (ds.length : Int)) := cal_of call_len_seq fun z xs H Q zd h1 k => by
  cases h1 with
  | cons h1 h2 =>
    cases h2
    cases h1 with
    | @lst p ys _ hs ha =>
      refine ⟨p, ys, rfl, .inl (ex_l cut_sub hs), ?_⟩
      rw [dpa_len ha]
      exact k _ H (Ex.refl _) (.int _)
theorem f_lenT : CalD X (.builtin "len") [.tuple ds] (.int (ds.length : Int)) := cal_of call_len_seq fun z xs H Q zd h1 k => by
  cases h1 with
  | cons h1 h2 =>
    cases h2
    cases h1 with
    | @tup p ys _ hs ha =>
      refine ⟨p, ys, rfl, .inr (ex_t cut_sub hs), ?_⟩
      rw [dpa_len ha]
      exact k _ H (Ex.refl _) (.int _)
theorem f_int {i : Int} : CalD X (.type "int") [.int i] (.int i) := cal_of call_int1 fun z xs H Q zd h1 k => by
  cases h1 with
  | cons h1 h2 =>
    cases h2
    cases h1
    exact .inl ⟨i, rfl, k _ H (Ex.refl _) (.int _)⟩
theorem f_min {i j : Int} (hc : X.calm = true) : CalD X (.builtin "min") [.int i, .int j] (.int (min i j)) := cal_of (call_min2 hc) fun z xs H Q zd h1 k => by
  cases h1 with
  | cons h1 h2 =>
    cases h2 with
    | cons h2 h3 =>
      cases h3
      cases h1
      cases h2
      refine ⟨i, j, rfl, ?_⟩
      have e : (if j < i then j else i) = min i j := by split <;> omega
      rw [e]
      exact k _ H (Ex.refl _) (.int _)
theorem f_max {i j : Int} (hc : X.calm = true) : CalD X (.builtin "max") [.int i, .int j] (.int (max i j)) := cal_of (call_max2 hc) fun z xs H Q zd h1 k => by
  cases h1 with
  | cons h1 h2 =>
    cases h2 with
    | cons h2 h3 =>
      cases h3
      cases h1
      cases h2
      refine ⟨i, j, rfl, ?_⟩
      have e : (if j > i then j else i) = max i j := by split <;> omega
      rw [e]
      exact k _ H (Ex.refl _) (.int _)
theorem f_listL : CalF X (.type "list") [.list ds] ds := calF_of call_list_of fun z xs H Q zd h1 k => by
  cases h1 with
  | cons h1 h2 =>
    cases h2
    cases h1 with
    | @lst p ys _ hs ha => exact ⟨p, ys, rfl, .inl (ex_l cut_sub hs), fun l hl => k l _ ys (Ex.new hl) hl upd_same ha⟩
theorem f_listT : CalF X (.type "list") [.tuple ds] ds := calF_of call_list_of fun z xs H Q zd h1 k => by
  cases h1 with
  | cons h1 h2 =>
    cases h2
    cases h1 with
    | @tup p ys _ hs ha => exact ⟨p, ys, rfl, .inr (ex_t cut_sub hs), fun l hl => k l _ ys (Ex.new hl) hl upd_same ha⟩
theorem f_tupL : CalD X (.type "tuple") [.list ds] (.tuple ds) := cal_of call_tuple_of fun z xs H Q zd h1 k => by
  cases h1 with
  | cons h1 h2 =>
    cases h2
    cases h1 with
    | @lst p ys _ hs ha =>
      exact ⟨p, ys, rfl, .inl ⟨ex_l cut_sub hs, fun l hl => k _ _ (Ex.new hl) (.tup (st_of (cut_of (zfree zd hl) upd_same)) (Dpam (cut_ex (Ex.new hl)) ha))⟩⟩
theorem f_tupT : CalD X (.type "tuple") [.tuple ds] (.tuple ds) := cal_of call_tuple_of fun z xs H Q zd h1 k => by
  cases h1 with
  | cons h1 h2 =>
    cases h2
    cases h1 with
    | @tup p ys _ hs ha => exact ⟨p, ys, rfl, .inr ⟨ex_t cut_sub hs, k _ H (Ex.refl _) (.tup hs ha)⟩⟩
end
end NB

set_option Elab.async false
set_option linter.all false
set_option maxRecDepth 100000
set_option maxHeartbeats 4000000
/-! the logic's rules: targets, loops, comprehensions, statements, defs -/
namespace NB
open PySem L2 Evl

/-! ### targets -/
def tG (K : PySem.W.Frag) (w : World) (env : En) (d : PyData) (env' : En) : TG := fun v σ H Q => ∃ Γ z, SD K w Γ z H σ env ∧ Dp K (cut H z) v d ∧ ∀ σ', SD K w Γ z H σ' env' → Q σ' H
def tGs (K : PySem.W.Frag) (w : World) (env : En) (ds : List PyData) (env' : En) : TGs := fun vs σ H Q => ∃ Γ z, SD K w Γ z H σ env ∧ DpAll K (cut H z) vs ds ∧ ∀ σ', SD K w Γ z H σ' env' → Q σ' H
abbrev GD (X : Cx) (tg : Expr) (env : En) (d : PyData) (env' : En) : Prop := PG X tg (tG X.K X.w env d env')
abbrev GDs (X : Cx) (tg : List Expr) (env : En) (ds : List PyData) (env' : En) : Prop := PGs X tg (tGs X.K X.w env ds env')
section
variable {X : Cx} {env env1 env2 env' : En} {d d1 d2 : PyData} {ds : List PyData} {e a b c tg iter : Expr} {pos : Pos} {st : Stmt} {rest : List Stmt}
theorem pgs_imp {e : List Expr} {t t' : TGs} (h : PGs X e t) (i : ∀ v σ H Q, t' v σ H Q → t v σ H Q) : PGs X e t' := ⟨fun pins s σ H v u Q I r hw => h.run pins s σ H v u Q I r (i v σ H Q hw)⟩
theorem gd_name (i : Nat) {x : Str} (hN : X.N.Nodup) (hl : i < env.length := by simp) (hi : X.N[i]? = some x := by rfl) (hx : Loc X.env.scope x := by first | exact Or.inl rfl | exact Or.inr rfl)
    (hf : X.fn x = true ∨ X.env.scope.names.lookup x = some .local := by first | exact .inl rfl | exact .inr rfl) : GD X (.Name x pos) env d (env.set i (.d d)) :=
  pg_imp (pg_name hN hi hx hf) fun v σ H Q ⟨Γ, z, sd, hd, k⟩ => k _ (sd.setD hd hl)
theorem gds_nil : GDs X [] env [] env := pgs_imp pgs_nil fun vs σ H Q ⟨Γ, z, sd, hd, k⟩ => by
  cases hd
  exact ⟨rfl, k σ sd⟩
theorem gds_cons {es : List Expr} (h1 : GD X e env d env1) (h2 : GDs X es env1 ds env2) (hs : (assignEach (e :: es) X.env).map (·.2) = assign e X.env :: (assignEach es X.env).map (·.2) := by rfl) : GDs X (e :: es) env (d :: ds) env2 :=
  pgs_imp (pgs_cons h1 h2 hs) fun vs σ H Q ⟨Γ, z, sd, hd, k⟩ => by
    cases hd with
    | @cons v vs _ _ ha hb => exact ⟨v, vs, rfl, Γ, z, sd, ha, fun σ' sd' => ⟨Γ, z, sd', hb, k⟩⟩
theorem gd_tup {es : List Expr} {k : Nat} {n : Nat} (hc : X.calm = true) (h : GDs X es env ds env') (hl : ds.length = n := by rfl) (hn : (assignEach es X.env).length = n := by rfl) (hst : (assignEach es X.env).findIdx? (·.1) = none := by rfl) :
    GD X (.Tuple es k pos) env (.tuple ds) env' := pg_imp (pg_tup hc h hn hst) fun v σ H Q ⟨Γ, z, sd, hd, kk⟩ => by
  cases hd with
  | @tup a xs _ hs ha => exact ⟨a, xs, rfl, ex_t cut_sub hs, by rw [dpa_len ha]; exact hl, Γ, z, sd, ha, kk⟩

/-! ### what is walked -/
def Well (K : PySem.W.Frag) (ds : List PyData) (H' : Hp) (z : Addr → Bool) (J : It) : Prop := ∃ (G : Hp → Prop) (Y : Nat → Hp → V → Hp → Prop), Walk J ds.length G Y ∧
  (∀ H2 z2, Ex (cut H' z) (cut H2 z2) → G H2) ∧
  ∀ i Hc zc x H2, i < ds.length → Ex (cut H' z) (cut Hc zc) → (∀ a, zc a = true → Hc a ≠ none) → Y i Hc x H2 → Ex Hc H2 ∧ ∃ d, ds[i]? = some d ∧ Dp K (cut H2 zc) x d
def tI (K : PySem.W.Frag) (w : World) (env : En) (ds : List PyData) (env' : En) : TI := fun σ H R => ∃ Γ z, SD K w Γ z H σ env ∧ ∀ J H', Ex (cut H z) (cut H' z) → SD K w Γ z H' σ env' → Well K ds H' z J → R J H'
abbrev PID (X : Cx) (tg e : Expr) (env : En) (ds : List PyData) (env' : En) : Prop := PI X tg e (tI X.K X.w env ds env')
theorem it_list (h : PD X e env (.list ds) env1) : PID X tg e env ds env1 := pi_imp (pi_list h) fun σ H R ⟨Γ, z, sd, k⟩ => ⟨Γ, z, sd, fun v H' ex sd' hd => by
  cases hd with
  | @lst a xs _ hs ha =>
    refine ⟨a, rfl, ⟨xs, ex_l cut_sub hs⟩, k _ H' ex sd' ?_⟩
    refine ⟨fun H => SqL X.K H a xs, YAt xs, by rw [← dpa_len ha]; exact walk_list, fun H2 z2 e2 => ex_l cut_sub (ex_l e2 hs), fun i Hc zc x H2 hi ec zd y => ?_⟩
    obtain ⟨rfl, hx⟩ := y
    obtain ⟨d, hd, hp⟩ := dpa_get' ha hx
    exact ⟨Ex.refl _, d, hd, Dpm ec hp⟩⟩
theorem it_tup (h : PD X e env (.tuple ds) env1) : PID X tg e env ds env1 := pi_imp (pi_tup h) fun σ H R ⟨Γ, z, sd, k⟩ => ⟨Γ, z, sd, fun v H' ex sd' hd => by
  cases hd with
  | @tup a xs _ hs ha =>
    refine ⟨a, rfl, ⟨xs, ex_t cut_sub hs⟩, k _ H' ex sd' ?_⟩
    refine ⟨fun H => SqT X.K H a xs, YAt xs, by rw [← dpa_len ha]; exact walk_tup, fun H2 z2 e2 => ex_t cut_sub (ex_t e2 hs), fun i Hc zc x H2 hi ec zd y => ?_⟩
    obtain ⟨rfl, hx⟩ := y
    obtain ⟨d, hd, hp⟩ := dpa_get' ha hx
    exact ⟨Ex.refl _, d, hd, Dpm ec hp⟩⟩
/-- lo, .., hi - 1 -/
def rgD (lo hi : Int) : List PyData := (List.range (hi - lo).toNat).map fun i => PyData.int (lo + (i : Nat))
theorem rgD_len (lo hi : Int) : (rgD lo hi).length = (hi - lo).toNat := by simp [rgD]
theorem well_range {K : PySem.W.Frag} {lo hi : Int} {n : Nat} {H' : Hp} {z : Addr → Bool} (hn : n = (hi - lo).toNat) : Well K (rgD lo hi) H' z (Itr lo n) := by
  subst hn
  refine ⟨fun _ => True, YFn fun i => .int (lo + i), by rw [rgD_len]; exact walk_range, fun _ _ _ => trivial, fun i Hc zc x H2 hi' ec zd y => ?_⟩
  obtain ⟨rfl, rfl⟩ := y
  rw [rgD_len] at hi'
  refine ⟨Ex.refl _, .int (lo + (i : Nat)), ?_, .int _⟩
  simp [rgD, hi']
theorem it_rng1 {j : Int} {p : Pos} (hm : X.mg "range" = none) (ha : PD X a env (.int j) env1) (h1 : -100000 ≤ j ∧ j ≤ 100000) (hg : Gl X "range" := by rfl) (hs : starEach [a] X.env = [(false, eval a X.env)] := by rfl) :
    PID X tg (.Call (.Name "range" p) [a] [] pos) env (rgD 0 j) env1 := pi_imp (pi_range1 hg hm (pad_cons ha pad_nil (by rw [hs]; rfl)) hs) fun σ H R ⟨Γ, z, sd, k⟩ => ⟨Γ, z, sd, fun vs H' ex sd' hd => by
  cases hd with
  | cons q1 q2 =>
    cases q2
    cases q1
    exact ⟨j, rfl, by omega, by omega, k _ H' ex sd' (well_range (by simp))⟩⟩
theorem it_rng2 {i j : Int} {p : Pos} (hm : X.mg "range" = none) (ha : PD X a env (.int i) env1) (hb : PD X b env1 (.int j) env2) (h0 : -100000 ≤ i ∧ i ≤ 100000) (h1 : -100000 ≤ j ∧ j ≤ 100000) (hg : Gl X "range" := by rfl) (hs : starEach [a, b] X.env = [(false, eval a X.env), (false, eval b X.env)] := by rfl)
    (hs2 : starEach [b] X.env = [(false, eval b X.env)] := by rfl) : PID X tg (.Call (.Name "range" p) [a, b] [] pos) env (rgD i j) env2 := pi_imp (pi_range2 hg hm (pad_cons ha (pad_cons hb pad_nil (by rw [hs2]; rfl)) (by rw [hs, hs2])) hs hs2) fun σ H R ⟨Γ, z, sd, k⟩ => ⟨Γ, z, sd, fun vs H' ex sd' hd => by
  cases hd with
  | cons q1 q2 =>
    cases q2 with
    | cons q2 q3 =>
      cases q3
      cases q1
      cases q2
      exact ⟨i, j, rfl, ⟨by omega, by omega, by omega, by omega⟩, k _ H' ex sd' (well_range rfl)⟩⟩

/-! ### statements -/
structure Post where
  nx : En → Prop := fun _ => False
  rt : PyData → En → Prop := fun _ _ => False
  bk : En → Prop := fun _ => False
  ct : En → Prop := fun _ => False
def tS (K : PySem.W.Frag) (w : World) (env : En) (P : Post) : TS := fun D σ H => ∃ Γ z, SD K w Γ z H σ env ∧
  (∀ env' z' σ' H', P.nx env' → Ex (cut H z) (cut H' z') → SD K w Γ z' H' σ' env' → D.nx σ' H') ∧
  (∀ d env' z' v σ' H', P.rt d env' → Ex (cut H z) (cut H' z') → SD K w Γ z' H' σ' env' → Dp K (cut H' z') v d → D.rt v H') ∧
  (∀ env' z' σ' H', P.bk env' → Ex (cut H z) (cut H' z') → SD K w Γ z' H' σ' env' → D.bk σ' H') ∧
  (∀ env' z' σ' H', P.ct env' → Ex (cut H z) (cut H' z') → SD K w Γ z' H' σ' env' → D.ct σ' H')
abbrev HD (X : Cx) (st : List Stmt) (env : En) (P : Post) : Prop := PSs X st (tS X.K X.w env P)
abbrev HD1 (X : Cx) (st : Stmt) (env : En) (P : Post) : Prop := PS X st (tS X.K X.w env P)
variable {P : Post}
theorem h_nil (h : P.nx env) : HD X [] env P := pss_imp pss_nil fun D σ H ⟨Γ, z, sd, k, _⟩ => k env z σ H h (Ex.refl _) sd
theorem h_cons (mid : En → Prop) (h1 : HD1 X st env { P with nx := mid }) (h2 : ∀ e, mid e → HD X rest e P) : HD X (st :: rest) env P :=
  pss_imp (pss_cons h1 (pss_all h2)) fun D σ H ⟨Γ, z, sd, k1, k2, k3, k4⟩ => ⟨Γ, z, sd, fun env' z' σ' H' hm ex sd' => ⟨env', hm, Γ, z', sd', fun a1 a2 a3 a4 a5 a6 a7 => k1 a1 a2 a3 a4 a5 (ex.trans a6) a7,
    fun a1 a2 a3 a4 a5 a6 a7 a8 a9 => k2 a1 a2 a3 a4 a5 a6 a7 (ex.trans a8) a9, fun a1 a2 a3 a4 a5 a6 a7 => k3 a1 a2 a3 a4 a5 (ex.trans a6) a7, fun a1 a2 a3 a4 a5 a6 a7 => k4 a1 a2 a3 a4 a5 (ex.trans a6) a7⟩, k2, k3, k4⟩
/-- a statement that goes on in one way -/
theorem h_one (h1 : PS X st (tS X.K X.w env { nx := fun e => e = env1 })) (h2 : HD X rest env1 P) : HD X (st :: rest) env P :=
  h_cons (fun e => e = env1) (ps_imp h1 fun D σ H ⟨Γ, z, sd, k1, _, _, _⟩ => ⟨Γ, z, sd, k1, fun _ _ _ _ _ _ q => q.elim, fun _ _ _ _ q => q.elim, fun _ _ _ _ q => q.elim⟩) fun e he => by rw [he]; exact h2
theorem hs_to (h : HD1 X st env { nx := fun e => e = env1 }) (k : P.nx env1) : HD1 X st env P := ps_imp h fun D σ H ⟨Γ, z, sd, k1, _, _, _⟩ => ⟨Γ, z, sd, fun a1 a2 a3 a4 a5 => by
  have q : a1 = env1 := a5
  subst q
  exact k1 a1 a2 a3 a4 k, fun _ _ _ _ _ _ q => q.elim, fun _ _ _ _ q => q.elim, fun _ _ _ _ q => q.elim⟩
/-- a list of one's own is data from now on -/
theorem h_freeze {xs : List PyData} {st' : List Stmt} (i : Nat) (he : env[i]? = some (.l xs)) (h : HD X st' (env.set i (.d (.list xs))) P) : HD X st' env P := pss_imp h fun D σ H ⟨Γ, z, sd, k1, k2, k3, k4⟩ => by
  obtain ⟨z', sd', e⟩ := sd.freeze he
  exact ⟨Γ, z', sd', fun a1 a2 a3 a4 a5 a6 a7 => k1 a1 a2 a3 a4 a5 (e.trans a6) a7, fun a1 a2 a3 a4 a5 a6 a7 a8 a9 => k2 a1 a2 a3 a4 a5 a6 a7 (e.trans a8) a9, fun a1 a2 a3 a4 a5 a6 a7 => k3 a1 a2 a3 a4 a5 (e.trans a6) a7, fun a1 a2 a3 a4 a5 a6 a7 => k4 a1 a2 a3 a4 a5 (e.trans a6) a7⟩
/-- the names' words may be less, or rewritten -/
theorem h_le (l : Le env1 env) (h : HD X rest env1 P) : HD X rest env P := pss_imp h fun D σ H ⟨Γ, z, sd, k⟩ => ⟨Γ, z, sd.weak l, k⟩
theorem h_eq (l : env = env1) (h : HD X rest env1 P) : HD X rest env P := l ▸ h

/-! ### stores -/
theorem hs_set (i : Nat) {x : Str} {px : Pos} (hN : X.N.Nodup) (he : PD X e env d env1) (hl : i < env1.length := by simp) (hi : X.N[i]? = some x := by rfl) (hx : Loc X.env.scope x := by first | exact Or.inl rfl | exact Or.inr rfl)
    (hs : swapsWith e (some (.Name x px)) pos.line X.env = pure false := by rfl) (hf : X.fn x = true ∨ X.env.scope.names.lookup x = some .local := by first | exact .inl rfl | exact .inr rfl) : HD1 X (.Assign [.Name x px] e pos) env { nx := fun e => e = env1.set i (.d d) } :=
  ps_imp (ps_set hN hi hx he hs hf) fun D σ H ⟨Γ, z, sd, k, _⟩ => ⟨Γ, z, sd, fun v H' ex sd' hd => k _ z _ H' rfl ex (sd'.setD hd hl)⟩
/-- .. a new list, to be changed -/
theorem hs_setL (i : Nat) {x : Str} {px : Pos} (hN : X.N.Nodup) (he : PF X e env ds env1) (hl : i < env1.length := by simp) (hi : X.N[i]? = some x := by rfl) (hx : Loc X.env.scope x := by first | exact Or.inl rfl | exact Or.inr rfl)
    (hs : swapsWith e (some (.Name x px)) pos.line X.env = pure false := by rfl) (hf : X.fn x = true ∨ X.env.scope.names.lookup x = some .local := by first | exact .inl rfl | exact .inr rfl) : HD1 X (.Assign [.Name x px] e pos) env { nx := fun e => e = env1.set i (.l ds) } :=
  ps_imp (ps_set hN hi hx he hs hf) fun D σ H ⟨Γ, z, sd, k, _⟩ => ⟨Γ, z, sd, fun p H1 H2 us ex sd' e2 hp hl' hd => k _ (addZ z p) _ H2 rfl (ex.trans (cut_addZ e2 hp)) (sd'.setL e2 hp hl' (Dpam (cut_addZ e2 hp) hd) hl)⟩
/-- a, b = e -/
theorem hs_asg (he : PD X e env d env1) (hg : GD X tg env1 d env2) (hs : swapsWithSole [tg] e pos.line X.env = pure false := by rfl) (hw : swappedStores [tg] e X.env = pure none := by rfl) (h1 : (assignEach [tg] X.env).map (·.2) = [assign tg X.env] := by rfl) :
    HD1 X (.Assign [tg] e pos) env { nx := fun e => e = env2 } :=
  ps_imp (ps_asg he hg hs hw h1) fun D σ H ⟨Γ, z, sd, k, _⟩ => ⟨Γ, z, sd, fun v H' ex sd' hd => ⟨Γ, z, sd', hd, fun σ' sd'' => k _ z σ' H' rfl ex sd''⟩⟩
theorem hs_expr (he : PD X e env d env1) (hs : swapsWith e none pos.line X.env = pure false := by rfl) : HD1 X (.Expr e pos) env { nx := fun e => e = env1 } :=
  ps_imp (ps_expr he hs) fun D σ H ⟨Γ, z, sd, k, _⟩ => ⟨Γ, z, sd, fun v H' ex sd' hd => k _ z _ H' rfl ex sd'⟩
theorem hs_ret (he : PD X e env d env1) (h : P.rt d env1) : HD1 X (.Return (some e) pos) env P :=
  ps_imp (ps_ret he) fun D σ H ⟨Γ, z, sd, _, k, _⟩ => ⟨Γ, z, sd, fun v H' ex sd' hd => k _ _ z v σ H' h ex sd' hd⟩
theorem hs_pass (h : P.nx env) : HD1 X (.Pass pos) env P := ps_imp ps_pass fun D σ H ⟨Γ, z, sd, k, _⟩ => k env z σ H h (Ex.refl _) sd
theorem hs_break (h : P.bk env) : HD1 X (.Break pos) env P := ps_imp ps_break fun D σ H ⟨Γ, z, sd, _, _, k, _⟩ => k env z σ H h (Ex.refl _) sd
theorem hs_cont (h : P.ct env) : HD1 X (.Continue pos) env P := ps_imp ps_continue fun D σ H ⟨Γ, z, sd, _, _, _, k⟩ => k env z σ H h (Ex.refl _) sd
theorem h_never {sts : List Stmt} : PSs X sts (fun _ _ _ => False) := ⟨fun _ _ _ _ _ _ h => h.elim⟩
/-- the last statement -/
theorem h_last (h : HD1 X st env P) : HD X [st] env P := pss_one h
theorem h_ret (he : PD X e env d env1) (h : P.rt d env1) : HD X (.Return (some e) pos :: rest) env P :=
  h_cons (fun _ => False) (hs_ret he h) fun _ q => q.elim
/-- if .. -/
theorem hs_if {s1 s2 : List Stmt} {k : Bool} (hc : PB X c env k env1) (h1 : k = true → HD X s1 env1 P) (h2 : k = false → HD X s2 env1 P) : HD1 X (.If c s1 s2 pos) env P := by
  cases k with
  | true => exact ps_imp (ps_if hc (h1 rfl) h_never) fun D σ H ⟨Γ, z, sd, k1, k2, k3, k4⟩ => ⟨Γ, z, sd, fun H' ex sd' => by
      refine iteT ?_
      exact ⟨Γ, z, sd', fun a1 a2 a3 a4 a5 a6 a7 => k1 a1 a2 a3 a4 a5 (ex.trans a6) a7,
    fun a1 a2 a3 a4 a5 a6 a7 a8 a9 => k2 a1 a2 a3 a4 a5 a6 a7 (ex.trans a8) a9, fun a1 a2 a3 a4 a5 a6 a7 => k3 a1 a2 a3 a4 a5 (ex.trans a6) a7, fun a1 a2 a3 a4 a5 a6 a7 => k4 a1 a2 a3 a4 a5 (ex.trans a6) a7⟩⟩
  | false => exact ps_imp (ps_if hc h_never (h2 rfl)) fun D σ H ⟨Γ, z, sd, k1, k2, k3, k4⟩ => ⟨Γ, z, sd, fun H' ex sd' => by
      refine iteF ?_
      exact ⟨Γ, z, sd', fun a1 a2 a3 a4 a5 a6 a7 => k1 a1 a2 a3 a4 a5 (ex.trans a6) a7,
    fun a1 a2 a3 a4 a5 a6 a7 a8 a9 => k2 a1 a2 a3 a4 a5 a6 a7 (ex.trans a8) a9, fun a1 a2 a3 a4 a5 a6 a7 => k3 a1 a2 a3 a4 a5 (ex.trans a6) a7, fun a1 a2 a3 a4 a5 a6 a7 => k4 a1 a2 a3 a4 a5 (ex.trans a6) a7⟩⟩
/-- if that is not so: gone past -/
theorem h_skip {s1 : List Stmt} (hc : PB X c env false env1) (h : HD X rest env1 P) : HD X (.If c s1 [] pos :: rest) env P :=
  h_one (env1 := env1) (hs_if hc (fun q => by cases q) fun _ => h_nil rfl) h
/-- if with a return in it -/
theorem h_guard {s1 : List Stmt} {k : Bool} (hc : PB X c env k env1) (h1 : k = true → HD X s1 env1 { P with nx := fun _ => False }) (h2 : k = false → HD X rest env1 P) : HD X (.If c s1 [] pos :: rest) env P := by
  refine h_cons (fun e => e = env1 ∧ k = false) (hs_if hc (fun q => pss_imp (h1 q) fun D σ H ⟨Γ, z, sd, k1, k2, k3, k4⟩ => ⟨Γ, z, sd, fun _ _ _ _ q => q.elim, k2, k3, k4⟩) fun q => h_nil ⟨rfl, q⟩) fun e he => ?_
  rw [he.1]
  exact h2 he.2
/-- a post may be weakened -/
theorem h_post {P' : Post} (h : HD X rest env P') (n : ∀ e, P'.nx e → P.nx e) (r : ∀ d e, P'.rt d e → P.rt d e) (b : ∀ e, P'.bk e → P.bk e) (c : ∀ e, P'.ct e → P.ct e) : HD X rest env P :=
  pss_imp h fun D σ H ⟨Γ, z, sd, k1, k2, k3, k4⟩ => ⟨Γ, z, sd, fun a1 a2 a3 a4 a5 => k1 a1 a2 a3 a4 (n _ a5), fun a1 a2 a3 a4 a5 a6 a7 => k2 a1 a2 a3 a4 a5 a6 (r _ _ a7), fun a1 a2 a3 a4 a5 => k3 a1 a2 a3 a4 (b _ a5), fun a1 a2 a3 a4 a5 => k4 a1 a2 a3 a4 (c _ a5)⟩

/-! ### for -/
theorem hs_for {body : List Stmt} {B : En → Prop} (hp : PassesOwn (model X.prog X.w) X.A X.env X.xe) (hc : X.calm = true) (it : PID X tg iter env ds env1) (I : Nat → En) (h0 : Le (I 0) env1) {env0 : Nat → PyData → En}
    (hg : ∀ i d, ds[i]? = some d → GD X tg (I i) d (env0 i d))
    (turn : ∀ i d, ds[i]? = some d → HD X body (env0 i d) { nx := fun e => Le (I (i + 1)) e, ct := fun e => Le (I (i + 1)) e, bk := B, rt := P.rt })
    (hnx : P.nx (I ds.length)) (hbk : ∀ e, B e → P.nx e) (hs : ∀ x, foldedSetIterable iter X.env x = pure x := by intro _; rfl) : HD1 X (.For tg iter body [] pos) env P := by
  refine ps_imp (ps_for hp hc it (pg_all (C := fun (p : Nat × PyData) => ds[p.1]? = some p.2) (fun p hp => hg p.1 p.2 hp)) (pss_all (C := fun (p : Nat × PyData) => ds[p.1]? = some p.2) (fun p hp => turn p.1 p.2 hp)) hs) fun D σ H ⟨Γ, z, sd, k1, k2, k3, k4⟩ => ⟨Γ, z, sd, fun J H' ex sd' ⟨G, Y, wk, hG, hY⟩ => ?_⟩
  refine for_it (g := fun v σ H Q => ∃ p : Nat × PyData, ds[p.1]? = some p.2 ∧ tG X.K X.w (I p.1) p.2 (env0 p.1 p.2) v σ H Q) (tb := fun D σ H => ∃ p : Nat × PyData, ds[p.1]? = some p.2 ∧ tS X.K X.w (env0 p.1 p.2) { nx := fun e => Le (I (p.1 + 1)) e, ct := fun e => Le (I (p.1 + 1)) e, bk := B, rt := P.rt } D σ H) wk (fun i σ2 H2 => ∃ z2, SD X.K X.w Γ z2 H2 σ2 (I i) ∧ Ex (cut H' z) (cut H2 z2)) ⟨z, sd'.weak h0, Ex.refl _⟩ (fun i σ2 H2 hi ⟨z2, _, e2⟩ => hG H2 z2 e2) (fun i x σ2 H2 H3 hi ⟨z2, sd2, e2⟩ y => ?_) (fun σ2 H2 ⟨z2, sd2, e2⟩ => k1 _ z2 σ2 H2 hnx (ex.trans e2) sd2)
  obtain ⟨e3, d, hd, hp⟩ := hY i H2 z2 x H3 hi e2 sd2.zd y
  refine ⟨(i, d), hd, Γ, z2, sd2.grow e3, hp, fun σ4 sd4 => ⟨(i, d), hd, Γ, z2, sd4, fun env' z' σ' H'' l e5 sd5 => ⟨z', sd5.weak l, e2.trans ((cut_ex e3).trans e5)⟩, fun d' env' z' v σ' H'' r e5 sd5 hv => k2 d' env' z' v σ' H'' r (ex.trans (e2.trans ((cut_ex e3).trans e5))) sd5 hv,
    fun env' z' σ' H'' l e5 sd5 => k1 _ z' σ' H'' (hbk _ l) (ex.trans (e2.trans ((cut_ex e3).trans e5))) sd5, fun env' z' σ' H'' l e5 sd5 => ⟨z', sd5.weak l, e2.trans ((cut_ex e3).trans e5)⟩⟩⟩
/-- while, by a measure -/
theorem hs_while {body : List Stmt} {B : En → Prop} {α : Type} (hp : PassesOwn (model X.prog X.w) X.A X.env X.xe) (I : α → En) (C : α → Prop) (μ : α → Nat) (cnd : α → Bool) (a0 : α) (h0 : Le (I a0) env) (c0 : C a0) {ec : α → En}
    (hc : ∀ x, C x → PB X c (I x) (cnd x) (ec x))
    (turn : ∀ x, C x → cnd x = true → HD X body (ec x) { nx := fun e => ∃ y, Le (I y) e ∧ C y ∧ μ y < μ x, ct := fun e => ∃ y, Le (I y) e ∧ C y ∧ μ y < μ x, bk := B, rt := P.rt })
    (hend : ∀ x, C x → cnd x = false → P.nx (ec x)) (hbk : ∀ e, B e → P.nx e) : HD1 X (.While c body [] pos) env P := by
  refine ps_imp (ps_while hp (pt_all (fun x h => hc x h)) (pss_all (C := fun x => C x ∧ cnd x = true) (fun x h => turn x h.1 h.2))) fun D σ H ⟨Γ, z, sd, k1, k2, k3, k4⟩ => ?_
  refine ⟨fun m σ2 H2 => ∃ x z2, m = μ x ∧ C x ∧ SD X.K X.w Γ z2 H2 σ2 (I x) ∧ Ex (cut H z) (cut H2 z2), ⟨μ a0, a0, z, rfl, c0, sd.weak h0, Ex.refl _⟩, ?_⟩
  rintro m σ2 H2 ⟨x, z2, rfl, cx, sd2, e2⟩
  refine ⟨x, cx, Γ, z2, sd2, fun H3 e3 sd3 => ?_⟩
  have go : cnd x = true ∨ cnd x = false := by cases cnd x <;> simp
  rcases go with q | q
  · rw [q]
    refine iteT ?_
    refine ⟨fun σ' H' => ∃ y z', Le (I y) (I y) ∧ C y ∧ μ y < μ x ∧ SD X.K X.w Γ z' H' σ' (I y) ∧ Ex (cut H z) (cut H' z'), fun σ' H' ⟨y, z', _, cy, l, sd', e'⟩ => ⟨μ y, l, y, z', rfl, cy, sd', e'⟩, ?_⟩
    refine ⟨x, ⟨cx, q⟩, Γ, z2, sd3, fun env' z' σ' H' ⟨y, l, cy, lt⟩ e5 sd5 => ⟨y, z', Le.refl _, cy, lt, sd5.weak l, e2.trans (e3.trans e5)⟩, fun d' env' z' v σ' H' r e5 sd5 hv => k2 d' env' z' v σ' H' r (e2.trans (e3.trans e5)) sd5 hv,
      fun env' z' σ' H' l e5 sd5 => k1 _ z' σ' H' (hbk _ l) (e2.trans (e3.trans e5)) sd5, fun env' z' σ' H' ⟨y, l, cy, lt⟩ e5 sd5 => ⟨y, z', Le.refl _, cy, lt, sd5.weak l, e2.trans (e3.trans e5)⟩⟩
  · rw [q]
    refine iteF ?_
    exact k1 _ z2 σ2 H3 (hend x cx q) (e2.trans e3) sd3
end

/-! ### calls of one's own defs -/
/-- a def of data alone: R tells what it gives -/
def spD (K : PySem.W.Frag) (n : Nat) (R : List PyData → PyData → Prop) : Sp := fun vs H Q _ => vs.length = n ∧ ∃ z ds d, (∀ a, z a = true → H a ≠ none) ∧ DpAll K (cut H z) vs ds ∧ R ds d ∧ ∀ v H', Ex H H' → Dp K (cut H' z) v d → Q v H'
/-- .. that changes its first argument, a list -/
def spR (K : PySem.W.Frag) (n : Nat) (R : List PyData → List PyData → PyData → List PyData → Prop) : Sp := fun vs H Q _ => vs.length = n ∧ ∃ z r vs' us ds row d row', vs = .ref r :: vs' ∧ (∀ a, z a = true → H a ≠ none) ∧ z r = true ∧ H r = some (.lst us) ∧ DpAll K (cut H z) us row ∧
  DpAll K (cut H z) vs' ds ∧ R row ds d row' ∧ ∀ v H' us', (∀ a o, a ≠ r → H a = some o → H' a = some o) → H' r = some (.lst us') → DpAll K (cut H' z) us' row' → Dp K (cut H' z) v d → Q v H'
section
variable {X : Cx} {env env1 env2 env' : En} {d : PyData} {ds row row' : List PyData} {e : Expr} {es : List Expr} {p pos : Pos} {CX : CXT} {k n : Nat} {f : Addr} {fd : FuncData} {ps : List Str} {E : XK} {x : Str} {R : List PyData → PyData → Prop} {RR : List PyData → List PyData → PyData → List PyData → Prop}
theorem pd_call (F : FnOk X.prog X.w X.K X.mg X.base CX k f fd ps (spD X.K n R)) (hr : Room k X.A) (hm : X.mg x = some (.ref f)) (hk : PySem.W.keepIn X.K (.ref f) = true) (hb : Binds X.K fd ps []) (hx : Passes CX X E)
    (ha : PAD X (e :: es) env ds env1) (hR : R ds d) (hn : ds.length = n := by rfl) (hg : Gl X x := by rfl) (hdb : (x == ("__debug__" : Str)) = false := by decide) (he : starEach (e :: es) X.env = (false, eval e X.env) :: starEach es X.env := by rfl) (hpl : (backTo pos (starEach es X.env)).any (·.1) = false := by rfl) :
    PD X (.Call (.Name x p) (e :: es) [] pos) env d env1 :=
  pe_imp (pe_call F hr hg hm hk hb .nil hx ha hdb he hpl) fun σ H Q ⟨Γ, z, sd, kk⟩ => ⟨Γ, z, sd, fun vs H' ex sd' h1 => by
    show spD X.K n R (vs ++ []) H' Q E
    rw [List.append_nil]
    exact ⟨by rw [dpa_len h1]; exact hn, z, ds, d, sd'.zd, h1, hR, fun v H'' ex' h2 => kk v H'' (ex.trans (cut_ex ex')) (sd'.grow ex') h2⟩⟩
/-- f(row, ..), row the name in slot i -/
theorem pd_callR (i : Nat) {xr : Str} {pr : Pos} (F : FnOk X.prog X.w X.K X.mg X.base CX k f fd ps (spR X.K n RR)) (hr : Room k X.A) (hm : X.mg x = some (.ref f)) (hk : PySem.W.keepIn X.K (.ref f) = true) (hb : Binds X.K fd ps []) (hx : Passes CX X E)
    (ha : PAD X es env ds env1) {s : Sl} (hs : env1[i]? = some s) (hrow : (s = .l row ∧ env' = env1.set i (.l row')) ∨ (s = .p row ∧ env' = env1.set i (.p row'))) (hsl : env[i]? = some s) (hR : RR row ds d row') (hn : ds.length + 1 = n := by rfl) (hg : Gl X x := by rfl)
    (hN : X.N[i]? = some xr := by rfl) (hv : Vis X.env.scope xr := by first | exact Or.inl rfl | exact Or.inr (Or.inl rfl) | exact Or.inr (Or.inr rfl)) (hb1 : (xr == ("__debug__" : Str)) = false := by decide) (hcd : (xr == ("__classdict__" : Str)) = false := by decide)
    (hs1 : starEach (.Name xr pr :: es) X.env = (false, eval (.Name xr pr) X.env) :: starEach es X.env := by rfl)
    (hdb : (x == ("__debug__" : Str)) = false := by decide) (hpl : (backTo pos (starEach es X.env)).any (·.1) = false := by rfl) :
    PD X (.Call (.Name x p) (.Name xr pr :: es) [] pos) env d env' :=
  pe_imp (pe_call F hr hg hm hk hb .nil hx (pa_cons (pv i hN hv hb1 hcd) ha hs1) hdb hs1 hpl) fun σ H Q ⟨Γ, z, sd, kk⟩ => by
    have hs' : env1[i]? = some (.l row) ∨ env1[i]? = some (.p row) := by
      rcases hrow with q | q
      · exact .inl (by rw [hs, q.1])
      · exact .inr (by rw [hs, q.1])
    have hsl' : env[i]? = some (.l row) ∨ env[i]? = some (.p row) := by
      rcases hrow with q | q
      · exact .inl (by rw [hsl, q.1])
      · exact .inr (by rw [hsl, q.1])
    obtain ⟨r, us0, e1, _⟩ := sd.own hsl'
    refine ⟨.ref r, e1, Γ, z, sd, fun vs H' ex sd' h1 => ?_⟩
    show spR X.K n RR (.ref r :: (vs ++ [])) H' Q E
    rw [List.append_nil]
    obtain ⟨r', us, e2, zr, hr', hd'⟩ := sd'.own hs'
    rw [e1] at e2
    cases e2
    refine ⟨by rw [List.length_cons, dpa_len h1]; exact hn, z, r, vs, us, ds, row, d, row', rfl, sd'.zd, zr, hr', hd', h1, hR, fun v H'' us' hx' hr'' hd'' hv' => ?_⟩
    rcases hrow with ⟨q1, q2⟩ | ⟨q1, q2⟩
    · obtain ⟨sd2, e3⟩ := sd'.chL (by rw [hs, q1]) e1 hx' hr'' fun _ => hd''
      exact kk v H'' (ex.trans e3) (q2 ▸ sd2) hv'
    · obtain ⟨sd2, e3⟩ := sd'.chP (by rw [hs, q1]) e1 hx' hr'' fun _ => hd''
      exact kk v H'' (ex.trans e3) (q2 ▸ sd2) hv'
end

/-! ### defs -/
def startE (ds : List PyData) (n : Nat) : En := ds.map Sl.d ++ List.replicate n Sl.u
section
variable {Pg : Program} {w : World} {K : PySem.W.Frag} {mg : Str → Option Value} {base : Heap}
theorem sd_start {H : Hp} {z : Addr → Bool} {vs : List V} {ds : List PyData} {N : List Str} {m : Nat} (zd : ∀ a, z a = true → H a ≠ none) (h : DpAll K (cut H z) vs ds) (hm : m = N.length - vs.length) :
    SD K w ⟨H, fun _ => false, z, fun _ => none⟩ z H (L2.start N vs) (startE ds m) := by
  have hl := dpa_len h
  refine ⟨⟨zd, fun a q => by cases q⟩, fun a o _ q => q, fun _ q => q, fun a q => .inl q, zd, fun a o q => (by cases q), ?_, fun _ => [], fun i s hs => ?_, fun i j a q _ => (List.not_mem_nil q).elim, fun i a q => (List.not_mem_nil q).elim⟩
  · unfold L2.start startE
    simp [hl, hm]
  · unfold startE at hs
    by_cases hi : i < ds.length
    · rw [List.getElem?_append_left (by simpa using hi), List.getElem?_map] at hs
      rw [List.getElem?_eq_getElem hi] at hs
      cases hs
      obtain ⟨v, hv, hd⟩ := dpa_get h (List.getElem?_eq_getElem hi)
      refine ⟨rfl, v, ?_, hd⟩
      unfold L2.start
      rw [List.getD_eq_getElem?_getD, List.getElem?_append_left (by simp; omega), List.getElem?_map, hv]
      rfl
    · rw [List.getElem?_append_right (by simp; omega), List.getElem?_replicate] at hs
      split at hs
      · cases hs
        exact rfl
      · cases hs
theorem sd_startR {H : Hp} {z : Addr → Bool} {r : Addr} {vs us : List V} {ds row : List PyData} {N : List Str} {m : Nat} (zd : ∀ a, z a = true → H a ≠ none) (zr : z r = true) (hr : H r = some (.lst us)) (hu : DpAll K (cut H z) us row) (h : DpAll K (cut H z) vs ds) (hm : m = N.length - (vs.length + 1)) :
    SD K w ⟨H, fun a => decide (a = r), z, fun _ => none⟩ z H (L2.start N (.ref r :: vs)) (.p row :: startE ds m) := by
  have h0 : SD K w ⟨H, fun a => decide (a = r), z, fun _ => none⟩ z H (L2.start N (.ref r :: vs)) (.u :: startE ds m) := by
    have hl := dpa_len h
    refine ⟨⟨zd, fun a q => ?_⟩, fun a o _ q => q, fun _ q => q, fun a q => .inl q, zd, fun a o q => (by cases q), ?_, fun _ => [], fun i s hs => ?_, fun i j a q _ => (List.not_mem_nil q).elim, fun i a q => (List.not_mem_nil q).elim⟩
    · have q' : a = r := by simpa using q
      rw [q']; exact zr
    · unfold L2.start startE
      simp [hl, hm]
    · cases i with
      | zero =>
        simp at hs
        subst hs
        exact rfl
      | succ i =>
        rw [List.getElem?_cons_succ] at hs
        unfold startE at hs
        by_cases hi : i < ds.length
        · rw [List.getElem?_append_left (by simpa using hi), List.getElem?_map] at hs
          rw [List.getElem?_eq_getElem hi] at hs
          cases hs
          obtain ⟨v, hv, hd⟩ := dpa_get h (List.getElem?_eq_getElem hi)
          refine ⟨rfl, v, ?_, hd⟩
          unfold L2.start
          rw [List.getD_eq_getElem?_getD, List.getElem?_append_left (by simp; omega), List.getElem?_map, List.getElem?_cons_succ, hv]
          rfl
        · rw [List.getElem?_append_right (by simp; omega), List.getElem?_replicate] at hs
          split at hs
          · cases hs
            exact rfl
          · cases hs
  obtain ⟨ok, ext, zs, zn, zd', tm, len, fp, f1, f2, f3⟩ := h0
  have e0 : ∀ j, fp j = [] ∨ ¬ j < (Sl.u :: startE ds m).length := fun j => by
    by_cases q : j < (Sl.u :: startE ds m).length
    · left
      cases j with
      | zero => exact f1 0 .u rfl
      | succ j =>
        have e1 := List.getElem?_eq_getElem q
        have := f1 (j + 1) _ e1
        have hk : (Sl.u :: startE ds m)[j + 1] = .u ∨ ∃ x, (Sl.u :: startE ds m)[j + 1] = .d x := by
          rw [List.getElem_cons_succ]
          have q1 : j < (startE ds m).length := by simpa using q
          have mem := List.getElem_mem q1
          have hm : ∀ s ∈ startE ds m, s = .u ∨ ∃ x, s = .d x := fun s hs => by
            unfold startE at hs
            rcases List.mem_append.mp hs with k | k
            · obtain ⟨x, _, rfl⟩ := List.mem_map.mp k
              exact .inr ⟨x, rfl⟩
            · exact .inl (List.eq_of_mem_replicate k)
          exact hm _ mem
        rcases hk with k | ⟨x, k⟩
        · rw [k] at this; exact this
        · rw [k] at this; exact this.1
    · exact .inr q
  refine ⟨ok, ext, zs, zn, zd', tm, len, fun j => if j = 0 then [r] else if j < (Sl.u :: startE ds m).length then fp j else [], fun i s hs => ?_, fun i j a hi hj => ?_, fun i a hi => ?_⟩
  · cases i with
    | zero =>
      simp at hs
      subst hs
      refine ⟨r, us, rfl, ?_, by simp, hr, hu⟩
      simp [L2.start]
    | succ i =>
      have hlt : i + 1 < (Sl.u :: startE ds m).length := by
        have := (List.getElem?_eq_some_iff.mp hs).1
        simpa using this
      dsimp only
      rw [if_neg (by omega), if_pos hlt]
      exact f1 (i + 1) s (by rw [List.getElem?_cons_succ] at hs ⊢; exact hs)
  · dsimp only at hi hj
    have kill : ∀ j, j ≠ 0 → a ∉ (if j < (Sl.u :: startE ds m).length then fp j else []) := fun j hj q => by
      split at q
      · rename_i hlt
        rcases e0 j with k | k
        · rw [k] at q; cases q
        · exact k hlt
      · cases q
    by_cases q1 : i = 0
    · by_cases q2 : j = 0
      · rw [q1, q2]
      · rw [if_neg q2] at hj
        exact (kill j q2 hj).elim
    · rw [if_neg q1] at hi
      exact (kill i q1 hi).elim
  · dsimp only at hi
    by_cases q1 : i = 0
    · rw [if_pos q1] at hi
      have e1 : a = r := by simpa using hi
      rw [e1]
      exact ⟨zr, .inl (by simp), rfl⟩
    · rw [if_neg q1] at hi
      split at hi
      · rename_i hlt
        rcases e0 i with k | k
        · rw [k] at hi; cases hi
        · exact (k hlt).elim
      · cases hi
theorem ex_back {Γ : Fr} {z : Addr → Bool} {H : Hp} {σ : L2.St} {env : En} (sd : SD K w Γ z H σ env) : Ex (cut H z) (cut H Γ.z) := fun a o q => by
  obtain ⟨q1, q2⟩ := cut_some q
  refine cut_of ?_ q2
  cases r : Γ.z a with
  | false => rfl
  | true => rw [sd.zs a r] at q1; cases q1
/-- THE RULE for a def of data -/
theorem fnD {x qual : Str} {st : Stmt} {f : Addr} {fd : FuncData} {N ps : List Str} {k n m : Nat} {R : List PyData → PyData → Prop} (F : Fun K x qual st f fd) (S : FnScope N ps (defScope st)) (hn : n = ps.length) (hm : m = N.length - n)
    (hbody : ∀ (cdv : Value) (A : Around) (outer : List Env) (s : Shared) (H : Hp) (E : XK), Room k (A.deeper (PyProof.Rows.envOfC qual (defScope st) s.heap.objs.size f cdv)) → ∀ ds d, R ds d →
      HD (cxOf CX0 Pg w K mg base N qual (defScope st) f cdv A outer s H E).nox (defBody st) (startE ds m) { rt := fun d' _ => d' = d, nx := fun _ => d = .none }) : FnOk Pg w K mg base CX0 (k + 1) f fd ps (spD K n R) := by
  refine F.ok S (fun vs H Q E h => by rw [h.1, hn]) fun cdv A outer s H vs Q E hr h => ?_
  obtain ⟨hl, z, ds, d, zd, ha, hR, kk⟩ := h
  refine ⟨_, hbody cdv A outer s H E hr ds d hR, ?_⟩
  have sd := sd_start (w := w) (N := N) (m := m) zd ha (by rw [hm, hl])
  refine ⟨_, z, sd, fun env' z' σ' H' q ex sd' => ?_, fun d' env' z' v σ' H' q ex sd' hv => ?_, fun _ _ _ _ q => q.elim, fun _ _ _ _ q => q.elim⟩
  · exact kk _ H' (fun a o q' => sd'.ext a o rfl q') (by
      have q2 : d = .none := q
      subst q2
      exact .non)
  · have q2 : d' = d := q
    subst q2
    exact kk v H' (fun a o q' => sd'.ext a o rfl q') (Dpm (ex_back sd') hv)
theorem fnR {x qual : Str} {st : Stmt} {f : Addr} {fd : FuncData} {N ps : List Str} {k n m : Nat} {R : List PyData → List PyData → PyData → List PyData → Prop} (F : Fun K x qual st f fd) (S : FnScope N ps (defScope st)) (hn : n = ps.length) (hm : m = N.length - n)
    (hbody : ∀ (cdv : Value) (A : Around) (outer : List Env) (s : Shared) (H : Hp) (E : XK), Room k (A.deeper (PyProof.Rows.envOfC qual (defScope st) s.heap.objs.size f cdv)) → ∀ row ds d row', R row ds d row' →
      HD (cxOf CX0 Pg w K mg base N qual (defScope st) f cdv A outer s H E).nox (defBody st) (.p row :: startE ds m) { rt := fun d' env => d' = d ∧ env[0]? = some (.p row') }) : FnOk Pg w K mg base CX0 (k + 1) f fd ps (spR K n R) := by
  refine F.ok S (fun vs H Q E h => by rw [h.1, hn]) fun cdv A outer s H vs Q E hr h => ?_
  obtain ⟨hl, z, r, vs', us, ds, row, d, row', rfl, zd, zr, hr', hu, ha, hR, kk⟩ := h
  refine ⟨_, hbody cdv A outer s H E hr row ds d row' hR, ?_⟩
  have sd := sd_startR (w := w) (N := N) (m := m) zd zr hr' hu ha (by rw [hm, ← hl]; rfl)
  refine ⟨_, z, sd, fun _ _ _ _ q => q.elim, fun d' env' z' v σ' H' q ex sd' hv => ?_, fun _ _ _ _ q => q.elim, fun _ _ _ _ q => q.elim⟩
  obtain ⟨q2, q3⟩ := q
  subst q2
  obtain ⟨fp, f1, _, _⟩ := sd'.sl
  obtain ⟨a, us', _, _, k3, k4, k5⟩ := f1 0 _ q3
  have e1 : a = r := by simpa using k3
  subst e1
  exact kk v H' us' (fun b o nb q' => sd'.ext b o (by simp [nb]) q') k4 (Dpam (ex_back sd') k5) (Dpm (ex_back sd') hv)
end
end NB

set_option Elab.async false
set_option linter.all false
set_option maxRecDepth 100000
set_option maxHeartbeats 4000000
/-! the logic's rules: list comprehensions, for with a target by turn, own lists -/
namespace NB
open PySem L2 Evl

def isOwn : Sl → Bool
  | .u => false
  | .d _ => false
  | _ => true
def keepD : Sl → Sl
  | .d x => .d x
  | _ => .u
def mixE (vs : List Nat) (e0 e3 : En) : En := (List.range e3.length).map fun j => if vs.contains j = true then keepD (e0.getD j .u) else e3.getD j .u
def wipeE (env : En) : List Nat → En
  | [] => env
  | v :: vs => (wipeE env vs).set v .u
section
variable {K : PySem.W.Frag} {w : World} {Γ : Fr} {z z' : Addr → Bool} {H H' : Hp} {σ σ2 : L2.St} {env e0 e3 : En}
theorem SD.setU' {i : Nat} {o : Option V} (h : SD K w Γ z H σ env) : SD K w Γ z H (σ.set i o) (env.set i .u) := by
  by_cases hi : i < env.length
  · exact h.setU hi
  · rw [List.set_eq_of_length_le (by rw [h.len]; omega), List.set_eq_of_length_le (by omega)]
    exact h
theorem SD.wipe (h : SD K w Γ z H σ env) : ∀ vs : List Nat, SD K w Γ z H (L2.wipe σ vs) (wipeE env vs)
  | [] => h
  | v :: vs => (SD.wipe h vs).setU'
theorem wipe_get {j : Nat} : ∀ {vs : List Nat}, j ∉ vs → (L2.wipe σ vs).getD j none = σ.getD j none
  | [], _ => rfl
  | v :: vs, h => by
    unfold L2.wipe
    rw [getD_set_ne (fun q => h (by rw [q]; exact List.mem_cons_self)), wipe_get fun q => h (List.mem_cons_of_mem _ q)]
theorem SD.mix {vs : List Nat} (h0 : SD K w Γ z H σ e0) (h3 : SD K w Γ z' H' σ2 e3) (hw : L2.wipe σ2 vs = L2.wipe σ vs) (e : Ex (cut H z) (cut H' z')) : SD K w Γ z' H' σ (mixE vs e0 e3) := by
  obtain ⟨ok, ext, zs, zn, zd, tm, len, fp, f1, f2, f3⟩ := h3
  have hl : σ.length = σ2.length := by
    have := congrArg List.length hw
    rw [wipe_length, wipe_length] at this
    exact this.symm
  obtain ⟨fp0, g1, _, _⟩ := h0.sl
  refine ⟨ok, ext, zs, zn, zd, tm, by unfold mixE; rw [List.length_map, List.length_range, hl, len], fun j => if vs.contains j = true then [] else fp j, fun j s hs => ?_, fun i j a hi hj => ?_, fun i a hi => ?_⟩
  · have hj : j < e3.length := by
      have := (List.getElem?_eq_some_iff.mp hs).1
      unfold mixE at this
      simpa using this
    have hs' : (if vs.contains j = true then keepD (e0.getD j .u) else e3.getD j .u) = s := by
      unfold mixE at hs
      rw [List.getElem?_map, List.getElem?_range hj] at hs
      exact Option.some.inj hs
    dsimp only
    by_cases q : vs.contains j = true
    · rw [if_pos q] at hs' ⊢
      cases e : e0[j]? with
      | none =>
        rw [List.getD_eq_getElem?_getD, e] at hs'
        rw [← hs']
        exact rfl
      | some t =>
        rw [List.getD_eq_getElem?_getD, e] at hs'
        have k := g1 j t e
        rw [← hs']
        cases t with
        | d x =>
          obtain ⟨_, v, k2, k3⟩ := k
          exact ⟨rfl, v, k2, Dpm ‹_› k3⟩
        | u => exact rfl
        | p x => exact rfl
        | l x => exact rfl
        | x f L => exact rfl
        | y rows => exact rfl
        | v x => exact rfl
        | q P ob ψ m => exact rfl
    · rw [if_neg q] at hs' ⊢
      have nm : j ∉ vs := fun k => q (by simpa using k)
      have e1 : σ2.getD j none = σ.getD j none := by
        rw [← wipe_get (σ := σ2) nm, hw, wipe_get nm]
      have k := f1 j (e3.getD j .u) (by rw [List.getD_eq_getElem?_getD, List.getElem?_eq_getElem hj]; rfl)
      rw [hs', e1] at k
      exact k
  · dsimp only at hi hj
    split at hi
    · cases hi
    · split at hj
      · cases hj
      · exact f2 i j a hi hj
  · dsimp only at hi
    split at hi
    · cases hi
    · exact f3 i a hi
end

section
variable {X : Cx} {env env1 : En} {ds : List PyData} {elt tg iter : Expr} {ifs : List Expr} {scope : Scope} {own : List (Str × Nat)} {pos : Pos}
/-- a target keeps what is not its own -/
def GT (X : Cx) (tg : Expr) (g : TG) (vs : List Nat) (env : En) (d : PyData) (env' : En) : Prop := ∀ v σ H Q, (∃ Γ z, SD X.K X.w Γ z H (wipe σ vs) env ∧ Dp X.K (cut H z) v d ∧ ∀ σ', wipe σ' vs = wipe σ vs → SD X.K X.w Γ z H σ' env' → Q σ' H) → g v (wipe σ vs) H Q
abbrev ttC (K : PySem.W.Frag) (w : World) (ds : List PyData) (env0 env2 : Nat → PyData → En) (cnd : Nat → PyData → Bool) : TT := fun σ H Q => ∃ p : Nat × PyData, ds[p.1]? = some p.2 ∧ tT K w (env0 p.1 p.2) (cnd p.1 p.2) (env2 p.1 p.2) σ H Q
abbrev teC (K : PySem.W.Frag) (w : World) (ds : List PyData) (env2 env3 : Nat → PyData → En) (cnd : Nat → PyData → Bool) (y : Nat → PyData → PyData) : TE := fun σ H Q => ∃ p : Nat × PyData, (ds[p.1]? = some p.2 ∧ cnd p.1 p.2 = true) ∧ tD K w (env2 p.1 p.2) (y p.1 p.2) (env3 p.1 p.2) σ H Q
theorem lc_read {vs : List Nat} {g : TG} {I : Nat → En} {A : Nat → List PyData} {env0 env2 env3 : Nat → PyData → En} {cnd : Nat → PyData → Bool} {y : Nat → PyData → PyData}
    (hgt : ∀ i d, ds[i]? = some d → GT X tg g vs (wipeE (I i) vs) d (env0 i d))
    (h0 : Le (I 0) env1) (hA0 : A 0 = [])
    (hstep : ∀ i d, ds[i]? = some d → A (i + 1) = (if cnd i d = true then A i ++ [y i d] else A i) ∧ Le (I (i + 1)) (mixE vs (I i) (if cnd i d = true then env3 i d else env2 i d)))
    (hlen : ∀ i, i < ds.length → (A i).length < 100000) : ∀ σ H Q, tF X.K X.w env (A ds.length) (I ds.length) σ H Q → tLc (tI X.K X.w env ds env1) g (ttC X.K X.w ds env0 env2 cnd) (teC X.K X.w ds env2 env3 cnd y) vs σ H Q := by
  refine fun σ H Q ⟨Γ, z, sd, k⟩ => ⟨Γ, z, sd, fun J H1 ex sd1 ⟨G, Y, wk, hG, hY⟩ D hD => ?_⟩
  have zD : z D = false := sd1.zfresh hD
  have gD := sd1.fresh hD
  have tD' := sd1.tfresh hD
  have c1 : Ex (cut H1 z) (cut (upd H1 D (.lst [])) (addZ z D)) := cut_addZ (Ex.new hD) hD
  refine lc_it (g := g) (tt := fun σ H Q => ∃ p : Nat × PyData, ds[p.1]? = some p.2 ∧ tT X.K X.w (env0 p.1 p.2) (cnd p.1 p.2) (env2 p.1 p.2) σ H Q) (te := fun σ H Q => ∃ p : Nat × PyData, (ds[p.1]? = some p.2 ∧ cnd p.1 p.2 = true) ∧ tD X.K X.w (env2 p.1 p.2) (y p.1 p.2) (env3 p.1 p.2) σ H Q)
    wk (fun i Hc => ∃ us, SD X.K X.w (Γ.tmp D (.lst us)) (addZ z D) Hc σ (I i) ∧ Ex (cut H1 z) (cut Hc (addZ z D)) ∧ DpAll X.K (cut Hc (addZ z D)) us (A i)) ⟨[], (sd1.lay hD).weak h0, c1, by rw [hA0]; exact .nil⟩ (fun i Hc hi ⟨us, _, e2, _⟩ => hG Hc _ e2) (fun i x Hc H3 hi ⟨us, sd2, e2, hdu⟩ yy => ?_) (fun Hc ⟨us, sd2, e2, hdu⟩ => ?_)
  · obtain ⟨e3, d, hd, hp⟩ := hY i Hc _ x H3 hi e2 sd2.zd yy
    have sd3 := sd2.grow e3
    refine hgt i d hd x σ H3 _ ⟨Γ.tmp D (.lst us), addZ z D, sd3.wipe _, hp, fun σ4 hw sd4 => ⟨hw, (i, d), hd, Γ.tmp D (.lst us), addZ z D, sd4, fun H5 e5 sd5 => ?_⟩⟩
    obtain ⟨hA, hI⟩ := hstep i d hd
    have e35 := (cut_ex (z := addZ z D) e3).trans e5
    have go : cnd i d = true ∨ cnd i d = false := by cases cnd i d <;> simp
    rcases go with q | q
    · rw [q] at hA hI ⊢
      refine iteT ?_
      refine ⟨(i, d), ⟨hd, q⟩, Γ.tmp D (.lst us), addZ z D, sd5, fun v H6 e6 sd6 hv => ?_⟩
      have hD6 : H6 D = some (.lst us) := sd6.tm D _ upd_same
      have e36 := e35.trans e6
      refine ⟨us, hD6, ?_, us ++ [v], ?_, ?_, ?_⟩
      · rw [dpa_len hdu]
        exact sz_lt (hlen i hi)
      · have m6 := (SD.mix sd2 sd6 hw e36).weak hI
        exact m6.retmp addZ_self gD
      · rw [cut_upd addZ_self]
        exact e2.trans e36
      · rw [cut_upd addZ_self, hA, if_pos rfl]
        exact dpa_app (Dpam e36 hdu) (dpa_one hv)
    · rw [q] at hA hI ⊢
      refine iteF ?_
      refine ⟨us, (SD.mix sd2 sd5 hw e35).weak hI, e2.trans e35, ?_⟩
      rw [hA, if_neg Bool.false_ne_true]
      exact Dpam e35 hdu
  · have hDc : Hc D = some (.lst us) := sd2.tm D _ upd_same
    have hc' : cut (fun a => if a = D then none else Hc a) z = cut Hc (addZ z D) := by
      funext a
      unfold cut addZ
      by_cases e : a = D
      · subst e
        simp [zD]
      · simp [e]
    refine k D (fun a => if a = D then none else Hc a) Hc us (ex.trans (by rw [hc']; exact e2)) (sd2.unlay zD sd1.zs gD tD') (fun a o q => ?_) (if_pos rfl) hDc (by rw [hc']; exact hdu)
    by_cases e : a = D
    · have q' : (if a = D then none else Hc a) = some o := q
      rw [if_pos e] at q'
      cases q'
    · have q' : (if a = D then none else Hc a) = some o := q
      rw [if_neg e] at q'
      exact q'
/-- [elt for tg in iter if ..] -/
theorem pf_lc (own : List (Str × Nat)) (g : TG) (hc : X.calm = true) (hN : X.N.Nodup) (it : PID X tg iter env ds env1) (ok : BlkOk X.N X.env.scope scope own) (I : Nat → En) (A : Nat → List PyData) (env0 env2 env3 : Nat → PyData → En) (cnd : Nat → PyData → Bool) (y : Nat → PyData → PyData)
    (hgg : ∀ (s : Shared) (H : Hp) (C : Addr) (cl : List (Str × Addr)) (fp : List Addr), PG (X.blk s H scope (compEnvC scope cl C X.env) fp) tg g)
    (ht : ∀ (s : Shared) (H : Hp) (C : Addr) (cl : List (Str × Addr)) (fp : List Addr) i d, ds[i]? = some d → PTs (X.blk s H scope (compEnvC scope cl C X.env) fp) ifs (tT X.K X.w (env0 i d) (cnd i d) (env2 i d)))
    (he : ∀ (s : Shared) (H : Hp) (C : Addr) (cl : List (Str × Addr)) (fp : List Addr) i d, ds[i]? = some d → cnd i d = true → PD (X.blk s H scope (compEnvC scope cl C X.env) fp) elt (env2 i d) (y i d) (env3 i d))
    (hgt : ∀ i d, ds[i]? = some d → GT X tg g (own.map (·.2)) (wipeE (I i) (own.map (·.2))) d (env0 i d))
    (h0 : Le (I 0) env1) (hA0 : A 0 = [])
    (hstep : ∀ i d, ds[i]? = some d → A (i + 1) = (if cnd i d = true then A i ++ [y i d] else A i) ∧ Le (I (i + 1)) (mixE (own.map (·.2)) (I i) (if cnd i d = true then env3 i d else env2 i d)))
    (hlen : ∀ i, i < ds.length → (A i).length < 100000)
    (hs : ∀ x, foldedSetIterable iter X.env x = pure x := by intro _; rfl) : PF X (.ListComp elt [⟨tg, iter, ifs, 0⟩] scope pos) env (A ds.length) (I ds.length) :=
  pe_imp (pe_lc (own := own) (g := g) (te := teC X.K X.w ds env2 env3 cnd y) hc hN it ok hgg
    (fun s H C cl fp => pts_all (C := fun (p : Nat × PyData) => ds[p.1]? = some p.2) fun p hp => ht s H C cl fp p.1 p.2 hp)
    (fun s H C cl fp => pe_all (C := fun (p : Nat × PyData) => ds[p.1]? = some p.2 ∧ cnd p.1 p.2 = true) fun p hp => he s H C cl fp p.1 p.2 hp.1 hp.2) hs) (lc_read hgt h0 hA0 hstep hlen)
/-- y = [elt for ..] on one line, y a local name; data from then on -/
theorem hs_lc (own : List (Str × Nat)) (g : TG) (j : Nat) {yn : Str} {py spos : Pos} (hc : X.calm = true) (hN : X.N.Nodup) (it : PID X tg iter env ds env1) (ok : BlkOk X.N X.env.scope scope own) (I : Nat → En) (A : Nat → List PyData) (env0 env2 env3 : Nat → PyData → En) (cnd : Nat → PyData → Bool) (y : Nat → PyData → PyData)
    (hgg : ∀ (s : Shared) (H : Hp) (C : Addr) (cl : List (Str × Addr)) (fp : List Addr), PG (X.blk s H scope (compEnvC scope cl C X.env) fp) tg g)
    (ht : ∀ (s : Shared) (H : Hp) (C : Addr) (cl : List (Str × Addr)) (fp : List Addr) i d, ds[i]? = some d → PTs (X.blk s H scope (compEnvC scope cl C X.env) fp) ifs (tT X.K X.w (env0 i d) (cnd i d) (env2 i d)))
    (he : ∀ (s : Shared) (H : Hp) (C : Addr) (cl : List (Str × Addr)) (fp : List Addr) i d, ds[i]? = some d → cnd i d = true → PD (X.blk s H scope (compEnvC scope cl C X.env) fp) elt (env2 i d) (y i d) (env3 i d))
    (hgt : ∀ i d, ds[i]? = some d → GT X tg g (own.map (·.2)) (wipeE (I i) (own.map (·.2))) d (env0 i d))
    (h0 : Le (I 0) env1) (hA0 : A 0 = [])
    (hstep : ∀ i d, ds[i]? = some d → A (i + 1) = (if cnd i d = true then A i ++ [y i d] else A i) ∧ Le (I (i + 1)) (mixE (own.map (·.2)) (I i) (if cnd i d = true then env3 i d else env2 i d)))
    (hlen : ∀ i, i < ds.length → (A i).length < 100000) (hj : j < (I ds.length).length)
    (hy : X.N[j]? = some yn := by rfl) (hyl : X.env.scope.names.lookup yn = some .local := by rfl)
    (hsw : swapsWith (.ListComp elt [⟨tg, iter, ifs, 0⟩] scope pos) (some (.Name yn py)) spos.line X.env = pure true := by exact sw_true rfl rfl rfl (by decide +kernel))
    (hs : ∀ x, foldedSetIterable iter X.env x = pure x := by intro _; rfl) : HD1 X (.Assign [.Name yn py] (.ListComp elt [⟨tg, iter, ifs, 0⟩] scope pos) spos) env { nx := fun e => e = (I ds.length).set j (.d (.list (A ds.length))) } :=
  ps_imp (ps_setLc (own := own) (g := g) (te := teC X.K X.w ds env2 env3 cnd y) hc hN hy hyl hsw it ok hgg
    (fun s H C cl fp => pts_all (C := fun (p : Nat × PyData) => ds[p.1]? = some p.2) fun p hp => ht s H C cl fp p.1 p.2 hp)
    (fun s H C cl fp => pe_all (C := fun (p : Nat × PyData) => ds[p.1]? = some p.2 ∧ cnd p.1 p.2 = true) fun p hp => he s H C cl fp p.1 p.2 hp.1 hp.2) hs) fun D σ H ⟨Γ, z, sd, k, _⟩ =>
    lc_read hgt h0 hA0 hstep hlen σ H _ ⟨Γ, z, sd, fun p H1 H2 us e1 s1 e2 hp hl hd =>
      k _ z _ H2 rfl (e1.trans (cut_ex e2)) ((s1.grow e2).setD (.lst (sq_of (cut_of (s1.zfresh hp) hl)) (Dpam (cut_ex e2) hd)) hj)⟩
/-- the target is a name: slot j -/
theorem gt_name {x : Str} {p : Pos} (j : Nat) {vs : List Nat} {e : En} {d : PyData} (hj : vs = [j]) (hl : j < e.length) : GT X (.Name x p) (gName j) vs e d (e.set j (.d d)) := by
  subst hj
  intro v σ H Q ⟨Γ, z, sd, hd, k⟩
  refine k _ ?_ (sd.setD hd hl)
  show ((σ.set j none).set j (some v)).set j none = σ.set j none
  rw [List.set_set, List.set_set]
/-- the target is a pair of names -/
theorem gt_pair {es : List Expr} {kk : Nat} {p : Pos} (i j : Nat) {vs : List Nat} {e : En} {d1 d2 : PyData} (hj : vs = [i, j] ∨ vs = [j, i]) (hi : i < e.length) (hl : j < e.length) : GT X (.Tuple es kk p) (gTup X.K 2 (gCons (gName i) (gCons (gName j) gNil))) vs e (.tuple [d1, d2]) ((e.set i (.d d1)).set j (.d d2)) := by
  intro v σ H Q ⟨Γ, z, sd, hd, k⟩
  cases hd with
  | @tup a xs _ hs ha =>
    cases ha with
    | @cons v1 _ _ _ h1 h2 =>
      cases h2 with
      | @cons v2 _ _ _ h2 h3 =>
        cases h3
        refine ⟨a, [v1, v2], rfl, ex_t cut_sub hs, rfl, v1, [v2], rfl, v2, [], rfl, rfl, ?_⟩
        refine k _ ?_ ((sd.setD h1 hi).setD h2 (by rw [List.length_set]; exact hl))
        rcases hj with q | q
        · subst q
          show (((((σ.set j none).set i none).set i (some v1)).set j (some v2)).set j none).set i none = (σ.set j none).set i none
          by_cases e : i = j
          · subst e
            simp [List.set_set]
          · rw [List.set_set, List.set_set, List.set_comm _ _ e, List.set_set, List.set_set]
        · subst q
          show (((((σ.set i none).set j none).set i (some v1)).set j (some v2)).set i none).set j none = (σ.set i none).set j none
          by_cases e : i = j
          · subst e
            simp [List.set_set]
          · have h5 : ∀ l : L2.St, ((l.set i none).set j none).set i none = (l.set i none).set j none := fun l => by
              rw [List.set_comm (l := l.set i none) none none (Ne.symm e), List.set_set]
            rw [List.set_comm _ _ (Ne.symm e), List.set_set, List.set_set]
            rw [List.set_comm _ _ e, List.set_set]
            exact h5 σ
end
end NB

set_option Elab.async false
set_option linter.all false
set_option maxRecDepth 100000
set_option maxHeartbeats 4000000
/-! the logic's rules: comprehensions that change nothing, own lists, pairs stored at once -/
namespace NB
open PySem L2 Evl

theorem getD_get {α : Type} (l : List α) (a : α) (j : Nat) (h : j < l.length) : l[j]? = some (l.getD j a) := by
  rw [List.getD_eq_getElem?_getD, List.getElem?_eq_getElem h]
  rfl
theorem mix_self {e : En} {s : Sl} {j : Nat} (hk : keepD (e.getD j .u) = e.getD j .u) : mixE [j] e ((e.set j .u).set j s) = e := by
  apply List.ext_getElem?
  intro i
  unfold mixE
  by_cases hi : i < e.length
  · rw [List.getElem?_map, List.getElem?_range (by simpa using hi)]
    by_cases q : i = j
    · subst q
      simp only [List.contains_cons, beq_self_eq_true, Bool.true_or, if_true, Option.map_some]
      rw [hk, getD_get e .u i hi]
    · have c : ([j] : List Nat).contains i = false := by simp [q]
      rw [Option.map_some, c]
      simp only [Bool.false_eq_true, if_false]
      rw [getD_get e .u i hi]
      congr 1
      rw [List.getD_eq_getElem?_getD, List.getElem?_set_ne (Ne.symm q), List.getElem?_set_ne (Ne.symm q), List.getD_eq_getElem?_getD]
  · rw [List.getElem?_eq_none (by simp; omega), List.getElem?_eq_none (by omega)]
section
variable {X : Cx} {env env1 env2 : En} {ds : List PyData} {elt tg iter e b : Expr} {ifs : List Expr} {scope : Scope} {own : List (Str × Nat)} {pos : Pos} {d : PyData}
theorem pts0 : PTs X [] (tT X.K X.w env true env) := pts_imp pts_nil fun σ H Q ⟨Γ, z, sd, k⟩ => k H (Ex.refl _) sd
theorem pts1 {c : Expr} {k : Bool} (h : PB X c env k env1) : PTs X [c] (tT X.K X.w env k env1) := pts_one h
theorem filt_step {cnd : PyData → Bool} {y : PyData → PyData} {i : Nat} (h : ds[i]? = some d) : ((ds.take (i + 1)).filter cnd).map y = if cnd d = true then ((ds.take i).filter cnd).map y ++ [y d] else ((ds.take i).filter cnd).map y := by
  rw [List.take_add_one, h, Option.toList_some, List.filter_append, List.map_append]
  cases q : cnd d <;> simp [q]
theorem filt_len {cnd : PyData → Bool} {y : PyData → PyData} (i : Nat) : (((ds.take i).filter cnd).map y).length ≤ ds.length := by
  rw [List.length_map]
  refine Nat.le_trans (List.length_filter_le _ _) ?_
  rw [List.length_take]
  omega
/-- [elt for x in iter if ..] that changes no object; x in slot j -/
theorem pf_lc1 (j : Nat) {x : Str} {p : Pos} (cnd : PyData → Bool) (y : PyData → PyData) (hc : X.calm = true) (hN : X.N.Nodup) (it : PID X (.Name x p) iter env ds env1) (ok : BlkOk X.N X.env.scope scope [(x, j)])
    (ht : ∀ (s : Shared) (H : Hp) (C : Addr) (cl : List (Str × Addr)) (fp : List Addr) d, d ∈ ds → PTs (X.blk s H scope (compEnvC scope cl C X.env) fp) ifs (tT X.K X.w ((env1.set j .u).set j (.d d)) (cnd d) ((env1.set j .u).set j (.d d))))
    (he : ∀ (s : Shared) (H : Hp) (C : Addr) (cl : List (Str × Addr)) (fp : List Addr) d, d ∈ ds → cnd d = true → PD (X.blk s H scope (compEnvC scope cl C X.env) fp) elt ((env1.set j .u).set j (.d d)) (y d) ((env1.set j .u).set j (.d d)))
    (hgg : ∀ (s : Shared) (H : Hp) (C : Addr) (cl : List (Str × Addr)) (fp : List Addr), PG (X.blk s H scope (compEnvC scope cl C X.env) fp) (.Name x p) (gName j))
    (hl : j < env1.length) (hn : ds.length < 100000) (hk : keepD (env1.getD j .u) = env1.getD j .u := by rfl)
    (hs : ∀ x, foldedSetIterable iter X.env x = pure x := by intro _; rfl) : PF X (.ListComp elt [⟨.Name x p, iter, ifs, 0⟩] scope pos) env ((ds.filter cnd).map y) env1 := by
  have q := pf_lc (own := [(x, j)]) (g := gName j) (elt := elt) (ifs := ifs) (pos := pos) hc hN it ok (fun _ => env1) (fun i => ((ds.take i).filter cnd).map y) (fun _ d => (env1.set j .u).set j (.d d)) (fun _ d => (env1.set j .u).set j (.d d)) (fun _ d => (env1.set j .u).set j (.d d)) (fun _ d => cnd d) (fun _ d => y d)
    hgg (fun s H C cl fp i d h => ht s H C cl fp d (List.mem_of_getElem? h)) (fun s H C cl fp i d h => he s H C cl fp d (List.mem_of_getElem? h)) (fun i d h => gt_name j rfl (by show j < (env1.set j .u).length; rw [List.length_set]; exact hl)) (Le.refl _) (by simp)
    (fun i d h => ⟨filt_step h, Le.of_eq (by
      have e1 : (if cnd d = true then (env1.set j Sl.u).set j (.d d) else (env1.set j .u).set j (.d d)) = (env1.set j .u).set j (.d d) := by split <;> rfl
      rw [e1]
      exact (mix_self hk).symm)⟩) (fun i h => Nat.lt_of_le_of_lt (filt_len i) hn) hs
  rw [List.take_length] at q
  exact q
theorem hs_lc1 (j i : Nat) {x yn : Str} {p py spos : Pos} (cnd : PyData → Bool) (y : PyData → PyData) (hc : X.calm = true) (hN : X.N.Nodup) (it : PID X (.Name x p) iter env ds env1) (ok : BlkOk X.N X.env.scope scope [(x, j)])
    (ht : ∀ (s : Shared) (H : Hp) (C : Addr) (cl : List (Str × Addr)) (fp : List Addr) d, d ∈ ds → PTs (X.blk s H scope (compEnvC scope cl C X.env) fp) ifs (tT X.K X.w ((env1.set j .u).set j (.d d)) (cnd d) ((env1.set j .u).set j (.d d))))
    (he : ∀ (s : Shared) (H : Hp) (C : Addr) (cl : List (Str × Addr)) (fp : List Addr) d, d ∈ ds → cnd d = true → PD (X.blk s H scope (compEnvC scope cl C X.env) fp) elt ((env1.set j .u).set j (.d d)) (y d) ((env1.set j .u).set j (.d d)))
    (hgg : ∀ (s : Shared) (H : Hp) (C : Addr) (cl : List (Str × Addr)) (fp : List Addr), PG (X.blk s H scope (compEnvC scope cl C X.env) fp) (.Name x p) (gName j))
    (hl : j < env1.length) (hli : i < env1.length) (hn : ds.length < 100000) (hk : keepD (env1.getD j .u) = env1.getD j .u := by rfl)
    (hy : X.N[i]? = some yn := by rfl) (hyl : X.env.scope.names.lookup yn = some .local := by rfl)
    (hsw : swapsWith (.ListComp elt [⟨.Name x p, iter, ifs, 0⟩] scope pos) (some (.Name yn py)) spos.line X.env = pure true := by exact sw_true rfl rfl rfl (by decide +kernel))
    (hs : ∀ x, foldedSetIterable iter X.env x = pure x := by intro _; rfl) : HD1 X (.Assign [.Name yn py] (.ListComp elt [⟨.Name x p, iter, ifs, 0⟩] scope pos) spos) env { nx := fun e => e = env1.set i (.d (.list ((ds.filter cnd).map y))) } := by
  have q := hs_lc (own := [(x, j)]) (g := gName j) (elt := elt) (ifs := ifs) (pos := pos) (j := i) (yn := yn) (py := py) (spos := spos) hc hN it ok (fun _ => env1) (fun i => ((ds.take i).filter cnd).map y) (fun _ d => (env1.set j .u).set j (.d d)) (fun _ d => (env1.set j .u).set j (.d d)) (fun _ d => (env1.set j .u).set j (.d d)) (fun _ d => cnd d) (fun _ d => y d)
    hgg (fun s H C cl fp i d h => ht s H C cl fp d (List.mem_of_getElem? h)) (fun s H C cl fp i d h => he s H C cl fp d (List.mem_of_getElem? h)) (fun i d h => gt_name j rfl (by show j < (env1.set j .u).length; rw [List.length_set]; exact hl)) (Le.refl _) (by simp)
    (fun i d h => ⟨filt_step h, Le.of_eq (by
      have e1 : (if cnd d = true then (env1.set j Sl.u).set j (.d d) else (env1.set j .u).set j (.d d)) = (env1.set j .u).set j (.d d) := by split <;> rfl
      rw [e1]
      exact (mix_self hk).symm)⟩) (fun i h => Nat.lt_of_le_of_lt (filt_len i) hn) hli hy hyl hsw hs
  rw [List.take_length] at q
  exact q
/-- .. of all items -/
theorem filter_yes {cnd : PyData → Bool} (h : ∀ d, cnd d = true) : ds.filter cnd = ds := List.filter_eq_self.mpr fun d _ => h d

theorem filter_no {cnd : PyData → Bool} (h : ∀ d ∈ ds, cnd d = false) : ds.filter cnd = [] := List.filter_eq_nil_iff.mpr fun d hd => by rw [h d hd]; exact Bool.false_ne_true
/-! ### own lists -/
/-- found.append(e) -/
theorem hs_app (i : Nat) {x : Str} {xp ap cp : Pos} {spos : Pos} (he : PD X e env d env1) (hi0 : env[i]? = some (.l ds)) (hi : env1[i]? = some (.l ds)) (hl : ds.length < 100000) (hN : X.N[i]? = some x := by rfl) (hv : Vis X.env.scope x := by first | exact Or.inl rfl | exact Or.inr (Or.inl rfl) | exact Or.inr (Or.inr rfl))
    (hb1 : (x == ("__debug__" : Str)) = false := by decide) (hcd : (x == ("__classdict__" : Str)) = false := by decide)
    (hbase : attributeBase (.Name x xp) "append" X.env (eval (.Name x xp) X.env) = eval (.Name x xp) X.env := by rfl)
    (hfew : ((backTo cp (starEach [e] X.env)).all (fun x => !x.1) && (backToKw cp (keywordEach [] X.env)).all (fun x => x.1.isSome) && decide (([e] : List Expr).length + ([] : List Keyword).length + (if ([] : List Keyword).isEmpty then 0 else 1) < 30)) = true := by rfl)
    (hline : (ap.endLine == cp.line) = true := by rfl) (hst : starEach [e] X.env = (false, eval e X.env) :: starEach [] X.env := by rfl) (hplain : (backTo cp (starEach [] X.env)).any (·.1) = false := by rfl)
    (hs : swapsWith (.Call (.Attribute (.Name x xp) "append" ap) [e] [] cp) none spos.line X.env = pure false := by rfl) :
    HD1 X (.Expr (.Call (.Attribute (.Name x xp) "append" ap) [e] [] cp) spos) env { nx := fun e => e = env1.set i (.l (ds ++ [d])) } :=
  ps_imp (ps_expr (pe_bm PySem.F.plainAttrs_list PySem.F.slot_list_append PySem.F.type_list_append mt_append (pv i hN hv hb1 hcd) (pa_cons he pa_nil hst) hbase hfew hline hst hplain) hs) fun D σ H ⟨Γ, z, sd, k, _⟩ => by
    obtain ⟨a, us, h1, h2, h3, h4⟩ := sd.own (.inl hi0)
    refine ⟨.ref a, h1, .inl ⟨rfl, us, sq_of h3⟩, Γ, z, sd, fun v H' ex sd' hd => ?_⟩
    obtain ⟨a', us', h1', h2', h3', h4'⟩ := sd'.own (.inl hi)
    rw [h1] at h1'
    cases h1'
    refine ⟨a, us', v, rfl, rfl, h3', sz_lt (by rw [dpa_len h4']; exact hl), ?_⟩
    have ex2 : cut (upd H' a (.lst (us' ++ [v]))) z = cut H' z := cut_upd h2
    obtain ⟨sd2, e3⟩ := sd'.chL (us := us' ++ [v]) (ys := ds ++ [d]) hi h1 (fun b o nb q => (upd_ne nb).trans q) upd_same (fun _ => by rw [ex2]; exact dpa_app h4' (dpa_one hd))
    exact k _ z _ _ rfl (ex.trans (by rw [ex2]; exact Ex.refl _)) sd2
/-- left.pop(e): the k-th -/
theorem pd_pop (i : Nat) {x : Str} {xp ap cp : Pos} {k : Nat} (he : PD X e env (.int (k : Int)) env1) (hi0 : env[i]? = some (.l ds)) (hi : env1[i]? = some (.l ds)) (hk : ds[k]? = some d) (hk2 : (k : Int) < 100000) (hN : X.N[i]? = some x := by rfl) (hv : Vis X.env.scope x := by first | exact Or.inl rfl | exact Or.inr (Or.inl rfl) | exact Or.inr (Or.inr rfl))
    (hb1 : (x == ("__debug__" : Str)) = false := by decide) (hcd : (x == ("__classdict__" : Str)) = false := by decide)
    (hbase : attributeBase (.Name x xp) "pop" X.env (eval (.Name x xp) X.env) = eval (.Name x xp) X.env := by rfl)
    (hfew : ((backTo cp (starEach [e] X.env)).all (fun x => !x.1) && (backToKw cp (keywordEach [] X.env)).all (fun x => x.1.isSome) && decide (([e] : List Expr).length + ([] : List Keyword).length + (if ([] : List Keyword).isEmpty then 0 else 1) < 30)) = true := by rfl)
    (hline : (ap.endLine == cp.line) = true := by rfl) (hst : starEach [e] X.env = (false, eval e X.env) :: starEach [] X.env := by rfl) (hplain : (backTo cp (starEach [] X.env)).any (·.1) = false := by rfl) :
    PD X (.Call (.Attribute (.Name x xp) "pop" ap) [e] [] cp) env d (env1.set i (.l (ds.eraseIdx k))) :=
  pe_imp (pe_bm PySem.F.plainAttrs_list PySem.F.slot_list_pop PySem.F.type_list_pop mt_popAt (pv i hN hv hb1 hcd) (pa_cons he pa_nil hst) hbase hfew hline hst hplain) fun σ H Q ⟨Γ, z, sd, kk⟩ => by
    obtain ⟨a, us, h1, h2, h3, h4⟩ := sd.own (.inl hi0)
    refine ⟨.ref a, h1, .inl ⟨rfl, us, sq_of h3⟩, Γ, z, sd, fun v H' ex sd' hd => ?_⟩
    obtain ⟨a', us', h1', h2', h3', h4'⟩ := sd'.own (.inl hi)
    rw [h1] at h1'
    cases h1'
    cases hd
    obtain ⟨w, hw, hdw⟩ := dpa_get h4' hk
    have hlt : k < us'.length := (List.getElem?_eq_some_iff.mp hw).1
    have hsq : seqIndex? (k : Int) us'.length = some k := PySem.StrLaws.seqIndex_nonneg (by omega) (by omega)
    refine ⟨a, us', (k : Int), k, w, rfl, rfl, h3', by omega, by omega, hsq, hw, ?_⟩
    have ex2 : cut (upd H' a (.lst (us'.eraseIdx k))) z = cut H' z := cut_upd h2
    obtain ⟨sd2, e3⟩ := sd'.chL (us := us'.eraseIdx k) (ys := ds.eraseIdx k) hi h1 (fun b o nb q => (upd_ne nb).trans q) upd_same (fun _ => by rw [ex2]; exact dpa_erase k h4')
    exact kk w _ (ex.trans (by rw [ex2]; exact Ex.refl _)) sd2 (by rw [ex2]; exact hdw)
/-- row[k] = e, row the caller's list -/
theorem hs_setP (i : Nat) {x : Str} {xp p : Pos} {k : Nat} {spos : Pos} (he : PD X e env d env1) (hb : PD X b env1 (.int (k : Int)) env1) (hi : env1[i]? = some (.p ds) := by rfl) (hk : k < ds.length := by first | (show _ < 4; decide) | simp) (hN : X.N[i]? = some x := by rfl) (hv : Vis X.env.scope x := by first | exact Or.inl rfl | exact Or.inr (Or.inl rfl) | exact Or.inr (Or.inr rfl))
    (hb1 : (x == ("__debug__" : Str)) = false := by decide) (hcd : (x == ("__classdict__" : Str)) = false := by decide)
    (ha : ∀ v, assign (.Subscript (.Name x xp) b p) X.env v = (do
      let ov ← holding [v] (eval (.Name x xp) X.env)
      let iv ← holding [v, ov] (eval b X.env)
      standAt p
      holding [v, ov, iv] (setItem ov iv v)
      release [v, ov, iv] []) := by intro _; rfl)
    (hs : swapsWithSole [.Subscript (.Name x xp) b p] e spos.line X.env = pure false := by rfl) (hw : swappedStores [.Subscript (.Name x xp) b p] e X.env = pure none := by rfl)
    (h1 : (assignEach [.Subscript (.Name x xp) b p] X.env).map (·.2) = [assign (.Subscript (.Name x xp) b p) X.env] := by rfl) :
    HD1 X (.Assign [.Subscript (.Name x xp) b p] e spos) env { nx := fun e => e = env1.set i (.p (ds.set k d)) } :=
  ps_imp (ps_asg he (pg_sub (pv i hN hv hb1 hcd) hb set_list ha) hs hw h1) fun D σ H ⟨Γ, z, sd, kk, _⟩ => ⟨Γ, z, sd, fun v H' ex sd' hd => by
    obtain ⟨a, us, h1, h2, h3, h4⟩ := sd'.own (.inr hi)
    refine ⟨.ref a, h1, Γ, z, sd', fun v2 H'' ex' sd'' hd' => ?_⟩
    cases hd'
    obtain ⟨a', us', h1', h2', h3', h4'⟩ := sd''.own (.inr hi)
    rw [h1] at h1'
    cases h1'
    refine ⟨a, us', (k : Int), k, rfl, rfl, h3', ixN_nat (by rw [dpa_len h4']; exact hk), ?_⟩
    have ex2 : cut (upd H'' a (.lst (us'.set k v))) z = cut H'' z := cut_upd h2
    obtain ⟨sd2, e3⟩ := sd''.chP (us := us'.set k v) (ys := ds.set k d) hi h1 (fun b o nb q => (upd_ne nb).trans q) upd_same (fun _ => by rw [ex2]; exact dpa_set k (Dpm ex' hd) h4')
    exact kk _ z _ _ rfl (ex.trans (ex'.trans (by rw [ex2]; exact Ex.refl _))) sd2⟩
/-- len(left) of an own list -/
theorem pd_lenO (i : Nat) {x : Str} {xp p : Pos} (hi : env[i]? = some (.l ds) ∨ env[i]? = some (.p ds)) (hm : X.mg "len" = none) (hg : Gl X "len" := by rfl) (hN : X.N[i]? = some x := by rfl) (hv : Vis X.env.scope x := by first | exact Or.inl rfl | exact Or.inr (Or.inl rfl) | exact Or.inr (Or.inr rfl))
    (hb1 : (x == ("__debug__" : Str)) = false := by decide) (hcd : (x == ("__classdict__" : Str)) = false := by decide)
    (he : starEach [.Name x xp] X.env = (false, eval (.Name x xp) X.env) :: starEach [] X.env := by rfl) (hpl : (backTo pos (starEach [] X.env)).any (·.1) = false := by rfl) :
    PD X (.Call (.Name "len" p) [.Name x xp] [] pos) env (.int (ds.length : Int)) env :=
  pe_imp (pe_callB call_len_seq hg hm PySem.boot_len (pa_cons (pv i hN hv hb1 hcd) pa_nil he) (he := he) (hpl := hpl)) fun σ H Q ⟨Γ, z, sd, kk⟩ => by
    obtain ⟨a, us, h1, h2, h3, h4⟩ := sd.own hi
    refine ⟨.ref a, h1, a, us, rfl, .inl (sq_of h3), ?_⟩
    rw [dpa_len h4]
    exact kk _ H (Ex.refl _) sd (.int _)
/-- left != [..] of an own list -/
theorem pb_neO (i : Nat) {x : Str} {xp : Pos} {es : List PyData} {env1 : En} (hu : X.A.units + 64 < cLine) (hi : env[i]? = some (.l ds)) (hi1 : env1[i]? = some (.l ds)) (hb : PD X b env (.list es) env1) (s1 : SeqAt.shaped (.list ds) = true) (s2 : SeqAt.shaped (.list es) = true) (hN : X.N[i]? = some x := by rfl) (hv : Vis X.env.scope x := by first | exact Or.inl rfl | exact Or.inr (Or.inl rfl) | exact Or.inr (Or.inr rfl))
    (hb1 : (x == ("__debug__" : Str)) = false := by decide) (hcd : (x == ("__classdict__" : Str)) = false := by decide) (hm : behindInMarks .NotEq b = false := by exact nomark _) :
    PB X (.Compare (.Name x xp) [.NotEq] [b] pos) env (!PyData.eqv (.list ds) (.list es)) env1 :=
  pt_imp (pt_cmpR (op_neD hu) (pv i hN hv hb1 hcd) hb hm) fun σ H Q ⟨Γ, z, sd, kk⟩ => by
    obtain ⟨a, us, h1, _⟩ := sd.own (.inl hi)
    refine ⟨.ref a, h1, Γ, z, sd, fun v H' ex sd' hd => ?_⟩
    obtain ⟨a', us', h1', h2', h3', h4'⟩ := sd'.own (.inl hi1)
    rw [h1] at h1'
    cases h1'
    exact ⟨.list ds, .list es, (Dp.lst (sq_of h3') (Dpam cut_sub h4')).toS s1, (Dpm cut_sub hd).toS s2, s1, s2, _, rfl, kk H' ex sd'⟩

/-! ### a, b = e1, e2 with two local names -/
theorem hs_parDD (i j : Nat) {x y : Str} {a : Expr} {px py pt : Pos} {kt k2 pt2} {d2 : PyData} {spos : Pos} (hc : X.calm = true) (hN : X.N.Nodup) (hij : i ≠ j) (ha : PD X a env d env1) (hb : PD X b env1 d2 env2) (hli : i < env2.length := by simp) (hlj : j < env2.length := by simp)
    (hi : X.N[i]? = some x := by rfl) (hj : X.N[j]? = some y := by rfl) (hx : X.env.scope.names.lookup x = some .local := by rfl) (hy : X.env.scope.names.lookup y = some .local := by rfl)
    (h1 : starEach [a, b] X.env = (false, eval a X.env) :: starEach [b] X.env := by rfl) (h2 : starEach [b] X.env = (false, eval b X.env) :: starEach [] X.env := by rfl)
    (hw : swappedStores [.Tuple [.Name x px, .Name y py] kt pt] (.Tuple [a, b] k2 pt2) X.env = pure (some [x, y]) := by rfl)
    (hs : swapsWithSole [.Tuple [.Name x px, .Name y py] kt pt] (.Tuple [a, b] k2 pt2) spos.line X.env = pure false := by rfl) :
    HD1 X (.Assign [.Tuple [.Name x px, .Name y py] kt pt] (.Tuple [a, b] k2 pt2) spos) env { nx := fun e => e = (env2.set i (.d d)).set j (.d d2) } :=
  ps_imp (ps_par hc hN hi hj hij hx hy (pad_cons ha (pad_cons hb pad_nil h2) h1) hw hs) fun D σ H ⟨Γ, z, sd, k, _⟩ => ⟨Γ, z, sd, fun vs H' ex sd' hd => by
    cases hd with
    | @cons v _ _ _ q1 q2 =>
      cases q2 with
      | @cons w _ _ _ q2 q3 =>
        cases q3
        exact ⟨v, w, rfl, k _ z _ H' rfl ex ((sd'.setD q1 hli).setD q2 (by rw [List.length_set]; exact hlj))⟩⟩
/-- the second a new list, to be changed -/
theorem hs_parDL (i j : Nat) {x y : Str} {a : Expr} {px py pt : Pos} {kt k2 pt2} {es : List PyData} {spos : Pos} (hc : X.calm = true) (hN : X.N.Nodup) (hij : i ≠ j) (ha : PD X a env d env1) (hb : PF X b env1 es env2) (hli : i < env2.length := by simp) (hlj : j < env2.length := by simp)
    (hi : X.N[i]? = some x := by rfl) (hj : X.N[j]? = some y := by rfl) (hx : X.env.scope.names.lookup x = some .local := by rfl) (hy : X.env.scope.names.lookup y = some .local := by rfl)
    (h1 : starEach [a, b] X.env = (false, eval a X.env) :: starEach [b] X.env := by rfl) (h2 : starEach [b] X.env = (false, eval b X.env) :: starEach [] X.env := by rfl)
    (hw : swappedStores [.Tuple [.Name x px, .Name y py] kt pt] (.Tuple [a, b] k2 pt2) X.env = pure (some [x, y]) := by rfl)
    (hs : swapsWithSole [.Tuple [.Name x px, .Name y py] kt pt] (.Tuple [a, b] k2 pt2) spos.line X.env = pure false := by rfl) :
    HD1 X (.Assign [.Tuple [.Name x px, .Name y py] kt pt] (.Tuple [a, b] k2 pt2) spos) env { nx := fun e => e = (env2.set i (.d d)).set j (.l es) } :=
  ps_imp (ps_par hc hN hi hj hij hx hy (pa_cons ha (pa_cons hb pa_nil h2) h1) hw hs) fun D σ H ⟨Γ, z, sd, k, _⟩ => ⟨Γ, z, sd, fun v H' ex sd' hd => ⟨Γ, z, sd', fun p H1 H2 us e1 s1 e2 hp hl hd2 =>
    ⟨v, .ref p, rfl, k _ (addZ z p) _ H2 rfl (ex.trans (e1.trans (cut_addZ e2 hp))) ((s1.setD (Dpm e1 hd) hli).setL e2 hp hl (Dpam (cut_addZ e2 hp) hd2) (by rw [List.length_set]; exact hlj))⟩⟩⟩
/-- both new lists, to be changed -/
theorem hs_parLL (i j : Nat) {x y : Str} {a : Expr} {px py pt : Pos} {kt k2 pt2} {es : List PyData} {spos : Pos} (hc : X.calm = true) (hN : X.N.Nodup) (hij : i ≠ j) (ha : PF X a env ds env) (hb : PF X b env es env) (hli : i < env.length := by simp) (hlj : j < env.length := by simp)
    (hi : X.N[i]? = some x := by rfl) (hj : X.N[j]? = some y := by rfl) (hx : X.env.scope.names.lookup x = some .local := by rfl) (hy : X.env.scope.names.lookup y = some .local := by rfl)
    (h1 : starEach [a, b] X.env = (false, eval a X.env) :: starEach [b] X.env := by rfl) (h2 : starEach [b] X.env = (false, eval b X.env) :: starEach [] X.env := by rfl)
    (hw : swappedStores [.Tuple [.Name x px, .Name y py] kt pt] (.Tuple [a, b] k2 pt2) X.env = pure (some [x, y]) := by rfl)
    (hs : swapsWithSole [.Tuple [.Name x px, .Name y py] kt pt] (.Tuple [a, b] k2 pt2) spos.line X.env = pure false := by rfl) :
    HD1 X (.Assign [.Tuple [.Name x px, .Name y py] kt pt] (.Tuple [a, b] k2 pt2) spos) env { nx := fun e => e = (env.set i (.l ds)).set j (.l es) } :=
  ps_imp (ps_par hc hN hi hj hij hx hy (pa_cons ha (pa_cons hb pa_nil h2) h1) hw hs) fun D σ H ⟨Γ, z, sd, k, _⟩ => ⟨Γ, z, sd, fun p H1 H2 us e1 s1 e2 hp hl hd1 => by
    have s2 : SD X.K X.w (Γ.tmp p (.lst us)) (addZ z p) H2 σ env := s1.lay' e2 hp hl
    refine ⟨_, addZ z p, s2, fun q H3 H4 us2 e3 s3 e4 hq hl2 hd2 => ⟨.ref p, .ref q, rfl, ?_⟩⟩
    have hd1' : DpAll X.K (cut H3 (addZ z p)) us ds := Dpam e3 (Dpam (cut_addZ e2 hp) hd1)
    have s4 := s3.adopt (i := i) addZ_self (s1.fresh hp) (s1.tfresh hp) hd1' hli
    have s5 := s4.setL (i := j) e4 hq hl2 (Dpam (cut_addZ e4 hq) hd2) (by rw [List.length_set]; exact hlj)
    exact k _ _ _ H4 rfl (e1.trans ((cut_addZ e2 hp).trans (e3.trans (cut_addZ e4 hq)))) s5⟩
end
end NB

set_option Elab.async false
set_option linter.all false
set_option maxRecDepth 100000
set_option maxHeartbeats 4000000
/-! the logic's rules: isinstance, chains, order of tuples, in, list(range), sorted -/
namespace NB
open PySem L2 Evl
section
variable {X : Cx} {env env1 env2 env3 : En} {d d1 d2 d3 : PyData} {ds es : List PyData} {e a b c : Expr} {pos : Pos}

/-! ### isinstance -/
def tyD : PyData → String
  | .none => "NoneType"
  | .bool _ => "bool"
  | .int _ => "int"
  | .str _ => "str"
  | .list _ => "list"
  | .tuple _ => "tuple"
  | .dict _ => "dict"
theorem tyX_of {K : PySem.W.Frag} {H : Hp} {v : V} (h : Dp K H v d) : TyX K H v (.type (tyD d)) := by
  cases h with
  | non => exact .base .non
  | bl b => exact .base (.bl b)
  | int i => exact .base (.int i)
  | str x => exact .base (.str x)
  | lst hs ha =>
    rcases hs with (hs | ⟨o, hs⟩) | ⟨o, its, n, k1, k2, _⟩
    · exact .base (.lst hs)
    · exact .base (.frz hs)
    · exact .kList k1 k2
  | tup hs ha =>
    rcases hs with (hs | ⟨o, hs⟩) | ⟨o, its, n, k1, k2, _⟩
    · exact .base (.tup hs)
    · exact .fTuple hs
    · exact .kTuple k1 k2
  | dct hs => exact .base (.dK hs)
/-- isinstance(e, T) -/
theorem pd_isi (TT : String) (k : Bool) {x : Str} {ty : String} {p p2 : Pos} (hm : X.mg "isinstance" = none) (hmT : X.mg x = none) (he : PD X e env d env1) (hty : tyD d = ty := by rfl) (hk : kitB ty TT = some k := by (try simp only [tyD]); decide +kernel) (hT : bootBuiltins x = some (.type TT) := by decide +kernel) (hg : Gl X "isinstance" := by rfl) (hgT : Gl X x := by rfl)
    (hn : x ≠ "__name__" := by decide) (hdb : (x == ("__debug__" : Str)) = false := by decide) (hs : starEach [e, .Name x p2] X.env = (false, eval e X.env) :: starEach [.Name x p2] X.env := by rfl) (hs2 : starEach [.Name x p2] X.env = (false, eval (.Name x p2) X.env) :: starEach [] X.env := by rfl)
    (hpl : (backTo pos (starEach [.Name x p2] X.env)).any (·.1) = false := by rfl) :
    PD X (.Call (.Name "isinstance" p) [e, .Name x p2] [] pos) env (.bool k) env1 :=
  pe_imp (pe_callB call_isi hg hm (by decide +kernel) (pa_cons he (pa_cons (pe_bltn hgT hmT hT (v := .ty TT) rfl hn hdb) pa_nil hs2) hs) (by decide) (by decide) hs hpl) fun σ H Q ⟨Γ, z, sd, kk⟩ => ⟨Γ, z, sd, fun v H' ex sd' hd =>
    ⟨v, .ty TT, _, _, k, rfl, .ty TT, hty ▸ tyX_of (Dpm cut_sub hd), kit_ty hk, kk _ H' ex sd' (.bl k)⟩⟩
/-- isinstance(e, (T, U)) -/
theorem pd_isi2 (TT UU : String) (k1 k2 : Bool) {x y : Str} {ty : String} {p p2 p3 tp : Pos} {kk0} (hm : X.mg "isinstance" = none) (hmT : X.mg x = none) (hmU : X.mg y = none) (he : PD X e env d env1) (hty : tyD d = ty := by rfl) (hk1 : kitB ty TT = some k1 := by (try simp only [tyD]); decide +kernel) (hk2 : kitB ty UU = some k2 := by (try simp only [tyD]); decide +kernel) (hT : bootBuiltins x = some (.type TT) := by decide +kernel) (hU : bootBuiltins y = some (.type UU) := by decide +kernel) (hg : Gl X "isinstance" := by rfl) (hgT : Gl X x := by rfl) (hgU : Gl X y := by rfl)
    (hn : x ≠ "__name__" := by decide) (hdb : (x == ("__debug__" : Str)) = false := by decide) (hn2 : y ≠ "__name__" := by decide) (hdb2 : (y == ("__debug__" : Str)) = false := by decide)
    (hs : starEach [e, .Tuple [.Name x p2, .Name y p3] kk0 tp] X.env = (false, eval e X.env) :: starEach [.Tuple [.Name x p2, .Name y p3] kk0 tp] X.env := by rfl) (hs2 : starEach [.Tuple [.Name x p2, .Name y p3] kk0 tp] X.env = (false, eval (.Tuple [.Name x p2, .Name y p3] kk0 tp) X.env) :: starEach [] X.env := by rfl)
    (hs3 : starEach [.Name x p2, .Name y p3] X.env = (false, eval (.Name x p2) X.env) :: starEach [.Name y p3] X.env := by rfl) (hs4 : starEach [.Name y p3] X.env = (false, eval (.Name y p3) X.env) :: starEach [] X.env := by rfl)
    (hpl : (backTo pos (starEach [.Tuple [.Name x p2, .Name y p3] kk0 tp] X.env)).any (·.1) = false := by rfl) :
    PD X (.Call (.Name "isinstance" p) [e, .Tuple [.Name x p2, .Name y p3] kk0 tp] [] pos) env (.bool (k1 || k2)) env1 :=
  pe_imp (pe_callB call_isiT hg hm (by decide +kernel) (pa_cons he (pa_cons (pe_tup (pa_cons (pe_bltn hgT hmT hT (v := .ty TT) rfl hn hdb) (pa_cons (pe_bltn hgU hmU hU (v := .ty UU) rfl hn2 hdb2) pa_nil hs4) hs3)) pa_nil hs2) hs) (by decide) (by decide) hs hpl) fun σ H Q ⟨Γ, z, sd, kk⟩ => ⟨Γ, z, sd, fun v H' ex sd' hd =>
    ⟨by show 2 ≤ sizeLine; decide, fun t ht => ⟨v, t, [.ty TT, .ty UU], _, [.type TT, .type UU], k1 || k2, rfl, upd_same, .cons (.ty TT) (.cons (.ty UU) .nil), hty ▸ tyX_of (Dpm (Ex.trans cut_sub (Ex.new ht)) hd),
      kitAny_cons (kit_ty hk1) (fun q => kitAny_cons (kit_ty hk2) (fun q2 => by rw [q, q2]; exact kitAny_nil) fun q2 => by rw [q, q2]; rfl) (fun q => by rw [q]; rfl), kk _ _ (ex.trans (cut_ex (Ex.new ht))) (sd'.grow (Ex.new ht)) (.bl _)⟩⟩⟩

/-! ### a op b op c of ints -/
theorem pd_chain {op op' : CmpOp} {r r' : R2} {k1 k2 : Bool} {i j l : Int} (ho : OpR X (compareOp op) r) (ho' : OpR X (compareOp op') r') (ha : PD X a env (.int i) env1) (hb : PD X b env1 (.int j) env2) (hc : k1 = true → PD X c env2 (.int l) env2)
    (h1 : ∀ H Q, Q (.bl k1) H → r (.int i) (.int j) H Q) (h2 : k1 = true → ∀ H Q, Q (.bl k2) H → r' (.int j) (.int l) H Q) (hm : lastMarks [op, op'] [b, c] = false := by with_unfolding_all rfl) : PD X (.Compare a [op, op'] [b, c] pos) env (.bool (k1 && k2)) env2 := by
  cases k1 with
  | true =>
    exact pe_imp (pe_chain ho ho' ha hb (hc rfl) hm) fun σ H Q ⟨Γ, z, sd, kk⟩ => ⟨Γ, z, sd, fun v H' ex sd' hd => ⟨Γ, z, sd', fun u H2 ex2 sd2 hd2 => by
      cases hd
      cases hd2
      refine h1 _ _ ⟨true, rfl, ?_⟩
      refine iteT ?_
      refine ⟨Γ, z, sd2, fun w H3 ex3 sd3 hd3 => ?_⟩
      cases hd3
      exact h2 rfl _ _ (kk _ H3 (ex.trans (ex2.trans ex3)) sd3 (.bl _))⟩⟩
  | false =>
    exact pe_imp (pe_chain ho ho' ha hb (tc := fun _ _ _ => False) ⟨fun _ _ _ _ _ _ h => h.elim⟩ hm) fun σ H Q ⟨Γ, z, sd, kk⟩ => ⟨Γ, z, sd, fun v H' ex sd' hd => ⟨Γ, z, sd', fun u H2 ex2 sd2 hd2 => by
      cases hd
      cases hd2
      refine h1 _ _ ⟨false, rfl, ?_⟩
      refine iteF ?_
      exact kk _ H2 (ex.trans ex2) sd2 (.bl _)⟩⟩
theorem pd_leLe {i j l : Int} (ha : PD X a env (.int i) env1) (hb : PD X b env1 (.int j) env2) (hc : decide (i ≤ j) = true → PD X c env2 (.int l) env2) (hm : lastMarks [.LtE, .LtE] [b, c] = false := by with_unfolding_all rfl) : PD X (.Compare a [.LtE, .LtE] [b, c] pos) env (.bool (decide (i ≤ j) && decide (j ≤ l))) env2 :=
  pd_chain op_le op_le ha hb hc (fun H Q q => ⟨i, j, rfl, rfl, q⟩) (fun _ H Q q => ⟨j, l, rfl, rfl, q⟩) hm

/-! ### tuples of ints in order -/
theorem c_leT {ns ms : List Int} (hu : X.A.units < cLine) : BinD X (compareOp .LtE) (.tuple (ns.map .int)) (.tuple (ms.map .int))
    (.bool (Ob.lexAt (fun j => decide (ns.getD j 0 = ms.getD j 0)) (fun j => decide (ns.getD j 0 ≤ ms.getD j 0)) (decide (ns.length ≤ ms.length)) 0 (min ns.length ms.length))) := bin_of (op_leT hu) fun z x y H Q zd h1 h2 k => by
  cases h1 with
  | @tup p xs _ hs ha =>
    cases h2 with
    | @tup q ys _ hs2 ha2 =>
      have e1 := dpa_ints_eq ha
      have e2 := dpa_ints_eq ha2
      subst e1 e2
      exact ⟨p, q, ns, ms, rfl, rfl, ex_t cut_sub hs, ex_t cut_sub hs2, k _ H (Ex.refl _) (.bl _)⟩

/-! ### in a tuple of any data -/
def rInTD (K : PySem.W.Frag) : R2 := fun x y H Q => ∃ d ds, L2.Dp K H x d ∧ L2.Dp K H y (.tuple ds) ∧ SeqAt.shaped d = true ∧ SeqAt.shaped (.tuple ds) = true ∧ Q (.bl (ds.any fun z => PyData.eqv z d)) H
def rNotInTD (K : PySem.W.Frag) : R2 := fun x y H Q => ∃ d ds, L2.Dp K H x d ∧ L2.Dp K H y (.tuple ds) ∧ SeqAt.shaped d = true ∧ SeqAt.shaped (.tuple ds) = true ∧ Q (.bl (!ds.any fun z => PyData.eqv z d)) H
theorem op_inTD (hu : X.A.units + 65 < cLine) : OpR X (compareOp .In) (rInTD X.K) := by
  intro pins s σ H x y v u Q I rx ry h
  obtain ⟨d, ds, hd, he, sd, se, q⟩ := h
  obtain ⟨as, r1⟩ := Dp.reads I d x v hd rx
  obtain ⟨bs, r2⟩ := Dp.reads I (.tuple ds) y u he ry
  exact SeqAt.in_tuple_reads r2 r1 (SeqAt.canLay_of_shaped se) (SeqAt.canLay_of_shaped sd) (PyProof.Rows.room_in_shaped sd hu) ⟨.bl _, H, I, rfl, q⟩
theorem op_notInTD (hu : X.A.units + 65 < cLine) : OpR X (compareOp .NotIn) (rNotInTD X.K) := by
  intro pins s σ H x y v u Q I rx ry h
  obtain ⟨d, ds, hd, he, sd, se, q⟩ := h
  obtain ⟨as, r1⟩ := Dp.reads I d x v hd rx
  obtain ⟨bs, r2⟩ := Dp.reads I (.tuple ds) y u he ry
  exact SeqAt.notIn_tuple_reads r2 r1 (SeqAt.canLay_of_shaped se) (SeqAt.canLay_of_shaped sd) (PyProof.Rows.room_in_shaped sd hu) ⟨.bl _, H, I, rfl, q⟩
theorem c_inT (hu : X.A.units + 65 < cLine) (s1 : SeqAt.shaped d = true) (s2 : SeqAt.shaped (.tuple ds) = true) : BinD X (compareOp .In) d (.tuple ds) (.bool (ds.any fun z => PyData.eqv z d)) := bin_of (op_inTD hu) fun z x y H Q zd h1 h2 k =>
  ⟨d, ds, (Dpm cut_sub h1).toS s1, (Dpm cut_sub h2).toS s2, s1, s2, k _ H (Ex.refl _) (.bl _)⟩
theorem c_ninT (hu : X.A.units + 65 < cLine) (s1 : SeqAt.shaped d = true) (s2 : SeqAt.shaped (.tuple ds) = true) : BinD X (compareOp .NotIn) d (.tuple ds) (.bool (!ds.any fun z => PyData.eqv z d)) := bin_of (op_notInTD hu) fun z x y H Q zd h1 h2 k =>
  ⟨d, ds, (Dpm cut_sub h1).toS s1, (Dpm cut_sub h2).toS s2, s1, s2, k _ H (Ex.refl _) (.bl _)⟩

/-! ### list(range(n)), sorted of ints -/
theorem rgV_dp {K : PySem.W.Frag} {G : Hp} {lo hi : Int} : DpAll K G (rgV lo hi) (rgD lo hi) := by
  have h : ∀ l : List Nat, DpAll K G (l.map fun i => V.int (lo + (i : Nat))) (l.map fun i => PyData.int (lo + (i : Nat))) := fun l => by
    induction l with
    | nil => exact .nil
    | cons i l ih => exact .cons (.int _) ih
  exact h _
theorem pf_listRg {j : Int} {p p2 pos2 : Pos} (hc : X.calm = true) (hm : X.mg "list" = none) (hm2 : X.mg "range" = none) (ha : PD X a env (.int j) env1) (h1 : 0 ≤ j ∧ j ≤ 100000) (hg : Gl X "list" := by rfl) (hg2 : Gl X "range" := by rfl)
    (na : starEach [a] X.env = (false, eval a X.env) :: starEach [] X.env := by rfl) (nb : starEach [.Call (.Name "range" p2) [a] [] pos2] X.env = (false, eval (.Call (.Name "range" p2) [a] [] pos2) X.env) :: starEach [] X.env := by rfl) :
    PF X (.Call (.Name "list" p) [.Call (.Name "range" p2) [a] [] pos2] [] pos) env (rgD 0 j) env1 :=
  pe_imp (pe_listRg hc hg hm (prg_1 hg2 hm2 ha na) nb) fun σ H Q ⟨Γ, z, sd, kk⟩ => ⟨Γ, z, sd, fun v H' ex sd' hd => by
    cases hd
    exact ⟨j, rfl, RgOk.of_le (by omega) (by omega) (by omega) (by omega), fun q hq => kk q H' _ _ ex sd' (Ex.new hq) hq upd_same rgV_dp⟩⟩
def srt (ns : List Int) : List Int := ns.mergeSort (fun a b => decide (a ≤ b))
theorem srt_perm (ns : List Int) : (srt ns).Perm ns := List.mergeSort_perm _ _
theorem srt_pw (ns : List Int) : (srt ns).Pairwise (· ≤ ·) := by
  have h := List.pairwise_mergeSort (le := fun a b : Int => decide (a ≤ b)) (fun a b c h1 h2 => by simp at *; omega) (fun a b => by simp; omega) ns
  exact h.imp fun h => by simpa using h
theorem pw_unique : ∀ {l l' : List Int}, l.Perm l' → l.Pairwise (· ≤ ·) → l'.Pairwise (· ≤ ·) → l = l' := fun {l l'} p h h' =>
  p.eq_of_pairwise (fun a b _ _ h1 h2 => by omega) h h'
theorem f_sortedI {ns : List Int} : CalF X (.builtin "sorted") [.list (ns.map .int)] ((srt ns).map .int) := calF_of cr_sortedI fun z xs H Q zd h1 k => by
  cases h1 with
  | cons h1 h2 =>
    cases h2
    cases h1 with
    | @lst p ys _ hs ha =>
      have e1 := dpa_ints_eq ha
      subst e1
      refine ⟨p, ns, rfl, ex_l cut_sub hs, fun ns' q hp hw hq => ?_⟩
      have e : ns' = srt ns := pw_unique (hp.trans (srt_perm ns).symm) hw (srt_pw ns)
      rw [e]
      exact k q _ _ (Ex.new hq) hq upd_same dpa_ints
/-- a call of a built-in that gives a new list -/
theorem pf_callB {x : Str} {p : Pos} {id : String} {es' : List Expr} (hc : CalF X (.builtin id) ds es) (hm : X.mg x = none) (ha : PAD X (e :: es') env ds env1) (hg : Gl X x := by rfl) (hv : bootBuiltins x = some (.builtin id) := by decide +kernel) (hn : x ≠ "__name__" := by decide) (hdb : (x == ("__debug__" : Str)) = false := by decide)
    (he : starEach (e :: es') X.env = (false, eval e X.env) :: starEach es' X.env := by rfl) (hpl : (backTo pos (starEach es' X.env)).any (·.1) = false := by rfl) : PF X (.Call (.Name x p) (e :: es') [] pos) env es env1 :=
  pe_imp (pe_callB hc hg hm hv ha hn hdb he hpl) fun σ H Q ⟨Γ, z, sd, kk⟩ => ⟨Γ, z, sd, fun vs H' ex sd' h1 => ⟨z, sd'.zd, h1, fun p H'' us ex' hp hl hd => kk p H' H'' us ex sd' ex' hp hl hd⟩⟩
theorem f_allB {bs : List Bool} (hc : X.calm = true) : CalD X (.builtin "all") [.list (bs.map .bool)] (.bool (bs.all id)) := cal_of (cr_all hc) fun z xs H Q zd h1 k => by
  cases h1 with
  | cons h1 h2 =>
    cases h2
    cases h1 with
    | @lst p ys _ hs ha =>
      have e1 : ys = bs.map V.bl := by
        clear hs k
        induction bs generalizing ys with
        | nil => cases ha; rfl
        | cons b bs ih =>
          cases ha with
          | cons q1 q2 =>
            cases q1
            rw [ih q2]
            rfl
      subst e1
      exact ⟨p, bs, rfl, ex_l cut_sub hs, k _ H (Ex.refl _) (.bl _)⟩
theorem f_sumI {ns : List Int} (hc : X.calm = true) : CalD X (.builtin "sum") [.list (ns.map .int)] (.int ns.sum) := cal_of (cr_sum hc) fun z xs H Q zd h1 k => by
  cases h1 with
  | cons h1 h2 =>
    cases h2
    cases h1 with
    | @lst p ys _ hs ha =>
      have e1 := dpa_ints_eq ha
      subst e1
      exact ⟨p, ns, rfl, ex_l cut_sub hs, k _ H (Ex.refl _) (.int _)⟩
end
end NB

set_option Elab.async false
set_option linter.all false
set_option maxRecDepth 100000
set_option maxHeartbeats 4000000
/-! defs: what stands at a name; a call by it; the mirrors' plain data -/
namespace NB
open PySem L2 Evl
/-- the def st stands at the module's name x -/
structure Dfn (K : PySem.W.Frag) (mg : Str → Option Value) (x : Str) (st : Stmt) (ps : List Str) : Prop where
  ex : ∃ f fd, Fun K x x st f fd ∧ mg x = some (.ref f) ∧ Binds K fd ps []
/-- what stands at x keeps the promise sp -/
structure Cal (P : Program) (w : World) (K : PySem.W.Frag) (mg : Str → Option Value) (base : Heap) (x : Str) (k : Nat) (ps : List Str) (sp : Sp) : Prop where
  ex : ∃ f fd, FnOk P w K mg base CX0 k f fd ps sp ∧ mg x = some (.ref f) ∧ PySem.W.keepIn K (.ref f) = true ∧ Binds K fd ps []
theorem Dfn.cal {P : Program} {w : World} {K : PySem.W.Frag} {mg : Str → Option Value} {base : Heap} {x : Str} {st : Stmt} {ps : List Str} {k : Nat} {sp : Sp} (D : Dfn K mg x st ps) (h : ∀ f fd, Fun K x x st f fd → FnOk P w K mg base CX0 k f fd ps sp) : Cal P w K mg base x k ps sp := by
  obtain ⟨f, fd, F, hm, hb⟩ := D.ex
  exact ⟨f, fd, h f fd F, hm, F.kp, hb⟩
theorem Cal.mono {P : Program} {w : World} {K : PySem.W.Frag} {mg : Str → Option Value} {base : Heap} {x : Str} {ps : List Str} {k j : Nat} {sp : Sp} (C : Cal P w K mg base x k ps sp) (h : k ≤ j) : Cal P w K mg base x j ps sp := by
  obtain ⟨f, fd, F, r⟩ := C.ex
  exact ⟨f, fd, F.mono h, r⟩
section
variable {X : Cx} {env env1 env' : En} {d : PyData} {ds row row' : List PyData} {e : Expr} {es : List Expr} {p pos : Pos} {k j n : Nat} {ps : List Str} {x : Str} {R : List PyData → PyData → Prop} {RR : List PyData → List PyData → PyData → List PyData → Prop}
theorem pd_my (C : Cal X.prog X.w X.K X.mg X.base x k ps (spD X.K n R)) (hr : Room j X.A) (ha : PAD X (e :: es) env ds env1) (hR : R ds d) (hj : k ≤ j := by decide) (hn : ds.length = n := by rfl) (hg : Gl X x := by rfl) (hdb : (x == ("__debug__" : Str)) = false := by decide)
    (he : starEach (e :: es) X.env = (false, eval e X.env) :: starEach es X.env := by rfl) (hpl : (backTo pos (starEach es X.env)).any (·.1) = false := by rfl) : PD X (.Call (.Name x p) (e :: es) [] pos) env d env1 := by
  obtain ⟨f, fd, F, hm, hk, hb⟩ := C.ex
  exact pd_call F (hr.mono hj) hm hk hb pass0 ha hR hn hg hdb he hpl
/-- f(row, ..): the caller's row, or one's own -/
theorem pd_myP (i : Nat) {xr : Str} {pr : Pos} (C : Cal X.prog X.w X.K X.mg X.base x k ps (spR X.K n RR)) (hr : Room j X.A) (ha : PAD X es env ds env1) (hR : RR row ds d row') (hs : env1[i]? = some (.p row) := by rfl) (hsl : env[i]? = some (.p row) := by rfl) (he' : env' = env1.set i (.p row') := by rfl) (hj : k ≤ j := by decide) (hn : ds.length + 1 = n := by rfl) (hg : Gl X x := by rfl)
    (hN : X.N[i]? = some xr := by rfl) (hv : Vis X.env.scope xr := by first | exact Or.inl rfl | exact Or.inr (Or.inl rfl) | exact Or.inr (Or.inr rfl)) (hb1 : (xr == ("__debug__" : Str)) = false := by decide) (hcd : (xr == ("__classdict__" : Str)) = false := by decide)
    (hs1 : starEach (.Name xr pr :: es) X.env = (false, eval (.Name xr pr) X.env) :: starEach es X.env := by rfl) (hdb : (x == ("__debug__" : Str)) = false := by decide) (hpl : (backTo pos (starEach es X.env)).any (·.1) = false := by rfl) : PD X (.Call (.Name x p) (.Name xr pr :: es) [] pos) env d env' := by
  obtain ⟨f, fd, F, hm, hk, hb⟩ := C.ex
  exact pd_callR i F (hr.mono hj) hm hk hb pass0 ha hs (.inr ⟨rfl, he'⟩) hsl hR hn hg hN hv hb1 hcd hs1 hdb hpl
theorem pd_myL (i : Nat) {xr : Str} {pr : Pos} (C : Cal X.prog X.w X.K X.mg X.base x k ps (spR X.K n RR)) (hr : Room j X.A) (ha : PAD X es env ds env1) (hR : RR row ds d row') (hs : env1[i]? = some (.l row) := by rfl) (hsl : env[i]? = some (.l row) := by rfl) (he' : env' = env1.set i (.l row') := by rfl) (hj : k ≤ j := by decide) (hn : ds.length + 1 = n := by rfl) (hg : Gl X x := by rfl)
    (hN : X.N[i]? = some xr := by rfl) (hv : Vis X.env.scope xr := by first | exact Or.inl rfl | exact Or.inr (Or.inl rfl) | exact Or.inr (Or.inr rfl)) (hb1 : (xr == ("__debug__" : Str)) = false := by decide) (hcd : (xr == ("__classdict__" : Str)) = false := by decide)
    (hs1 : starEach (.Name xr pr :: es) X.env = (false, eval (.Name xr pr) X.env) :: starEach es X.env := by rfl) (hdb : (x == ("__debug__" : Str)) = false := by decide) (hpl : (backTo pos (starEach es X.env)).any (·.1) = false := by rfl) : PD X (.Call (.Name x p) (.Name xr pr :: es) [] pos) env d env' := by
  obtain ⟨f, fd, F, hm, hk, hb⟩ := C.ex
  exact pd_callR i F (hr.mono hj) hm hk hb pass0 ha hs (.inl ⟨rfl, he'⟩) hsl hR hn hg hN hv hb1 hcd hs1 hdb hpl
theorem Room.u65 {A : Around} (r : Room k A) : A.units + 65 < cLine := by have := r.un; omega
theorem Room.u64 {A : Around} (r : Room k A) : A.units + 64 < cLine := by have := r.un; omega
theorem Room.u0 {A : Around} (r : Room k A) : A.units < cLine := by have := r.un; omega
end
/-! ### plain data -/
abbrev Pr := Int × Int
def prd (p : Pr) : PyData := .tuple [.int p.1, .int p.2]
def iD (ns : List Int) : List PyData := ns.map .int
def pD (ps : List Pr) : List PyData := ps.map prd
/-- ints from lo to hi - 1 -/
def upto (lo hi : Int) : List Int := (List.range (hi - lo).toNat).map fun i => lo + (i : Nat)
theorem rgD_eq (lo hi : Int) : rgD lo hi = iD (upto lo hi) := by simp [rgD, iD, upto]
theorem mem_upto {lo hi k : Int} : k ∈ upto lo hi ↔ lo ≤ k ∧ k < hi := by
  unfold upto
  rw [List.mem_map]
  constructor
  · rintro ⟨i, hi', rfl⟩
    have := List.mem_range.mp hi'
    omega
  · rintro ⟨h1, h2⟩
    exact ⟨(k - lo).toNat, List.mem_range.mpr (by omega), by omega⟩
theorem upto_len (lo hi : Int) : (upto lo hi).length = (hi - lo).toNat := by simp [upto]
theorem upto_get {lo hi : Int} {i : Nat} (h : i < (hi - lo).toNat) : (upto lo hi)[i]? = some (lo + (i : Nat)) := by simp [upto, h]
theorem upto_succ {lo hi : Int} (h : lo ≤ hi) : upto lo (hi + 1) = upto lo hi ++ [hi] := by
  unfold upto
  have e : (hi + 1 - lo).toNat = (hi - lo).toNat + 1 := by omega
  rw [e, List.range_succ, List.map_append]
  congr 1
  show [lo + (((hi - lo).toNat : Nat) : Int)] = [hi]
  rw [show lo + (((hi - lo).toNat : Nat) : Int) = hi by omega]
theorem upto_nil {lo hi : Int} (h : hi ≤ lo) : upto lo hi = [] := by
  unfold upto
  rw [show (hi - lo).toNat = 0 by omega]
  rfl
theorem upto_pw (lo hi : Int) : (upto lo hi).Pairwise (· < ·) := by
  unfold upto
  rw [List.pairwise_map]
  refine List.pairwise_lt_range.imp fun h => ?_
  omega
theorem upto_nodup (lo hi : Int) : (upto lo hi).Nodup := (upto_pw lo hi).imp fun h => by omega
theorem iD_get {ns : List Int} {i : Nat} {d : PyData} (h : (iD ns)[i]? = some d) : ∃ n, ns[i]? = some n ∧ d = .int n := by
  unfold iD at h
  rw [List.getElem?_map] at h
  cases e : ns[i]? with
  | none => rw [e] at h; cases h
  | some n => rw [e] at h; exact ⟨n, rfl, (Option.some.inj h).symm⟩
theorem pD_get {ns : List Pr} {i : Nat} {d : PyData} (h : (pD ns)[i]? = some d) : ∃ n, ns[i]? = some n ∧ d = prd n := by
  unfold pD at h
  rw [List.getElem?_map] at h
  cases e : ns[i]? with
  | none => rw [e] at h; cases h
  | some n => rw [e] at h; exact ⟨n, rfl, (Option.some.inj h).symm⟩
theorem mem_iD {ns : List Int} {d : PyData} (h : d ∈ iD ns) : ∃ n, n ∈ ns ∧ d = .int n := by
  obtain ⟨n, h1, h2⟩ := List.mem_map.mp h
  exact ⟨n, h1, h2.symm⟩
theorem mem_pD {ns : List Pr} {d : PyData} (h : d ∈ pD ns) : ∃ n, n ∈ ns ∧ d = prd n := by
  obtain ⟨n, h1, h2⟩ := List.mem_map.mp h
  exact ⟨n, h1, h2.symm⟩
theorem erase_map {α β : Type} (f : α → β) : ∀ (l : List α) (i : Nat), (l.map f).eraseIdx i = (l.eraseIdx i).map f
  | [], _ => rfl
  | _ :: _, 0 => rfl
  | x :: l, i + 1 => by simp [erase_map f l i]
/-! ### == of such data -/
theorem eqv_int (a b : Int) : PyData.eqv (.int a) (.int b) = decide (a = b) := by simp [PyData.eqv, Bool.beq_eq_decide_eq]
theorem eqv_pr (p q : Pr) : PyData.eqv (prd p) (prd q) = decide (p = q) := by
  obtain ⟨a, b⟩ := p
  obtain ⟨c, d⟩ := q
  have e : PyData.eqv (prd (a, b)) (prd (c, d)) = ((a == c) && ((b == d) && true)) := by simp only [prd, PyData.eqv, PyData.eqvAll]
  rw [e]
  by_cases h1 : a = c
  · by_cases h2 : b = d
    · subst h1 h2; simp
    · simp [h1, h2]
  · simp [h1]
theorem any_int (ns : List Int) (a : Int) : ((iD ns).any fun z => PyData.eqv z (.int a)) = decide (a ∈ ns) := by
  unfold iD
  rw [List.any_map]
  induction ns with
  | nil => simp
  | cons n ns ih =>
    rw [List.any_cons, ih]
    show (PyData.eqv (.int n) (.int a) || _) = _
    rw [eqv_int]
    by_cases h : n = a
    · subst h; simp
    · simp [h, Ne.symm h, eq_comm]
theorem any_pr (ns : List Pr) (a : Pr) : ((pD ns).any fun z => PyData.eqv z (prd a)) = decide (a ∈ ns) := by
  unfold pD
  rw [List.any_map]
  induction ns with
  | nil => simp
  | cons n ns ih =>
    rw [List.any_cons, ih]
    show (PyData.eqv (prd n) (prd a) || _) = _
    rw [eqv_pr]
    by_cases h : n = a
    · subst h; simp
    · simp [h, Ne.symm h, eq_comm]
/-! ### the shape that == asks -/
theorem sh_of {d : PyData} (h1 : d.canLay0 = true) (h2 : d.depth ≤ 64) : SeqAt.shaped d = true := by
  show (d.canLay0 && decide (d.depth ≤ 64)) = true
  rw [h1, decide_eq_true h2]
  rfl
theorem lay_all {ds : List PyData} (h : ∀ d ∈ ds, d.canLay0 = true) : PyData.canLayAll0 ds = true := by
  induction ds with
  | nil => rfl
  | cons d ds ih =>
    rw [PyData.canLayAll0, h d List.mem_cons_self, ih fun e he => h e (List.mem_cons_of_mem _ he)]
    rfl
theorem depth_all {ds : List PyData} {n : Nat} (h : ∀ d ∈ ds, d.depth ≤ n) : PyData.depthAll ds ≤ n := by
  induction ds with
  | nil => simp [PyData.depthAll]
  | cons d ds ih =>
    have h1 := h d List.mem_cons_self
    have h2 := ih fun e he => h e (List.mem_cons_of_mem _ he)
    simp only [PyData.depthAll]
    omega
/-- plain data: laid out, of depth n at most -/
structure Fl (n : Nat) (d : PyData) : Prop where
  lay : d.canLay0 = true
  dep : d.depth ≤ n
theorem Fl.sh {n : Nat} {d : PyData} (h : Fl n d) (hn : n ≤ 64 := by decide) : SeqAt.shaped d = true := sh_of h.lay (Nat.le_trans h.dep hn)
theorem Fl.mono {n m : Nat} {d : PyData} (h : Fl n d) (hn : n ≤ m) : Fl m d := ⟨h.lay, Nat.le_trans h.dep hn⟩
theorem fl_int (n : Nat) (i : Int) : Fl n (.int i) := ⟨by simp [PyData.canLay0], by simp [PyData.depth]⟩
theorem fl_bool (n : Nat) (i : Bool) : Fl n (.bool i) := ⟨by simp [PyData.canLay0], by simp [PyData.depth]⟩
theorem fl_non (n : Nat) : Fl n .none := ⟨by simp [PyData.canLay0], by simp [PyData.depth]⟩
theorem fl_str (n : Nat) {i : Str} (h : PyData.strOk i = true) : Fl n (.str i) := ⟨by simp [PyData.canLay0, h], by simp [PyData.depth]⟩
theorem fl_list {n : Nat} {ds : List PyData} (h : ∀ d ∈ ds, Fl n d) : Fl (n + 1) (.list ds) := ⟨by simp only [PyData.canLay0]; exact lay_all fun d hd => (h d hd).lay, by
  have := depth_all fun d hd => (h d hd).dep
  simp only [PyData.depth]
  omega⟩
theorem fl_tuple {n : Nat} {ds : List PyData} (h : ∀ d ∈ ds, Fl n d) : Fl (n + 1) (.tuple ds) := ⟨by simp only [PyData.canLay0]; exact lay_all fun d hd => (h d hd).lay, by
  have := depth_all fun d hd => (h d hd).dep
  simp only [PyData.depth]
  omega⟩
theorem fl_prd (p : Pr) : Fl 1 (prd p) := fl_tuple (n := 0) fun d hd => by
  rcases List.mem_cons.mp hd with e | hd
  · rw [e]; exact fl_int 0 _
  · rcases List.mem_cons.mp hd with e | hd
    · rw [e]; exact fl_int 0 _
    · cases hd
theorem fl_iD (ns : List Int) : ∀ d ∈ iD ns, Fl 0 d := fun d hd => by
  obtain ⟨n, _, rfl⟩ := mem_iD hd
  exact fl_int 0 n
theorem fl_pD (ns : List Pr) : ∀ d ∈ pD ns, Fl 1 d := fun d hd => by
  obtain ⟨n, _, rfl⟩ := mem_pD hd
  exact fl_prd n
end NB

set_option Elab.async false
set_option linter.all false
set_option maxRecDepth 100000
set_option maxHeartbeats 4000000
/-! the logic's rules: f-strings, defs that raise, try -/
namespace NB
open PySem L2 Evl PyProof.Rows
section
variable {X : Cx} {env env1 env2 env' : En} {d : PyData} {ds : List PyData} {e a b c tg : Expr} {es : List Expr} {pos : Pos} {st : Stmt} {rest body : List Stmt}
/-! ### f-strings of texts and ints -/
theorem pd_fmt {i : Int} (he : PD X e env (.int i) env1) (hl : i.natAbs.log2 < 1920 := by decide +kernel) : PD X (.FormattedValue e (-1) none pos) env (.str (toString i)) env1 :=
  pe_imp (pe_fmt he) fun σ H Q ⟨Γ, z, sd, k⟩ => ⟨Γ, z, sd, fun v H' ex sd' hd => by
    cases hd
    exact .inr ⟨i, rfl, hl, k _ H' ex sd' (.str _)⟩⟩
inductive PJD (X : Cx) (env : En) : List Expr → List Str → Prop where
  | nil : PJD X env [] []
  | cons {e : Expr} {y : Str} {es : List Expr} {ys : List Str} (h : PD X e env (.str y) env) (r : PJD X env es ys) : PJD X env (e :: es) (y :: ys)
theorem PJD.pj {es : List Expr} {ys : List Str} (h : PJD X env es ys) : PJ X es (ys.map fun y => tD X.K X.w env (.str y) env) := by
  induction h with
  | nil => exact .nil
  | cons h r ih => exact .cons h ih
/-- the text fits, part by part -/
def FitJ : Str → List Str → Prop
  | _, [] => True
  | acc, y :: ys => (acc ++ y).length ≤ sizeLine ∧ FitJ (acc ++ y) ys
def catJ (acc : Str) (ys : List Str) : Str := ys.foldl (fun a y => a ++ y) acc
theorem tJs_of : ∀ (ys : List Str) (acc : Str) {σ : L2.St} {H : Hp} {Q : Str → Hp → Prop}, FitJ acc ys → (∃ Γ z, SD X.K X.w Γ z H σ env ∧ ∀ H', Ex (cut H z) (cut H' z) → SD X.K X.w Γ z H' σ env → Q (catJ acc ys) H') → tJs (ys.map fun y => tD X.K X.w env (.str y) env) acc σ H Q
  | [], acc, σ, H, Q, _, ⟨Γ, z, sd, k⟩ => k H (Ex.refl _) sd
  | y :: ys, acc, σ, H, Q, hf, ⟨Γ, z, sd, k⟩ => ⟨Γ, z, sd, fun v H' ex sd' hd => by
    cases hd
    exact ⟨y, rfl, hf.1, tJs_of ys (acc ++ y) hf.2 ⟨Γ, z, sd', fun H'' ex' sd'' => k H'' (ex.trans ex') sd''⟩⟩⟩
theorem pd_joined {v1 v2 : Expr} {rs : List Expr} {ys : List Str} (h : PJD X env (v1 :: v2 :: rs) ys) (hf : FitJ Str.empty ys) : PD X (.JoinedStr (v1 :: v2 :: rs) pos) env (.str (catJ Str.empty ys)) env :=
  pe_imp (pe_joined h.pj) fun σ H Q ⟨Γ, z, sd, k⟩ => tJs_of ys Str.empty hf ⟨Γ, z, sd, fun H' ex sd' => k _ H' ex sd' (.str _)⟩

/-! ### what raises -/
/-- an expression that raises C -/
def tY (K : PySem.W.Frag) (w : World) (W : WX) (C : Addr) (env : En) (xp : En → Prop) : TE := fun σ H _ => ∃ Γ z, SD K w Γ z H σ env ∧ ∀ env' H', xp env' → Ex (cut H z) (cut H' z) → SD K w Γ z H' σ env' → W (.ref C) none σ H'
/-- a statement that raises C -/
def tZ (K : PySem.W.Frag) (w : World) (W : WX) (C : Addr) (env : En) (xp : En → Prop) : TS := fun _ σ H => ∃ Γ z, SD K w Γ z H σ env ∧ ∀ env' z' σ' H', xp env' → Ex (cut H z) (cut H' z') → SD K w Γ z' H' σ' env' → W (.ref C) none σ' H'
abbrev PZ (X : Cx) (W : WX) (C : Addr) (e : Expr) (env : En) (xp : En → Prop) : Prop := PE X e (tY X.K X.w W C env xp)
abbrev HZ1 (X : Cx) (W : WX) (C : Addr) (st : Stmt) (env : En) (xp : En → Prop) : Prop := PS X st (tZ X.K X.w W C env xp)
abbrev HZ (X : Cx) (W : WX) (C : Addr) (st : List Stmt) (env : En) (xp : En → Prop) : Prop := PSs X st (tZ X.K X.w W C env xp)
variable {W : WX} {C : Addr} {xp : En → Prop}
theorem hz_one (h1 : PS X st (tS X.K X.w env { nx := fun e => e = env1 })) (h2 : HZ X W C rest env1 xp) : HZ X W C (st :: rest) env xp :=
  pss_imp (pss_cons h1 h2) fun D σ H ⟨Γ, z, sd, k⟩ => ⟨Γ, z, sd, fun env' z' σ' H' q ex sd' => by
    have q2 : env' = env1 := q
    subst q2
    exact ⟨Γ, z', sd', fun e2 z2 σ2 H2 hx ex2 sd2 => k e2 z2 σ2 H2 hx (ex.trans ex2) sd2⟩, fun _ _ _ _ _ _ q => q.elim, fun _ _ _ _ q => q.elim, fun _ _ _ _ q => q.elim⟩
theorem hz_st (h : HZ1 X W C st env xp) : HZ X W C (st :: rest) env xp :=
  pss_imp (pss_cons h (h_never (X := X))) fun D σ H q => q
theorem hz_eq (l : env = env1) (h : HZ X W C rest env1 xp) : HZ X W C rest env xp := l ▸ h
theorem hz_expr (he : PZ X W C e env xp) (hs : swapsWith e none pos.line X.env = pure false := by rfl) : HZ1 X W C (.Expr e pos) env xp :=
  ps_imp (ps_expr he hs) fun D σ H ⟨Γ, z, sd, k⟩ => ⟨Γ, z, sd, fun env' H' hx ex sd' => k env' z σ H' hx ex sd'⟩
theorem hz_ret (he : PZ X W C e env xp) : HZ1 X W C (.Return (some e) pos) env xp :=
  ps_imp (ps_ret he) fun D σ H ⟨Γ, z, sd, k⟩ => ⟨Γ, z, sd, fun env' H' hx ex sd' => k env' z σ H' hx ex sd'⟩
theorem hz_asg (i : Nat) (hN : X.N.Nodup) {x : Str} {px : Pos} (he : PZ X W C e env xp) (hi : X.N[i]? = some x := by rfl) (hx : Loc X.env.scope x := by first | exact Or.inl rfl | exact Or.inr rfl)
    (hs : swapsWith e (some (.Name x px)) pos.line X.env = pure false := by rfl) (hf : X.fn x = true ∨ X.env.scope.names.lookup x = some .local := by first | exact .inl rfl | exact .inr rfl) : HZ1 X W C (.Assign [.Name x px] e pos) env xp :=
  ps_imp (ps_set hN hi hx he hs hf) fun D σ H ⟨Γ, z, sd, k⟩ => ⟨Γ, z, sd, fun env' H' hx ex sd' => k env' z σ H' hx ex sd'⟩
theorem hz_if {s1 s2 : List Stmt} (hc : PB X c env true env1) (h : HZ X W C s1 env1 xp) : HZ1 X W C (.If c s1 s2 pos) env xp :=
  ps_imp (ps_if hc h h_never) fun D σ H ⟨Γ, z, sd, k⟩ => ⟨Γ, z, sd, fun H' ex sd' => by
    refine iteT ?_
    exact ⟨Γ, z, sd', fun e2 z2 σ2 H2 hx ex2 sd2 => k e2 z2 σ2 H2 hx (ex.trans ex2) sd2⟩⟩
/-- a test that raises -/
theorem hz_ift {s1 s2 : List Stmt} {t : TT} (hc : PT X c t) (ht : ∀ σ H Q, tY X.K X.w W C env xp σ H (fun _ _ => True) → t σ H Q) : HZ1 X W C (.If c s1 s2 pos) env xp :=
  ps_imp (ps_if hc (h_never (X := X) (sts := s1)) (h_never (X := X) (sts := s2))) fun D σ H ⟨Γ, z, sd, k⟩ => ht σ H _ ⟨Γ, z, sd, fun env' H' hx ex sd' => k env' z σ H' hx ex sd'⟩
/-- an own class of errors without __init__ -/
structure ExC (X : Cx) (x : Str) (C : Addr) : Prop where
  ex : PySem.W.excIn X.K C [.type "ValueError", .type "Exception", .type "BaseException", .type "object"] "ValueError.__new__" = true
  gC : X.mg x = some (.ref C)
  kC : PySem.W.keepIn X.K (.ref C) = true
  bC : PySem.W.subIn X.K (.ref C) (.type "BaseException") = some true
  tC : PySem.W.typeIn X.K (.ref C) = some (.type "type")
/-- X(e), one argument -/
theorem pmk_one {x : Str} {ta : TE} {p : Pos} (T : ExC X x C) (ha : PE X a ta) (hg : Gl X x) (hdb : (x == ("__debug__" : Str)) = false)
    (he : starEach [a] X.env = (false, eval a X.env) :: starEach [] X.env) (hpl : (backTo pos (starEach [] X.env)).any (·.1) = false) :
    PMk X (.Call (.Name x p) [a] [] pos) (fun σ H Q => ta σ H fun v H1 => [v].length ≤ 1 ∧ Q (.ref C) none H1) := by
  intro pn sh σ H Q inv hw
  have args : PA X [a] (tCons ta tNil) := pa_cons ha pa_nil he
  refine wpAny_Call_Name_kw (ld_glob inv hg T.gC ?_ hdb)
  have run := args.run pos pn sh σ H (fun l H1 => l.length ≤ 1 ∧ Q (.ref C) none H1) inv hw
  refine PySem.W.callWith_K (h₀ := X.base) inv.ok.mod.kin T.kC (thn run fun vals sh1 got => ?_) he hpl
  obtain ⟨l, H1, inv1, rel, hlen, hq⟩ := got
  refine ⟨inv1.kIn, ?_⟩
  show wpAny _ _ (call (.ref C) vals) _ _ _
  have len1 : vals.length ≤ sizeLine := by
    rw [← rel.length, sizeLine_eq]
    omega
  obtain ⟨bm, N, nm, qn, bs, hdct, sn, sub, ab, col, dd, k0, k1, k2, k3, k5, mN, hC, hN, hni, tail⟩ := exc_obj inv1.kIn T.ex
  refine wpAny_call_exc_subT PySem.F.excBase_ValueError tail hC hN hni (fun hp' er made => ?_) len1
  exact mk_of inv1 made (raises_own T.bC T.tC) hq (inv1.hok.gone made.new)
theorem hz_raise {x : Str} {p pos2 : Pos} (tk : Takes X W) (hc : X.calm = true) (T : ExC X x C) (ha : PD X a env d env1) (k : xp env1) (hg : Gl X x := by rfl) (hdb : (x == ("__debug__" : Str)) = false := by decide)
    (he : starEach [a] X.env = (false, eval a X.env) :: starEach [] X.env := by rfl) (hpl : (backTo pos (starEach [] X.env)).any (·.1) = false := by rfl) :
    HZ1 X W C (.Raise (some (.Call (.Name x p) [a] [] pos)) none pos2) env xp :=
  ps_imp (ps_raise hc tk (pmk_one T ha hg hdb he hpl)) fun D σ H ⟨Γ, z, sd, kk⟩ => ⟨Γ, z, sd, fun v H' ex sd' _ => ⟨Nat.le_refl 1, kk env1 z σ H' k ex sd'⟩⟩

/-! ### a def that raises -/
def spE (K : PySem.W.Frag) (n : Nat) (C : Addr) (R : List PyData → Prop) : Sp := fun vs H _ E => vs.length = n ∧ ∃ z ds, (∀ a, z a = true → H a ≠ none) ∧ DpAll K (cut H z) vs ds ∧ R ds ∧ ∀ H', Ex H H' → E (.ref C) none H'
structure CalE (P : Program) (w : World) (K : PySem.W.Frag) (mg : Str → Option Value) (base : Heap) (x : Str) (k : Nat) (ps : List Str) (sp : Sp) : Prop where
  ex : ∃ f fd, FnOk P w K mg base (L2.CX P w) k f fd ps sp ∧ mg x = some (.ref f) ∧ PySem.W.keepIn K (.ref f) = true ∧ Binds K fd ps []
end
section
variable {P Pg : Program} {w : World} {K : PySem.W.Frag} {mg : Str → Option Value} {base : Heap}
theorem Dfn.calE {x : Str} {st : Stmt} {ps : List Str} {k : Nat} {sp : Sp} (D : Dfn K mg x st ps) (h : ∀ f fd, Fun K x x st f fd → FnOk P w K mg base (L2.CX P w) k f fd ps sp) : CalE P w K mg base x k ps sp := by
  obtain ⟨f, fd, F, hm, hb⟩ := D.ex
  exact ⟨f, fd, h f fd F, hm, F.kp, hb⟩
theorem fnE {x qual : Str} {st : Stmt} {f : Addr} {fd : FuncData} {N ps : List Str} {k n m : Nat} {C : Addr} {R : List PyData → Prop} (F : Fun K x qual st f fd) (S : FnScope N ps (defScope st)) (hn : n = ps.length) (hm : m = N.length - n)
    (hbody : ∀ (cdv : Value) (A : Around) (outer : List Env) (s : Shared) (H : Hp) (E : XK), Room k (A.deeper (PyProof.Rows.envOfC qual (defScope st) s.heap.objs.size f cdv)) → ∀ ds, R ds →
      Takes (cxOf (L2.CX Pg w) Pg w K mg base N qual (defScope st) f cdv A outer s H E) (fun cls d _ H => E cls d H) →
      HZ (cxOf (L2.CX Pg w) Pg w K mg base N qual (defScope st) f cdv A outer s H E) (fun cls d _ H => E cls d H) C (defBody st) (startE ds m) (fun _ => True)) : FnOk Pg w K mg base (L2.CX Pg w) (k + 1) f fd ps (spE K n C R) := by
  refine F.okX S (fun vs H Q E h => by rw [h.1, hn]) fun cdv A outer s H vs Q E hr h => ?_
  obtain ⟨hl, z, ds, zd, ha, hR, kk⟩ := h
  refine ⟨_, hbody cdv A outer s H E hr ds hR (takes_of rfl rfl rfl rfl), ?_⟩
  have sd := sd_start (w := w) (N := N) (m := m) zd ha (by rw [hm, hl])
  exact ⟨_, z, sd, fun env' z' σ' H' _ ex sd' => kk H' fun a o q' => sd'.ext a o rfl q'⟩
end
section
variable {X : Cx} {env env1 env2 env' : En} {d : PyData} {ds : List PyData} {e a b c tg : Expr} {es : List Expr} {p pos : Pos} {st : Stmt} {rest body : List Stmt} {W : WX} {C : Addr} {xp : En → Prop} {R : List PyData → Prop} {ps : List Str} {k j n : Nat} {x : Str}
/-- a call that raises -/
theorem pz_my (G : CalE X.prog X.w X.K X.mg X.base x k ps (spE X.K n C R)) (hr : Room j X.A) (tk : Takes X W) (ha : PAD X (e :: es) env ds env1) (hR : R ds) (hx : xp env1) (hj : k ≤ j := by decide) (hn : ds.length = n := by rfl) (hg : Gl X x := by rfl) (hdb : (x == ("__debug__" : Str)) = false := by decide)
    (he : starEach (e :: es) X.env = (false, eval e X.env) :: starEach es X.env := by rfl) (hpl : (backTo pos (starEach es X.env)).any (·.1) = false := by rfl) : PZ X W C (.Call (.Name x p) (e :: es) [] pos) env xp := by
  obtain ⟨f, fd, F, hm, hk, hb⟩ := G.ex
  refine pe_imp (pe_callS F (hr.mono hj) hg hm hk hb (fun σ => passAt tk σ) ha hdb he hpl) fun σ H Q ⟨Γ, z, sd, kk⟩ => ⟨Γ, z, sd, fun vs H' ex sd' hd => ?_⟩
  exact ⟨by rw [dpa_len hd]; exact hn, z, ds, sd'.zd, hd, hR, fun H'' ex' => kk env1 H'' hx (ex.trans (cut_ex ex')) (sd'.grow ex')⟩

/-! ### try -/
variable {Q : Post} {x' nm : Str} {cv : Value} {b₀ : Stmt} {suite : List Stmt} {np pos' : Pos}
/-- the body raises C, the clause names it: the suite runs -/
theorem hs_tryAs (i : Nat) (hs : X.stack = X.env :: X.outer) (hf : X.env.frame = some X.env.locals) (hN : X.N.Nodup) (hc : Names X x' cv) (hm : PySem.W.exmOne X.K (.ref C) cv = some true)
    (hb : ∀ (W : WX) (pn : List (Addr × Obj)) (xe : Value → Shared → Prop), Takes (X.tr pn xe) W → HZ (X.tr pn xe) W C body env xp)
    (hsu : ∀ (a : Addr) (oe : Obj) (cls : Value) (d : Option Addr) (pn : List (Addr × Obj)) (e : En), xp e → HD (X.suite a ((a, oe) :: pn)) (b₀ :: suite) (e.set i .u) { nx := fun e => Q.nx (e.set i .u), rt := Q.rt, bk := fun e => Q.bk (e.set i .u), ct := fun e => Q.ct (e.set i .u) })
    (hi : X.N[i]? = some nm := by rfl) (hln : X.env.kindOf nm = some .local := by rfl) :
    HD1 X (.Try body [.ExceptHandler (some (.Name x' np)) (some nm) (b₀ :: suite) pos'] [] [] pos) env Q := by
  have T0 : Takes X (fun _ _ _ _ => False) := L2.takes0
  refine ps_imp (ps_try_as (i := i) (tb := fun W => tZ X.K X.w W C env xp) (Wout := fun _ _ _ _ => False)
    (ts := fun a cls d => fun D σ H => ∃ e, xp e ∧ tS X.K X.w (e.set i .u) { nx := fun e => Q.nx (e.set i .u), rt := Q.rt, bk := fun e => Q.bk (e.set i .u), ct := fun e => Q.ct (e.set i .u) } D σ H)
    hs hf hN hi hln hc T0 (fun W pn xe tk _ => hb W pn xe tk) (fun a oe cls d pn _ _ => pss_all (C := xp) fun e he => hsu a oe cls d pn e he)) fun D σ H ⟨Γ, z, sd, k1, k2, k3, k4⟩ => ?_
  refine ⟨Γ, z, sd, fun env' z' σ' H' hx ex sd' => ⟨true, hm, fun _ a na => ⟨env', hx, Γ, z', sd'.setU', ?_, ?_, ?_, ?_⟩, fun q => nomatch q⟩⟩
  · exact fun e2 z2 σ2 H2 q ex2 sd2 => k1 _ z2 _ H2 q (ex.trans ex2) sd2.setU'
  · exact fun d2 e2 z2 v σ2 H2 q ex2 sd2 hv => k2 d2 e2 z2 v σ2 H2 q (ex.trans ex2) sd2 hv
  · exact fun e2 z2 σ2 H2 q ex2 sd2 => k3 _ z2 _ H2 q (ex.trans ex2) sd2.setU'
  · exact fun e2 z2 σ2 H2 q ex2 sd2 => k4 _ z2 _ H2 q (ex.trans ex2) sd2.setU'
/-- the body raises nothing -/
theorem hs_try0 {h₀ : ExceptHandler} {hs : List ExceptHandler} (hb : HD X.nox body env Q) : HD1 X (.Try body (h₀ :: hs) [] [] pos) env Q := ps_try_thru0 hb
end
end NB

set_option Elab.async false
set_option linter.all false
set_option maxRecDepth 100000
set_option maxHeartbeats 4000000
/-! a dict of the top with int keys; a tuple of the top -/
namespace NB
open PySem L2 Evl PyProof.Rows
/-- what stands at a: the pairs, from the first -/
inductive DEs : List DictEntry → List (Int × Value) → Prop
  | nil : DEs [] []
  | cons {k : Int} {t : Tok} {v : Value} {h : Int} {es : List DictEntry} {kvs : List (Int × Value)} (hh : h = hashInt k) (r : DEs es kvs) : DEs (⟨h, .int k t, v⟩ :: es) ((k, v) :: kvs)
structure IDct (K : PySem.W.Frag) (a : Addr) (kvs : List (Int × Value)) : Prop where
  at_ : ∃ (es : List DictEntry) (n : Nat), K.lookup a = some ⟨.type "dict", none, .dict es.toArray n, #[]⟩ ∧ DEs es kvs
  low : (a == sysModules) = false
def getK (kvs : List (Int × Value)) (k : Int) : Option Value := (kvs.find? fun q => decide (q.1 = k)).map (·.2)
theorem des_find {es : List DictEntry} {kvs : List (Int × Value)} (h : DEs es kvs) (k : Int) : findBy Value.isInt es.toArray k = getK kvs k := by
  unfold findBy getK
  rw [List.find?_toArray]
  induction h with
  | nil => rfl
  | @cons k' t v hh es kvs e r ih =>
    rw [List.find?_cons, List.find?_cons]
    have e1 : Value.isInt k (.int k' t) = decide (k' = k) := by
      by_cases q : k' = k
      · simp [Value.isInt, q]
      · have : Value.isInt k (.int k' t) = false := by simp [Value.isInt, q]
        rw [this, decide_eq_false q]
    show Option.map _ (match Value.isInt k (.int k' t) with | true => _ | false => _) = Option.map _ (match decide (k' = k) with | true => _ | false => _)
    rw [e1]
    cases decide (k' = k) with
    | true => rfl
    | false => exact ih
theorem des_keys {es : List DictEntry} {kvs : List (Int × Value)} (h : DEs es kvs) : ∀ e ∈ es, ∃ k, Value.isInt k e.key = true ∧ e.hash = hashInt k := by
  induction h with
  | nil => intro e he; cases he
  | @cons k' t v hh es kvs q r ih =>
    intro e he
    rcases List.mem_cons.mp he with rfl | he
    · exact ⟨k', by simp [Value.isInt], q⟩
    · exact ih e he
theorem idct_map {P : Program} {w : World} {K : PySem.W.Frag} {a : Addr} {kvs : List (Int × Value)} {h : Heap} (D : IDct K a kvs) (X : K.In h) : h.MapOf (intKind P w) a (getK kvs) := by
  obtain ⟨es, n, hl, hd⟩ := D.at_
  refine ⟨_, es.toArray, n, X _ _ hl, ⟨rfl, rfl, rfl⟩, rfl, fun e he => ?_, fun k => ?_⟩
  · exact des_keys hd e (by simpa using he)
  · exact des_find hd k
def rNinI (a : Addr) (kvs : List (Int × Value)) : R2 := fun x y H Q => ∃ k : Int, x = .int k ∧ y = .ref a ∧ Q (.bl (!(getK kvs k).isSome)) H
section
variable {X : Cx} {a : Addr} {kvs : List (Int × Value)} {env env1 : En} {e : Expr} {pos : Pos}
theorem wpAny_notIn_int (D : IDct X.K a kvs) : OpR X (compareOp .NotIn) (rNinI a kvs) := by
  intro pins s σ H x y v u Q I rx ry h
  obtain ⟨k, rfl, rfl, q⟩ := h
  obtain ⟨t, rfl⟩ := rx
  cases ry
  refine wpAny_notIn_of (knd := intKind X.prog X.w) (k := k) (intKind_is X.prog X.w k t) D.low (idct_map D I.kIn) ?_
  exact ⟨.bl (!(getK kvs k).isSome), H, I.tok _, rfl, q⟩
def rIxI (a : Addr) (kvs : List (Int × Value)) : R2 := fun x y H Q => ∃ (k : Int) (u : Value) (v : V), x = .ref a ∧ y = .int k ∧ getK kvs k = some u ∧ RelV v u ∧ Q v H
theorem ix_int (D : IDct X.K a kvs) : IxR X (rIxI a kvs) := by
  intro value slice pins s σ H x y v u Q I rx ry h hs
  obtain ⟨k, u0, v0, rfl, rfl, e, ru, q⟩ := h
  obtain rfl : v = Value.ref a := rx
  obtain ⟨t, rfl⟩ := ry
  have hm := idct_map (P := X.prog) (w := X.w) D I.kIn
  exact tail_any hm.typeIs slot_dict_getitem.lookup (wpAny_getItem_of (knd := intKind X.prog X.w) (k := k) (intKind_is X.prog X.w k t) hm e ⟨v0, H, I.tok _, ru, q⟩) hs
/-- x not in D -/
theorem pb_nin {x : Str} {p : Pos} {k : Int} (D : IDct X.K a kvs) (hm : X.mg x = some (.ref a)) (ha : PD X e env (.int k) env1) (hg : Gl X x := by rfl) (hdb : (x == ("__debug__" : Str)) = false := by decide) :
    PB X (.Compare e [.NotIn] [.Name x p] pos) env (!(getK kvs k).isSome) env1 :=
  pt_imp (pt_cmpR (wpAny_notIn_int D) ha (pe_glob (v := .ref a) hg hm rfl hdb) (by with_unfolding_all rfl)) fun σ H Q ⟨Γ, z, sd, kk⟩ => ⟨Γ, z, sd, fun v H' ex sd' h1 => by
    cases h1
    exact ⟨k, rfl, rfl, _, rfl, kk H' ex sd'⟩⟩
/-- D[x] -/
theorem pd_ixI {x : Str} {p : Pos} {k : Int} {d : PyData} {b : Addr} (D : IDct X.K a kvs) (hm : X.mg x = some (.ref a)) (hb : PD X e env (.int k) env1) (hk : getK kvs k = some (.ref b)) (hd : ∀ G, Dp X.K G (.ref b) d) (hs : PlainIx e := by exact fun _ _ => rfl) (hg : Gl X x := by rfl) (hdb : (x == ("__debug__" : Str)) = false := by decide) :
    PD X (.Subscript (.Name x p) e pos) env d env1 :=
  pe_imp (pe_ix (ix_int D) (pe_glob (v := .ref a) hg hm rfl hdb) hb hs) fun σ H Q ⟨Γ, z, sd, kk⟩ => ⟨Γ, z, sd, fun v H' ex sd' h1 => by
    cases h1
    exact ⟨k, .ref b, .ref b, rfl, rfl, hk, rfl, kk _ H' ex sd' (hd _)⟩⟩
/-- a name of the top that holds data -/
theorem pd_gRef {x : Str} {b : Addr} {d : PyData} (hm : X.mg x = some (.ref b)) (hd : ∀ G, Dp X.K G (.ref b) d) (hg : Gl X x := by rfl) (hdb : (x == ("__debug__" : Str)) = false := by decide) : PD X (.Name x pos) env d env :=
  pd_c (v := .ref b) (pe_glob hg hm rfl hdb) hd
end
/-- a written tuple of ints -/
theorem dp_tupK {K : PySem.W.Frag} {b : Addr} {o : Obj} {its : List Value} {ns : List Int} {m : Nat} (hl : K.lookup b = some o) (hc : o.cls = .type "tuple") (hd : o.data = .seq its.toArray m) (hs : its.length ≤ sizeLine) (hv : Vals (ns.map V.int) its) (G : Hp) : Dp K G (.ref b) (.tuple (iD ns)) :=
  .tup (xs := ns.map V.int) (.inr ⟨o, its.toArray, m, hl, hc, hd, by simpa using hs, by simpa using hv⟩) dpa_ints
end NB

set_option Elab.async false
set_option linter.all false
set_option maxRecDepth 100000
set_option maxHeartbeats 4000000
/-! found.extend(a list of data); min and max of a tuple of two ints -/
namespace NB
open PySem L2 Evl PyProof.Rows
theorem extend_any (l : Addr) (items : Array Value) (n : Nat) (b : Addr) (items2 : Array Value) (n2 : Nat) (sl : Array (Option Value)) (hc0 : ¬(!items.isEmpty && Builtin.List.listTooLong (items.size + items2.size)) = true) (hc1 : items.size ≤ sizeLine) (hs2 : items.size + items2.size ≤ sizeLine + 1) :
    Meets (Builtin.«list.extend» ⟨[.ref l, .ref b], []⟩) (fun _ R s => s.heap.get? l = some { cls := .type "list", dict := none, data := .seq items n, slots := #[] } ∧ s.heap.get? b = some { cls := .type "list", dict := none, data := .seq items2 n2, slots := sl } ∧ R (.ok (.ret Value.none)) { s with heap := s.heap.update l (Obj.mapSeq fun x => x ++ items2), toks := s.toks }) :=
  .of_wp fun prog w A R s h => by
    obtain ⟨hp, g, d, tk, os⟩ := s; obtain ⟨hl, hb, h⟩ := h; have f1 := PySem.AutoSeq1.idx_int; have f2 := PySem.AutoSeq1.sub_tuple_tuple; have f3 := PySem.AutoSeq1.sub_list_list; have f4 := PySem.AutoSeq1.sub_tuple_list; have f5 := PySem.AutoSeq1.sub_list_tuple;
    have hz' : (items ++ items2).size ≤ sizeLine + 1 := by rw [Array.size_append]; exact hs2
    wp_walk using (wpAny_updateSeq hl rfl (hz := hc1) (_hz' := hz')), PySem.AutoSeq1.wpAny_loadPart' hl, PySem.AutoSeq1.wpAny_loadPart' hb; exact ⟨_, rfl, h⟩
def rExtS (K : PySem.W.Frag) : V → List V → Hp → VK → Prop := fun x vs H Q => ∃ l b xs zs, x = .ref l ∧ vs = [.ref b] ∧ H l = some (.lst xs) ∧ SqL K H b zs ∧ xs.length + zs.length ≤ sizeLine ∧ Q .non (upd H l (.lst (xs ++ zs)))
section
variable {X : Cx}
theorem mt_extS : MtM X "list.extend" (rExtS X.K) := by
  intro pins s σ H x vs v us Q I rx rv h
  obtain ⟨l, b, xs, zs, rfl, rfl, hH, hB, hz, q⟩ := h
  cases rx
  obtain ⟨u, rfl, ru⟩ := rv.one
  cases ru
  obtain ⟨z, its, n, r, hl, e⟩ := I.lstM hH
  obtain ⟨its2, r2, ⟨o2, n2, e2, c2, d2, q2⟩, z2⟩ := I.list hB
  have l1 := r.length
  have l2 := r2.length
  obtain ⟨cl, dd, dt, sl⟩ := o2
  cases c2
  cases d2
  cases q2
  have hsz : its.toArray.size + its2.toArray.size ≤ sizeLine := by rw [List.size_toArray, List.size_toArray]; omega
  have hlong : ¬ (!its.toArray.isEmpty && Builtin.List.listTooLong (its.toArray.size + its2.toArray.size)) = true := by
    rw [notLongL hsz, Bool.and_false]
    exact Bool.false_ne_true
  refine call_meets F.slot_list_extend ⟨_, e, rfl⟩ F.entry_list_extend (F.args_list_extend_2 _ _)
    (extend_any l its.toArray n b its2.toArray n2 sl hlong (by rw [List.size_toArray]; omega) (by omega)) ⟨e, e2, ?_⟩
  refine ⟨.non, _, I.lset (its' := its ++ its2) hH e (by simp) (r.append r2) ?_, rfl, q⟩
  rw [List.length_append]
  omega
variable {env env1 : En} {ds es : List PyData} {e : Expr} {pos : Pos}
theorem hs_ext (i : Nat) {x : Str} {xp ap cp : Pos} {spos : Pos} (he : PD X e env (.list es) env1) (hi0 : env[i]? = some (.l ds)) (hi : env1[i]? = some (.l ds)) (hl : ds.length + es.length < 100000) (hN : X.N[i]? = some x := by rfl) (hv : Vis X.env.scope x := by first | exact Or.inl rfl | exact Or.inr (Or.inl rfl) | exact Or.inr (Or.inr rfl))
    (hb1 : (x == ("__debug__" : Str)) = false := by decide) (hcd : (x == ("__classdict__" : Str)) = false := by decide)
    (hbase : attributeBase (.Name x xp) "extend" X.env (eval (.Name x xp) X.env) = eval (.Name x xp) X.env := by rfl)
    (hfew : ((backTo cp (starEach [e] X.env)).all (fun x => !x.1) && (backToKw cp (keywordEach [] X.env)).all (fun x => x.1.isSome) && decide (([e] : List Expr).length + ([] : List Keyword).length + (if ([] : List Keyword).isEmpty then 0 else 1) < 30)) = true := by rfl)
    (hline : (ap.endLine == cp.line) = true := by rfl) (hst : starEach [e] X.env = (false, eval e X.env) :: starEach [] X.env := by rfl) (hplain : (backTo cp (starEach [] X.env)).any (·.1) = false := by rfl)
    (hs : swapsWith (.Call (.Attribute (.Name x xp) "extend" ap) [e] [] cp) none spos.line X.env = pure false := by rfl) :
    HD1 X (.Expr (.Call (.Attribute (.Name x xp) "extend" ap) [e] [] cp) spos) env { nx := fun e => e = env1.set i (.l (ds ++ es)) } :=
  ps_imp (ps_expr (pe_bm PySem.F.plainAttrs_list PySem.F.slot_list_extend PySem.F.type_list_extend mt_extS (pv i hN hv hb1 hcd) (pa_cons he pa_nil hst) hbase hfew hline hst hplain) hs) fun D σ H ⟨Γ, z, sd, k, _⟩ => by
    obtain ⟨a, us, h1, h2, h3, h4⟩ := sd.own (.inl hi0)
    refine ⟨.ref a, h1, .inl ⟨rfl, us, sq_of h3⟩, Γ, z, sd, fun v H' ex sd' hd => ?_⟩
    obtain ⟨a', us', h1', h2', h3', h4'⟩ := sd'.own (.inl hi)
    rw [h1] at h1'
    cases h1'
    cases hd with
    | @lst b zs _ hs ha =>
      have hz : us'.length + zs.length < 100000 := by rw [dpa_len h4', dpa_len ha]; exact hl
      refine ⟨a, b, us', zs, rfl, rfl, h3', ex_l cut_sub hs, sz_of (by omega), ?_⟩
      have ex2 : cut (upd H' a (.lst (us' ++ zs))) z = cut H' z := cut_upd h2
      obtain ⟨sd2, e3⟩ := sd'.chL (us := us' ++ zs) (ys := ds ++ es) hi h1 (fun b o nb q => (upd_ne nb).trans q) upd_same (fun _ => by rw [ex2]; exact dpa_app h4' ha)
      exact k _ z _ _ rfl (ex.trans (by rw [ex2]; exact Ex.refl _)) sd2
def rMnT (K : PySem.W.Frag) (g : Int → Int → Int) : List V → Hp → VK → Prop := fun vs H Q => ∃ (a : Addr) (i j : Int), vs = [V.ref a] ∧ SqT K H a [.int i, .int j] ∧ Q (.int (g i j)) H
theorem alike2 (i j : Int) : PySem.W.AlikeAll [.int i, .int j] := ⟨fun x hx y hy => by
  simp only [List.mem_cons, List.not_mem_nil, or_false] at hx hy
  rcases hx with rfl | rfl <;> rcases hy with rfl | rfl <;> rfl, fun x hx => by
  simp only [List.mem_cons, List.not_mem_nil, or_false] at hx
  rcases hx with rfl | rfl <;> exact fun q => nomatch q⟩
theorem cr_minT (hc : X.calm = true) (hu : X.A.units + 65 < cLine) : CallR X (.builtin "min") (rMnT X.K min) := by
  intro pins s σ H vs us Q I r h
  obtain ⟨a, i, j, rfl, hs, q⟩ := h
  obtain ⟨its, rv, hl, _⟩ := I.tuple hs
  rw [Vals.ref1 r]
  obtain ⟨u, v, rfl, ⟨t, rfl⟩, ⟨t', rfl⟩⟩ := vals2 rv
  refine PySem.W.min_tuple_data (x := .int i) (xs := [.int j]) (as := []) (I.ok.hd hc) hl (.cons (as := []) (bs := []) (.int i t) (.cons (as := []) (bs := []) (.int j t') .nil)) (alike2 i j) (by simp [PyData.depthAll, PyData.depth]; omega) fun k v h' tk bs hv hr hk => ?_
  have e : PySem.W.minD (.int i) [.int j] = .int (min i j) := PySem.W.minD_ints i [j]
  rw [e] at hr
  cases hr
  exact ⟨.int _, H, I.kept hk, ⟨_, rfl⟩, q⟩
theorem cr_maxT (hc : X.calm = true) (hu : X.A.units + 65 < cLine) : CallR X (.builtin "max") (rMnT X.K max) := by
  intro pins s σ H vs us Q I r h
  obtain ⟨a, i, j, rfl, hs, q⟩ := h
  obtain ⟨its, rv, hl, _⟩ := I.tuple hs
  rw [Vals.ref1 r]
  obtain ⟨u, v, rfl, ⟨t, rfl⟩, ⟨t', rfl⟩⟩ := vals2 rv
  refine PySem.W.max_tuple_data (x := .int i) (xs := [.int j]) (as := []) (I.ok.hd hc) hl (.cons (as := []) (bs := []) (.int i t) (.cons (as := []) (bs := []) (.int j t') .nil)) (alike2 i j) (by simp [PyData.depthAll, PyData.depth]; omega) fun k v h' tk bs hv hr hk => ?_
  have e : PySem.W.maxD (.int i) [.int j] = .int (max i j) := PySem.W.maxD_ints i [j]
  rw [e] at hr
  cases hr
  exact ⟨.int _, H, I.kept hk, ⟨_, rfl⟩, q⟩
theorem f_minT {i j : Int} (hc : X.calm = true) (hu : X.A.units + 65 < cLine) : CalD X (.builtin "min") [.tuple [.int i, .int j]] (.int (min i j)) := cal_of (cr_minT hc hu) fun z xs H Q zd h1 k => by
  cases h1 with
  | cons h1 h2 =>
    cases h2
    cases h1 with
    | @tup p us _ hs ha =>
      obtain rfl : us = [V.int i, V.int j] := dpa_ints_eq (ns := [i, j]) ha
      exact ⟨p, i, j, rfl, ex_t cut_sub hs, k _ H (Ex.refl _) (.int _)⟩
theorem f_maxT {i j : Int} (hc : X.calm = true) (hu : X.A.units + 65 < cLine) : CalD X (.builtin "max") [.tuple [.int i, .int j]] (.int (max i j)) := cal_of (cr_maxT hc hu) fun z xs H Q zd h1 k => by
  cases h1 with
  | cons h1 h2 =>
    cases h2
    cases h1 with
    | @tup p us _ hs ha =>
      obtain rfl : us = [V.int i, V.int j] := dpa_ints_eq (ns := [i, j]) ha
      exact ⟨p, i, j, rfl, ex_t cut_sub hs, k _ H (Ex.refl _) (.int _)⟩
end
end NB

set_option Elab.async false
set_option linter.all false
set_option maxRecDepth 100000
set_option maxHeartbeats 4000000
/-! and, or with changes; -1 -/
namespace NB
open PySem L2 Evl
section
variable {X : Cx} {env env1 : En} {a b : Expr} {pos : Pos}
/-- and, whose first changes what names hold -/
theorem pw_andE {rest : List Expr} {k1 k2 : Bool} (ha : PB X a env k1 env1) (hb : k1 = true → PW X (.BoolOp .And (b :: rest) pos) (tT X.K X.w env1 k2 env1)) : PW X (.BoolOp .And (a :: b :: rest) pos) (tT X.K X.w env (k1 && k2) env1) := by
  cases k1 with
  | true => exact pw_imp (pw_and ha (hb rfl)) fun σ H Q ⟨Γ, z, sd, kk⟩ => ⟨Γ, z, sd, fun H' ex sd' => by
      refine iteT ?_
      exact ⟨Γ, z, sd', fun H'' ex' sd'' => kk H'' (ex.trans ex') sd''⟩⟩
  | false => exact pw_imp (pw_and ha (tB' := fun _ _ _ => False) ⟨fun _ _ _ _ _ _ _ h => h.elim⟩) fun σ H Q ⟨Γ, z, sd, kk⟩ => ⟨Γ, z, sd, fun H' ex sd' => by
      refine iteF ?_
      exact kk H' ex sd'⟩
/-- or, whose second changes what names hold, the first not so -/
theorem pw_orF {rest : List Expr} {k2 : Bool} (ha : PB X a env false env) (hb : PW X (.BoolOp .Or (b :: rest) pos) (tT X.K X.w env k2 env1)) : PW X (.BoolOp .Or (a :: b :: rest) pos) (tT X.K X.w env k2 env1) :=
  pw_imp (pw_or ha hb) fun σ H Q ⟨Γ, z, sd, kk⟩ => ⟨Γ, z, sd, fun H' ex sd' => by
    refine iteF ?_
    exact ⟨Γ, z, sd', fun H'' ex' sd'' => kk H'' (ex.trans ex') sd''⟩⟩
end
section
variable {X : Cx} {env env1 : En} {e : Expr} {pos : Pos} {d : PyData}
/-- -1 -/
theorem pd_neg {i : Int} (ha : PD X e env (.int i) env1) : PD X (.UnaryOp .USub e pos) env (.int (-i)) env1 := pe_imp (pe_un un_neg ha) fun σ H Q ⟨Γ, z, sd, k⟩ => ⟨Γ, z, sd, fun v H' ex sd' hd => by
  cases hd
  exact ⟨i, rfl, k _ H' ex sd' (.int _)⟩⟩
end
end NB

set_option Elab.async false
set_option linter.all false
set_option maxRecDepth 100000
set_option maxHeartbeats 4000000
namespace NB
open PySem L2 Evl
section
variable {X : Cx} {env env1 env2 : En} {a b : Expr} {pos : Pos} {d : PyData}
/-- a true and b: b, which may change what names hold -/
theorem pd_andT {rest : List Expr} (ha : PD X a env (.bool true) env1) (hb : PD X (.BoolOp .And (b :: rest) pos) env1 d env2) : PD X (.BoolOp .And (a :: b :: rest) pos) env d env2 :=
  pe_imp (pe_and ha hb) fun σ H Q ⟨Γ, z, sd, kk⟩ => ⟨Γ, z, sd, fun v H' ex sd' h1 => by
    cases h1
    refine ⟨true, rfl, ?_⟩
    refine iteT ?_
    exact ⟨Γ, z, sd', fun v' H'' ex' sd'' h2 => kk v' H'' (ex.trans ex') sd'' h2⟩⟩
end
end NB

set_option Elab.async false
set_option linter.all false
set_option maxRecDepth 100000
set_option maxHeartbeats 4000000
/-! t[1:] and t[::-1] of a tuple of data -/
namespace HT
open PySem PyProof.Rows
open PySem.SeqAt
open PySem.AutoSeq1 (wpAny_loadPart')
open PySem.MeetsSeq PySem.MeetsSeq2 PySem.MeetsSeq3
section
variable {prog : Program} {w : World} {A : Around} {E : Value → Shared → Prop} {s : Shared}
theorem adjust_rev (n : Nat) : Builtin.Slice.sliceAdjust none none (-1) (n : Int) = ((n : Int) - 1, -1) := rfl
theorem places_rev (n : Nat) : Builtin.Slice.slicePlaces ((n : Int) - 1) (-1) (-1) = n := by
  unfold Builtin.Slice.slicePlaces
  have h1 : ¬ ((-1 : Int) > 0) := by omega
  simp only [h1, if_false]
  split
  · simp
  · omega
theorem sliceApplied_rev {sl : Addr} {t : Tok} {n : Nat} {Q : Int × Int × Nat → Shared → Prop} (hs : s.heap.IsSliceOf sl .none .none (.int (-1) t)) (h : Q ((n : Int) - 1, -1, n) s) :
    wpAny (model prog w) A (Builtin.Slice.sliceApplied (.ref sl) (pure (n : Int))) Q E s := by
  obtain ⟨os, hos, hcs, hds⟩ := id hs
  unfold Builtin.Slice.sliceApplied Builtin.Slice.sliceFields
  refine wpAny_bind (wpAny_bind (wpAny_field hos hds (x := .none) rfl (wpAny_bind (wpAny_field hos hds (x := .none) rfl (wpAny_bind (wpAny_field hos hds (x := .int (-1) t) rfl (wpAny_pure ?_)))))))
  refine wpAny_bind (slicePart_int ?_)
  show wpAny _ _ (if ((-1 : Int) == 0) = true then _ else _) _ _ s
  rw [if_neg (by decide)]
  refine wpAny_bind (slicePart_none (wpAny_bind (slicePart_none (wpAny_bind (wpAny_pure ?_)))))
  show wpAny _ _ (match Builtin.Slice.sliceAdjust none none (-1) (n : Int) with | (lo, hi) => pure (lo, (-1 : Int), Builtin.Slice.slicePlaces lo hi (-1))) _ _ s
  rw [adjust_rev n]
  show wpAny _ _ (pure ((n : Int) - 1, (-1 : Int), Builtin.Slice.slicePlaces ((n : Int) - 1) (-1) (-1))) _ _ s
  rw [places_rev]
  exact wpAny_pure h
theorem pick_rev (xs : Array Value) : ((List.range xs.size).filterMap fun (m : Nat) => xs[((xs.size : Int) - 1 + (m : Int) * (-1)).toNat]?).toArray = xs.toList.reverse.toArray := by
  have e : (List.range xs.size).filterMap (fun (m : Nat) => xs[((xs.size : Int) - 1 + (m : Int) * (-1)).toNat]?) = ((List.range xs.size).map fun k => xs.size - 1 - k).filterMap (xs[·]?) := by
    rw [List.filterMap_map]
    have gen : ∀ l : List Nat, (∀ m ∈ l, m < xs.size) → l.filterMap (fun (m : Nat) => xs[((xs.size : Int) - 1 + (m : Int) * (-1)).toNat]?) = l.filterMap ((fun x => xs[x]?) ∘ fun k => xs.size - 1 - k) := fun l hl => by
      induction l with
      | nil => rfl
      | cons a l ih =>
        have ha := hl a List.mem_cons_self
        have e1 : ((xs.size : Int) - 1 + (a : Int) * (-1)).toNat = xs.size - 1 - a := by omega
        rw [List.filterMap_cons, List.filterMap_cons, ih fun m hm => hl m (List.mem_cons_of_mem _ hm), e1]
        rfl
    exact gen _ fun m hm => List.mem_range.mp hm
  rw [e, PySem.W.krv_range, List.filterMap_reverse, PySem.W.krv_all]
theorem getItem_tuple_rev {t sl : Addr} {items : Array Value} {tk : Tok} {Q : Value → Shared → Prop} (ht : IsTup s.heap t items) (hs : s.heap.IsSliceOf sl .none .none (.int (-1) tk))
    (h : Q (.ref s.heap.objs.size) { s with heap := s.heap.push { cls := .type "tuple", data := .seq items.toList.reverse.toArray } })
    (hsz : items.size ≤ sizeLine) : wpAny (model prog w) A (getItem (.ref t) (.ref sl)) Q E s := by
  have htake : sizeOk (.seq items.toList.reverse.toArray) := by
    show items.toList.reverse.toArray.size ≤ sizeLine
    rw [List.size_toArray, List.length_reverse, Array.length_toList]
    omega
  obtain ⟨os, hos, hcs, hds⟩ := id hs
  have hTs : s.TypeIs (.ref sl) "slice" := ⟨os, hos, hcs⟩
  unfold getItem
  try with_reducible refine wpAny_holding ?_
  first | refine wpAny_bind (wpAny_pure ?_) | skip
  refine wpAny_bind (wpAny_sequenceKey ht.typeIs (by decide) ?_)
  refine wpAny_bind (wpAny_callSpecial?_slot (name := Str.ofString "__getitem__") ht.typeIs PyProof.Rows.slot_tuple_getitem
    (wpAny_call_entry PyProof.Rows.slot_tuple_getitem ht.typeIs entry_tuple_getitem ?_ (args_tuple_getitem _ _)))
  show wpAny _ _ (Builtin.Tuple.tupleItemsOf (.ref t) >>= _) _ _ s
  refine wpAny_bind (tupleItemsOf_ ht ?_)
  refine wpAny_bind (wpAny_typeOf hTs ?_)
  rw [if_pos (by decide)]
  refine wpAny_bind (sliceApplied_rev hs ?_)
  have hno : ¬ ((((items.size : Int) - 1) == 0 && (-1 : Int) == 1 && items.size == items.size) = true) := by
    intro q
    rw [Bool.and_eq_true, Bool.and_eq_true] at q
    exact absurd q.1.2 (by decide)
  show wpAny _ _ (if (((items.size : Int) - 1) == 0 && (-1 : Int) == 1 && items.size == items.size) = true then _ else _) _ _ s
  rw [if_neg hno, pick_rev]
  first
    | exact wpAny_bind (m := Builtin.Tuple.tupleExact _) (wpAny_newObj_type (wpAny_pure ⟨_, rfl, wpAny_pure h⟩) htake)
    | exact wpAny_bind (m := Builtin.Tuple.tupleExact _) (wpAny_newObj_type (wpAny_bind (wpAny_pure (wpAny_pure ⟨_, rfl, wpAny_pure h⟩))) htake)
    | exact wpAny_bind (wpAny_bind (m := Builtin.Tuple.tupleExact _) (wpAny_newObj_type (wpAny_pure (wpAny_pure ⟨_, rfl, wpAny_pure h⟩)) htake))
    | exact wpAny_bind (wpAny_bind (m := Builtin.Tuple.tupleExact _) (wpAny_newObj_type (wpAny_pure ⟨_, rfl, wpAny_pure h⟩) htake))
end
end HT

namespace NB
open PySem L2 Evl PyProof.Rows
section
variable {X : Cx} {env env1 env2 : En} {ds : List PyData} {e k : Expr} {pos p2 : Pos}
def rRevT (K : PySem.W.Frag) : V → V → Hp → VK → Prop := fun x y H Q => ∃ a xs, x = .ref a ∧ y = .int (-1) ∧ SqT K H a xs ∧ ∀ p, H p = none → Q (.ref p) (upd H p (.tup xs.reverse))
theorem pe_revT {te tk : TE} (he : PE X e te) (hk : PE X k tk) : PE X (.Subscript e (.Slice none none (some k) p2) pos) (fun σ H Q => te σ H fun x H1 => tk σ H1 fun y H2 => rRevT X.K x y H2 Q) := by
  refine ⟨fun pins s σ H Q I h => ?_⟩
  refine Subscript_ (thn (he.run pins s σ H _ I h) fun v s1 ⟨x, H1, I1, r1, q1⟩ => ?_)
  refine wpAny_Slice ?_
  rw [evalPart_none]
  refine wpAny_pure ?_
  refine wpAny_pure ?_
  rw [evalPart_some]
  refine thn (hk.run pins s1 σ H1 _ I1 q1) fun u s2 ⟨y, H2, I2, r2, q2⟩ => ?_
  obtain ⟨a, xs, rfl, rfl, hx, q⟩ := q2
  cases r1
  obtain ⟨tk', rfl⟩ := r2
  have I4 : Inv X pins σ H2 { s2 with heap := s2.heap.push { cls := .type "slice", data := .fields #[.none, .none, .int (-1) tk'] } } := I2.kept (t' := s2.toks) fun b ob q => Heap.get?_push_of_some _ q
  obtain ⟨its, r, ht, hz⟩ := I4.tuple hx
  have hlen : its.toArray.size = xs.length := by rw [List.size_toArray]; exact r.length.symm
  refine tail_any (ops := [.ref a, .ref s2.heap.objs.size]) ht.typeIs PyProof.Rows.slot_tuple_getitem.lookup ?_ (by with_unfolding_all rfl)
  refine HT.getItem_tuple_rev ht (Heap.IsSliceOf.new ..) ?_ (by rw [hlen]; exact hz)
  refine ⟨.ref _, _, I4.laid (t' := s2.toks) (o := .tup xs.reverse) (fun b ob q => Heap.get?_push_of_some _ q) (Nat.le_refl _) ?_, rfl, q _ (I4.hok.fresh (Nat.le_refl _))⟩
  exact ⟨by rw [List.length_reverse]; exact hz, _, r.reverse, IsTup.new _ _⟩
theorem zf {z : Addr → Bool} {H : Hp} {r : Addr} (zd : ∀ a, z a = true → H a ≠ none) (hr : H r = none) : z r = false := zfree zd hr
/-- t[::-1] -/
theorem pd_revT (he : PD X e env (.tuple ds) env1) (hk : PD X k env1 (.int (-1)) env2) : PD X (.Subscript e (.Slice none none (some k) p2) pos) env (.tuple ds.reverse) env2 :=
  pe_imp (pe_revT he hk) fun σ H Q ⟨Γ, z, sd, kk⟩ => ⟨Γ, z, sd, fun v H' ex sd' h1 => ⟨Γ, z, sd', fun u H'' ex' sd'' h2 => by
    cases h2
    cases h1 with
    | @tup a xs _ hs ha =>
      refine ⟨a, xs, rfl, rfl, ex_t cut_sub (ex_t ex' hs), fun p hp => ?_⟩
      have c := cut_ex (z := z) (Ex.new (o := .tup xs.reverse) hp)
      exact kk _ _ ((ex.trans ex').trans c) (sd''.grow (Ex.new hp)) (.tup (st_of (cut_of (sd''.zfresh hp) upd_same)) (dpa_rev (Dpam c (Dpam ex' ha))))⟩⟩
/-- t[1:] -/
theorem pd_from1 (he : PD X e env (.tuple ds) env1) (hk : PD X k env1 (.int 1) env2) (hne : ds ≠ []) : PD X (.Subscript e (.Slice (some k) none none p2) pos) env (.tuple (ds.drop 1)) env2 :=
  pe_imp (pe_slice sl_tup he (po_some hk) po_none) fun σ H Q ⟨Γ, z, sd, kk⟩ => ⟨Γ, z, sd, fun v H' ex sd' h1 => ⟨Γ, z, sd', fun u H'' ex' sd'' h2 => by
    cases h2
    refine ⟨1, rfl, ?_⟩
    cases h1 with
    | @tup a xs _ hs ha =>
      have hl := dpa_len ha
      have hx : xs.length ≠ 0 := fun q => hne (List.length_eq_zero_iff.mp (by omega))
      have s1 : HT.sIx xs.length 0 (some (1 : Int)) = 1 := by
        have := HT.sIx_nat xs.length 0 1
        rw [show ((1 : Nat) : Int) = 1 from rfl] at this
        rw [this]
        omega
      refine ⟨a, xs, rfl, ex_t cut_sub (ex_t ex' hs), fun q => by omega, fun p hp => ?_⟩
      have e : cutV xs (some 1) none = xs.drop 1 := by
        unfold cutV
        rw [s1, HT.sIx_none, List.take_of_length_le (by rw [List.length_drop]; exact Nat.le_refl _)]
      rw [e]
      have c := cut_ex (z := z) (Ex.new (o := .tup (xs.drop 1)) hp)
      exact kk _ _ ((ex.trans ex').trans c) (sd''.grow (Ex.new hp)) (.tup (st_of (cut_of (sd''.zfresh hp) upd_same)) (dpa_drop 1 (Dpam c (Dpam ex' ha))))⟩⟩
end
end NB

set_option Elab.async false
set_option linter.all false
set_option maxRecDepth 100000
set_option maxHeartbeats 4000000
/-! the logic's rules: texts -/
namespace NB
open PySem L2 Evl PyProof.Rows
def sD (xs : List Str) : List PyData := xs.map .str
theorem mem_sD {xs : List Str} {d : PyData} (h : d ∈ sD xs) : ∃ x, x ∈ xs ∧ d = .str x := by
  obtain ⟨x, h1, h2⟩ := List.mem_map.mp h
  exact ⟨x, h1, h2.symm⟩
theorem sD_get {xs : List Str} {i : Nat} {d : PyData} (h : (sD xs)[i]? = some d) : ∃ x, xs[i]? = some x ∧ d = .str x := by
  unfold sD at h
  rw [List.getElem?_map] at h
  cases e : xs[i]? with
  | none => rw [e] at h; cases h
  | some x => rw [e] at h; exact ⟨x, rfl, (Option.some.inj h).symm⟩
section
variable {X : Cx} {env env1 env2 : En} {a b e o k : Expr} {pos p2 ap cp : Pos} {ds : List PyData} {d : PyData}
theorem dpa_strs {K : PySem.W.Frag} {G : Hp} {xs : List Str} : DpAll K G (xs.map V.str) (sD xs) := by
  induction xs with
  | nil => exact .nil
  | cons x xs ih => exact .cons (.str x) ih
theorem dpa_strs_eq {K : PySem.W.Frag} {G : Hp} {xs : List Str} : ∀ {vs : List V}, DpAll K G vs (sD xs) → vs = xs.map V.str := by
  induction xs with
  | nil => intro vs h; cases h; rfl
  | cons x xs ih =>
    intro vs h
    cases h with
    | cons h1 h2 =>
      cases h1
      rw [ih h2]
      rfl
/-- str(int) -/
theorem f_strI {i : Int} (h : i.natAbs.log2 < 1920) : CalD X (.type "str") [.int i] (.str (toString i)) := cal_of call_str_int fun z xs H Q zd h1 k => by
  cases h1 with
  | cons h2 h3 =>
    cases h3
    cases h2
    exact ⟨i, rfl, h, k _ H (Ex.refl _) (.str _)⟩
/-- int(text) -/
theorem f_intS {x : Str} {n : Int} (h : PySem.intText? x = some n) (hl : x.length ≤ 640) : CalD X (.type "int") [.str x] (.int n) := cal_of call_int_str fun z xs H Q zd h1 k => by
  cases h1 with
  | cons h2 h3 =>
    cases h3
    cases h2
    exact ⟨x, n, rfl, h, hl, k _ H (Ex.refl _) (.int _)⟩
theorem c_eqS {x y : Str} : BinD X (compareOp .Eq) (.str x) (.str y) (.bool (decide (x = y))) := bin_of op_eq fun z v u H Q zd h1 h2 k => by
  cases h1; cases h2
  refine ⟨rfl, ?_⟩
  have e : decide (V.str x = V.str y) = decide (x = y) := by simp
  rw [e]
  exact k _ H (Ex.refl _) (.bl _)
theorem c_neS {x y : Str} : BinD X (compareOp .NotEq) (.str x) (.str y) (.bool (!decide (x = y))) := bin_of op_ne fun z v u H Q zd h1 h2 k => by
  cases h1; cases h2
  refine ⟨rfl, ?_⟩
  have e : decide (V.str x = V.str y) = decide (x = y) := by simp
  rw [e]
  exact k _ H (Ex.refl _) (.bl _)
theorem inV_strs (x : Str) (xs : List Str) : inV (.str x) (xs.map V.str) = decide (x ∈ xs) := by
  unfold inV
  induction xs with
  | nil => rfl
  | cons y ys ih =>
    rw [List.map_cons, List.any_cons, ih]
    show (y == x || _) = _
    by_cases q : x = y
    · subst q; simp
    · have q2 : (y == x) = false := beq_eq_false_iff_ne.mpr fun e => q e.symm
      rw [q2, Bool.false_or]
      simp [q]
theorem flat_sV (xs : List Str) : (xs.map V.str).all flatV = true := by
  induction xs with
  | nil => rfl
  | cons x xs ih => rw [List.map_cons, List.all_cons, ih]; rfl
theorem c_ninS {x : Str} {xs : List Str} : BinD X (compareOp .NotIn) (.str x) (.list (sD xs)) (.bool (!decide (x ∈ xs))) := bin_of op_notIn_seq fun z v u H Q zd h1 h2 k => by
  cases h1
  cases h2 with
  | @lst p us _ hs ha =>
    have e := dpa_strs_eq ha
    subst e
    refine ⟨p, _, rfl, .inl (ex_l cut_sub hs), rfl, flat_sV xs, ?_⟩
    show Q (.bl (!inV (.str x) (xs.map V.str))) H
    rw [inV_strs]
    exact k _ H (Ex.refl _) (.bl _)
/-- sep.join(list of texts) -/
theorem pd_join {x : Str} {ys : List Str} (ho : PD X o env (.str x) env1) (he : PD X e env1 (.list (sD ys)) env2) (hz : (ys.map (·.length)).sum + ys.length * x.length ≤ 16777216)
    (hbase : attributeBase o "join" X.env (eval o X.env) = eval o X.env := by rfl)
    (hfew : ((backTo cp (starEach [e] X.env)).all (fun x => !x.1) && (backToKw cp (keywordEach [] X.env)).all (fun x => x.1.isSome) && decide (([e] : List Expr).length + ([] : List Keyword).length + (if ([] : List Keyword).isEmpty then 0 else 1) < 30)) = true := by rfl)
    (hline : (ap.endLine == cp.line) = true := by rfl) (hst : starEach [e] X.env = (false, eval e X.env) :: starEach [] X.env := by rfl) (hplain : (backTo cp (starEach [] X.env)).any (·.1) = false := by rfl) :
    PD X (.Call (.Attribute o "join" ap) [e] [] cp) env (.str (Txt.join x ys)) env2 :=
  pe_imp (pe_bm PySem.F.plainAttrs_str PySem.F.slot_str_join PySem.F.type_str_join mt_join ho (pa_cons he pa_nil hst) hbase hfew hline hst hplain) fun σ H Q ⟨Γ, z, sd, k⟩ => ⟨Γ, z, sd, fun v H' ex sd' hd => by
    cases hd
    refine ⟨rfl, Γ, z, sd', fun u H'' ex' sd'' hd2 => ?_⟩
    cases hd2 with
    | @lst p us _ hs ha =>
      have e := dpa_strs_eq ha
      subst e
      exact ⟨x, p, ys, rfl, rfl, .inl (ex_l cut_sub hs), hz, k _ H'' (ex.trans ex') sd'' (.str _)⟩⟩
/-- text.split(sep) -/
theorem pf_split {x y : Str} (ho : PD X o env (.str x) env1) (he : PD X e env1 (.str y) env2) (hy : (y.length == 0) = false) (hz : x.length ≤ 16000000)
    (hbase : attributeBase o "split" X.env (eval o X.env) = eval o X.env := by rfl)
    (hfew : ((backTo cp (starEach [e] X.env)).all (fun x => !x.1) && (backToKw cp (keywordEach [] X.env)).all (fun x => x.1.isSome) && decide (([e] : List Expr).length + ([] : List Keyword).length + (if ([] : List Keyword).isEmpty then 0 else 1) < 30)) = true := by rfl)
    (hline : (ap.endLine == cp.line) = true := by rfl) (hst : starEach [e] X.env = (false, eval e X.env) :: starEach [] X.env := by rfl) (hplain : (backTo cp (starEach [] X.env)).any (·.1) = false := by rfl) :
    PF X (.Call (.Attribute o "split" ap) [e] [] cp) env (sD (Txt.split x y)) env2 :=
  pe_imp (pe_bm PySem.F.plainAttrs_str PySem.F.slot_str_split PySem.F.type_str_split mt_split ho (pa_cons he pa_nil hst) hbase hfew hline hst hplain) fun σ H Q ⟨Γ, z, sd, k⟩ => ⟨Γ, z, sd, fun v H' ex sd' hd => by
    cases hd
    refine ⟨rfl, Γ, z, sd', fun u H'' ex' sd'' hd2 => ?_⟩
    cases hd2
    exact ⟨x, y, rfl, rfl, hy, by unfold sizeLine; omega, fun p hp => k p H'' _ _ (ex.trans ex') sd'' (Ex.new hp) hp upd_same dpa_strs⟩⟩
/-- xs[1:] of a list -/
theorem pf_from1 (he : PD X e env (.list ds) env1) (hk : PD X k env1 (.int 1) env2) : PF X (.Subscript e (.Slice (some k) none none p2) pos) env (ds.drop 1) env2 :=
  pe_imp (pe_slice sl_list he (po_some hk) po_none) fun σ H Q ⟨Γ, z, sd, kk⟩ => ⟨Γ, z, sd, fun v H' ex sd' h1 => ⟨Γ, z, sd', fun u H'' ex' sd'' h2 => by
    cases h2
    refine ⟨1, rfl, ?_⟩
    cases h1 with
    | @lst a xs _ hs ha =>
      have s1 : HT.sIx xs.length 0 (some (1 : Int)) = min 1 xs.length := by
        have := HT.sIx_nat xs.length 0 1
        rw [show ((1 : Nat) : Int) = 1 from rfl] at this
        rw [this]
      refine ⟨a, xs, rfl, ex_l cut_sub (ex_l ex' hs), fun p hp => ?_⟩
      have e : cutV xs (some 1) none = xs.drop 1 := by
        unfold cutV
        rw [s1, HT.sIx_none, List.take_of_length_le (by rw [List.length_drop]; exact Nat.le_refl _)]
        cases xs with
        | nil => simp
        | cons x xs => simp
      rw [e]
      exact kk p _ _ _ (ex.trans ex') sd'' (Ex.new hp) hp upd_same (dpa_drop 1 (Dpam ex' ha))⟩⟩
end
end NB

set_option Elab.async false
set_option linter.all false
set_option maxRecDepth 100000
set_option maxHeartbeats 4000000
/-! s & t of sets of ints; set(list of ints); len of such a set; sorted -/
namespace NBT
open PySem PySem.Spec PyProof.Rows L2
section
variable {P : Program} {w : World} {A : Around} {E : Value → Shared → Prop} {s : Shared}

/-- what is known of the object itself -/
structure Ob (w : World) (h : Heap) (a : Addr) (es : Array (Int × Value)) (ep : Nat) (t : SetTable) : Prop where
  o : ∃ o, h.get? a = some o ∧ o.ExactSet ∧ o.data = .set es ep t
  good : ∀ e ∈ es.toList, GoodE e
  fit : t.fits es.size = true
  led : w.params.followText "set-order" = true ∨ t.led = true
theorem ob_of {h : Heap} {a : Addr} {S : Int → Bool} {n : Nat} (R : SetR w h a S n) : ∃ es ep t, Ob w h a es ep t ∧ (∀ k, S k = true ↔ k ∈ es.toList.map keyOf) ∧ (es.toList.map keyOf).Nodup ∧ es.size = n ∧ es.size < scanBound := by
  obtain ⟨o, es, ep, t, ho, hex, hd, g, nd, hm, hb, hf, hn, hr, hl⟩ := R
  exact ⟨es, ep, t, ⟨⟨o, ho, hex, hd⟩, g, hf, hl⟩, hm, nd, hn, hb⟩
theorem Ob.at {h h' : Heap} {a : Addr} {es : Array (Int × Value)} {ep : Nat} {t : SetTable} (x : Ob w h a es ep t) (k : ∀ o, h.get? a = some o → h'.get? a = some o) : Ob w h' a es ep t := by
  obtain ⟨o, ho, r⟩ := x.o
  exact ⟨⟨o, k o ho, r⟩, x.good, x.fit, x.led⟩
theorem Ob.state {a : Addr} {es : Array (Int × Value)} {ep : Nat} {t : SetTable} {Q : (Array (Int × Value) × Nat × SetTable) → Shared → Prop} (x : Ob w s.heap a es ep t) (h : Q (es, ep, t) s) : wpAny (model P w) A (setState a) Q E s := by
  obtain ⟨o, ho, hex, hd⟩ := x.o
  exact wpAny_setState_of ho hd x.fit h
theorem Ob.typeIs {a : Addr} {es : Array (Int × Value)} {ep : Nat} {t : SetTable} (x : Ob w s.heap a es ep t) : s.TypeIs (.ref a) "set" := by
  obtain ⟨o, ho, hex, hd⟩ := x.o
  exact ⟨o, ho, hex.1⟩
theorem Ob.anySet {a : Addr} {es : Array (Int × Value)} {ep : Nat} {t : SetTable} {Q : Bool → Shared → Prop} (x : Ob w s.heap a es ep t) (h : Q true s) : wpAny (model P w) A (Builtin.Frozenset.isAnySet (.ref a)) Q E s := by
  unfold Builtin.Frozenset.isAnySet
  refine wpAny_bind (wpAny_isInstance (b := true) x.typeIs sub_set_self ?_)
  exact wpAny_pure h
theorem Ob.size {a : Addr} {es : Array (Int × Value)} {ep : Nat} {t : SetTable} {Q : Nat → Shared → Prop} (x : Ob w s.heap a es ep t) (h : Q es.size s) : wpAny (model P w) A (Builtin.Frozenset.sizeOf a) Q E s := by
  unfold Builtin.Frozenset.sizeOf setEntries
  exact wpAny_bind (wpAny_bind (x.state (wpAny_pure (wpAny_pure h))))
theorem Ob.epoch {a : Addr} {es : Array (Int × Value)} {ep : Nat} {t : SetTable} {Q : Nat → Shared → Prop} (x : Ob w s.heap a es ep t) (h : Q ep s) : wpAny (model P w) A (setEpoch a) Q E s := by
  unfold setEpoch
  exact wpAny_bind (x.state (wpAny_pure h))

theorem walk_at {a : Addr} {es : Array (Int × Value)} {ep : Nat} {t : SetTable} {Q : Array (Int × Value) → Shared → Prop} (x : Ob w s.heap a es ep t) (h : ∀ ys d, ys.toList.Perm es.toList → Q ys { s with drawn := d }) : wpAny (model P w) A (setWalk a) Q E s := by
  unfold setWalk
  refine wpAny_bind (x.state ?_)
  dsimp only
  refine wpAny_bind (wpAny_byText ?_)
  cases hbt : w.params.followText "set-order" with
  | true =>
    refine wp_if_pos rfl ?_
    exact wpAny_bind (wpAny_askSetting (wpAny_pure (h _ s.drawn (pick_perm _ _))))
  | false =>
    refine wp_if_neg Bool.false_ne_true ?_
    try refine wpAny_bind (wpAny_pure ?_)
    have hl : t.led = true := x.led.resolve_left (by rw [hbt]; exact Bool.false_ne_true)
    cases hd : (!t.plain && decide (es.size > 1)) with
    | true =>
      refine wp_if_pos (show (!t.plain && decide (es.size > 1)) = true from hd) ?_
      exact wpAny_bind (drawOrder_at _ _ _ _ (by simp) fun ys d p => wpAny_pure (h _ _ (by simpa using p)))
    | false =>
      refine wp_if_neg (show ¬ (!t.plain && decide (es.size > 1)) = true by rw [hd]; exact Bool.false_ne_true) ?_
      try refine wpAny_bind (wpAny_pure ?_)
      refine wpAny_bind (wpAny_of_eq (a := ()) ?_ ?_)
      · show (if (!t.led && decide (es.size > 1)) = true then unsupported "set:maker-not-led" else pure ()) = pure ()
        rw [hl] <;> rfl
      · exact wpAny_pure (h es s.drawn (List.Perm.refl _))

theorem quiet_at : ∀ (l : List Addr) (Q : Bool → Shared → Prop), (∀ a ∈ l, ∃ es ep t, Ob w s.heap a es ep t) → Q true s → wpAny (model P w) A (setsQuiet l) Q E s := by
  intro l Q hl h
  unfold setsQuiet
  refine wpAny_bind (wpAny_mono (wpAny_forIn_list _ (fun rest (b : Option Bool × Unit) s' => s' = s ∧ b = (none, ()) ∧ ∀ a ∈ rest, ∃ es ep t, Ob w s.heap a es ep t) (fun (b : Option Bool × Unit) s' => s' = s ∧ b = (none, ())) ?_ (fun b s' q => ⟨q.1, q.2.1⟩) l _ ⟨rfl, rfl, hl⟩) (fun b s' q => ?_) (fun _ _ q => q))
  · rintro a rest b s' ⟨rfl, rfl, hr⟩
    obtain ⟨es, ep, t, x⟩ := hr a List.mem_cons_self
    unfold setEntries
    refine wpAny_bind (wpAny_bind (x.state (wpAny_pure ?_)))
    refine wpAny_bind (wpAny_mono (wpAny_forIn_array' _ (fun rest (b : Option Bool × Unit) s'' => s'' = s' ∧ b = (none, ()) ∧ ∀ e ∈ rest, GoodE e) (fun (b : Option Bool × Unit) s'' => s'' = s' ∧ b = (none, ())) ?_ (fun b s' q => ⟨q.1, q.2.1⟩) es _ ⟨rfl, rfl, x.good⟩) (fun b s'' q => ?_) (fun _ _ q => q))
    · rintro ⟨e1, e2⟩ rest2 b s'' ⟨rfl, rfl, g⟩
      obtain ⟨k, tk, h1, h2⟩ := g (e1, e2) List.mem_cons_self
      dsimp only at h1
      subst h1
      exact wpAny_pure ⟨rfl, rfl, fun e he => g e (List.mem_cons_of_mem _ he)⟩
    · obtain ⟨rfl, rfl⟩ := q
      exact wpAny_pure ⟨rfl, rfl, fun e he => hr e (List.mem_cons_of_mem _ he)⟩
  · obtain ⟨rfl, rfl⟩ := q
    exact wpAny_pure h

/-- the walk of one set, with the other flags -/
theorem unseen_at {a b r : Addr} {es : Array (Int × Value)} {ep : Nat} {t : SetTable} {bs : Array (Int × Value)} {bp : Nat} {bt : SetTable} {Q : Array (Int × Value) → Shared → Prop} {S : Int → Bool} {n : Nat}
    (x : Ob w s.heap a es ep t) (y : Ob w s.heap b bs bp bt) (R : SetR w s.heap r S n) (har : a ≠ r) (hbr : b ≠ r)
    (h : ∀ ys d h', ys.toList.Perm es.toList → SetR w h' r S n → Heap.SameBut r s.heap h' → Q ys { s with drawn := d, heap := h' }) : wpAny (model P w) A (setWalkUnseen a [b, r] (some r)) Q E s := by
  have hw : wpAny (model P w) A (setWalk a) Q E s := walk_at x fun ys d p => h ys d s.heap p R (Heap.SameBut.refl r s.heap)
  unfold setWalkUnseen
  refine wpAny_bind (x.state ?_)
  dsimp only
  refine wpAny_bind (wpAny_byText ?_)
  cases hc : (w.params.followText "set-order" || (t.led && t.plain) || decide (es.size ≤ 1)) with
  | true =>
    refine wp_if_pos rfl ?_
    first | exact hw | exact wpAny_bind (m := setWalk a) (wpAny_mono hw (fun v s' q => wpAny_pure q) (fun _ _ q => q))
  | false =>
    refine wp_if_neg Bool.false_ne_true ?_
    try refine wpAny_bind (wpAny_pure ?_)
    obtain ⟨rs, rp, rt, z, zm, znd, zn, zb⟩ := ob_of R
    refine wpAny_bind (quiet_at _ _ (fun c hc => ?_) ?_)
    · simp only [List.mem_cons, List.not_mem_nil, or_false] at hc
      rcases hc with rfl | rfl | rfl
      · exact ⟨_, _, _, x⟩
      · exact ⟨_, _, _, y⟩
      · exact ⟨_, _, _, z⟩
    refine wp_if_neg (by simp) ?_
    try refine wpAny_bind (wpAny_pure ?_)
    refine wpAny_bind (wpAny_rule ?_)
    have hbt : w.params.followText "set-order" = false := by
      cases q : w.params.followText "set-order" with
      | false => rfl
      | true => rw [q] at hc; simp at hc
    have hl : t.led = true := x.led.resolve_left (by rw [hbt]; exact Bool.false_ne_true)
    refine wpAny_bind (m := setState r) (z.state ?_)
    dsimp only
    obtain ⟨o, es2, ep2, t2, ho, hex, hd, g, nd, hm, hb, hf, hn, hr, hl2⟩ := id R
    have e3 : rs = es2 ∧ rp = ep2 ∧ rt = t2 := by
      obtain ⟨o', ho', _, hd'⟩ := z.o
      rw [ho] at ho'
      cases ho'
      rw [hd] at hd'
      cases hd'
      exact ⟨rfl, rfl, rfl⟩
    obtain ⟨rfl, rfl, rfl⟩ := e3
    split
    · refine wpAny_bind (wpAny_storeSet_of ho hd ?_ (fits_of_scanBound hb))
      have ho2 := store_at (es' := rs) (t' := { rt with led := rt.led && t.led, plain := rt.plain && t.plain }) ho hd
      refine wpAny_pure (h es s.drawn _ (List.Perm.refl _) ⟨_, rs, rp + 1, _, ho2, hex, rfl, g, nd, hm, hb, hf, hn, hr, hl2.imp id fun q => ?_⟩ (Heap.SameBut.update _ _ _))
      show (rt.led && t.led) = true
      rw [q, hl] <;> rfl
    · exact wpAny_pure (h es s.drawn s.heap (List.Perm.refl _) R (Heap.SameBut.refl r s.heap))

theorem turns {u v r : Addr} {es : Array (Int × Value)} {ep : Nat} {t : SetTable} {V : Int → Bool} {nv : Nat} {id : String} {Q : Unit → Shared → Prop} (x : Ob w s.heap u es ep t) (Rv : SetR w s.heap v V nv) (R0 : SetR w s.heap r (fun _ => false) 0)
    (hur : u ≠ r) (hvr : v ≠ r) (hb : es.size + 1 < scanBound)
    (h : ∀ h' d c, SetR w h' r (fun k => decide (k ∈ es.toList.map keyOf) && V k) c → c ≤ es.size → (∀ c o, c ≠ r → s.heap.get? c = some o → h'.get? c = some o) → Q () { s with heap := h', drawn := d }) :
    wpAny (model P w) A (do
      let was ← setEpoch u
      let __do_lift ← setWalkUnseen u [v, r] (some r)
      forIn __do_lift PUnit.unit fun x __s => do
          holding [x.snd] do
              let __do_lift ← setFind v x.snd x.fst
              if __do_lift.isSome = true then do
                  let _ ← setAddHashed r x.snd x.fst
                  pure ()
                else pure ()
          Builtin.Frozenset.unchanged id u was
          pure (ForInStep.yield PUnit.unit)
      pure ()) Q E s := by
  obtain ⟨vs, vp, vt, y, _⟩ := ob_of Rv
  refine wpAny_bind (m := setEpoch u) (x.epoch ?_)
  refine wpAny_bind (m := setWalkUnseen u [v, r] (some r)) (unseen_at x y R0 hur hvr fun ys d h0 pm R1 sb => ?_)
  have keep0 : ∀ c o, c ≠ r → s.heap.get? c = some o → h0.get? c = some o := fun c o hc e => (sb.2 c hc).trans e
  refine wpAny_bind (wpAny_mono (wpAny_forIn_array' _ (fun rest (_ : PUnit) s' => ∃ done h' c, ys.toList = done ++ rest ∧ s' = { s with heap := h', drawn := d } ∧ (∀ c o, c ≠ r → s.heap.get? c = some o → h'.get? c = some o) ∧
    SetR w h' r (fun k => decide (k ∈ done.map keyOf) && V k) c ∧ c ≤ done.length) (fun (_ : PUnit) s' => ∃ h' c, s' = { s with heap := h', drawn := d } ∧ (∀ c o, c ≠ r → s.heap.get? c = some o → h'.get? c = some o) ∧
    SetR w h' r (fun k => decide (k ∈ ys.toList.map keyOf) && V k) c ∧ c ≤ ys.toList.length) ?_ ?_ ys _ ⟨[], h0, 0, rfl, rfl, keep0, R1.congr fun k => by simp, Nat.le_refl _⟩) (fun b s' q => ?_) (fun _ _ q => q))
  · rintro ⟨e1, e2⟩ rest b s' ⟨done, h', c, hd, rfl, kp, R, hc⟩
    have hy : (e1, e2) ∈ ys.toList := by rw [hd]; simp
    obtain ⟨k, tk, k1, k2⟩ := x.good _ (pm.mem_iff.mp hy)
    dsimp only at k1 k2
    subst k1 k2
    have hlen : done.length + 1 ≤ es.size := by
      have := congrArg List.length hd
      rw [pm.length_eq, List.length_append, List.length_cons, Array.length_toList] at this
      omega
    have Rv' : SetR w h' v V nv := Rv.at fun o e => kp v o hvr e
    have x' : Ob w h' u es ep t := x.at fun o e => kp u o hur e
    have ec : ∀ j, (decide (j ∈ (done ++ [(hashInt k, Value.int k tk)]).map keyOf) && V j) = ((decide (j ∈ done.map keyOf) && V j) || (decide (j = k) && V k)) := fun j => by
      rw [List.map_append, List.map_cons, List.map_nil]
      have : keyOf (hashInt k, Value.int k tk) = k := rfl
      rw [this]
      by_cases e : j = k
      · subst e
        by_cases e2 : j ∈ done.map keyOf <;> simp [e2]
      · have h2 : j ∈ done.map keyOf ++ [k] ↔ j ∈ done.map keyOf := by
          rw [List.mem_append, List.mem_singleton]
          exact ⟨fun z => z.elim (fun q => q) fun q => absurd q e, .inl⟩
        rw [decide_eq_decide.mpr h2, decide_eq_false e, Bool.false_and, Bool.or_false]
    refine wpAny_bind (wpAny_holding ?_)
    refine wpAny_bind (m := setFind v (Value.int k tk) (hashInt k)) (wpAny_setFind_of (knd := intKind P w) (s := { s with heap := h', drawn := d }) (intKind_is P w k tk) rfl Rv'.setOf fun q hq => ?_)
    have stp : ∀ h2 c2, (∀ c o, c ≠ r → h'.get? c = some o → h2.get? c = some o) → SetR w h2 r (fun j => (decide (j ∈ done.map keyOf) && V j) || (decide (j = k) && V k)) c2 → c2 ≤ c + 1 →
        ∀ (Q2 : ForInStep PUnit → Shared → Prop), ((∃ done h' c, ys.toList = done ++ rest ∧ { s with heap := h2, drawn := d } = { s with heap := h', drawn := d } ∧ (∀ c o, c ≠ r → s.heap.get? c = some o → h'.get? c = some o) ∧
    SetR w h' r (fun k => decide (k ∈ done.map keyOf) && V k) c ∧ c ≤ done.length) → Q2 (ForInStep.yield PUnit.unit) { s with heap := h2, drawn := d }) →
        wpAny (model P w) A (do Builtin.Frozenset.unchanged id u ep; pure (ForInStep.yield PUnit.unit)) Q2 E { s with heap := h2, drawn := d } := fun h2 c2 kp2 R2 hc2 Q2 hQ2 => by
      have x2 : Ob w h2 u es ep t := x'.at fun o e => kp2 u o hur e
      unfold Builtin.Frozenset.unchanged
      refine wpAny_bind (wpAny_bind (m := setEpoch u) (Ob.epoch (s := { s with heap := h2, drawn := d }) x2 ?_))
      refine wp_if_neg (by simp) ?_
      refine wpAny_pure ?_
      exact wpAny_pure (hQ2 ⟨done ++ [(hashInt k, Value.int k tk)], h2, c2, by rw [hd]; simp, rfl, fun c o hc e => kp2 c o hc (kp c o hc e), R2.congr ec, by rw [List.length_append, List.length_singleton]; omega⟩)
    cases hV : V k with
    | false =>
      rw [hV] at hq
      refine wp_if_neg (by rw [hq]; exact Bool.false_ne_true) (wpAny_pure ?_)
      refine stp h' c (fun c o _ e => e) (R.congr fun j => ?_) (Nat.le_succ _) _ fun z => z
      simp [hV]
    | true =>
      rw [hV] at hq
      refine wp_if_pos hq ?_
      refine wpAny_bind (setR_add_hashed (s := { s with heap := h', drawn := d }) R (by omega) fun h2 sb2 R2 => ?_)
      refine wpAny_pure ?_
      refine stp h2 _ (fun c o hc e => (sb2.2 c hc).trans e) (R2.congr fun j => ?_) ?_ _ fun z => z
      · simp [hV]
      · split <;> omega
  · rintro b s' ⟨done, h', c, hd, rfl, kp, R, hc⟩
    rw [List.append_nil] at hd
    rw [hd]
    exact ⟨h', c, rfl, kp, R, hc⟩
  · obtain ⟨h', c, rfl, kp, R, hc⟩ := q
    refine wpAny_pure (h h' d c (R.congr fun k => ?_) (by rw [pm.length_eq, Array.length_toList] at hc; exact hc) kp)
    have : k ∈ es.toList.map keyOf ↔ k ∈ ys.toList.map keyOf := ((pm.map keyOf).mem_iff).symm
    simp only [this]

theorem inter_at {a b : Addr} {S T : Int → Bool} {n m : Nat} {id : String} {Q : Value → Shared → Prop} (Ra : SetR w s.heap a S n) (Rb : SetR w s.heap b T m) (hab : a ≠ b) (hn : n + 1 < scanBound)
    (h : ∀ h' d c, SetR w h' s.heap.objs.size (fun k => S k && T k) c → c ≤ n → (∀ c o, s.heap.get? c = some o → h'.get? c = some o) → Q (.ref s.heap.objs.size) { s with heap := h', drawn := d }) :
    wpAny (model P w) A (Builtin.Frozenset.intersection id a (.ref b)) Q E s := by
  obtain ⟨es, ep, t, x, xm, xnd, xn, xb⟩ := ob_of Ra
  obtain ⟨bs, bp, bt, y, ym, ynd, yn, yb⟩ := ob_of Rb
  unfold Builtin.Frozenset.intersection
  refine wp_if_neg (by simp [Ne.symm hab]) ?_
  try refine wpAny_bind (wpAny_pure ?_)
  unfold Builtin.Frozenset.baseOf
  refine wpAny_bind (wpAny_bind (wpAny_isInstance (b := true) x.typeIs sub_set_self ?_))
  simp only [if_true]
  refine wpAny_pure ?_
  unfold newSet setsByText
  refine wpAny_bind (wpAny_bind (wpAny_bind (wpAny_askSetting (wpAny_pure ?_))))
  dsimp only
  simp only [newObj]
  refine wpAny_bind (wpAny_alloc (wpAny_pure ?_))
  show wpAny _ _ _ _ _ { s with heap := s.heap.push { cls := .type "set", dict := none, data := .set #[] 0 (.fresh 0 0 (!w.params.followText "set-order")) } }
  have R0 := setR_fresh (h := s.heap) w
  have za : a ≠ s.heap.objs.size := Nat.ne_of_lt Ra.lt
  have zb : b ≠ s.heap.objs.size := Nat.ne_of_lt Rb.lt
  have kp : ∀ c o, s.heap.get? c = some o → (s.heap.push { cls := .type "set", dict := none, data := .set #[] 0 (.fresh 0 0 (!w.params.followText "set-order")) }).get? c = some o := fun c o e => Heap.get?_push_of_some _ e
  have Ra1 := Ra.at (kp a)
  have Rb1 := Rb.at (kp b)
  have x1 := x.at (kp a)
  have y1 := y.at (kp b)
  generalize (s.heap.push { cls := .type "set", dict := none, data := .set #[] 0 (.fresh 0 0 (!w.params.followText "set-order")) }) = h1 at R0 kp Ra1 Rb1 x1 y1 ⊢
  have hz : ∀ c o, s.heap.get? c = some o → c ≠ s.heap.objs.size := fun c o e => Nat.ne_of_lt (Heap.lt_size e)
  generalize s.heap.objs.size = r at R0 za zb h hz ⊢
  unfold Builtin.Frozenset.addrOf
  refine wpAny_bind (wpAny_pure ?_)
  dsimp only
  refine wpAny_bind (wpAny_holding ?_)
  refine wpAny_bind (m := Builtin.Frozenset.isAnySet (.ref b)) (y1.anySet ?_)
  refine wp_if_pos rfl ?_
  refine wpAny_bind (wpAny_pure ?_)
  refine wpAny_bind (m := Builtin.Frozenset.sizeOf b) (y1.size ?_)
  refine wpAny_bind (m := Builtin.Frozenset.sizeOf a) (x1.size ?_)
  by_cases hs : bs.size > es.size
  · simp only [if_pos hs]
    refine turns (s := { s with heap := h1 }) x1 Rb1 R0 za zb (by omega) fun h' d c R hc k => wpAny_pure (h h' d c (R.congr fun j => ?_) (by omega) fun c o e => k c o (hz c o e) (kp c o e))
    have := xm j
    cases q : S j with
    | true => rw [decide_eq_true (this.mp q)]
    | false =>
      rw [q] at this
      rw [decide_eq_false fun z => Bool.false_ne_true (this.mpr z)]
  · simp only [if_neg hs]
    refine turns (s := { s with heap := h1 }) y1 Ra1 R0 zb za (by omega) fun h' d c R hc k => wpAny_pure (h h' d c (R.congr fun j => ?_) (by omega) fun c o e => k c o (hz c o e) (kp c o e))
    have := ym j
    rw [Bool.and_comm]
    cases q : T j with
    | true => rw [decide_eq_true (this.mp q), Bool.and_comm]
    | false =>
      rw [q] at this
      rw [decide_eq_false fun z => Bool.false_ne_true (this.mpr z), Bool.and_comm]

/-- the object that set(..) starts from -/
def newS (w : World) : Obj := { cls := .type "set", dict := none, data := .set #[] 0 (.fresh 0 0 (!w.params.followText "set-order")) }
set_option maxHeartbeats 3200000 in
/-- set(list of ints) -/
theorem set_list {l : Addr} {items : Array Value} (ns : List Int) {Q : Value → Shared → Prop} (hh : A.handled = none) (hl : s.heap.IsList l items) (hit : IntsAre items.toList ns) (hb : ns.length + 1 < scanBound)
    (h : ∀ (h' : Heap) (tk c : Nat), SetR w h' s.heap.objs.size (fun j => decide (j ∈ ns)) c → c ≤ ns.length → (∀ b o, s.heap.get? b = some o → h'.get? b = some o) → Q (.ref s.heap.objs.size) { s with heap := h', toks := tk }) :
    wpAny (model P w) A (call (.type "set") [.ref l]) Q E s := by
  have hisz : items.size = ns.length := by
    have q := IntsAre.length hit
    rwa [Array.length_toList] at q
  obtain ⟨c, tl, hmro⟩ := F.called_set.mro
  have hmade := F.called_set.made
  have hsub := F.called_set.sub
  refine wpAny_call (codeAny_of_tree ?_)
  show wpAny _ _ (callAny (.type "set") _) _ _ _
  refine wpAny_pure ⟨Code.quiet_builtin _ (by decide +kernel), codeAny_builtin F.entry_type_call ?_⟩
  rw [Around.under_plain (weight_type_call_type "set" [.ref l] []) rfl]
  have h1 := F.called_set.notType
  have h2 := F.called_set.canCreate
  have hct := F.typeCall_set_1 (.ref l)
  repeat (any_goals (first | assumption | wp_step))
  refine codeAny_mono (code_set_led1 (.ref l) (E := E) (Q₁ := fun obj s₁ => obj = .ref s.heap.objs.size ∧ s₁ = { s with heap := s.heap.push (newS w) }) ⟨rfl, rfl⟩) fun r s₁ hr => ?_
  rcases r with e | fl
  · exact hr
  cases fl with
  | ret obj =>
    obtain ⟨rfl, rfl⟩ := hr
    have hS : (s.heap.push (newS w)).get? s.heap.objs.size = some (newS w) := Heap.get?_push_size _ rfl
    have hT : Shared.TypeIs { s with heap := s.heap.push (newS w) } (.ref s.heap.objs.size) "set" := ⟨_, hS, rfl⟩
    have hli := F.called_set.init.lookup
    have hbi := F.called_set.init.bind (.ref s.heap.objs.size)
    repeat (any_goals (first | assumption | wp_step))
    refine codeAny_mono (codeAny_call_builtin (R := wants (fun r s₂ => r = .none ∧ ∃ h' tk c, s₂ = { s with heap := h', toks := tk } ∧ SetR w h' s.heap.objs.size (fun j => decide (j ∈ ns)) c ∧ c ≤ ns.length ∧
        (∀ b o, s.heap.get? b = some o → h'.get? b = some o)) E) F.called_set.init.plain F.entry_set_init (check_set_init_1 hT ?_)) fun r₂ s₂ hr₂ => ?_
    · have hl1 : (s.heap.push (newS w)).IsList l items := hl.push _
      have hlS : l < s.heap.objs.size := let ⟨o, ho, _⟩ := hl; Heap.lt_size ho
      obtain ⟨ol, hol, hcl, nl, hdl⟩ := id hl1
      obtain ⟨ocls, odict, odata, oslots⟩ := ol
      simp only at hcl hdl
      subst hcl; subst hdl
      have hsls := F.sub_list_set
      have hslf := F.sub_list_frozenset
      have hne : (Value.type "list" == Value.type "dict") = false := by decide
      unfold Builtin.«set.__init__» noKeywords Builtin.Frozenset.updateFrom
      generalize hPI : pyIter = PI
      wp_walk
      subst hPI
      refine wpAny_pyIter_list hl1 ?_
      refine wpAny_bind (wpAny_runValue ?_)
      have hh3 : A.in1.in1.in1.handled = none := by simp [hh]
      have hsz : (s.heap.push (newS w)).objs.size = s.heap.objs.size + 1 := Heap.size_push ..
      have hneI : l ≠ (s.heap.push (newS w)).objs.size := by rw [hsz]; exact Nat.ne_of_lt (Nat.lt_succ_of_lt hlS)
      have hSf : s.heap.objs.size ∉ [(s.heap.push (newS w)).objs.size, l] := by
        rw [hsz]; simp only [List.mem_cons, List.not_mem_nil, or_false, not_or]
        exact ⟨Nat.ne_of_lt (Nat.lt_succ_self _), Nat.ne_of_gt hlS⟩
      have hval : ∀ (i : Nat) (v : Value), items[i]? = some v → ∃ k t, ns[i]? = some k ∧ v = .int k t := fun i v hv => by
        have hi : i < ns.length := by rw [← hisz]; exact (Array.getElem?_eq_some_iff.mp hv).1
        obtain ⟨t, e⟩ := PyProof.Rows.IntsAre.int_at hit i v (by rw [Array.getElem?_toList]; exact hv)
        refine ⟨ns[i], t, List.getElem?_eq_getElem hi, ?_⟩
        rw [e, List.getD_eq_getElem?_getD, List.getElem?_eq_getElem hi] <;> rfl
      refine set_update_ints ((Walks.list hh3 _ l hneI items).toS) s.heap.objs.size hSf ns hisz hb hval (items.size - 0) 0 _ (by omega) (Nat.zero_le _) ⟨⟨_, Heap.get?_push_size _ rfl, rfl, rfl⟩, (hl1.push _)⟩ ⟨0, Nat.le_refl 0, setR_new_at (Heap.get?_push_of_some _ hS)⟩ ?_
      intro s' c' hm hc' hS'
      obtain ⟨h', g2, d', tk', os'⟩ := s'
      have eg : g2 = s.gens := hm.gens
      have ed : d' = s.drawn := hm.drawn
      have eo : os' = s.os := hm.os
      subst eg; subst ed; subst eo
      refine wpAny_pure ?_
      rw [hisz] at hc'
      refine wpAny_pure ⟨rfl, h', tk', c', rfl, hS', hc', fun b o e => ?_⟩
      have hb0 : b < s.heap.objs.size := Heap.lt_size e
      refine hm.heap b o ?_ (Heap.get?_push_of_some _ (Heap.get?_push_of_some _ e))
      rw [hsz]
      simp only [List.mem_cons, List.not_mem_nil, or_false, not_or]
      exact ⟨Nat.ne_of_lt hb0, Nat.ne_of_lt (Nat.lt_succ_of_lt hb0)⟩
    · rcases r₂ with e | fl₂
      · exact hr₂
      cases fl₂ with
      | ret r =>
        obtain ⟨rfl, h', tk, c', rfl, hS', hc', hk'⟩ := hr₂
        repeat (any_goals (first | assumption | wp_step))
        exact h _ _ _ hS' hc' hk'
      | _ => exact hr₂.elim
  | _ => exact hr.elim
end
end NBT

set_option Elab.async false
set_option linter.all false
set_option maxRecDepth 100000
set_option maxHeartbeats 4000000
/-! sorted of a tuple of ints, of a list of pairs of ints -/
namespace NBS
open PySem PySem.Spec PyProof.Rows SrtO Srt
section
variable {prog : Program} {w : World} {A : Around} {E : Value → Shared → Prop} {s : Shared}
theorem collect_tuple {l : Addr} {vs : List Value} {Q : List Value → Shared → Prop} (hl : s.heap.IsTuple l vs.toArray)
    (h : Q vs { s with heap := (s.heap.push (seqObj "list" #[] 0)).update s.heap.objs.size (Obj.mapSeq (· ++ vs.toArray)) }) (hsz : vs.length ≤ sizeLine := by size_fits) :
    wpAny (model prog w) A (collect (.ref l)) Q E s := by
  obtain ⟨o, ho, hc, n, hd⟩ := id hl
  unfold collect
  refine wpAny_bind (wpAny_runValue (codeAny_builtin entry_proto_collect' ?_))
  show wpAny _ _ (do again (.builtin "list.__iadd__" ⟨[← newList [], .ref l], []⟩)) _ _ s
  refine wpAny_bind (wpAny_newList (wpAny_pure ⟨Code.quiet_builtin _ (by decide +kernel), codeAny_builtin entry_list_iadd' ?_⟩))
  show wpAny _ _ (Builtin.List.listExtendWith (.ref s.heap.objs.size) (.ref l) (.ref s.heap.objs.size)) _ _ { s with heap := s.heap.push (seqObj "list" #[] 0) }
  unfold Builtin.List.listExtendWith
  have ho' : (s.heap.push (seqObj "list" #[] 0)).get? l = some o := Heap.get?_push_of_some _ ho
  refine wpAny_bind (wpAny_typeOf (T := "tuple") ⟨o, ho', hc⟩ ?_)
  have ht : (Value.type "tuple" == Value.type "tuple") = true := by rfl
  rw [if_pos (by rw [ht]; simp)]
  refine wpAny_bind (listItems_at ho' hd ?_)
  refine wpAny_bind (listItems_at (xs := #[]) (n := 0) (Heap.get?_push_size _ rfl) rfl ?_)
  rw [if_neg (by simp)]
  refine wpAny_bind (listUpdate_at (xs := #[]) (n := 0) (Heap.get?_push_size _ rfl) rfl ?_ (Nat.zero_le _) (by show (#[] ++ vs.toArray).size ≤ sizeLine + 1; simp only [Array.size_append, List.size_toArray, List.length_nil]; omega))
  refine wpAny_pure ?_
  show wpAny (model prog w) A (do
      let o ← load s.heap.objs.size
      match o.data with
      | .seq xs _ => pure xs.toList
      | _ => unsupported "internal:collect") Q E { s with heap := (s.heap.push (seqObj "list" #[] 0)).update s.heap.objs.size (Obj.mapSeq (· ++ vs.toArray)) }
  refine wpAny_bind (wpAny_load (get?_update_seq (Heap.get?_push_size _ rfl) _) ?_)
  show wpAny _ _ (pure ((#[] : Array Value) ++ vs.toArray).toList) Q E _
  rw [show ((#[] : Array Value) ++ vs.toArray).toList = vs by simp]
  exact wpAny_pure h

theorem sorted_ordT {l : Addr} {vs : List Value} {ltv : Value → Value → Bool} {Q : Value → Shared → Prop} (O : Swo ltv) (hl : s.heap.IsTuple l vs.toArray) (hz : vs.length ≤ sizeLine)
    (hS : 2 ≤ vs.length → ∀ (h₁ : Heap) (a : Addr), h₁.get? a = some (seqObj "list" vs.toArray 0) → (∀ b o, s.heap.get? b = some o → b ≠ a ∧ h₁.get? b = some o) → SortableO prog w A.in1.in1 { s with heap := h₁ } a vs ltv)
    (h : ∀ out : List Value, Srtd ltv out → Stb ltv out vs → Q (.ref (s.heap.objs.size + 1)) { s with heap := sortedAll s.heap vs out.toArray }) :
    wpAny (model prog w) A (call (.builtin "sorted") [.ref l]) Q E s := by
  refine Calls.call_function_entry kind_sorted plain_sorted entry_sorted (args_sorted1 _) ?_
  unfold Builtin.«sorted»
  refine wpAny_bind (m := checkCount "sorted" 1 1 _) (wpAny_pure ?_)
  refine wpAny_bind (collect_tuple hl ?_ hz)
  refine wpAny_bind (wpAny_newList ?_ hz)
  have hsz : ((s.heap.push (seqObj "list" #[] 0)).update s.heap.objs.size (Obj.mapSeq (· ++ vs.toArray))).objs.size = s.heap.objs.size + 1 := by
    rw [Heap.size_update, size_push']
  have hoL : (((s.heap.push (seqObj "list" #[] 0)).update s.heap.objs.size (Obj.mapSeq (· ++ vs.toArray))).push (seqObj "list" vs.toArray 0)).get? (s.heap.objs.size + 1) = some (seqObj "list" vs.toArray 0) := by
    rw [← hsz]; exact Heap.get?_push_size _ rfl
  have keep : ∀ b o, s.heap.get? b = some o → b ≠ s.heap.objs.size + 1 ∧ (((s.heap.push (seqObj "list" #[] 0)).update s.heap.objs.size (Obj.mapSeq (· ++ vs.toArray))).push (seqObj "list" vs.toArray 0)).get? b = some o := fun b o q => by
    have hlt : b < s.heap.objs.size := Heap.lt_size q
    refine ⟨Nat.ne_of_lt (Nat.lt_succ_of_lt hlt), Heap.get?_push_of_some _ ?_⟩
    rw [Heap.get?_update_ne _ _ _ _ (Nat.ne_of_lt hlt)]
    exact Heap.get?_push_of_some _ q
  show wpAny _ _ _ _ _ { s with heap := ((s.heap.push (seqObj "list" #[] 0)).update s.heap.objs.size (Obj.mapSeq (· ++ vs.toArray))).push (seqObj "list" vs.toArray 0) }
  rw [hsz]
  refine wpAny_bind (wpAny_holding (wpAny_call_entry slot_list_sort ⟨_, hoL, rfl⟩ entry_list_sort (list_sort_ord O hoL hz (fun h2 => hS h2 _ _ hoL keep) fun out hs hb => ⟨_, rfl, ?_⟩) (args_list_sort _)))
  exact wpAny_pure ⟨_, rfl, h out hs hb⟩

end
end NBS
namespace NB
open PySem L2 Evl
section
variable {X : Cx} {ds : List PyData}
def rSortedIT (K : PySem.W.Frag) : List V → Hp → VK → Prop := fun vs H Q => ∃ (a : Addr) (ns : List Int), vs = [V.ref a] ∧ SqT K H a (ns.map V.int) ∧
  ∀ (ns' : List Int) (p : Addr), ns'.Perm ns → ns'.Pairwise (· ≤ ·) → H p = none → Q (.ref p) (upd H p (.lst (ns'.map V.int)))
theorem cr_sortedIT : CallR X (.builtin "sorted") (rSortedIT X.K) := by
  intro pins s σ H vs us Q I r h
  obtain ⟨a, ns, rfl, hs, q⟩ := h
  obtain ⟨its, rv, hl, hz⟩ := I.tuple hs
  rw [Vals.ref1 r]
  have hi := rv.ints
  refine NBS.sorted_ordT SrtO.swo_int hl (by rw [← rv.length]; exact hz) (fun h2 h₁ a' _ _ => SrtO.ints_sortable hi h2) fun out h1 h2 => ?_
  obtain ⟨k1, k2, k3⟩ := SrtO.ints_out hi h1 h2
  obtain ⟨ep, he'⟩ := PyProof.Rows.sortedAll_at s.heap its out.toArray
  have hlen : ((out.map SrtO.iv).map V.int).length ≤ sizeLine := by
    rw [List.length_map, k2.length_eq]
    rw [List.length_map] at hz
    exact hz
  exact ⟨.ref _, upd H (s.heap.objs.size + 1) (.lst ((out.map SrtO.iv).map V.int)), I.laid (t' := s.toks) (fun _ _ => PyProof.Rows.sortedAll_old) (Nat.le_succ _) ⟨hlen, out, ep, vals_of_ints k1, he'⟩, rfl, q _ _ k2 k3 (I.hok.fresh (Nat.le_succ _))⟩
theorem f_sortedIT {ns : List Int} : CalF X (.builtin "sorted") [.tuple (ns.map .int)] ((srt ns).map .int) := calF_of cr_sortedIT fun z xs H Q zd h1 k => by
  cases h1 with
  | cons h1 h2 =>
    cases h2
    cases h1 with
    | @tup p ys _ hs ha =>
      have e1 := dpa_ints_eq ha
      subst e1
      refine ⟨p, ns, rfl, ex_t cut_sub hs, fun ns' q hp hw hq => ?_⟩
      have e : ns' = srt ns := pw_unique (hp.trans (srt_perm ns).symm) hw (srt_pw ns)
      rw [e]
      exact k q _ _ (Ex.new hq) hq upd_same dpa_ints
/-! ### pairs -/
def leP (p q : Pr) : Bool := decide (p.1 < q.1) || (decide (p.1 = q.1) && decide (p.2 ≤ q.2))
theorem leP_iff {p q : Pr} : leP p q = true ↔ p.1 < q.1 ∨ (p.1 = q.1 ∧ p.2 ≤ q.2) := by simp [leP]
def srtP (ps : List Pr) : List Pr := ps.mergeSort leP
theorem srtP_perm (ps : List Pr) : (srtP ps).Perm ps := List.mergeSort_perm _ _
theorem srtP_pw (ps : List Pr) : (srtP ps).Pairwise fun p q => leP p q = true := List.pairwise_mergeSort (fun a b c h1 h2 => by
    rw [leP_iff] at *
    omega) (fun a b => by
    have : leP a b = true ∨ leP b a = true := by
      rw [leP_iff, leP_iff]
      omega
    rcases this with h | h <;> simp [h]) ps
theorem pwP_unique {l l' : List Pr} (p : l.Perm l') (h : l.Pairwise fun p q => leP p q = true) (h' : l'.Pairwise fun p q => leP p q = true) : l = l' :=
  p.eq_of_pairwise (fun a b _ _ h1 h2 => by
    rw [leP_iff] at h1 h2
    obtain ⟨a1, a2⟩ := a
    obtain ⟨b1, b2⟩ := b
    simp only at h1 h2
    have e1 : a1 = b1 := by omega
    have e2 : a2 = b2 := by omega
    rw [e1, e2]) h h'
def rSortedPD (K : PySem.W.Frag) : List V → Hp → VK → Prop := fun vs H Q => ∃ (a : Addr) (xs : List V) (ps : List Pr) (G : Hp), vs = [V.ref a] ∧ SqL K H a xs ∧ Ex G H ∧ DpAll K G xs (pD ps) ∧
  ∀ ys p, ys.Perm xs → (∀ ps', ps'.Perm ps → ps'.Pairwise (fun p q => leP p q = true) → DpAll K G ys (pD ps')) → H p = none → Q (.ref p) (upd H p (.lst ys))
def prOf : PyData → Pr
  | .tuple [.int a, .int b] => (a, b)
  | _ => (0, 0)
theorem prOf_prd (p : Pr) : prOf (prd p) = p := rfl
theorem dpa_fun {K : PySem.W.Frag} {H : Hp} {f : V → Pr} : ∀ {xs : List V}, (∀ x ∈ xs, Dp K H x (prd (f x))) → DpAll K H xs (pD (xs.map f))
  | [], _ => .nil
  | x :: xs, h => .cons (h x List.mem_cons_self) (dpa_fun fun y hy => h y (List.mem_cons_of_mem _ hy))
theorem dpa_mem {K : PySem.W.Frag} {H : Hp} : ∀ {xs : List V} {ps : List Pr}, DpAll K H xs (pD ps) → ∀ x ∈ xs, ∃ p, Dp K H x (prd p)
  | _, [], h, x, hx => by cases h; cases hx
  | _, p :: ps, h, x, hx => by
    cases h with
    | cons h1 h2 =>
      rcases List.mem_cons.mp hx with e | hx
      · rw [e]; exact ⟨p, h1⟩
      · exact dpa_mem h2 x hx
theorem dpa_map {K : PySem.W.Frag} {H : Hp} {f : V → Pr} (hf : ∀ x p, Dp K H x (prd p) → f x = p) : ∀ {xs : List V} {ps : List Pr}, DpAll K H xs (pD ps) → xs.map f = ps
  | _, [], h => by cases h; rfl
  | _, p :: ps, h => by
    cases h with
    | cons h1 h2 => rw [List.map_cons, hf _ _ h1, dpa_map hf h2]
theorem cr_sortedPD : CallR X (.builtin "sorted") (rSortedPD X.K) := by
  intro pins s σ H vs us Q I r h
  obtain ⟨a, xs, ps, G, rfl, hs, eG, hx, q⟩ := h
  obtain ⟨its, rv, hl, hz⟩ := I.list hs
  obtain ⟨u, rfl, ru⟩ := vals1 r
  obtain rfl : u = Value.ref a := ru
  obtain ⟨e1, e2⟩ := refs_back rv fun x m => by
    obtain ⟨p, hp⟩ := dpa_mem hx x m
    cases hp with
    | @tup t _ _ _ _ => exact ⟨t, rfl⟩
  have rd : ∀ v ∈ its, ∀ p, Dp X.K G (backV v) (prd p) → SeqAt.readOf s.heap v = prd p ∧ Srt.IsPair s.heap v p.1 p.2 := fun v hv p hp => by
    have hp := Dpm eG hp
    obtain ⟨t, rfl⟩ := e2 v hv
    obtain ⟨as, r1⟩ := Dp.reads I _ _ (Value.ref t) (hp.toS (fl_prd p).sh) rfl
    refine ⟨SeqAt.readOf_eq (fl_prd p).lay r1, ?_⟩
    cases hp with
    | @tup t _ _ hs2 ha2 =>
      obtain ⟨its2, r2, ⟨o, ho, hc, n, hd⟩, _⟩ := I.tuple hs2
      have e3 := dpa_ints_eq (ns := [p.1, p.2]) ha2
      subst e3
      obtain ⟨u1, u2, rfl, ri, rj⟩ := vals2 r2
      obtain ⟨t1, rfl⟩ := ri
      obtain ⟨t2, rfl⟩ := rj
      exact ⟨t, o, t1, t2, n, rfl, ho, hc, hd⟩
  have mem : ∀ v ∈ its, backV v ∈ xs := fun v hv => by rw [e1]; exact List.mem_map.mpr ⟨v, hv, rfl⟩
  refine SrtO.sorted_pairsO (k := fun u => prOf (SeqAt.readOf s.heap u)) hl.isList (by rw [← rv.length]; exact hz) (fun v hv => ?_) fun h' d out h1 h2 kp hd hn => ?_
  · obtain ⟨p, hp⟩ := dpa_mem hx _ (mem v hv)
    obtain ⟨k1, k2⟩ := rd v hv p hp
    rw [k1]
    exact k2
  · have h3 : ∀ u ∈ out, ∃ a, u = Value.ref a := fun u hu => e2 u (h2.perm.mem_iff.mp hu)
    obtain ⟨n, hn⟩ := hn
    have hperm : (out.map backV).Perm xs := by rw [e1]; exact h2.perm.map _
    have hH : H d = none := I.hok.fresh hd
    refine ⟨.ref d, upd H d (.lst (out.map backV)), I.laid (t' := s.toks) kp hd ⟨?_, out, n, vals_back h3, hn⟩, rfl, q _ d hperm (fun ps' hp' hw' => ?_) hH⟩
    · rw [hperm.length_eq]
      exact hz
    · -- the pairs of out, in its order
      have hk : DpAll X.K G (out.map backV) (pD (out.map fun u => prOf (SeqAt.readOf s.heap u))) := by
        have gen : ∀ l : List Value, (∀ u ∈ l, u ∈ its) → DpAll X.K G (l.map backV) (pD (l.map fun u => prOf (SeqAt.readOf s.heap u))) := fun l => by
          induction l with
          | nil => intro _; exact .nil
          | cons u l ih =>
            intro hm
            have hu := hm u List.mem_cons_self
            obtain ⟨p, hp⟩ := dpa_mem hx _ (mem u hu)
            refine .cons ?_ (ih fun v hv => hm v (List.mem_cons_of_mem _ hv))
            dsimp only
            rw [(rd u hu p hp).1]
            exact hp
        exact gen out fun u hu => h2.perm.mem_iff.mp hu
      have hps : (its.map fun u => prOf (SeqAt.readOf s.heap u)) = ps := by
        have gen : ∀ (l : List Value) (qs : List Pr), (∀ u ∈ l, u ∈ its) → DpAll X.K G (l.map backV) (pD qs) → (l.map fun u => prOf (SeqAt.readOf s.heap u)) = qs := fun l => by
          induction l with
          | nil =>
            intro qs _ hq
            cases qs with
            | nil => rfl
            | cons q qs => cases hq
          | cons u l ih =>
            intro qs hm hq
            cases qs with
            | nil => cases hq
            | cons q qs =>
              cases hq with
              | cons q1 q2 =>
                rw [List.map_cons, ih qs (fun v hv => hm v (List.mem_cons_of_mem _ hv)) q2, (rd u (hm u List.mem_cons_self) q q1).1]
                rfl
        refine gen its ps (fun u hu => hu) ?_
        rw [← e1]
        exact hx
      have e5 : ps' = out.map fun u => prOf (SeqAt.readOf s.heap u) := by
        refine pwP_unique ?_ hw' ?_
        · refine hp'.trans ?_
          rw [← hps]
          exact (h2.perm.map _).symm
        · rw [List.pairwise_map]
          refine h1.imp fun {v u} hvu => ?_
          have := SrtO.lexB_no.mp hvu
          rw [leP_iff]
          omega
      rw [e5]
      exact hk
theorem f_sortedP {ps : List Pr} : CalF X (.builtin "sorted") [.list (pD ps)] (pD (srtP ps)) := calF_of cr_sortedPD fun z xs H Q zd h1 k => by
  cases h1 with
  | cons h1 h2 =>
    cases h2
    cases h1 with
    | @lst p ys _ hs ha =>
      exact ⟨p, ys, ps, cut H z, rfl, ex_l cut_sub hs, cut_sub, ha, fun zs q hp hd hq => k q _ zs (Ex.new hq) hq upd_same (hd _ (srtP_perm ps) (srtP_pw ps))⟩
end
end NB

set_option Elab.async false
set_option linter.all false
set_option maxRecDepth 100000
set_option maxHeartbeats 4000000
/-! the logic's rules for sets of ints -/
namespace NB
open PySem L2 Evl
def stepS (p : (Int → Bool) × Nat) (k : Int) : (Int → Bool) × Nat := (fun j => p.1 j || decide (j = k), if p.1 k = true then p.2 else p.2 + 1)
/-- the set that has got the ints of L, one by one -/
def setL (L : List Int) : (Int → Bool) × Nat := L.foldl stepS (fun _ => false, 0)
theorem setL_snoc (L : List Int) (k : Int) : setL (L ++ [k]) = stepS (setL L) k := by unfold setL; rw [List.foldl_append]; rfl
theorem snoc_ind {P : List Int → Prop} (h0 : P []) (hs : ∀ L k, P L → P (L ++ [k])) (L : List Int) : P L := by
  have h : ∀ n (L : List Int), L.length = n → P L := fun n => by
    induction n with
    | zero => intro L h; rw [List.length_eq_zero_iff.mp h]; exact h0
    | succ n ih =>
      intro L h
      have hne : L ≠ [] := fun q => by rw [q] at h; cases h
      rw [← List.dropLast_concat_getLast hne]
      exact hs _ _ (ih _ (by rw [List.length_dropLast, h]; rfl))
  exact h _ L rfl
theorem setL_mem (L : List Int) : ∀ j, (setL L).1 j = decide (j ∈ L) := by
  refine snoc_ind (P := fun L => ∀ j, (setL L).1 j = decide (j ∈ L)) (fun j => by simp [setL]) (fun L k ih => ?_) L
  · intro j
    rw [setL_snoc]
    show ((setL L).1 j || decide (j = k)) = _
    rw [ih j]
    by_cases h : j ∈ L <;> by_cases h2 : j = k <;> simp [h, h2]
theorem setL_le (L : List Int) : (setL L).2 ≤ L.length := by
  refine snoc_ind (P := fun L => (setL L).2 ≤ L.length) (Nat.le_refl 0) (fun L k ih => ?_) L
  · rw [setL_snoc, List.length_append, List.length_singleton]
    show (if (setL L).1 k = true then (setL L).2 else (setL L).2 + 1) ≤ _
    split <;> omega
/-- strictly ascending ints with the same members are the same -/
theorem lt_unique {l l' : List Int} (h : l.Pairwise (· < ·)) (h' : l'.Pairwise (· < ·)) (m : ∀ k, k ∈ l ↔ k ∈ l') : l = l' := by
  have n1 : l.Nodup := h.imp fun q => by omega
  have n2 : l'.Nodup := h'.imp fun q => by omega
  exact pw_unique ((List.perm_ext_iff_of_nodup n1 n2).mpr m) (h.imp fun q => by omega) (h'.imp fun q => by omega)
section
variable {X : Cx} {env env1 env2 : En} {d : PyData} {ds : List PyData} {e a b : Expr} {pos : Pos} {L La Lb : List Int} {B Ba Bb : Nat}
/-- a new set of ints, not yet anybody's -/
def tX (K : PySem.W.Frag) (w : World) (env : En) (L : List Int) (B : Nat) (env' : En) : TE := fun σ H Q => ∃ Γ z, SD K w Γ z H σ env ∧
  ∀ p H1 H2 n, Ex (cut H z) (cut H1 z) → SD K w Γ z H1 σ env' → Ex H1 H2 → H1 p = none → H2 p = some (SetO w p (fun k => decide (k ∈ L)) n) → n ≤ B → Q (.ref p) H2
abbrev PX (X : Cx) (e : Expr) (env : En) (L : List Int) (B : Nat) (env' : En) : Prop := PE X e (tX X.K X.w env L B env')

/-! set(list of ints) -/
def rSetL (K : PySem.W.Frag) (w : World) : List V → Hp → VK → Prop := fun vs H Q => ∃ (a : Addr) (ns : List Int), vs = [V.ref a] ∧ SqL K H a (ns.map V.int) ∧ ns.length ≤ 1000 ∧
  ∀ p n, H p = none → n ≤ ns.length → Q (.ref p) (upd H p (SetO w p (fun k => decide (k ∈ ns)) n))
theorem cr_setL (hc : X.calm = true) : CallR X (.type "set") (rSetL X.K X.w) := by
  intro pins s σ H vs us Q I r h
  obtain ⟨a, ns, rfl, hs, hl, q⟩ := h
  obtain ⟨its, rv, hl2, hz⟩ := I.list hs
  rw [Vals.ref1 r]
  have hi : PyProof.Rows.IntsAre its.toArray.toList ns := ints_of_vals rv
  refine NBT.set_list ns (I.ok.hd hc) hl2.isList hi (by unfold scanBound; omega) fun h' tk c R hcn k => ?_
  have hn : H s.heap.objs.size = none := I.hok.fresh (Nat.le_refl _)
  exact ⟨.ref _, _, I.laid (t' := tk) k (Nat.le_refl _) (setO_new R), rfl, q _ c hn hcn⟩
theorem px_set {p : Pos} {ns : List Int} (hc : X.calm = true) (hm : X.mg "set" = none) (he : PD X e env (.list (iD ns)) env1) (hl : ns.length ≤ 1000) (hg : Gl X "set" := by rfl)
    (hs : starEach [e] X.env = (false, eval e X.env) :: starEach [] X.env := by rfl) (hpl : (backTo pos (starEach [] X.env)).any (·.1) = false := by rfl) : PX X (.Call (.Name "set" p) [e] [] pos) env ns ns.length env1 :=
  pe_imp (pe_callTy (cr_setL hc) hg hm PyProof.Rows.boot_set (pad_cons he pad_nil hs) (by decide) (by decide) hs hpl) fun σ H Q ⟨Γ, z, sd, kk⟩ => ⟨Γ, z, sd, fun vs H' ex sd' h1 => by
    cases h1 with
    | cons h1 h2 =>
      cases h2
      cases h1 with
      | @lst p ys _ hs ha =>
        have e1 := dpa_ints_eq (ns := ns) ha
        subst e1
        exact ⟨p, ns, rfl, ex_l cut_sub hs, hl, fun r n hr hn => kk r H' _ n ex sd' (Ex.new hr) hr upd_same hn⟩⟩
/-! s & t -/
theorem entry_set_and : entryFor table "set.__and__" = some Builtin.«frozenset.__and__» :=
  entryFor_alias (id' := "frozenset.__and__") (by kernel_rfl) rfl (by decide +kernel) (by kernel_rfl)
def rSAnd (w : World) : R2 := fun x y H Q => ∃ a b S T n m, x = .ref a ∧ y = .ref b ∧ a ≠ b ∧ H a = some (SetO w a S n) ∧ H b = some (SetO w b T m) ∧ n ≤ 1000 ∧
  ∀ p c, H p = none → c ≤ n → Q (.ref p) (upd H p (SetO w p (fun k => S k && T k) c))
theorem or_sand : OpR X (binaryOp .BitAnd) (rSAnd X.w) := by
  intro pins s σ H x y v u Q I rx ry h
  obtain ⟨a, b, S, T, n, m, rfl, rfl, hab, ha, hb, hn, q⟩ := h
  cases rx
  cases ry
  have Ra := setO_get I ha
  have Rb := setO_get I hb
  have Ta : s.TypeIs (.ref a) "set" := (Ra.setOf (P := X.prog)).typeIs
  have Tb : s.TypeIs (.ref b) "set" := (Rb.setOf (P := X.prog)).typeIs
  refine wpAny_binaryOp_same (op := .BitAnd) Ta Tb F.fills_set_and F.slot_set_and (wpAny_call_entry F.slot_set_and Ta entry_set_and ?_ (F.args_set_and_2 _ _))
  unfold Builtin.«frozenset.__and__»
  obtain ⟨es, ep, t, xa, _⟩ := NBT.ob_of Ra
  obtain ⟨es2, ep2, t2, xb, _⟩ := NBT.ob_of Rb
  refine wpAny_bind (m := Builtin.Frozenset.slot1 "__and__" _) (wpAny_of_eq (a := (.ref a, .ref b)) (by rfl) ?_)
  dsimp only
  simp only [Bool.false_eq_true, if_false]
  refine wpAny_bind (m := (Builtin.Frozenset.isAnySet (.ref a) <&&> Builtin.Frozenset.isAnySet (.ref b))) (wpAny_bind (m := Builtin.Frozenset.isAnySet (.ref a)) (xa.anySet (xb.anySet ?_)))
  refine wp_if_neg (by simp) ?_
  unfold Builtin.Frozenset.addrOf
  refine wpAny_bind (wpAny_pure ?_)
  refine wpAny_bind (NBT.inter_at Ra Rb hab (by unfold scanBound; omega) fun h' dr c R hc k => ?_)
  have hn' : H s.heap.objs.size = none := I.hok.fresh (Nat.le_refl _)
  have J : Inv X pins σ (upd H s.heap.objs.size (SetO X.w s.heap.objs.size (fun k => S k && T k) c)) { s with heap := h', gens := s.gens, drawn := dr, toks := s.toks } :=
    I.call (ch := []) (Un.laid k (Nat.le_refl _) hn') (I.hok.laid k (Nat.le_refl _) (setO_new R)) I.bare (fun _ z => nomatch z)
  exact wpAny_pure ⟨_, rfl, by simp, .ref _, _, J, rfl, q _ c hn' hc⟩
theorem px_and (ha : PX X a env La Ba env1) (hb : PX X b env1 Lb Bb env2) (hB : Ba ≤ 1000) : PX X (.BinOp a .BitAnd b pos) env (La.filter fun k => decide (k ∈ Lb)) Ba env2 :=
  pe_imp (pe_op or_sand ha hb) fun σ H Q ⟨Γ, z, sd, kk⟩ => ⟨Γ, z, sd, fun p H1 H2 n ex sd1 e2 hp hp2 hn => ⟨Γ, z, sd1.grow e2, fun r H3 H4 m ex2 sd3 e4 hr hr2 hm => by
    have zp : z p = false := sd1.zfresh hp
    have hp3 : H3 p = some (SetO X.w p (fun k => decide (k ∈ La)) n) := (cut_some (ex2 p _ (cut_of zp hp2))).2
    have hne : p ≠ r := fun q => by rw [q, hr] at hp3; cases hp3
    refine ⟨p, r, _, _, n, m, rfl, rfl, hne, e4 p _ hp3, hr2, Nat.le_trans hn hB, fun u c hu hc => ?_⟩
    have hu3 : H3 u = none := by
      cases q : H3 u with
      | none => rfl
      | some o => rw [e4 u o q] at hu; cases hu
    refine kk u H3 _ c (ex.trans ((cut_ex e2).trans ex2)) sd3 (e4.trans (Ex.new hu)) hu3 ?_ (Nat.le_trans hc hn)
    rw [upd_same]
    congr 2
    funext k
    rw [← Bool.decide_and]
    exact decide_eq_decide.mpr (by rw [List.mem_filter, decide_eq_true_eq])⟩⟩
/-! len(s), sorted(s) -/
def rLenX (w : World) : List V → Hp → VK → Prop := fun vs H Q => ∃ a S n, vs = [V.ref a] ∧ H a = some (SetO w a S n) ∧ n ≤ 1000 ∧ ∀ m : Nat, (∀ L : List Int, L.Nodup → (∀ k, k ∈ L ↔ S k = true) → m = L.length) → Q (.int (m : Int)) H
theorem cr_lenX : CallR X (.builtin "len") (rLenX X.w) := by
  intro pins s σ H vs us Q I r h
  obtain ⟨a, S, n, rfl, ha, hn1, q⟩ := h
  have R := setO_get I ha
  rw [Vals.ref1 r]
  obtain ⟨o, es, ep, t, ho, hex, hd, g, nd, hm, hb, hf, hn, hr, hl⟩ := R
  refine call_len_set ho hex hd hf (by omega) ⟨.int (es.size : Nat), H, I.tok _, ⟨_, rfl⟩, q es.size fun L hL hk => ?_⟩
  have p : (es.toList.map keyOf).Perm L := (List.perm_ext_iff_of_nodup nd hL).mpr fun k => (hm k).symm.trans (hk k).symm
  have := p.length_eq
  rw [List.length_map, Array.length_toList] at this
  exact this
theorem pd_lenX {p : Pos} (hm : X.mg "len" = none) (he : PX X e env L B env1) (hB : B ≤ 1000) (hL : L.Nodup) (hg : Gl X "len" := by rfl)
    (hs : starEach [e] X.env = (false, eval e X.env) :: starEach [] X.env := by rfl) (hpl : (backTo pos (starEach [] X.env)).any (·.1) = false := by rfl) : PD X (.Call (.Name "len" p) [e] [] pos) env (.int (L.length : Int)) env1 :=
  pe_imp (pe_callB cr_lenX hg hm PySem.boot_len (pa_cons he pa_nil hs) (he := hs) (hpl := hpl)) fun σ H Q ⟨Γ, z, sd, kk⟩ => ⟨Γ, z, sd, fun p H1 H2 n ex sd1 e2 hp hp2 hn =>
    ⟨p, _, n, rfl, hp2, Nat.le_trans hn hB, fun m hm => by
      rw [hm L hL fun k => by rw [decide_eq_true_eq]]
      exact kk _ H2 (ex.trans (cut_ex e2)) (sd1.grow e2) (.int _)⟩⟩
theorem pf_sortedX {p : Pos} {L' : List Int} (hc : X.calm = true) (hm : X.mg "sorted" = none) (he : PX X e env L B env1) (hB : B < 64) (hL : L'.Pairwise (· < ·)) (hk : ∀ k, k ∈ L' ↔ k ∈ L) (hg : Gl X "sorted" := by rfl)
    (hs : starEach [e] X.env = (false, eval e X.env) :: starEach [] X.env := by rfl) (hpl : (backTo pos (starEach [] X.env)).any (·.1) = false := by rfl) : PF X (.Call (.Name "sorted" p) [e] [] pos) env (iD L') env1 :=
  pe_imp (pe_callB (cr_sortedSet hc) hg hm (by decide +kernel) (pa_cons he pa_nil hs) (he := hs) (hpl := hpl)) fun σ H Q ⟨Γ, z, sd, kk⟩ => ⟨Γ, z, sd, fun p H1 H2 n ex sd1 e2 hp hp2 hn =>
    ⟨p, _, n, rfl, hp2, Nat.lt_of_le_of_lt hn hB, fun ns q hw hm hl hq => by
      have e1 : ns = L' := lt_unique hw hL fun k => by rw [hm k, decide_eq_true_eq, hk k]
      subst e1
      have hq1 : H1 q = none := by
        cases r : H1 q with
        | none => rfl
        | some o => rw [e2 q o r] at hq; cases hq
      exact kk q H1 _ _ ex sd1 (e2.trans (Ex.new hq)) hq1 upd_same dpa_ints⟩⟩
/-! a name that holds a set of one's own -/
/-- the slot: the set that has got the ints of L -/
def iS (w : World) (L : List Int) : Sl := .x (fun a => SetO w a (setL L).1 (setL L).2) []
theorem tsNil {K : PySem.W.Frag} {G : Hp} : TsAt K G [] := fun p hp => by cases hp
theorem pf_sortedS (i : Nat) {x : Str} {xp p : Pos} {L' : List Int} (hc : X.calm = true) (hm : X.mg "sorted" = none) (hi : env[i]? = some (iS X.w L)) (hB : L.length < 64) (hL : L'.Pairwise (· < ·)) (hk : ∀ k, k ∈ L' ↔ k ∈ L) (hN : X.N[i]? = some x := by rfl) (hv : Vis X.env.scope x := by first | exact Or.inl rfl | exact Or.inr (Or.inl rfl) | exact Or.inr (Or.inr rfl))
    (hb1 : (x == ("__debug__" : Str)) = false := by decide) (hcd : (x == ("__classdict__" : Str)) = false := by decide) (hg : Gl X "sorted" := by rfl)
    (hs : starEach [.Name x xp] X.env = (false, eval (.Name x xp) X.env) :: starEach [] X.env := by rfl) (hpl : (backTo pos (starEach [] X.env)).any (·.1) = false := by rfl) : PF X (.Call (.Name "sorted" p) [.Name x xp] [] pos) env (iD L') env :=
  pe_imp (pe_callB (cr_sortedSet hc) hg hm (by decide +kernel) (pa_cons (pv i hN hv hb1 hcd) pa_nil hs) (he := hs) (hpl := hpl)) fun σ H Q ⟨Γ, z, sd, kk⟩ => by
    obtain ⟨a, h1, h2, h3, _⟩ := sd.seto hi
    refine ⟨.ref a, h1, a, _, _, rfl, h3, Nat.lt_of_le_of_lt (setL_le L) hB, fun ns q hw hm hl hq => ?_⟩
    have e1 : ns = L' := lt_unique hw hL fun k => by rw [hm k, setL_mem, decide_eq_true_eq, hk k]
    subst e1
    exact kk q H _ _ (Ex.refl _) sd (Ex.new hq) hq upd_same dpa_ints
/-- found = set() -/
theorem hs_setS (i : Nat) {x : Str} {px p cp : Pos} (hN : X.N.Nodup) (hm : X.mg "set" = none) (hl : i < env.length := by simp) (hi : X.N[i]? = some x := by rfl) (hx : Loc X.env.scope x := by first | exact Or.inl rfl | exact Or.inr rfl) (hg : Gl X "set" := by rfl)
    (hs : swapsWith (.Call (.Name "set" p) [] [] cp) (some (.Name x px)) pos.line X.env = pure false := by rfl) (hf : X.fn x = true ∨ X.env.scope.names.lookup x = some .local := by first | exact .inl rfl | exact .inr rfl) : HD1 X (.Assign [.Name x px] (.Call (.Name "set" p) [] [] cp) pos) env { nx := fun e => e = env.set i (iS X.w []) } :=
  ps_imp (ps_set hN hi hx (pe_callTy0 cr_set0 hg hm PyProof.Rows.boot_set) hs hf) fun D σ H ⟨Γ, z, sd, k, _⟩ => ⟨rfl, fun q hq =>
    k _ (addZ z q) _ _ rfl (cut_addZ (Ex.new hq) hq) (sd.setS (f := fun a => SetO X.w a (setL []).1 (setL []).2) (Ex.new hq) hq upd_same tsNil hl)⟩
/-- found.add(e) -/
theorem hs_sadd (i : Nat) {x : Str} {xp ap cp : Pos} {spos : Pos} {k : Int} (he : PD X e env (.int k) env) (hi : env[i]? = some (iS X.w L)) (hl : L.length ≤ 1000) (hN : X.N[i]? = some x := by rfl) (hv : Vis X.env.scope x := by first | exact Or.inl rfl | exact Or.inr (Or.inl rfl) | exact Or.inr (Or.inr rfl))
    (hb1 : (x == ("__debug__" : Str)) = false := by decide) (hcd : (x == ("__classdict__" : Str)) = false := by decide)
    (hbase : attributeBase (.Name x xp) "add" X.env (eval (.Name x xp) X.env) = eval (.Name x xp) X.env := by rfl)
    (hfew : ((backTo cp (starEach [e] X.env)).all (fun x => !x.1) && (backToKw cp (keywordEach [] X.env)).all (fun x => x.1.isSome) && decide (([e] : List Expr).length + ([] : List Keyword).length + (if ([] : List Keyword).isEmpty then 0 else 1) < 30)) = true := by rfl)
    (hline : (ap.endLine == cp.line) = true := by rfl) (hst : starEach [e] X.env = (false, eval e X.env) :: starEach [] X.env := by rfl) (hplain : (backTo cp (starEach [] X.env)).any (·.1) = false := by rfl)
    (hs : swapsWith (.Call (.Attribute (.Name x xp) "add" ap) [e] [] cp) none spos.line X.env = pure false := by rfl) :
    HD1 X (.Expr (.Call (.Attribute (.Name x xp) "add" ap) [e] [] cp) spos) env { nx := fun e => e = env.set i (iS X.w (L ++ [k])) } :=
  ps_imp (ps_expr (pe_sadd (pv i hN hv hb1 hcd) (pa_cons he pa_nil hst) hbase hfew hline hst hplain) hs) fun D σ H ⟨Γ, z, sd, kk, _⟩ => by
    obtain ⟨a, h1, h2, h3, _⟩ := sd.seto hi
    refine ⟨.ref a, h1, ⟨a, _, _, rfl, h3⟩, Γ, z, sd, fun v H' ex sd' hd => ?_⟩
    cases hd
    obtain ⟨a', h1', h2', h3', _⟩ := sd'.seto hi
    rw [h1] at h1'
    cases h1'
    have := setL_le L
    refine ⟨a, k, _, _, rfl, rfl, h3', by unfold scanBound; omega, ?_⟩
    have q := sd'.chS (f' := fun a => SetO X.w a (setL (L ++ [k])).1 (setL (L ++ [k])).2) hi h1 (H' := upd H' a (SetO X.w a (setL (L ++ [k])).1 (setL (L ++ [k])).2)) (fun b o nb q => (upd_ne nb).trans q) upd_same
    have e1 : (SetO X.w a (fun j => (setL L).1 j || decide (j = k)) (if (setL L).1 k = true then (setL L).2 else (setL L).2 + 1)) = SetO X.w a (setL (L ++ [k])).1 (setL (L ++ [k])).2 := by rw [setL_snoc]; rfl
    show D.nx σ (upd H' a (SetO X.w a (fun j => (setL L).1 j || decide (j = k)) (if (setL L).1 k = true then (setL L).2 else (setL L).2 + 1)))
    rw [e1]
    exact kk _ z _ _ rfl (ex.trans q.2) q.1
end
end NB

set_option Elab.async false
set_option linter.all false
set_option maxRecDepth 100000
set_option maxHeartbeats 4000000
/-! the logic's rules: set comprehensions of ints, greater sets -/
namespace NB
open PySem L2 Evl PyProof.Rows PpSet
section
variable {X : Cx}
theorem set0_fresh {h : Heap} (w : World) : SetR w (h.push { cls := .type "set", dict := none, data := .set #[] 0 (.fresh 0 0 (!w.params.followText "set-order")) }) h.objs.size (fun _ => false) 0 := by
  refine ⟨_, #[], 0, _, Heap.get?_push_size _ rfl, ⟨rfl, rfl, rfl⟩, rfl, ?_, ?_, ?_, ?_, ?_, ?_, ?_, ?_⟩
  all_goals first
    | rfl
    | exact List.Pairwise.nil
    | (intro e he; simp at he; done)
    | (intro k; simp; done)
    | (simp; done)
    | decide
    | (show _ ∨ (!w.params.followText "set-order") = true; cases w.params.followText "set-order" <;> simp; done)
/-- an int goes in -/
theorem addI_ok {pins : List (Addr × Obj)} {σ : L2.St} {H : Hp} {s : Shared} {E : Value → Shared → Prop} {D : Addr} {S : Int → Bool} {n : Nat} {y : Int} {tk : Tok} {Q : Value → Shared → Prop} (I : Inv X pins σ H s) (hD : H D = some (SetO X.w D S n)) (room : n + 1 < scanBound)
    (k : ∀ s', Inv X pins σ (upd H D (SetO X.w D (fun j => S j || decide (j = y)) (if S y = true then n else n + 1))) s' → Q .none s') : wpAny (model X.prog X.w) X.A (call (.builtin "set.add") [.ref D, .int y tk]) Q E s := by
  refine setR_add (setO_get I hD) room fun hp same got => ?_
  obtain ⟨o, ho⟩ : ∃ u, hp.get? D = some u := by
    obtain ⟨o, _, _, _, ho, _⟩ := id got
    exact ⟨o, ho⟩
  exact k _ (I.write (e := D) (t' := s.toks + 1) (by rw [hD]; trivial) (.inl rfl) (fun b u nb hu => (same.2 b nb).trans hu) ⟨o, ho⟩ (setO_new got))
/-- {e for target in iter if ..}, e an int: D the new set -/
def tSI (w : World) (wi : TI) (g : TG) (tt : TT) (te : TE) (vs : List Nat) : TE := fun σ H Q => wi σ H fun J H1 => ∀ D, H1 D = none → ∃ V : Nat → Nat → Hp → Prop, (∃ m, V 0 m (upd H1 D (SetO w D (fun _ => false) 0))) ∧
  ∀ i m H, V i m H → (J.stop i H ∧ Q (.ref D) H) ∨ (J.go i H ∧ ∃ Nz : Hp → Prop, (∀ H', Nz H' → ∃ m', m' < m ∧ V (i + 1) m' H') ∧ ∀ x H', J.yld i H x H' → g x (wipe σ vs) H' fun ρ KB => wipe ρ vs = wipe σ vs ∧ tt ρ KB fun b KC =>
    if b = true then te ρ KC fun y KD => ∃ (c : Int) (S : Int → Bool) (n : Nat), y = .int c ∧ KD D = some (SetO w D S n) ∧ n + 1 < scanBound ∧ Nz (upd KD D (SetO w D (fun j => S j || decide (j = c)) (if S c = true then n else n + 1))) else Nz KC)
theorem sci_core {pins : List (Addr × Obj)} {s : Shared} {σ : L2.St} {H : Hp} {Q : VK} {elt tg iter : Expr} {ifs : List Expr} {scope : Scope} {own : List (Str × Nat)} {pos pos' : Pos} {wi : TI} {g : TG} {tt : TT} {te : TE} {use : Option (Value → Sem Unit)} {Qf : Value → Shared → Prop}
    (hc : X.calm = true) (hN : X.N.Nodup) (I : Inv X pins σ H s) (hi : PI X tg iter wi) (ok : BlkOk X.N X.env.scope scope own)
    (hg : ∀ (s : Shared) (H : Hp) (C : Addr) (cl : List (Str × Addr)) (fs : List Addr), PG (X.blk s H scope (compEnvC scope cl C X.env) fs) tg g) (ht : ∀ (s : Shared) (H : Hp) (C : Addr) (cl : List (Str × Addr)) (fs : List Addr), PTs (X.blk s H scope (compEnvC scope cl C X.env) fs) ifs tt)
    (he : ∀ (s : Shared) (H : Hp) (C : Addr) (cl : List (Str × Addr)) (fs : List Addr), PE (X.blk s H scope (compEnvC scope cl C X.env) fs) elt te) (hs : ∀ x, foldedSetIterable iter X.env x = pure x)
    (h : tSI X.w wi g tt te (own.map (·.2)) σ H Q)
    (hRR : ∀ D C s' m H', Inv X pins σ H' s' → Q (.ref D) H' → s'.heap.Ns C m → FpOk X pins H' C → compPost (model X.prog X.w) X.A X.xe use Qf (.ref D) C (.ok .next) s') :
    wpAny (model X.prog X.w) X.A (comprehension (.SetComp elt [⟨tg, iter, ifs, 0⟩] scope pos) scope X.env pos' (newSet (.type "set")) false (eval iter X.env) use) Qf X.xe s := by
  have fr0 : ∀ y ∈ scope.names, y.2 = .free → ∃ c, X.env.cells.lookup y.1 = some c := fun y hy e => by
    rcases ok.free y hy e with k | k
    · exact I.ok.has _ (.inl k)
    · exact I.ok.has _ (.inr k)
  refine wpAny_comprehension_free (use := use) rfl hs (closure_ok fr0) ok.kind (fun y hy e => by rw [ok.uniq y hy, e])
    (thn (hi.run pins s σ H _ I h) fun xw t1 hx => thn hx fun iv t2 h2 => ?_)
  obtain ⟨it, fs, tm, J, K2, e, J2, T, u2, g2, q⟩ := h2
  subst e
  refine newSet_ok (newEnv_comp ?_)
  generalize dD : t2.heap.objs.size = D
  have dN : K2 D = none := J2.hok.fresh (Nat.le_of_eq dD)
  obtain ⟨V, ⟨k0, b0⟩, trn⟩ := q D dN
  -- the new list
  generalize eA : ({ t2 with heap := t2.heap.push { cls := .type "set", dict := none, data := .set #[] 0 (.fresh 0 0 (!X.w.params.followText "set-order")) } } : Shared) = tA
  have JA : Inv X pins σ (upd K2 D (SetO X.w D (fun _ => false) 0)) tA := by
    rw [← eA]
    refine J2.laid (t' := t2.toks) (fun b o e => Heap.get?_push_of_some _ e) (Nat.le_of_eq dD) ?_
    rw [← dD]
    exact setO_new (set0_fresh X.w)
  have pA : tA.heap = t2.heap.push { cls := .type "set", dict := none, data := .set #[] 0 (.fresh 0 0 (!X.w.params.followText "set-order")) } := by rw [← eA]
  have big : ∀ b ∈ fs, b < t2.heap.objs.size := fun b hb => by
    obtain ⟨o, e, _⟩ := T.obj _ _ u2 b hb
    exact Heap.lt_size e
  have gA : ∀ b ∈ fs, FpOk X pins (upd K2 D (SetO X.w D (fun _ => false) 0)) b ∧ b < tA.heap.objs.size := fun b hb => by
    have lq := big b hb
    refine ⟨⟨?_, (g2 b hb).2⟩, by rw [pA, Heap.size_push]; exact Nat.lt_succ_of_lt lq⟩
    rw [upd_ne (by rw [← dD]; exact Nat.ne_of_lt lq)]
    exact (g2 b hb).1
  have uA : tm 0 tA.heap := T.keep _ _ _ u2 fun b _ o e => by rw [pA]; exact Heap.get?_push_of_some _ e
  have JB := block_start JA ok hN gA
  have aG := hg tA (upd K2 D (SetO X.w D (fun _ => false) 0)) tA.heap.objs.size (cellsFrom (tA.heap.objs.size + 1) scope.names (cloFrom X.env.cells scope.names [])) fs
  have aT := ht tA (upd K2 D (SetO X.w D (fun _ => false) 0)) tA.heap.objs.size (cellsFrom (tA.heap.objs.size + 1) scope.names (cloFrom X.env.cells scope.names [])) fs
  have aE := he tA (upd K2 D (SetO X.w D (fun _ => false) 0)) tA.heap.objs.size (cellsFrom (tA.heap.objs.size + 1) scope.names (cloFrom X.env.cells scope.names [])) fs
  show codeAny _ _ (.compStart (.SetComp elt [⟨tg, iter, ifs, 0⟩] scope pos) 0 (.ref it) (.ref D) (compEnvC scope (cellsFrom (tA.heap.objs.size + 1) scope.names (cloFrom X.env.cells scope.names [])) tA.heap.objs.size X.env)) (compPost (model X.prog X.w) X.A X.xe use Qf (.ref D) tA.heap.objs.size) { tA with heap := pushCells (tA.heap.push { cls := .type "dict", data := .dict #[] }) scope.names }
  have nfs : ∀ b ∈ fs, (upd K2 D (SetO X.w D (fun _ => false) 0)) b = none := fun b hb => (gA b hb).1.1
  generalize eE : compEnvC scope (cellsFrom (tA.heap.objs.size + 1) scope.names (cloFrom X.env.cells scope.names [])) tA.heap.objs.size X.env = en at JB aG aT aE ⊢
  have eL : en.locals = tA.heap.objs.size := by subst eE; rfl
  generalize eK : upd K2 D (SetO X.w D (fun _ => false) 0) = KA at JA JB aG aT aE b0 nfs gA
  generalize eB : ({ tA with heap := pushCells (tA.heap.push { cls := .type "dict", data := .dict #[] }) scope.names } : Shared) = tB at JB ⊢
  have uB : tm 0 tB.heap := T.keep _ _ _ uA fun b _ o e => by rw [← eB]; exact pushCells_keeps _ _ _ _ (Heap.get?_push_of_some _ e)
  have std : ∀ {σ' : L2.St} {H' : Hp} {s' : Shared}, Inv (X.blk tA KA scope en fs) [] σ' H' s' → (∀ b ∈ fs, H' b = none) → ∀ b ∈ fs, FpOk (X.blk tA KA scope en fs) [] H' b := fun {σ' H' s'} I' nn b hb =>
    ⟨nn b hb, (I'.ok.exf b hb).1, I'.ok.exfs b hb, .inl hb, fun x c e => (I'.ok.exf b hb).2 x c e, fun p hp => absurd (show p ∈ ([] : List (Addr × Obj)) ++ [] from hp) (by simp)⟩
  have lp : codeAny (model X.prog X.w) X.A (.compLoop (.SetComp elt [⟨tg, iter, ifs, 0⟩] scope pos) 0 (.ref it) (.ref D) en) (compPost (model X.prog X.w) X.A X.xe use Qf (.ref D) tA.heap.objs.size) tB := by
    refine compLoopS_any (fun n s' => ∃ i H', Inv (X.blk tA KA scope en fs) [] (wipe σ (own.map (·.2))) H' s' ∧ tm i s'.heap ∧ (∀ b ∈ fs, H' b = none) ∧ V i n H') ?_ k0 ⟨0, KA, JB, uB, nfs, b0⟩
    rintro n t5 ⟨i, K5, J5, u5, f5, b5⟩
    rcases trn i n K5 b5 with ⟨ends, qe⟩ | ⟨gn, Nz, hX, stp⟩
    · have dn := T.done (X.blk tA KA scope en fs) rfl rfl rfl hc i [] t5 _ K5 (fun _ _ => False) J5 (std J5 f5) u5 ends
      refine thnF dn fun r t6 ⟨er, J6⟩ => ?_
      subst er
      -- back in the def's context
      have J7 : Inv X pins σ K5 t6 := JA.call' (ch := fs) J6.os J6.base J6.hok J6.bare fun b hb => ⟨(gA b hb).1.2.2.2.1, (gA b hb).1.2.1, (gA b hb).1.2.2.2.2.1, (gA b hb).1.2.2.2.2.2⟩
      have nE : K5 tA.heap.objs.size = none := by
        have z : K5 en.locals = none := J6.free
        rw [eL] at z
        exact z
      obtain ⟨m, nn, _⟩ := J6.loc
      have nn : t6.heap.Ns en.locals m := nn
      rw [eL] at nn
      exact hRR D tA.heap.objs.size t6 m K5 J7 qe nn (JA.fpOk (Nat.le_refl _) nE)
    · have im := T.item (X.blk tA KA scope en fs) rfl rfl rfl hc i [] t5 _ K5 (fun _ _ => False) J5 (std J5 f5) u5 gn
      refine thnF im fun r t6 ⟨u, er, h6⟩ => ?_
      subst er
      refine thnF h6 fun _ t7 ⟨x, K7, J7, w7, v7, u7, f7⟩ => ?_
      have J7b := J7.pinned (std J7 f7) (T.obj _ _ u7)
      refine thnF (aG.run _ t7 _ K7 x u _ J7b w7 (stp x K7 v7)) fun _ t8 ⟨ρ8, K8, J8, hW, c8⟩ => ?_
      refine thnF (aT.run _ t8 ρ8 K8 _ J8 c8) fun b t9 ⟨K9, J9, c9⟩ => ?_
      -- the turn's end
      have fnl : ∀ {s' : Shared} {H' : Hp}, Inv (X.blk tA KA scope en fs) ([] ++ pinsAt fs t7.heap) ρ8 H' s' → Nz H' → ∃ m, m < n ∧ ∃ i H', Inv (X.blk tA KA scope en fs) [] (wipe σ (own.map (·.2))) H' s' ∧ tm i s'.heap ∧ (∀ b ∈ fs, H' b = none) ∧ V i m H' := fun {s' H'} I' nx => by
        obtain ⟨m', lt, w'⟩ := hX H' nx
        have pn2 : ∀ b ∈ fs, ∀ o, t7.heap.get? b = some o → s'.heap.get? b = some o ∧ H' b = none := fun b hb o e =>
          let z := I'.pin (b, o) (List.mem_append_right _ (List.mem_append_right _ (mem_pinsAt hb e)))
          ⟨z.1, z.2.1⟩
        have ln : (wipe σ (own.map (·.2))).length = ρ8.length := by rw [← hW, wipe_length]
        refine ⟨m', lt, i + 1, H', (I'.unpinned (pins := [])).weak ln (fun j v e => ?_), T.keep _ _ _ u7 fun b hb o e => (pn2 b hb o e).1, fun b hb => ?_, w'⟩
        · rw [← hW] at e
          exact (wipe_some e).1
        · obtain ⟨o, e, _⟩ := T.obj _ _ u7 b hb
          exact (pn2 b hb o e).2
      cases b with
      | false =>
        simp only [Bool.false_eq_true, if_false] at c9 ⊢
        exact fnl J9 c9
      | true =>
        simp only [if_true] at c9 ⊢
        refine thnF (aE.run _ t9 ρ8 K9 _ J9 c9) fun z t10 ⟨yv, K10, J10, r10, cb, S0, n0, ey, hD10, hz10, nx⟩ => ?_
        subst ey
        obtain ⟨tk, rfl⟩ : ∃ tk, z = Value.int cb tk := r10
        exact addI_ok (X := X.blk tA KA scope en fs) J10 hD10 hz10 fun t11 J11 => fnl J11 nx
  exact codeAny_compStart_set lp (T.self X.A 0 _ _ _ uB lp)
theorem pe_sci {elt tg iter : Expr} {ifs : List Expr} {scope : Scope} {own : List (Str × Nat)} {pos : Pos} {wi : TI} {g : TG} {tt : TT} {te : TE} (hc : X.calm = true) (hN : X.N.Nodup) (hi : PI X tg iter wi) (ok : BlkOk X.N X.env.scope scope own)
    (hg : ∀ (s : Shared) (H : Hp) (C : Addr) (cl : List (Str × Addr)) (fp : List Addr), PG (X.blk s H scope (compEnvC scope cl C X.env) fp) tg g)
    (ht : ∀ (s : Shared) (H : Hp) (C : Addr) (cl : List (Str × Addr)) (fp : List Addr), PTs (X.blk s H scope (compEnvC scope cl C X.env) fp) ifs tt)
    (he : ∀ (s : Shared) (H : Hp) (C : Addr) (cl : List (Str × Addr)) (fp : List Addr), PE (X.blk s H scope (compEnvC scope cl C X.env) fp) elt te)
    (hs : ∀ x, foldedSetIterable iter X.env x = pure x) : PE X (.SetComp elt [⟨tg, iter, ifs, 0⟩] scope pos) (tSI X.w wi g tt te (own.map (·.2))) := by
  constructor
  intro pins s σ H Q I h
  rw [PpSet.eval_SetComp]
  refine sci_core hc hN I hi ok hg ht he hs h fun D C s' m H' I' q hn f => ⟨m, hn, fun h'' sb => ?_⟩
  exact ⟨.ref D, H', I'.turned (t' := s'.toks) (fun b o hb e => (sb.2 b hb).trans e) f.1 f.2.1 f.2.2.2.1 f.2.2.2.2.1 f.2.2.2.2.2, rfl, q⟩
end
end NB

set_option Elab.async false
set_option linter.all false
set_option maxRecDepth 100000
set_option maxHeartbeats 4000000
/-! sets of ints by the number of their members; set(tuple), {e for x in ..} -/
namespace NB
open PySem L2 Evl PyProof.Rows PpSet
/-- no list of unlike members of L is longer than B -/
def Few (L : List Int) (B : Nat) : Prop := ∀ M : List Int, M.Nodup → (∀ k ∈ M, k ∈ L) → M.length ≤ B
theorem sub_len {M L : List Int} (nd : M.Nodup) (nd2 : L.Nodup) (h : ∀ k ∈ M, k ∈ L) : M.length ≤ L.length := by
  have p : M.Perm (L.filter fun k => decide (k ∈ M)) := (List.perm_ext_iff_of_nodup nd (nd2.filter _)).mpr fun k => by
    rw [List.mem_filter, decide_eq_true_eq]
    exact ⟨fun q => ⟨h k q, q⟩, fun q => q.2⟩
  rw [p.length_eq]
  exact List.length_filter_le _ _
theorem few_of {L A : List Int} (nd : A.Nodup) (h : ∀ k ∈ L, k ∈ A) : Few L A.length := fun M nM hM => sub_len nM nd fun k q => h k (hM k q)
theorem few_rg {L : List Int} {m : Int} (h : ∀ k ∈ L, 0 ≤ k ∧ k < m) : Few L m.toNat := by
  have := few_of (L := L) (upto_nodup 0 m) fun k hk => mem_upto.mpr (h k hk)
  rw [upto_len] at this
  simpa using this
theorem few_len (L : List Int) : Few L L.length := fun M nM hM => by
  have h : ∀ (L M : List Int), M.Nodup → (∀ k ∈ M, k ∈ L) → M.length ≤ L.length := fun L => by
    induction L with
    | nil => intro M _ h; cases M with
      | nil => exact Nat.le_refl 0
      | cons k M => exact (List.not_mem_nil (h k List.mem_cons_self)).elim
    | cons a L ih =>
      intro M nM h
      by_cases q : a ∈ M
      · have e := ih (M.erase a) (nM.erase a) fun k hk => by
          have := (List.Nodup.mem_erase_iff nM).mp hk
          rcases List.mem_cons.mp (h k this.2) with r | r
          · exact (this.1 r).elim
          · exact r
        rw [List.length_erase_of_mem q] at e
        rw [List.length_cons]
        omega
      · have e := ih M nM fun k hk => by
          rcases List.mem_cons.mp (h k hk) with r | r
          · rw [r] at hk; exact (q hk).elim
          · exact r
        rw [List.length_cons]
        omega
  exact h L M nM hM
theorem Few.mono {L : List Int} {B C : Nat} (h : Few L B) (q : B ≤ C) : Few L C := fun M a b => Nat.le_trans (h M a b) q
theorem setL_nd (L : List Int) : ∃ M : List Int, M.Nodup ∧ (∀ k, k ∈ M ↔ k ∈ L) ∧ M.length = (setL L).2 := by
  refine snoc_ind (P := fun L => ∃ M : List Int, M.Nodup ∧ (∀ k, k ∈ M ↔ k ∈ L) ∧ M.length = (setL L).2) ⟨[], List.nodup_nil, fun k => Iff.rfl, rfl⟩ (fun L k ⟨M, h1, h2, h3⟩ => ?_) L
  rw [setL_snoc]
  by_cases q : k ∈ L
  · refine ⟨M, h1, fun j => ?_, ?_⟩
    · rw [h2 j, List.mem_append, List.mem_singleton]
      exact ⟨.inl, fun r => r.elim id fun r => r ▸ q⟩
    · show M.length = (if (setL L).1 k = true then (setL L).2 else (setL L).2 + 1)
      rw [setL_mem, decide_eq_true q, if_pos rfl, h3]
  · refine ⟨k :: M, List.nodup_cons.mpr ⟨fun r => q ((h2 k).mp r), h1⟩, fun j => ?_, ?_⟩
    · rw [List.mem_cons, h2 j, List.mem_append, List.mem_singleton]
      exact Or.comm
    · show (k :: M).length = (if (setL L).1 k = true then (setL L).2 else (setL L).2 + 1)
      rw [setL_mem, decide_eq_false q, if_neg Bool.false_ne_true, List.length_cons, h3]
theorem setL_few {L : List Int} {B : Nat} (h : Few L B) : (setL L).2 ≤ B := by
  obtain ⟨M, h1, h2, h3⟩ := setL_nd L
  rw [← h3]
  exact h M h1 fun k hk => (h2 k).mp hk
theorem setR_few {w : World} {h : Heap} {a : Addr} {ns : List Int} {c B : Nat} (R : SetR w h a (fun j => decide (j ∈ ns)) c) (hB : Few ns B) : c ≤ B := by
  obtain ⟨es, ep, t, _, hm, nd, hs, _⟩ := NBT.ob_of R
  rw [← hs]
  have := hB (es.toList.map keyOf) nd fun k hk => by simpa using (hm k).mpr hk
  simpa using this
section
variable {X : Cx} {env env1 env2 : En} {d : PyData} {ds : List PyData} {e a b elt iter : Expr} {pos : Pos} {L La Lb : List Int} {B Ba Bb : Nat} {scope : Scope}
def rSetB (K : PySem.W.Frag) (w : World) (B : Nat) : List V → Hp → VK → Prop := fun vs H Q => ∃ (a : Addr) (ns : List Int), vs = [V.ref a] ∧ (SqL K H a (ns.map V.int) ∨ SqT K H a (ns.map V.int)) ∧ ns.length ≤ 4000 ∧ Few ns B ∧
  ∀ p n, H p = none → n ≤ B → Q (.ref p) (upd H p (SetO w p (fun k => decide (k ∈ ns)) n))
theorem cr_setB (hc : X.calm = true) : CallR X (.type "set") (rSetB X.K X.w B) := by
  intro pins s σ H vs us Q I r h
  obtain ⟨a, ns, rfl, hs, hl, hB, q⟩ := h
  rw [Vals.ref1 r]
  have hn : H s.heap.objs.size = none := I.hok.fresh (Nat.le_refl _)
  rcases hs with hs | hs
  · obtain ⟨its, rv, hl2, hz⟩ := I.list hs
    refine NBT.set_list ns (I.ok.hd hc) hl2.isList (ints_of_vals rv) (by unfold scanBound; omega) fun h' tk c R hcn k => ?_
    exact ⟨.ref _, _, I.laid (t' := tk) k (Nat.le_refl _) (setO_new R), rfl, q _ c hn (setR_few R hB)⟩
  · obtain ⟨its, rv, pl, hz⟩ := I.tuple hs
    refine call_set_tupI ns (I.ok.hd hc) pl (ints_of_vals rv) (by unfold scanBound; omega) fun h' tk c R k1 k2 => ?_
    exact ⟨.ref _, _, I.laid (t' := tk) (by first | exact k1 | exact k2) (Nat.le_refl _) (setO_new R), rfl, q _ c hn (setR_few R hB)⟩
theorem px_setB {p : Pos} {ns : List Int} (hc : X.calm = true) (hm : X.mg "set" = none) (he : PD X e env d env1) (hd : d = .list (iD ns) ∨ d = .tuple (iD ns)) (hl : ns.length ≤ 4000) (hB : Few ns B) (hg : Gl X "set" := by rfl)
    (hs : starEach [e] X.env = (false, eval e X.env) :: starEach [] X.env := by rfl) (hpl : (backTo pos (starEach [] X.env)).any (·.1) = false := by rfl) : PX X (.Call (.Name "set" p) [e] [] pos) env ns B env1 :=
  pe_imp (pe_callTy (cr_setB (B := B) hc) hg hm PyProof.Rows.boot_set (pad_cons he pad_nil hs) (by decide) (by decide) hs hpl) fun σ H Q ⟨Γ, z, sd, kk⟩ => ⟨Γ, z, sd, fun vs H' ex sd' h1 => by
    cases h1 with
    | cons h1 h2 =>
      cases h2
      rcases hd with rfl | rfl
      · cases h1 with
        | @lst p ys _ hs ha =>
          have e1 := dpa_ints_eq (ns := ns) ha
          subst e1
          exact ⟨p, ns, rfl, .inl (ex_l cut_sub hs), hl, hB, fun r n hr hn => kk r H' _ n ex sd' (Ex.new hr) hr upd_same hn⟩
      · cases h1 with
        | @tup p ys _ hs ha =>
          have e1 := dpa_ints_eq (ns := ns) ha
          subst e1
          exact ⟨p, ns, rfl, .inr (ex_t cut_sub hs), hl, hB, fun r n hr hn => kk r H' _ n ex sd' (Ex.new hr) hr upd_same hn⟩⟩
theorem pf_sortedSB (i : Nat) {x : Str} {xp p : Pos} {L' : List Int} (hc : X.calm = true) (hm : X.mg "sorted" = none) (hi : env[i]? = some (iS X.w L)) (hB : Few L 63) (hL : L'.Pairwise (· < ·)) (hk : ∀ k, k ∈ L' ↔ k ∈ L) (hN : X.N[i]? = some x := by rfl) (hv : Vis X.env.scope x := by first | exact Or.inl rfl | exact Or.inr (Or.inl rfl) | exact Or.inr (Or.inr rfl))
    (hb1 : (x == ("__debug__" : Str)) = false := by decide) (hcd : (x == ("__classdict__" : Str)) = false := by decide) (hg : Gl X "sorted" := by rfl)
    (hs : starEach [.Name x xp] X.env = (false, eval (.Name x xp) X.env) :: starEach [] X.env := by rfl) (hpl : (backTo pos (starEach [] X.env)).any (·.1) = false := by rfl) : PF X (.Call (.Name "sorted" p) [.Name x xp] [] pos) env (iD L') env :=
  pe_imp (pe_callB (cr_sortedSet hc) hg hm (by decide +kernel) (pa_cons (pv i hN hv hb1 hcd) pa_nil hs) (he := hs) (hpl := hpl)) fun σ H Q ⟨Γ, z, sd, kk⟩ => by
    obtain ⟨a, h1, h2, h3, _⟩ := sd.seto hi
    refine ⟨.ref a, h1, a, _, _, rfl, h3, Nat.lt_of_le_of_lt (setL_few hB) (by decide), fun ns q hw hm hl hq => ?_⟩
    have e1 : ns = L' := lt_unique hw hL fun k => by rw [hm k, setL_mem, decide_eq_true_eq, hk k]
    subst e1
    exact kk q H _ _ (Ex.refl _) sd (Ex.new hq) hq upd_same dpa_ints
theorem hs_saddB (i : Nat) {x : Str} {xp ap cp : Pos} {spos : Pos} {k : Int} (he : PD X e env (.int k) env) (hi : env[i]? = some (iS X.w L)) (hl : Few L 1000) (hN : X.N[i]? = some x := by rfl) (hv : Vis X.env.scope x := by first | exact Or.inl rfl | exact Or.inr (Or.inl rfl) | exact Or.inr (Or.inr rfl))
    (hb1 : (x == ("__debug__" : Str)) = false := by decide) (hcd : (x == ("__classdict__" : Str)) = false := by decide)
    (hbase : attributeBase (.Name x xp) "add" X.env (eval (.Name x xp) X.env) = eval (.Name x xp) X.env := by rfl)
    (hfew : ((backTo cp (starEach [e] X.env)).all (fun x => !x.1) && (backToKw cp (keywordEach [] X.env)).all (fun x => x.1.isSome) && decide (([e] : List Expr).length + ([] : List Keyword).length + (if ([] : List Keyword).isEmpty then 0 else 1) < 30)) = true := by rfl)
    (hline : (ap.endLine == cp.line) = true := by rfl) (hst : starEach [e] X.env = (false, eval e X.env) :: starEach [] X.env := by rfl) (hplain : (backTo cp (starEach [] X.env)).any (·.1) = false := by rfl)
    (hs : swapsWith (.Call (.Attribute (.Name x xp) "add" ap) [e] [] cp) none spos.line X.env = pure false := by rfl) :
    HD1 X (.Expr (.Call (.Attribute (.Name x xp) "add" ap) [e] [] cp) spos) env { nx := fun e => e = env.set i (iS X.w (L ++ [k])) } :=
  ps_imp (ps_expr (pe_sadd (pv i hN hv hb1 hcd) (pa_cons he pa_nil hst) hbase hfew hline hst hplain) hs) fun D σ H ⟨Γ, z, sd, kk, _⟩ => by
    obtain ⟨a, h1, h2, h3, _⟩ := sd.seto hi
    refine ⟨.ref a, h1, ⟨a, _, _, rfl, h3⟩, Γ, z, sd, fun v H' ex sd' hd => ?_⟩
    cases hd
    obtain ⟨a', h1', h2', h3', _⟩ := sd'.seto hi
    rw [h1] at h1'
    cases h1'
    have := setL_few hl
    refine ⟨a, k, _, _, rfl, rfl, h3', by unfold scanBound; omega, ?_⟩
    have q := sd'.chS (f' := fun a => SetO X.w a (setL (L ++ [k])).1 (setL (L ++ [k])).2) hi h1 (H' := upd H' a (SetO X.w a (setL (L ++ [k])).1 (setL (L ++ [k])).2)) (fun b o nb q => (upd_ne nb).trans q) upd_same
    have e1 : (SetO X.w a (fun j => (setL L).1 j || decide (j = k)) (if (setL L).1 k = true then (setL L).2 else (setL L).2 + 1)) = SetO X.w a (setL (L ++ [k])).1 (setL (L ++ [k])).2 := by rw [setL_snoc]; rfl
    show D.nx σ (upd H' a (SetO X.w a (fun j => (setL L).1 j || decide (j = k)) (if (setL L).1 k = true then (setL L).2 else (setL L).2 + 1)))
    rw [e1]
    exact kk _ z _ _ rfl (ex.trans q.2) q.1
/-- {e for x in iter}, e an int; x in slot j -/
theorem px_sc1 (j : Nat) {x : Str} {p : Pos} (y : PyData → Int) (hc : X.calm = true) (hN : X.N.Nodup) (it : PID X (.Name x p) iter env ds env1) (ok : BlkOk X.N X.env.scope scope [(x, j)])
    (he : ∀ (s : Shared) (H : Hp) (C : Addr) (cl : List (Str × Addr)) (fp : List Addr) d, d ∈ ds → PD (X.blk s H scope (compEnvC scope cl C X.env) fp) elt ((env1.set j .u).set j (.d d)) (.int (y d)) ((env1.set j .u).set j (.d d)))
    (hgg : ∀ (s : Shared) (H : Hp) (C : Addr) (cl : List (Str × Addr)) (fp : List Addr), PG (X.blk s H scope (compEnvC scope cl C X.env) fp) (.Name x p) (gName j))
    (hl : j < env1.length) (hn : ds.length ≤ 4000) (hB : Few (ds.map y) B) (hk : keepD (env1.getD j .u) = env1.getD j .u := by rfl)
    (hs : ∀ x, foldedSetIterable iter X.env x = pure x := by intro _; rfl) : PX X (.SetComp elt [⟨.Name x p, iter, [], 0⟩] scope pos) env (ds.map y) B env1 :=
  pe_imp (pe_sci (own := [(x, j)]) (g := gName j) (tt := fun σ H Q => Q true H) (te := fun σ H Q => ∃ d, d ∈ ds ∧ tD X.K X.w ((env1.set j .u).set j (.d d)) (.int (y d)) ((env1.set j .u).set j (.d d)) σ H Q) hc hN it ok hgg (fun s H C cl fp => pts_nil) (fun s H C cl fp => pe_all (C := fun d => d ∈ ds) fun d hd => he s H C cl fp d hd) hs)
    fun σ H Q ⟨Γ, z, sd, k⟩ => ⟨Γ, z, sd, fun J H1 ex sd1 ⟨G, Y, wk, hG, hY⟩ D hD => by
      have zD : z D = false := sd1.zfresh hD
      have gD := sd1.fresh hD
      have tD' := sd1.tfresh hD
      have c1 : Ex (cut H1 z) (cut (upd H1 D (SetO X.w D (fun _ => false) 0)) (addZ z D)) := cut_addZ (Ex.new hD) hD
      let ob : Nat → HO := fun i => SetO X.w D (setL ((ds.take i).map y)).1 (setL ((ds.take i).map y)).2
      let Pv : Nat → Hp → Prop := fun i Hc => SD X.K X.w (Γ.tmp D (ob i)) (addZ z D) Hc σ env1 ∧ Ex (cut H1 z) (cut Hc (addZ z D))
      have h0 : Pv 0 (upd H1 D (SetO X.w D (fun _ => false) 0)) := ⟨sd1.lay hD, c1⟩
      refine ⟨fun i m Hc => m = ds.length - i ∧ i ≤ ds.length ∧ Pv i Hc, ⟨ds.length, by simp, Nat.zero_le _, h0⟩, ?_⟩
      rintro i m Hc ⟨rfl, hi, sd2, e2⟩
      have good := hG Hc _ e2
      by_cases hlt : i < ds.length
      · refine .inr ⟨wk.goes i Hc hlt good, Pv (i + 1), fun H' p' => ⟨ds.length - (i + 1), by omega, rfl, hlt, p'⟩, fun x0 H3 yy => ?_⟩
        obtain ⟨e3, d, hd, hp⟩ := hY i Hc _ x0 H3 hlt e2 sd2.zd (wk.yields i Hc x0 H3 hlt good yy)
        have sd3 := sd2.grow e3
        refine gt_name (X := X) (p := p) (x := x) (e := env1.set j .u) (d := d) j (vs := [j]) rfl (by rw [List.length_set]; exact hl) x0 σ H3 _ ⟨Γ.tmp D (ob i), addZ z D, sd3.wipe [j], hp, fun σ4 hw sd4 => ⟨hw, ?_⟩⟩
        refine iteT ?_
        refine ⟨d, List.mem_of_getElem? hd, Γ.tmp D (ob i), addZ z D, sd4, fun v H6 e6 sd6 hv => ?_⟩
        cases hv
        have e36 := (cut_ex (z := addZ z D) e3).trans e6
        have hD6 : H6 D = some (ob i) := sd6.tm D _ upd_same
        refine ⟨y d, _, _, rfl, hD6, ?_, ?_⟩
        · have := setL_le ((ds.take i).map y)
          rw [List.length_map, List.length_take] at this
          unfold scanBound
          omega
        · have m6 := (SD.mix (vs := [j]) sd2 sd6 hw e36).weak (env' := env1) (Le.of_eq (mix_self hk).symm)
          have et : (ds.take (i + 1)).map y = (ds.take i).map y ++ [y d] := by rw [List.take_add_one, hd]; simp
          have eo : SetO X.w D (fun j => (setL ((ds.take i).map y)).1 j || decide (j = y d)) (if (setL ((ds.take i).map y)).1 (y d) = true then (setL ((ds.take i).map y)).2 else (setL ((ds.take i).map y)).2 + 1) = ob (i + 1) := by
            show _ = SetO X.w D (setL ((ds.take (i + 1)).map y)).1 (setL ((ds.take (i + 1)).map y)).2
            rw [et, setL_snoc]
            rfl
          refine ⟨?_, ?_⟩
          · rw [eo]
            exact m6.retmp addZ_self gD
          · rw [cut_upd addZ_self]
            exact e2.trans e36
      · have e : i = ds.length := by omega
        subst e
        have hDc : Hc D = some (ob ds.length) := sd2.tm D _ upd_same
        have hc' : cut (fun a => if a = D then none else Hc a) z = cut Hc (addZ z D) := by
          funext a
          unfold cut addZ
          by_cases e : a = D
          · subst e
            simp [zD]
          · simp [e]
        refine .inl ⟨wk.stops Hc good, k D (fun a => if a = D then none else Hc a) Hc (setL (ds.map y)).2 (ex.trans (by rw [hc']; exact e2)) (sd2.unlay zD sd1.zs gD tD') (fun a o q => ?_) (if_pos rfl) ?_ (setL_few hB)⟩
        · by_cases e : a = D
          · have q' : (if a = D then none else Hc a) = some o := q
            rw [if_pos e] at q'
            cases q'
          · have q' : (if a = D then none else Hc a) = some o := q
            rw [if_neg e] at q'
            exact q'
        · rw [hDc]
          show some (SetO X.w D (setL ((ds.take ds.length).map y)).1 (setL ((ds.take ds.length).map y)).2) = _
          rw [List.take_length]
          congr 2
          funext k
          exact setL_mem _ k⟩
end
end NB

set_option Elab.async false
set_option linter.all false
set_option maxRecDepth 100000
set_option maxHeartbeats 4000000
/-! a list of lists of ints, all of the def's own -/
namespace NB
open PySem L2 Evl
section
variable {K : PySem.W.Frag} {w : World} {Γ : Fr} {z : Addr → Bool} {H H' : Hp} {σ : L2.St} {env : En}
theorem Hold.cutz {o : Option V} {s : Sl} {fp : List Addr} {z' : Addr → Bool} (h : Hold K w Γ z H o s fp) (e : Ex (cut H z) (cut H z')) : Hold K w Γ z' H o s fp := by
  cases s with
  | u => exact h
  | d x =>
    obtain ⟨h1, v, h2, h3⟩ := h
    exact ⟨h1, v, h2, Dpm e h3⟩
  | p xs =>
    obtain ⟨a, us, h1, h2, h3, h4, h5⟩ := h
    exact ⟨a, us, h1, h2, h3, h4, Dpam e h5⟩
  | l xs =>
    obtain ⟨a, us, h1, h2, h3, h4, h5⟩ := h
    exact ⟨a, us, h1, h2, h3, h4, Dpam e h5⟩
  | x f L =>
    obtain ⟨a, h1, h2, h3, h4, h5⟩ := h
    exact ⟨a, h1, h2, h3, h4, h5.mono e⟩
  | y rows => exact h
  | v x => exact h
  | q P ob ψ m =>
    obtain ⟨h1, h2, h3⟩ := h
    exact ⟨h1, h2, m _ _ e h3⟩
/-- z and these -/
def addZs (z : Addr → Bool) (l : List Addr) : Addr → Bool := fun a => decide (a ∈ l) || z a
theorem addZs_mem {l : List Addr} {a : Addr} (h : a ∈ l) : addZs z l a = true := by unfold addZs; rw [decide_eq_true h, Bool.true_or]
theorem addZs_not {l : List Addr} {a : Addr} (h : a ∉ l) : addZs z l a = z a := by unfold addZs; rw [decide_eq_false h, Bool.false_or]
theorem cut_addZs {l : List Addr} (e : Ex H H') (hp : ∀ a ∈ l, H a = none) : Ex (cut H z) (cut H' (addZs z l)) := fun a o q => by
  obtain ⟨q1, q2⟩ := cut_some q
  refine cut_of ?_ (e a o q2)
  rw [addZs_not fun hm => by rw [hp a hm] at q2; cases q2]
  exact q1
theorem SD.setY {i : Nat} {a : Addr} {as : List Addr} {rows : List (List Int)} (h : SD K w Γ z H σ env) (e : Ex H H') (hn : ∀ b ∈ a :: as, H b = none) (R : RowsAt Γ.H H' a as rows) (hi : i < env.length) :
    SD K w Γ (addZs z (a :: as)) H' (σ.set i (some (.ref a))) (env.set i (.y rows)) := by
  refine h.put (fun b o q => .inl (e b o q)) (fun b q => ?_) (fun b q => ?_) hi (show Hold K w Γ (addZs z (a :: as)) H' (some (.ref a)) (.y rows) (a :: as) from ⟨a, as, rfl, rfl, R⟩) (fun b hb => ⟨addZs_mem hb, h.zfresh (hn b hb), h.fresh (hn b hb), h.tfresh (hn b hb)⟩)
  · unfold addZs
    rw [q, Bool.or_true]
  · by_cases r : b ∈ a :: as
    · right
      refine ⟨hn b r, fun q => ?_⟩
      rcases List.mem_cons.mp r with r | r
      · rw [r, R.top] at q; cases q
      · obtain ⟨k, hk⟩ := List.mem_iff_getElem?.mp r
        have hl : k < rows.length := by rw [← R.len]; exact (List.getElem?_eq_some_iff.mp hk).1
        rw [R.row k b rows[k] hk (List.getElem?_eq_getElem hl)] at q
        cases q
    · rw [addZs_not r] at q
      exact .inl q
theorem SD.gety {i : Nat} {rows : List (List Int)} (h : SD K w Γ z H σ env) (e : env[i]? = some (.y rows)) : ∃ a as, σ[i]? = some (some (.ref a)) ∧ (∀ b ∈ a :: as, z b = true) ∧ RowsAt Γ.H H a as rows := by
  obtain ⟨fp, f1, _, f3⟩ := h.sl
  obtain ⟨a, as, h1, h2, h3⟩ := f1 i _ e
  exact ⟨a, as, getD_of h2, fun b hb => (f3 i b (by rw [h1]; exact hb)).1, h3⟩
theorem refs_inj : ∀ {as bs : List Addr}, as.map V.ref = bs.map V.ref → as = bs
  | [], [], _ => rfl
  | [], _ :: _, h => by cases h
  | _ :: _, [], h => by cases h
  | a :: as, b :: bs, h => by
    injection h with h1 h2
    injection h1 with h1
    rw [h1, refs_inj h2]
/-- the k-th list changes -/
theorem SD.chY {i k : Nat} {a b : Addr} {as : List Addr} {rows : List (List Int)} {r' : List Int} (h : SD K w Γ z H σ env) (hs : env[i]? = some (.y rows)) (ha : σ[i]? = some (some (.ref a))) (R : RowsAt Γ.H H a as rows) (hb : as[k]? = some b) (hk : k < rows.length) :
    SD K w Γ z (upd H b (.lst (r'.map V.int))) σ (env.set i (.y (rows.set k r'))) ∧ Ex (cut H z) (cut (upd H b (.lst (r'.map V.int))) z) := by
  obtain ⟨ok, ext, zs, zn, zd, tm, len, fp, f1, f2, f3⟩ := h
  have hi : i < env.length := (List.getElem?_eq_some_iff.mp hs).1
  have hσ : σ.getD i none = some (.ref a) := by rw [List.getD_eq_getElem?_getD, ha]; rfl
  have h1 := f1 i _ hs
  rw [hσ] at h1
  obtain ⟨a', as', q1, q2, R'⟩ := h1
  cases q2
  have eas : as' = as := by
    have e1 := R'.top
    rw [R.top] at e1
    have e2 : as.map V.ref = as'.map V.ref := by
      injection e1 with e1
      injection e1
    exact (refs_inj e2).symm
  subst eas
  have hbm : b ∈ as' := List.mem_of_getElem? hb
  have hbf : b ∈ fp i := by rw [q1]; exact List.mem_cons_of_mem _ hbm
  have hza := f3 i b hbf
  have hx : ∀ c o, c ≠ b → H c = some o → upd H b (.lst (r'.map V.int)) c = some o := fun c o ne q => (upd_ne ne).trans q
  have ec : Ex (cut H z) (cut (upd H b (.lst (r'.map V.int))) z) := by rw [cut_upd hza.1]; exact Ex.refl _
  refine ⟨⟨ok, fun c o k1 k2 => ?_, zs, zn, fun c hc => ?_, fun c o q => hx c o (fun r => by rw [r, hza.2.2] at q; cases q) (tm c o q), by rw [List.length_set]; exact len, fp, fun j t ht => ?_, f2, f3⟩, ec⟩
  · refine hx c o (fun r => ?_) (ext c o k1 k2)
    rcases hza.2.1 with q | q
    · rw [r, q] at k1; cases k1
    · rw [r, q] at k2; cases k2
  · by_cases r : c = b
    · rw [r, upd_same]; exact fun q => by cases q
    · rw [upd_ne r]; exact zd c hc
  · by_cases q : i = j
    · subst q
      rw [List.getElem?_set_self hi] at ht
      cases ht
      rw [hσ, q1]
      obtain ⟨n1, n2⟩ := List.nodup_cons.mp R'.nd
      refine ⟨a, as', rfl, rfl, R'.nd, R'.new, ?_, by rw [List.length_set]; exact R'.len, fun m c r h1 h2 => ?_⟩
      · rw [upd_ne fun e => n1 (by rw [e]; exact hbm)]
        exact R'.top
      · by_cases e : m = k
        · subst e
          rw [hb] at h1
          cases h1
          rw [List.getElem?_set_self hk] at h2
          cases h2
          exact upd_same
        · rw [List.getElem?_set_ne (Ne.symm e)] at h2
          rw [upd_ne fun ec => ?_]
          · exact R'.row m c r h1 h2
          · obtain ⟨l1, g1⟩ := List.getElem?_eq_some_iff.mp h1
            obtain ⟨l2, g2⟩ := List.getElem?_eq_some_iff.mp hb
            exact e ((List.getElem_inj n2).mp (g1.trans (ec.trans g2.symm)))
    · rw [List.getElem?_set_ne q] at ht
      have na : b ∉ fp j := fun r => q (f2 i j b hbf r)
      exact (f1 j t ht).mono ec fun c o hc k => hx c o (fun r => na (r ▸ hc)) k
/-- they are data from now on -/
theorem SD.freezeY {i : Nat} {rows : List (List Int)} (h : SD K w Γ z H σ env) (e : env[i]? = some (.y rows)) : ∃ z', SD K w Γ z' H σ (env.set i (.d (.list (rows.map fun r => .list (r.map .int))))) ∧ Ex (cut H z) (cut H z') := by
  obtain ⟨ok, ext, zs, zn, zd, tm, len, fp, f1, f2, f3⟩ := h
  obtain ⟨a, as, h1, h2, R⟩ := f1 i _ e
  have hi : i < env.length := (List.getElem?_eq_some_iff.mp e).1
  have ec : Ex (cut H z) (cut H fun b => !decide (b ∈ a :: as) && z b) := fun b o q => by
    obtain ⟨q1, q2⟩ := cut_some q
    exact cut_of (by rw [q1, Bool.and_false]) q2
  have zf : ∀ b ∈ a :: as, (fun b => !decide (b ∈ a :: as) && z b) b = false := fun b hb => by
    dsimp only
    rw [decide_eq_true hb]
    rfl
  refine ⟨fun b => !decide (b ∈ a :: as) && z b, ⟨ok, ext, fun b hb => ?_, fun b hb => ?_, fun b hb => ?_, tm, by rw [List.length_set]; exact len, fun j => if j = i then [] else fp j, fun j t ht => ?_, fun j k b hj hk => ?_, fun j b hj => ?_⟩, ec⟩
  · have ne : b ∉ a :: as := fun r => ok.gz b hb (R.new b r)
    rw [decide_eq_false ne, zs b hb]
    rfl
  · simp only [Bool.and_eq_true] at hb
    exact zn b hb.2
  · simp only [Bool.and_eq_true] at hb
    exact zd b hb.2
  · by_cases q : i = j
    · subst q
      rw [List.getElem?_set_self hi] at ht
      cases ht
      dsimp only
      rw [if_pos rfl]
      refine ⟨rfl, .ref a, h2, .lst (sq_of (cut_of (zf a List.mem_cons_self) R.top)) ?_⟩
      have gen : ∀ (n : Nat) (l : List Addr) (rs : List (List Int)), l.length = n → l.length = rs.length → (∀ (i : Nat) (b : Addr) (r : List Int), l[i]? = some b → rs[i]? = some r → cut H (fun b => !decide (b ∈ a :: as) && z b) b = some (.lst (r.map V.int))) → DpAll K (cut H (fun b => !decide (b ∈ a :: as) && z b)) (l.map V.ref) (rs.map fun r => .list (r.map .int)) := fun n => by
        induction n with
        | zero =>
          intro l rs e1 e2 _
          rw [List.length_eq_zero_iff.mp e1] at e2 ⊢
          rw [List.length_eq_zero_iff.mp e2.symm]
          exact .nil
        | succ n ih =>
          intro l rs e1 e2 hr
          cases l with
          | nil => cases e1
          | cons b l =>
            cases rs with
            | nil => cases e2
            | cons r rs => exact .cons (.lst (sq_of (hr 0 b r rfl rfl)) dpa_ints) (ih l rs (by simpa using e1) (by simpa using e2) fun i b r h1 h2 => hr (i + 1) b r (by simpa using h1) (by simpa using h2))
      exact gen _ as rows rfl R.len fun i b r h1 h2 => cut_of (zf b (List.mem_cons_of_mem _ (List.mem_of_getElem? h1))) (R.row i b r h1 h2)
    · rw [List.getElem?_set_ne q] at ht
      dsimp only
      rw [if_neg (Ne.symm q)]
      exact (f1 j t ht).cutz ec
  · dsimp only at hj hk
    by_cases q1 : j = i
    · rw [if_pos q1] at hj; cases hj
    · rw [if_neg q1] at hj
      by_cases q2 : k = i
      · rw [if_pos q2] at hk; cases hk
      · rw [if_neg q2] at hk
        exact f2 j k b hj hk
  · dsimp only at hj
    by_cases q1 : j = i
    · rw [if_pos q1] at hj; cases hj
    · rw [if_neg q1] at hj
      obtain ⟨k1, k2⟩ := f3 j b hj
      have ne : b ∉ a :: as := fun r => q1 (f2 j i b hj (by rw [h1]; exact r))
      refine ⟨?_, k2⟩
      rw [decide_eq_false ne, k1]
      rfl
end
section
variable {X : Cx} {env env1 env2 : En} {ds : List PyData} {e a b iter : Expr} {scope : Scope} {pos : Pos} {d : PyData} {rows : List (List Int)}
/-- y = [[] for x in iter], y a local name: lists of the def's own -/
theorem hs_lcE (j i : Nat) {x yn : Str} {p py spos lp : Pos} (hc : X.calm = true) (hN : X.N.Nodup) (it : PID X (.Name x p) iter env ds env1) (ok : BlkOk X.N X.env.scope scope [(x, j)])
    (hgg : ∀ (s : Shared) (H : Hp) (C : Addr) (cl : List (Str × Addr)) (fp : List Addr), PG (X.blk s H scope (compEnvC scope cl C X.env) fp) (.Name x p) (gName j))
    (hli : i < env1.length) (hn : ds.length < 100000)
    (hy : X.N[i]? = some yn := by rfl) (hyl : X.env.scope.names.lookup yn = some .local := by rfl)
    (hsw : swapsWith (.ListComp (.List [] lp) [⟨.Name x p, iter, [], 0⟩] scope pos) (some (.Name yn py)) spos.line X.env = pure true := by exact sw_true rfl rfl rfl (by decide +kernel))
    (hs : ∀ x, foldedSetIterable iter X.env x = pure x := by intro _; rfl) : HD1 X (.Assign [.Name yn py] (.ListComp (.List [] lp) [⟨.Name x p, iter, [], 0⟩] scope pos) spos) env { nx := fun e => e = env1.set i (.y (List.replicate ds.length [])) } :=
  ps_imp (ps_setLc (own := [(x, j)]) (g := gName j) (te := tLst tNil) hc hN hy hyl hsw it ok hgg (fun s H C cl fp => pts_nil) (fun s H C cl fp => pe_lst pa_nil) hs) fun D σ H ⟨Γ, z, sd, k, _⟩ => ⟨Γ, z, sd, fun J H1 ex sd1 ⟨G, Y, wk, hG, hY⟩ A hA => by
    have c1 : ∀ {Hc : Hp}, Ex H1 Hc → Ex (cut H1 z) (cut Hc z) := fun q => cut_ex q
    refine lc_it (g := gName j) wk (fun i Hc => ∃ as : List Addr, as.length = i ∧ Ex H1 Hc ∧ (∀ b ∈ as, H1 b = none) ∧ (A :: as).Nodup ∧ Hc A = some (.lst (as.map V.ref)) ∧ ∀ b ∈ as, Hc b = some (.lst [])) ⟨[], rfl, Ex.new hA, fun b hb => (by cases hb), by simp, upd_same, fun b hb => (by cases hb)⟩ (fun i Hc hi ⟨as, _, q, _⟩ => hG Hc z (c1 q)) (fun i x Hc H3 hi ⟨as, l1, q1, q2, q3, q4, q5⟩ yy => ?_) (fun Hc ⟨as, l1, q1, q2, q3, q4, q5⟩ => ?_)
    · obtain ⟨e3, d, hd, hp⟩ := hY i Hc z x H3 hi (c1 q1) (fun a ha q => by
        cases r : H1 a with
        | none => exact sd1.zd a ha r
        | some o => rw [q1 a o r] at q; cases q) yy
      refine ⟨?_, ?_⟩
      · show ((σ.set j none).set j (some x)).set j none = σ.set j none
        rw [List.set_set, List.set_set]
      · refine ⟨Nat.zero_le _, fun p hp => ⟨as.map V.ref, ?_, ?_, as ++ [p], ?_, ?_, ?_, ?_, ?_, ?_⟩⟩
        · have hA3 : H3 A = some (.lst (as.map V.ref)) := e3 A _ q4
          rw [upd_ne fun e => by rw [e, hp] at hA3; cases hA3]
          exact hA3
        · rw [List.length_map, l1]
          exact sz_lt (by omega)
        · rw [List.length_append, l1]; rfl
        · refine fun b o hb => ?_
          have h3 := e3 b o (q1 b o hb)
          have n1 : b ≠ A := fun e => by rw [e, hA] at hb; cases hb
          have n2 : b ≠ p := fun e => by rw [e, hp] at h3; cases h3
          rw [upd_ne n1, upd_ne n2]
          exact h3
        · intro b hb
          rcases List.mem_append.mp hb with hb | hb
          · exact q2 b hb
          · rw [List.mem_singleton.mp hb]
            cases r : H1 p with
            | none => rfl
            | some o => rw [e3 p o (q1 p o r)] at hp; cases hp
        · have hA3 : H3 A = some (.lst (as.map V.ref)) := e3 A _ q4
          rw [← List.cons_append]
          refine List.nodup_append.mpr ⟨q3, by simp, fun c hc c' hc' e => ?_⟩
          rw [List.mem_singleton.mp hc'] at e
          subst e
          rcases List.mem_cons.mp hc with r | r
          · rw [r, hA3] at hp; cases hp
          · rw [e3 _ _ (q5 _ r)] at hp; cases hp
        · rw [upd_same, List.map_append]
          rfl
        · intro b hb
          have n1 : b ≠ A := fun e => by
            rcases List.mem_append.mp hb with hb | hb
            · exact (List.nodup_cons.mp q3).1 (e ▸ hb)
            · have hA3 : H3 A = some (.lst (as.map V.ref)) := e3 A _ q4
              rw [List.mem_singleton.mp hb] at e
              rw [e, hA3] at hp; cases hp
          rw [upd_ne n1]
          rcases List.mem_append.mp hb with hb | hb
          · rw [upd_ne fun e => by rw [← e, e3 b _ (q5 b hb)] at hp; cases hp]
            exact e3 b _ (q5 b hb)
          · rw [List.mem_singleton.mp hb]
            exact upd_same
    · have hnA : ∀ b ∈ A :: as, H1 b = none := fun b hb => by
        rcases List.mem_cons.mp hb with r | r
        · rw [r]; exact hA
        · exact q2 b r
      refine k _ (addZs z (A :: as)) _ Hc rfl (ex.trans (cut_addZs q1 hnA)) (sd1.setY q1 hnA ⟨q3, fun b hb => sd1.fresh (hnA b hb), q4, by rw [l1, List.length_replicate], fun m b r h1 h2 => ?_⟩ hli)
      have hr : r = [] := by
        obtain ⟨l, hl⟩ := List.getElem?_eq_some_iff.mp h2
        rw [← hl, List.getElem_replicate]
      rw [hr]
      exact q5 b (List.mem_of_getElem? h1)⟩
/-- rows[a].append(e), a and e names -/
theorem hs_rowApp (i m m2 : Nat) {k : Nat} {v : Int} {x ya ye : Str} {xp ap cp sp pa pe : Pos} {spos : Pos} (ha : env[m]? = some (.d (.int (k : Int)))) (he : env[m2]? = some (.d (.int v))) (hi : env[i]? = some (.y rows)) (hk : k < rows.length) (hl : (rows.getD k []).length < 100000) (hN : X.N[i]? = some x := by rfl) (hv : Vis X.env.scope x := by first | exact Or.inl rfl | exact Or.inr (Or.inl rfl) | exact Or.inr (Or.inr rfl))
    (hb1 : (x == ("__debug__" : Str)) = false := by decide) (hcd : (x == ("__classdict__" : Str)) = false := by decide)
    (hNa : X.N[m]? = some ya := by rfl) (hva : Vis X.env.scope ya := by first | exact Or.inl rfl | exact Or.inr (Or.inl rfl) | exact Or.inr (Or.inr rfl)) (hb1a : (ya == ("__debug__" : Str)) = false := by decide) (hcda : (ya == ("__classdict__" : Str)) = false := by decide)
    (hNe : X.N[m2]? = some ye := by rfl) (hve : Vis X.env.scope ye := by first | exact Or.inl rfl | exact Or.inr (Or.inl rfl) | exact Or.inr (Or.inr rfl)) (hb1e : (ye == ("__debug__" : Str)) = false := by decide) (hcde : (ye == ("__classdict__" : Str)) = false := by decide)
    (hbase : attributeBase (.Subscript (.Name x xp) (.Name ya pa) sp) "append" X.env (eval (.Subscript (.Name x xp) (.Name ya pa) sp) X.env) = eval (.Subscript (.Name x xp) (.Name ya pa) sp) X.env := by rfl)
    (hfew : ((backTo cp (starEach [.Name ye pe] X.env)).all (fun x => !x.1) && (backToKw cp (keywordEach [] X.env)).all (fun x => x.1.isSome) && decide (([.Name ye pe] : List Expr).length + ([] : List Keyword).length + (if ([] : List Keyword).isEmpty then 0 else 1) < 30)) = true := by rfl)
    (hline : (ap.endLine == cp.line) = true := by rfl) (hst : starEach [.Name ye pe] X.env = (false, eval (.Name ye pe) X.env) :: starEach [] X.env := by rfl) (hplain : (backTo cp (starEach [] X.env)).any (·.1) = false := by rfl)
    (hs : swapsWith (.Call (.Attribute (.Subscript (.Name x xp) (.Name ya pa) sp) "append" ap) [.Name ye pe] [] cp) none spos.line X.env = pure false := by rfl) :
    HD1 X (.Expr (.Call (.Attribute (.Subscript (.Name x xp) (.Name ya pa) sp) "append" ap) [.Name ye pe] [] cp) spos) env { nx := fun e => e = env.set i (.y (rows.set k (rows.getD k [] ++ [v]))) } :=
  ps_imp (ps_expr (pe_bm PySem.F.plainAttrs_list PySem.F.slot_list_append PySem.F.type_list_append mt_append (pe_ix ix_list (pv i hN hv hb1 hcd) (pv m hNa hva hb1a hcda) (fun _ _ => rfl)) (pa_cons (pv m2 hNe hve hb1e hcde) pa_nil hst) hbase hfew hline hst hplain) hs) fun D σ H ⟨Γ, z, sd, kk, _⟩ => by
    obtain ⟨r, as, h1, h2, R⟩ := sd.gety hi
    obtain ⟨va, g1, g2⟩ := sd.var ha
    obtain ⟨ve, g3, g4⟩ := sd.var he
    cases g2
    cases g4
    have hkas : k < as.length := by rw [R.len]; exact hk
    have hb := List.getElem?_eq_getElem hkas
    have hrow := R.row k as[k] (rows.getD k []) hb (by rw [List.getD_eq_getElem?_getD, List.getElem?_eq_getElem hk]; rfl)
    refine ⟨.ref r, h1, .int k, g1, r, as.map V.ref, (k : Int), .ref as[k], rfl, rfl, sq_of R.top, atI_nat (by rw [List.getElem?_map, hb]; rfl), .inl ⟨rfl, _, sq_of hrow⟩, .int v, g3, as[k], _, .int v, rfl, rfl, hrow, ?_, ?_⟩
    · rw [List.length_map]
      exact sz_lt hl
    · obtain ⟨sd2, e2⟩ := sd.chY (r' := rows.getD k [] ++ [v]) hi h1 R hb hk
      rw [List.map_append] at sd2 e2
      exact kk _ z _ _ rfl e2 sd2
/-- they are data from now on -/
theorem h_freezeY {st' : List Stmt} {P : Post} (i : Nat) (he : env[i]? = some (.y rows)) (h : HD X st' (env.set i (.d (.list (rows.map fun r => .list (r.map .int))))) P) : HD X st' env P := pss_imp h fun D σ H ⟨Γ, z, sd, k1, k2, k3, k4⟩ => by
  obtain ⟨z', sd', e⟩ := sd.freezeY he
  exact ⟨Γ, z', sd', fun a1 a2 a3 a4 a5 a6 a7 => k1 a1 a2 a3 a4 a5 (e.trans a6) a7, fun a1 a2 a3 a4 a5 a6 a7 a8 a9 => k2 a1 a2 a3 a4 a5 a6 a7 (e.trans a8) a9, fun a1 a2 a3 a4 a5 a6 a7 => k3 a1 a2 a3 a4 a5 (e.trans a6) a7, fun a1 a2 a3 a4 a5 a6 a7 => k4 a1 a2 a3 a4 a5 (e.trans a6) a7⟩
end
end NB

set_option Elab.async false
set_option linter.all false
set_option maxRecDepth 100000
set_option maxHeartbeats 4000000
/-! itertools.combinations(range(n), 2) -/
namespace NBI
open PySem PySem.Spec PyProof.Rows L2
open Sem (wp)
theorem mro_cmb : mroOf (.type "itertools.combinations") = pure [.type "itertools.combinations", .type "object"] := by rw [mroOf_type]; kernel_rfl
theorem lookup_cmb_new : typeLookup (.type "itertools.combinations") "__new__" = pure (some (.builtin "itertools.combinations.__new__")) := by rw [typeLookup_type, builtinLookup_eq_fast]; kernel_rfl
theorem slot_cmb_init : Slot "itertools.combinations" "__init__" "object.__init__" :=
  .of (owner := "object") (n := "__init__") (by rw [typeLookup_type, builtinLookup_eq_fast]; kernel_rfl) (by decide +kernel) (by decide +kernel) (by decide +kernel)
    (by first | exact .inl (by decide +kernel) | exact .inr (by decide +kernel)) (by rw [isSubtype_type]; kernel_rfl)
theorem sub_cmb : isSubtype (.type "itertools.combinations") (.type "itertools.combinations") = pure true := by rw [isSubtype_type]; kernel_rfl
theorem called_cmb : TypeCalled "itertools.combinations" "itertools.combinations.__new__" "object.__init__" :=
  ⟨by decide +kernel, by decide +kernel, ⟨_, _, mro_cmb⟩, madeBy_type mro_cmb lookup_cmb_new (by decide +kernel), by decide +kernel, sub_cmb, slot_cmb_init⟩
theorem typeCall_cmb_2 (a b : Value) : checkTypeCall "itertools.combinations" ⟨[a, b], []⟩ = pure () := by kernel_rfl
theorem newCall_cmb_2 (a b : Value) : checkBuiltinCall "itertools.combinations.__new__" ⟨[.type "itertools.combinations", a, b], []⟩ = pure () := by kernel_rfl
theorem entry_cmb_new : entryFor table "itertools.combinations.__new__" = some Builtin.«itertools.combinations.__new__» := entryFor_of_tree (by kernel_rfl)
theorem slot_cmb_iter : Slot "itertools.combinations" "__iter__" "itertools.combinations.__iter__" :=
  .of (owner := "itertools.combinations") (n := "__iter__") (by rw [typeLookup_type, builtinLookup_eq_fast]; kernel_rfl) (by decide +kernel) (by decide +kernel) (by decide +kernel)
    (by first | exact .inl (by decide +kernel) | exact .inr (by decide +kernel)) sub_cmb
theorem slot_cmb_next : Slot "itertools.combinations" "__next__" "itertools.combinations.__next__" :=
  .of (owner := "itertools.combinations") (n := "__next__") (by rw [typeLookup_type, builtinLookup_eq_fast]; kernel_rfl) (by decide +kernel) (by decide +kernel) (by decide +kernel)
    (by first | exact .inl (by decide +kernel) | exact .inr (by decide +kernel)) sub_cmb
theorem entry_cmb_iter : entryFor table "itertools.combinations.__iter__" = some Builtin.«dict_keyiterator.__iter__» :=
  entryFor_alias (id' := "dict_keyiterator.__iter__") (by kernel_rfl) (by first | rfl | decide +kernel | (unfold String.splitOn; simp +decide [String.splitOnAux])) (by decide +kernel) (by kernel_rfl)
theorem entry_cmb_next : entryFor table "itertools.combinations.__next__" = some Builtin.«itertools.combinations.__next__» := entryFor_of_tree (by kernel_rfl)
theorem owner_cmb : Manifest.owners.lookup (String.ofList ['s', 'n', 'o', 'i', 't', 'a', 'n', 'i', 'b', 'm', 'o', 'c', '.', 's', 'l', 'o', 'o', 't', 'r', 'e', 't', 'i'].reverse) = some Manifest.sig_itertools_combinations := by kernel_rfl
theorem args_cmb_iter (a : Value) : argsOk "itertools.combinations.__iter__" ⟨[a], []⟩ := by
  unfold argsOk; rw [signature?_of (id := "itertools.combinations.__iter__") (n := ['_', '_', 'r', 'e', 't', 'i', '_', '_']) (o := ['s', 'n', 'o', 'i', 't', 'a', 'n', 'i', 'b', 'm', 'o', 'c', '.', 's', 'l', 'o', 'o', 't', 'r', 'e', 't', 'i']) (by kernel_rfl) owner_cmb]; kernel_rfl
theorem args_cmb_next (a : Value) : argsOk "itertools.combinations.__next__" ⟨[a], []⟩ := by
  unfold argsOk; rw [signature?_of (id := "itertools.combinations.__next__") (n := ['_', '_', 't', 'x', 'e', 'n', '_', '_']) (o := ['s', 'n', 'o', 'i', 't', 'a', 'n', 'i', 'b', 'm', 'o', 'c', '.', 's', 'l', 'o', 'o', 't', 'r', 'e', 't', 'i']) (by kernel_rfl) owner_cmb]; kernel_rfl
theorem noDict_cmb : typeHasDict (.type "itertools.combinations") = false := by decide +kernel

end NBI

set_option Elab.async false
set_option linter.all false
set_option maxRecDepth 100000
set_option maxHeartbeats 4000000
/-! itertools.combinations(range(n), 2): made, walked -/
namespace NBI
open PySem PySem.Spec PyProof.Rows L2
open Sem (wp)
/-- the iterator: its pool, its state, the tuple handed out last, the two places -/
abbrev IsCmb (h : Heap) (it : Addr) (pool : Addr) (st : Int) (old : Value) (i j : Nat) : Prop :=
  h.get? it = some { cls := .type "itertools.combinations", dict := none, data := .fields #[.ref pool, .int st 0, old, .int i 0, .int j 0], slots := #[] }

theorem car (a b : Value) : Builtin.Itertools.itClassAndRest "combinations" ⟨[.type "itertools.combinations", a, b], []⟩ = pure (.type "itertools.combinations", [a, b]) := by
  have e : "itertools." ++ "combinations" = "itertools.combinations" := by decide +kernel
  unfold Builtin.Itertools.itClassAndRest
  simp only [e]
  show (do
    let c ← isType (.type "itertools.combinations")
    if (!c) = true then _ else _) = _
  rw [show isType (.type "itertools.combinations") = pure true from rfl]
  simp only [pure_bind, Bool.not_true, Bool.false_eq_true, if_false, sub_cmb]
theorem bnd (a b : Value) : Builtin.Itertools.itBindNamed "combinations" ["iterable", "r"] 2 2 [a, b] [] = pure [some a, some b] := by
  rfl
theorem ssz (w : Tok) : Builtin.Itertools.itSsizeArg (.int 2 w) = pure 2 := by
  unfold Builtin.Itertools.itSsizeArg
  rfl
/-- what the call leaves: the pool, the iterator -/
def madeC (h' : Heap) (acc : Array Value) (n : Nat) : Heap := (h'.push { cls := .type "tuple", data := .seq acc }).push { cls := .type "itertools.combinations", data := .fields #[.ref h'.objs.size, .int (if 2 > n then 2 else 0) 0, .none, .int (0 : Nat) 0, .int (1 : Nat) 0] }
theorem meets_cmb_new (r : Addr) (t u v y : Tok) (n : Nat) (hn : n ≤ 1000) :
    Meets (Builtin.«itertools.combinations.__new__» ⟨[.type "itertools.combinations", .ref r, .int 2 y], []⟩)
      (fun A R s => A.handled = none ∧ IsRange s.heap r 0 n 1 t u v ∧ ∀ (h' : Heap) (tk : Nat) (acc : Array Value), (∀ b o, s.heap.get? b = some o → h'.get? b = some o) → ItemsOf (fun i v => ∃ t, v = .int (0 + i * 1) t) acc n →
        R (.ok (.ret (.ref (h'.objs.size + 1)))) { s with heap := madeC h' acc n, toks := tk }) :=
  .of_wp fun prog w A R s h => by
    obtain ⟨hh, hr, h⟩ := h
    have hd := noDict_cmb
    unfold Builtin.«itertools.combinations.__new__»
    have hsm : Builtin.Range.small 0 n 1 = true := small_one (by omega) (by omega) (by omega) (by omega)
    have hsz : Builtin.Range.rangeSize 0 n 1 = n := by rw [rangeSize_one]; split <;> omega
    have hh1 : A.in1.handled = none := hh
    refine wpAny_bind (wpAny_bind (m := Builtin.Itertools.itClassAndRest "combinations" _) (wpAny_of_eq (car _ _) ?_))
    dsimp only
    refine wpAny_bind (m := Builtin.Itertools.itBindNamed "combinations" _ _ _ _ _) (wpAny_of_eq (bnd _ _) ?_)
    dsimp only
    refine wpAny_bind (m := Builtin.Itertools.itSsizeArg _) (wpAny_of_eq (ssz _) ?_)
    refine wpAny_bind (collect_range (A := A.in1) hh1 hr hsm hsz (by omega) fun h' tk acc k hacc => ?_)
    refine wp_if_neg (by decide) ?_
    try refine wpAny_bind (wpAny_pure ?_)
    refine wp_if_neg (by decide) ?_
    try refine wpAny_bind (wpAny_pure ?_)
    simp only [newTuple]
    refine wpAny_bind (wpAny_newObj_type ?_ (by show acc.toList.toArray.size ≤ sizeLine; simp only [Array.toArray_toList]; rw [hacc.1, sizeLine_eq]; omega))
    refine wpAny_pure ?_
    dsimp only
    unfold Builtin.Itertools.itNewRecord
    refine wpAny_bind (wp_if_pos (by rw [hd]; rfl) ?_)
    refine wpAny_newObj_type ?_ (by show (5 : Nat) ≤ _; decide)
    refine wpAny_pure ⟨_, rfl, ?_⟩
    have e1 : acc.toList.toArray = acc := by simp
    have e2 : (h'.push { cls := .type "tuple", data := .seq acc }).objs.size = h'.objs.size + 1 := Heap.size_push ..
    have q := h h' tk acc k hacc
    dsimp only
    rw [e1, e2]
    have e3 : acc.toList.length = n := by rw [Array.length_toList]; exact hacc.1
    rw [e3]
    exact q
section
variable {prog : Program} {w : World} {A : Around} {E : Value → Shared → Prop} {s : Shared}
theorem call_cmb {r : Addr} {t u v y : Tok} {n : Nat} (hn : n ≤ 1000) {Q : Value → Shared → Prop} (hh : A.handled = none) (hr : IsRange s.heap r 0 n 1 t u v)
    (h : ∀ (h' : Heap) (tk : Nat) (acc : Array Value), (∀ b o, s.heap.get? b = some o → h'.get? b = some o) → ItemsOf (fun i v => ∃ t, v = .int (0 + i * 1) t) acc n → Q (.ref (h'.objs.size + 1)) { s with heap := madeC h' acc n, toks := tk }) :
    wpAny (model prog w) A (call (.type "itertools.combinations") [.ref r, .int 2 y]) Q E s := by
  refine callType_new called_cmb (by decide +kernel) (typeCall_cmb_2 _ _) (newCall_cmb_2 _ _) (fun obj => F.args_object_init_3 obj _ _) entry_cmb_new (meets_cmb_new r t u v y n hn) ⟨hh, hr, fun h' tk acc k hacc => ?_⟩
  have e2 : (h'.push { cls := .type "tuple", data := .seq acc }).objs.size = h'.objs.size + 1 := Heap.size_push ..
  have ho : (madeC h' acc n).get? (h'.objs.size + 1) = some { cls := .type "itertools.combinations", data := .fields #[.ref h'.objs.size, .int (if 2 > n then 2 else 0) 0, .none, .int (0 : Nat) 0, .int (1 : Nat) 0] } := by
    unfold madeC
    rw [← e2]
    exact Heap.get?_push_size _ rfl
  show _ ∧ _
  exact ⟨⟨_, ho, rfl⟩, h h' tk acc k hacc⟩
theorem iter_cmb {it pool : Addr} {st : Int} {old : Value} {i j : Nat} {Q : Value → Shared → Prop} (hit : IsCmb s.heap it pool st old i j) (h : Q (.ref it) s) : wpAny (model prog w) A (pyIter (.ref it)) Q E s := by
  have hT : s.TypeIs (.ref it) "itertools.combinations" := ⟨_, hit, rfl⟩
  refine wpAny_pyIter_slot hT slot_cmb_iter (wpAny_call_entry slot_cmb_iter hT entry_cmb_iter ?_ (args_cmb_iter _))
  show wpAny _ _ (ret (.ref it)) _ _ s
  exact wpAny_pure ⟨_, rfl, "itertools.combinations", _, hT, slot_cmb_next.lookup, h⟩
/-- the place after (i, j) -/
def nxC (n : Nat) (p : Nat × Nat) : Option (Nat × Nat) := if p.2 + 1 < n then some (p.1, p.2 + 1) else if p.1 + 2 < n then some (p.1 + 1, p.1 + 2) else none

theorem intField {it : Addr} {o : Obj} {vs : Array Value} {k : Nat} {x : Int} {tk : Tok} {Q : Int → Shared → Prop} (ho : s.heap.get? it = some o) (hd : o.data = .fields vs) (hk : vs[k]? = some (.int x tk)) (h : Q x s) : wpAny (model prog w) A (Builtin.Itertools.itIntField (.ref it) k) Q E s := by
  unfold Builtin.Itertools.itIntField
  exact wpAny_bind (wpAny_field ho hd hk (wpAny_pure h))
theorem poolItems {pool : Addr} {acc : Array Value} {Q : Array Value → Shared → Prop} (hp : s.heap.get? pool = some { cls := .type "tuple", data := .seq acc }) (h : Q acc s) : wpAny (model prog w) A (Builtin.Itertools.itPoolItems (.ref pool)) Q E s := by
  unfold Builtin.Itertools.itPoolItems
  exact wpAny_bind (wpAny_seqItems hp rfl (wpAny_pure h))
theorem hand {it pool : Addr} {st : Int} {old : Value} {acc : Array Value} {i j a b : Nat} {R : Value → Shared → Prop} (hit : IsCmb s.heap it pool st old i j) (hp : s.heap.get? pool = some { cls := .type "tuple", data := .seq acc })
    (h : ∀ h', h'.get? s.heap.objs.size = some { cls := .type "tuple", data := .seq #[acc.getD a .none, acc.getD b .none] } → IsCmb h' it pool st (.ref s.heap.objs.size) i j → (∀ b o, b ≠ it → s.heap.get? b = some o → h'.get? b = some o) → R (.ref s.heap.objs.size) { s with heap := h' }) :
    wpAny (model prog w) A (do
      let result ← (do
        let items ← Builtin.Itertools.itPoolItems (.ref pool)
        newTuple (([a, b] : List Nat).map fun i => items.getD i .none))
      let before ← field (.ref it) 2
      setField (.ref it) 2 result
      letGo [before] [result]
      (ret result : Sem Fin)) (fun fin s' => ∃ v, fin = .done (.ret v) ∧ R v s') E s := by
  refine wpAny_bind (wpAny_bind (m := Builtin.Itertools.itPoolItems (.ref pool)) (poolItems hp ?_))
  simp only [newTuple]
  refine wpAny_newObj_type ?_ (by show (2 : Nat) ≤ _; decide)
  have hlt : it < s.heap.objs.size := Heap.lt_size hit
  have k : ∀ c o, s.heap.get? c = some o → (s.heap.push { cls := .type "tuple", data := .seq (([a, b] : List Nat).map fun i => acc.getD i .none).toArray }).get? c = some o := fun c o e => Heap.get?_push_of_some _ e
  have hT : (s.heap.push { cls := .type "tuple", data := .seq (([a, b] : List Nat).map fun i => acc.getD i .none).toArray }).get? s.heap.objs.size = some { cls := .type "tuple", data := .seq (([a, b] : List Nat).map fun i => acc.getD i .none).toArray } := Heap.get?_push_size _ rfl
  have hit1 := k _ _ hit
  refine wpAny_bind (m := field (.ref it) 2) (wpAny_field hit1 rfl (x := old) rfl ?_)
  refine wpAny_bind (m := setField (.ref it) 2 _) (wpAny_setField hit1 rfl (by simp) ?_)
  refine wpAny_bind (wpAny_letGo ?_)
  refine wpAny_pure ⟨_, rfl, h _ ?_ ?_ fun c o hc e => ?_⟩
  · exact (Heap.get?_update_other _ _ (Nat.ne_of_lt hlt)).trans hT
  · exact Heap.get?_update_self _ hit1 rfl
  · exact (Heap.get?_update_other _ _ (Ne.symm hc)).trans (k c o e)
theorem next_first {it pool : Addr} {old : Value} {acc : Array Value} {n : Nat} {Q : Option Value → Shared → Prop} (hit : IsCmb s.heap it pool 0 old 0 1) (hp : s.heap.get? pool = some { cls := .type "tuple", data := .seq acc }) (hn : acc.size = n) (h2 : 2 ≤ n)
    (hQ : ∀ h', h'.get? s.heap.objs.size = some { cls := .type "tuple", data := .seq #[acc.getD 0 .none, acc.getD 1 .none] } → IsCmb h' it pool 1 (.ref s.heap.objs.size) 0 1 → (∀ b o, b ≠ it → s.heap.get? b = some o → h'.get? b = some o) → Q (some (.ref s.heap.objs.size)) { s with heap := h' }) :
    wpAny (model prog w) A (pyNext (.ref it)) Q E s := by
  have hT : s.TypeIs (.ref it) "itertools.combinations" := ⟨_, hit, rfl⟩
  unfold pyNext
  refine wpAny_bind (wpAny_attempt (wpAny_callSpecial?_slot (name := Str.ofString "__next__") hT slot_cmb_next
    (wpAny_call_entry slot_cmb_next hT entry_cmb_next ?_ (args_cmb_next _))))
  unfold Builtin.«itertools.combinations.__next__»
  refine wpAny_bind (m := slotArgs "__next__" 0 _) (wpAny_pure ?_)
  show wpAny _ _ (field (.ref it) 0 >>= _) _ _ s
  refine wpAny_bind (wpAny_field hit rfl (x := .ref pool) rfl ?_)
  show wpAny _ _ (Builtin.Itertools.itNumbersFrom (.ref it) 3 >>= _) _ _ s
  refine wpAny_bind ?_
  unfold Builtin.Itertools.itNumbersFrom
  refine wpAny_bind (wpAny_load hit ?_)
  refine wpAny_pure ?_
  refine wpAny_bind (m := Builtin.Itertools.itIntField (.ref it) 1) (intField hit rfl (k := 1) (x := 0) (tk := 0) rfl ?_)
  show wpAny _ _ (setField (.ref it) 1 (rawInt 1) >>= _) _ _ s
  refine wpAny_bind (wpAny_setField hit rfl (by simp) ?_)
  have hit2 : IsCmb (s.heap.update it (Obj.mapFields fun x => x.setIfInBounds 1 (rawInt 1))) it pool 1 old 0 1 := Heap.get?_update_self _ hit rfl
  have hpi : pool ≠ it := fun e => by
    rw [e, hit] at hp
    simp at hp
  have hp2 : (s.heap.update it (Obj.mapFields fun x => x.setIfInBounds 1 (rawInt 1))).get? pool = some { cls := .type "tuple", data := .seq acc } := (Heap.get?_update_other _ _ (Ne.symm hpi)).trans hp
  have hsz : (s.heap.update it (Obj.mapFields fun x => x.setIfInBounds 1 (rawInt 1))).objs.size = s.heap.objs.size := Heap.size_update ..
  refine hand (s := { s with heap := s.heap.update it (Obj.mapFields fun x => x.setIfInBounds 1 (rawInt 1)) }) (R := fun v s' => wpAny (model prog w) A (pure (some v)) Q E s') hit2 hp2 fun h' k1 k2 k3 => wpAny_pure ?_
  dsimp only at k1 k2 k3 ⊢
  rw [hsz] at k1 k2 ⊢
  exact hQ h' k1 k2 fun b o hb e => k3 b o hb ((Heap.get?_update_other _ _ (Ne.symm hb)).trans e)

/-- how the places go on -/
def nc (n : Nat) (l : List Nat) : Option (List Nat) :=
  match (List.range l.length).reverse.find? fun i => l.getD i 0 != i + n - l.length with
  | none => none
  | some i => some (l.take i ++ (List.range (l.length - i)).map (l.getD i 0 + 1 + ·))
theorem nc_eq {n i j : Nat} (h : i < j) (hj : j < n) : nc n [i, j] = (nxC n (i, j)).map fun p => [p.1, p.2] := by
  have er : (List.range 2).reverse = [1, 0] := by decide
  unfold nc nxC
  show (match (List.range 2).reverse.find? fun k => [i, j].getD k 0 != k + n - 2 with
    | none => none
    | some k => some ([i, j].take k ++ (List.range (2 - k)).map ([i, j].getD k 0 + 1 + ·))) = _
  rw [er]
  by_cases h1 : j + 1 < n
  · have e1 : (j != 1 + n - 2) = true := by simp; omega
    simp [List.find?, e1, h1, List.range_succ]
  · have e1 : (j != 1 + n - 2) = false := by simp; omega
    by_cases h2 : i + 2 < n
    · have e2 : (i != n - 2) = true := by simp; omega
      simp [List.find?, e1, e2, h1, h2, List.range_succ]
    · have e2 : (i != n - 2) = false := by simp; omega
      simp [List.find?, e1, e2, h1, h2]
theorem next_more {it pool : Addr} {old : Value} {acc : Array Value} {i j i' j' n : Nat} {Q : Option Value → Shared → Prop} (hit : IsCmb s.heap it pool 1 old i j) (hp : s.heap.get? pool = some { cls := .type "tuple", data := .seq acc }) (hn : acc.size = n) (h : i < j) (hj : j < n)
    (hx : nxC n (i, j) = some (i', j'))
    (hQ : ∀ h', h'.get? s.heap.objs.size = some { cls := .type "tuple", data := .seq #[acc.getD i' .none, acc.getD j' .none] } → IsCmb h' it pool 1 (.ref s.heap.objs.size) i' j' → (∀ b o, b ≠ it → s.heap.get? b = some o → h'.get? b = some o) → Q (some (.ref s.heap.objs.size)) { s with heap := h' }) :
    wpAny (model prog w) A (pyNext (.ref it)) Q E s := by
  have hT : s.TypeIs (.ref it) "itertools.combinations" := ⟨_, hit, rfl⟩
  unfold pyNext
  refine wpAny_bind (wpAny_attempt (wpAny_callSpecial?_slot (name := Str.ofString "__next__") hT slot_cmb_next
    (wpAny_call_entry slot_cmb_next hT entry_cmb_next ?_ (args_cmb_next _))))
  unfold Builtin.«itertools.combinations.__next__»
  refine wpAny_bind (m := slotArgs "__next__" 0 _) (wpAny_pure ?_)
  show wpAny _ _ (field (.ref it) 0 >>= _) _ _ s
  refine wpAny_bind (wpAny_field hit rfl (x := .ref pool) rfl ?_)
  show wpAny _ _ (Builtin.Itertools.itNumbersFrom (.ref it) 3 >>= _) _ _ s
  refine wpAny_bind ?_
  unfold Builtin.Itertools.itNumbersFrom
  refine wpAny_bind (wpAny_load hit ?_)
  refine wpAny_pure ?_
  refine wpAny_bind (m := Builtin.Itertools.itIntField (.ref it) 1) (intField hit rfl (k := 1) (x := 1) (tk := 0) rfl ?_)
  refine wpAny_bind (m := Builtin.Itertools.itPoolItems (.ref pool)) (poolItems hp ?_)
  have hnc : nc acc.size [i, j] = some [i', j'] := by
    rw [hn, nc_eq h hj, hx]
    rfl
  split
  · rename_i nx hq
    have hq' : nc acc.size [i, j] = some nx := hq
    rw [hnc] at hq'
    cases hq'
    refine wpAny_bind (m := Builtin.Itertools.itSetNumbersFrom (.ref it) 3 [i', j']) ?_
    unfold Builtin.Itertools.itSetNumbersFrom
    refine wpAny_updateFields hit rfl ?_ (by show (5 : Nat) ≤ _; decide)
    have hit2 : IsCmb (s.heap.update it (Obj.mapFields fun fs => fs.extract 0 3 ++ (([i', j'] : List Nat).map fun (n : Nat) => rawInt n).toArray)) it pool 1 old i' j' := Heap.get?_update_self _ hit rfl
    have hpi : pool ≠ it := fun e => by
      rw [e, hit] at hp
      simp at hp
    have hp2 : (s.heap.update it (Obj.mapFields fun fs => fs.extract 0 3 ++ (([i', j'] : List Nat).map fun (n : Nat) => rawInt n).toArray)).get? pool = some { cls := .type "tuple", data := .seq acc } := (Heap.get?_update_other _ _ (Ne.symm hpi)).trans hp
    have hsz : (s.heap.update it (Obj.mapFields fun fs => fs.extract 0 3 ++ (([i', j'] : List Nat).map fun (n : Nat) => rawInt n).toArray)).objs.size = s.heap.objs.size := Heap.size_update ..
    refine hand (s := { s with heap := s.heap.update it (Obj.mapFields fun fs => fs.extract 0 3 ++ (([i', j'] : List Nat).map fun (n : Nat) => rawInt n).toArray) }) (R := fun v s' => wpAny (model prog w) A (pure (some v)) Q E s') hit2 hp2 fun h' k1 k2 k3 => wpAny_pure ?_
    dsimp only at k1 k2 k3 ⊢
    rw [hsz] at k1 k2 ⊢
    exact hQ h' k1 k2 fun b o hb e => k3 b o hb ((Heap.get?_update_other _ _ (Ne.symm hb)).trans e)
  · rename_i hq
    have hq' : nc acc.size [i, j] = none := hq
    rw [hnc] at hq'
    cases hq'
theorem next_stop {it pool : Addr} {st : Int} {old : Value} {acc : Array Value} {i j n : Nat} {Q : Option Value → Shared → Prop} (hh : A.handled = none) (hit : IsCmb s.heap it pool st old i j) (hp : s.heap.get? pool = some { cls := .type "tuple", data := .seq acc }) (hn : acc.size = n)
    (h : st = 2 ∨ (st = 1 ∧ i < j ∧ j < n ∧ nxC n (i, j) = none)) (hQ : ∀ h', Heap.ExtBut it s.heap h' → Q none { s with heap := h' }) : wpAny (model prog w) A (pyNext (.ref it)) Q E s := by
  have hT : s.TypeIs (.ref it) "itertools.combinations" := ⟨_, hit, rfl⟩
  unfold pyNext
  refine wpAny_bind (wpAny_attempt (wpAny_callSpecial?_slot (name := Str.ofString "__next__") hT slot_cmb_next
    (wpAny_call_entry slot_cmb_next hT entry_cmb_next ?_ (args_cmb_next _))))
  unfold Builtin.«itertools.combinations.__next__»
  refine wpAny_bind (m := slotArgs "__next__" 0 _) (wpAny_pure ?_)
  show wpAny _ _ (field (.ref it) 0 >>= _) _ _ s
  refine wpAny_bind (wpAny_field hit rfl (x := .ref pool) rfl ?_)
  show wpAny _ _ (Builtin.Itertools.itNumbersFrom (.ref it) 3 >>= _) _ _ s
  refine wpAny_bind ?_
  unfold Builtin.Itertools.itNumbersFrom
  refine wpAny_bind (wpAny_load hit ?_)
  refine wpAny_pure ?_
  rcases h with rfl | ⟨rfl, h1, h2, h3⟩
  · refine wpAny_bind (m := Builtin.Itertools.itIntField (.ref it) 1) (intField hit rfl (k := 1) (x := 2) (tk := 0) rfl ?_)
    show wpAny _ _ (rule "itertools.combinations.ended" >>= _) _ _ s
    refine wpAny_bind (wpAny_rule ?_)
    exact wpAny_mono (stop_at (P := prog) (w := w) (s := s) (it := it) (Q := Q) (E := E) (h0 := s.heap) hh (fun b ob hb e => e) hQ) (fun _ _ z => z.elim) fun e s' z => z
  · refine wpAny_bind (m := Builtin.Itertools.itIntField (.ref it) 1) (intField hit rfl (k := 1) (x := 1) (tk := 0) rfl ?_)
    refine wpAny_bind (m := Builtin.Itertools.itPoolItems (.ref pool)) (poolItems hp ?_)
    have hnc : nc acc.size [i, j] = none := by
      rw [hn, nc_eq h1 h2, h3]
      rfl
    split
    · rename_i nx hq
      have hq' : nc acc.size [i, j] = some nx := hq
      rw [hnc] at hq'
      cases hq'
    · refine wpAny_bind (m := setField (.ref it) 1 (rawInt 2)) (wpAny_setField hit rfl (by simp) ?_)
      refine wpAny_mono (stop_at (P := prog) (w := w) (s := s) (it := it) (Q := Q) (E := E) hh (fun b ob hb e => ?_) hQ) (fun _ _ z => z.elim) fun e s' z => z
      exact (Heap.get?_update_other _ _ (Ne.symm hb)).trans e
end
end NBI

set_option Elab.async false
set_option linter.all false
set_option maxRecDepth 100000
set_option maxHeartbeats 4000000
namespace NB
open PySem L2 Evl
theorem mix_self2 {e : En} {s t : Sl} {i j : Nat} (hi : keepD (e.getD i .u) = e.getD i .u) (hj : keepD (e.getD j .u) = e.getD j .u) : mixE [i, j] e ((((e.set j .u).set i .u).set i s).set j t) = e := by
  apply List.ext_getElem?
  intro k
  unfold mixE
  by_cases hk : k < e.length
  · rw [List.getElem?_map, List.getElem?_range (by simpa using hk)]
    by_cases q : k = i ∨ k = j
    · have c : ([i, j] : List Nat).contains k = true := by
        rcases q with q | q <;> simp [q]
      rw [Option.map_some, c]
      simp only [if_true]
      rw [getD_get e .u k hk]
      congr 1
      rcases q with q | q
      · rw [q]; exact hi
      · rw [q]; exact hj
    · have q1 : k ≠ i := fun h => q (.inl h)
      have q2 : k ≠ j := fun h => q (.inr h)
      have c : ([i, j] : List Nat).contains k = false := by simp [q1, q2]
      rw [Option.map_some, c]
      simp only [Bool.false_eq_true, if_false]
      rw [getD_get e .u k hk]
      congr 1
      rw [List.getD_eq_getElem?_getD, List.getElem?_set_ne (Ne.symm q2), List.getElem?_set_ne (Ne.symm q1), List.getElem?_set_ne (Ne.symm q1), List.getElem?_set_ne (Ne.symm q2), List.getD_eq_getElem?_getD]
  · rw [List.getElem?_eq_none (by simp; omega), List.getElem?_eq_none (by omega)]
section
variable {X : Cx} {env env1 env2 env3 : En} {elt iter e a b c : Expr} {tg : Expr} {ifs : List Expr} {scope : Scope} {pos : Pos}
abbrev prE (e : En) (i j : Nat) (p : Pr) : En := (((e.set j .u).set i .u).set i (.d (.int p.1))).set j (.d (.int p.2))
theorem filtP_step {ps : List Pr} {cnd : Pr → Bool} {y : Pr → PyData} {i : Nat} {p : Pr} (h : ps[i]? = some p) : ((ps.take (i + 1)).filter cnd).map y = if cnd p = true then ((ps.take i).filter cnd).map y ++ [y p] else ((ps.take i).filter cnd).map y := by
  rw [List.take_add_one, h, Option.toList_some, List.filter_append, List.map_append]
  cases q : cnd p <;> simp [q]
theorem filtP_len {ps : List Pr} {cnd : Pr → Bool} {y : Pr → PyData} (i : Nat) : (((ps.take i).filter cnd).map y).length ≤ ps.length := by
  rw [List.length_map]
  refine Nat.le_trans (List.length_filter_le _ _) ?_
  rw [List.length_take]
  omega
/-- [elt for x, y in pairs if ..] that changes nothing -/
theorem pf_lc2 (i j : Nat) {x z : Str} {es : List Expr} {kk : Nat} {p : Pos} {ps : List Pr} (cnd : Pr → Bool) (y : Pr → PyData) (hc : X.calm = true) (hN : X.N.Nodup) (it : PID X (.Tuple es kk p) iter env (pD ps) env1) (ok : BlkOk X.N X.env.scope scope [(x, i), (z, j)])
    (ht : ∀ (s : Shared) (H : Hp) (C : Addr) (cl : List (Str × Addr)) (fp : List Addr) q, q ∈ ps → PTs (X.blk s H scope (compEnvC scope cl C X.env) fp) ifs (tT X.K X.w (prE env1 i j q) (cnd q) (prE env1 i j q)))
    (he : ∀ (s : Shared) (H : Hp) (C : Addr) (cl : List (Str × Addr)) (fp : List Addr) q, q ∈ ps → cnd q = true → PD (X.blk s H scope (compEnvC scope cl C X.env) fp) elt (prE env1 i j q) (y q) (prE env1 i j q))
    (hgg : ∀ (s : Shared) (H : Hp) (C : Addr) (cl : List (Str × Addr)) (fp : List Addr), PG (X.blk s H scope (compEnvC scope cl C X.env) fp) (.Tuple es kk p) (gTup X.K 2 (gCons (gName i) (gCons (gName j) gNil))))
    (hli : i < env1.length) (hlj : j < env1.length) (hn : ps.length < 100000) (hki : keepD (env1.getD i .u) = env1.getD i .u := by rfl) (hkj : keepD (env1.getD j .u) = env1.getD j .u := by rfl)
    (hs : ∀ x, foldedSetIterable iter X.env x = pure x := by intro _; rfl) : PF X (.ListComp elt [⟨.Tuple es kk p, iter, ifs, 0⟩] scope pos) env ((ps.filter cnd).map y) env1 := by
  have q := pf_lc (own := [(x, i), (z, j)]) (g := gTup X.K 2 (gCons (gName i) (gCons (gName j) gNil))) (elt := elt) (ifs := ifs) (pos := pos) hc hN it ok (fun _ => env1) (fun i => ((ps.take i).filter cnd).map y) (fun _ d => prE env1 i j (prOf d)) (fun _ d => prE env1 i j (prOf d)) (fun _ d => prE env1 i j (prOf d)) (fun _ d => cnd (prOf d)) (fun _ d => y (prOf d))
    hgg (fun s H C cl fp k d h => by
      obtain ⟨q, hq, rfl⟩ := pD_get h
      exact ht s H C cl fp q (List.mem_of_getElem? hq)) (fun s H C cl fp k d h hc => by
      obtain ⟨q, hq, rfl⟩ := pD_get h
      exact he s H C cl fp q (List.mem_of_getElem? hq) hc) (fun k d h => by
      obtain ⟨q, hq, rfl⟩ := pD_get h
      exact gt_pair i j (.inl rfl) (by show i < ((env1.set j .u).set i .u).length; simp; exact hli) (by show j < ((env1.set j .u).set i .u).length; simp; exact hlj)) (Le.refl _) (by simp)
    (fun k d h => by
      obtain ⟨q, hq, rfl⟩ := pD_get h
      refine ⟨filtP_step hq, Le.of_eq ?_⟩
      have e1 : (if cnd (prOf (prd q)) = true then prE env1 i j (prOf (prd q)) else prE env1 i j (prOf (prd q))) = prE env1 i j q := by split <;> rfl
      rw [e1]
      exact (mix_self2 hki hkj).symm) (fun k h => Nat.lt_of_le_of_lt (filtP_len k) hn) hs
  have e : (pD ps).length = ps.length := by simp [pD]
  rw [e, List.take_length] at q
  exact q
/-- lo, lo + c, .. -/
def rgC (lo c : Int) (n : Nat) : List PyData := (List.range n).map fun i => PyData.int (lo + (i : Nat) * c)
theorem it_rng3 {i j l : Int} (n : Nat) {p : Pos} (hm : X.mg "range" = none) (ha : PD X a env (.int i) env1) (hb : PD X b env1 (.int j) env2) (hc : PD X c env2 (.int l) env3) (hr : RgC i j l n) (hg : Gl X "range" := by rfl)
    (h1 : starEach [a, b, c] X.env = (false, eval a X.env) :: starEach [b, c] X.env := by rfl) (h2 : starEach [b, c] X.env = (false, eval b X.env) :: starEach [c] X.env := by rfl) (h3 : starEach [c] X.env = (false, eval c X.env) :: starEach [] X.env := by rfl) (hpl : (backTo pos (starEach [b, c] X.env)).any (·.1) = false := by rfl) :
    PID X tg (.Call (.Name "range" p) [a, b, c] [] pos) env (rgC i l n) env3 := pi_imp (pi_range3 hg hm (pad_cons ha (pad_cons hb (pad_cons hc pad_nil h3) h2) h1) h1 hpl) fun σ H R ⟨Γ, z, sd, k⟩ => ⟨Γ, z, sd, fun vs H' ex sd' hd => by
  cases hd with
  | cons q1 q2 =>
    cases q2 with
    | cons q2 q3 =>
      cases q3 with
      | cons q3 q4 =>
        cases q4
        cases q1
        cases q2
        cases q3
        refine ⟨i, j, l, n, rfl, hr, k _ H' ex sd' ?_⟩
        refine ⟨fun _ => True, YFn fun m => .int (i + (m : Nat) * l), by
          have e : (rgC i l n).length = n := by simp [rgC]
          rw [e]
          exact walk_rangeC, fun _ _ _ => trivial, fun m Hc zc x H2 hi' ec zd y => ?_⟩
        obtain ⟨rfl, rfl⟩ := y
        have hi2 : m < n := by simpa [rgC] using hi'
        exact ⟨Ex.refl _, .int (i + (m : Nat) * l), by simp [rgC, hi2], .int _⟩⟩
end
end NB

set_option Elab.async false
set_option linter.all false
set_option maxRecDepth 100000
set_option maxHeartbeats 4000000
/-! what the laws' helpers give, in plain Lean -/
namespace LW
open PySem L2 Evl NB
/-! ### a draw -/
structure Row where
  ns : List Int
  pos : Int
  seed : Int
  rest : Int
def rowD (r : Row) : List PyData := [.list (r.ns.map PyData.int), .int r.pos, .int r.seed, .int r.rest]
def taken (r : Row) (many : Int) : Int × Row :=
  if 0 < r.rest then (r.rest % many, { r with rest := r.rest / many })
  else if (r.ns.length : Int) < r.pos + 1 then
    (((r.seed * 48271 + 11) % 2147483647 / 7) % many, { r with pos := r.pos + 1, seed := (r.seed * 48271 + 11) % 2147483647 })
  else
    (r.ns.getD r.pos.toNat 0 % many, { r with pos := r.pos + 1, seed := (r.seed * 48271 + r.ns.getD r.pos.toNat 0 + 11) % 2147483647, rest := if (1000000000000000000 : Int) ≤ r.ns.getD r.pos.toNat 0 then r.ns.getD r.pos.toNat 0 / many else r.rest })
structure RowOk (r : Row) : Prop where
  pos : 0 ≤ r.pos
  s0 : 0 ≤ r.seed
  s1 : r.seed < 2147483647
theorem taken_ok {r : Row} (h : RowOk r) (many : Int) : RowOk (taken r many).2 := by
  unfold taken
  split
  · exact ⟨h.pos, h.s0, h.s1⟩
  · have := h.pos
    split
    · exact ⟨by show 0 ≤ r.pos + 1; omega, by show 0 ≤ _ % _; omega, by show _ % _ < _; omega⟩
    · exact ⟨by show 0 ≤ r.pos + 1; omega, by show 0 ≤ _ % _; omega, by show _ % _ < _; omega⟩
theorem taken_ge {r : Row} {many : Int} (h : 0 < many) : 0 ≤ (taken r many).1 ∧ (taken r many).1 < many := by
  have k : ∀ x : Int, 0 ≤ x % many ∧ x % many < many := fun x => ⟨Int.emod_nonneg _ (by omega), Int.emod_lt_of_pos _ h⟩
  unfold taken
  split
  · exact k _
  · split
    · exact k _
    · exact k _
def RTaken (row ds : List PyData) (d : PyData) (row' : List PyData) : Prop := ∃ r many, RowOk r ∧ 0 < many ∧ many < 1073741824 ∧ row = rowD r ∧ ds = [.int many] ∧ d = .int (taken r many).1 ∧ row' = rowD (taken r many).2
theorem rTaken {r : Row} (h : RowOk r) (many : Int) (h0 : 0 < many := by decide) (h1 : many < 1073741824 := by decide) : RTaken (rowD r) [.int many] (.int (taken r many).1) (rowD (taken r many).2) := ⟨r, many, h, h0, h1, rfl, rfl, rfl, rfl⟩
/-- one of some things -/
def RPick (row ds : List PyData) (d : PyData) (row' : List PyData) : Prop := ∃ r things, RowOk r ∧ things ≠ [] ∧ things.length < 100000 ∧ row = rowD r ∧ ds = [.list things] ∧ d = things.getD (taken r things.length).1.toNat .none ∧ row' = rowD (taken r things.length).2
/-- what the module's names hold: nothing but what is built in -/
structure Nam (mg : Str → Option Value) : Prop where
  len : mg "len" = none
  int : mg "int" = none
  range : mg "range" = none
  list : mg "list" = none
  tuple : mg "tuple" = none
  min : mg "min" = none
  max : mg "max" = none
  set : mg "set" = none
  sorted : mg "sorted" = none
  isinstance : mg "isinstance" = none
  str : mg "str" = none
  bool : mg "bool" = none
  all : mg "all" = none
  sum : mg "sum" = none
  enumerate : mg "enumerate" = none
/-! ### data alike -/
def Al : Nat → PyData → Prop
  | _, .none => True
  | _, .bool _ => True
  | _, .int _ => True
  | _, .str s => PyData.strOk s = true
  | 0, _ => False
  | n + 1, .list ds => ds.length ≤ 10000 ∧ ∀ d ∈ ds, Al n d
  | n + 1, .tuple ds => ds.length ≤ 10000 ∧ ∀ d ∈ ds, Al n d
  | _ + 1, .dict _ => False
def RAlike (n : Nat) (ds : List PyData) (d : PyData) : Prop := ∃ x, Al n x ∧ ds = [x, x] ∧ d = .bool true
theorem al_tuple_inv {n : Nat} {ds : List PyData} (h : Al n (.tuple ds)) : ∃ m, n = m + 1 ∧ ds.length ≤ 10000 ∧ ∀ d ∈ ds, Al m d := by
  cases n with
  | zero => simp [Al] at h
  | succ n => exact ⟨n, rfl, by simpa [Al] using h⟩
theorem al_list_inv {n : Nat} {ds : List PyData} (h : Al n (.list ds)) : ∃ m, n = m + 1 ∧ ds.length ≤ 10000 ∧ ∀ d ∈ ds, Al m d := by
  cases n with
  | zero => simp [Al] at h
  | succ n => exact ⟨n, rfl, by simpa [Al] using h⟩
theorem al_dict {n : Nat} {ds} (h : Al n (.dict ds)) : False := by cases n <;> simp [Al] at h
theorem al_str {n : Nat} {z : Str} (h : Al n (.str z)) : PyData.strOk z = true := by cases n <;> simpa [Al] using h
theorem al_int (n : Nat) (i : Int) : Al n (.int i) := by cases n <;> simp [Al]
theorem al_bool (n : Nat) (i : Bool) : Al n (.bool i) := by cases n <;> simp [Al]
theorem al_tup {n : Nat} {ds : List PyData} (h : ∀ d ∈ ds, Al n d) (hl : ds.length ≤ 10000) : Al (n + 1) (.tuple ds) := ⟨hl, h⟩
theorem al_lst {n : Nat} {ds : List PyData} (h : ∀ d ∈ ds, Al n d) (hl : ds.length ≤ 10000) : Al (n + 1) (.list ds) := ⟨hl, h⟩
/-! ### all pairs -/
def prFrom (n : Int) (i : Int) : List Pr := (upto (i + 1) n).map fun j => (i, j)
def allPr (n : Int) : Nat → List Pr
  | 0 => []
  | i + 1 => allPr n i ++ prFrom n i
def prs (n : Int) : List Pr := allPr n n.toNat
def RPairs (ds : List PyData) (d : PyData) : Prop := ∃ n : Int, 0 ≤ n ∧ n ≤ 100 ∧ ds = [.int n] ∧ d = .list (pD (prs n))
theorem prFrom_len {n i : Int} (h0 : 0 ≤ i) (h1 : n ≤ 100) : (prFrom n i).length ≤ 100 := by
  unfold prFrom
  rw [List.length_map, upto_len]
  omega
theorem allPr_len {n : Int} (h1 : n ≤ 100) : ∀ i : Nat, (allPr n i).length ≤ 100 * i
  | 0 => by simp [allPr]
  | i + 1 => by
    have a := allPr_len h1 i
    have b := prFrom_len (i := (i : Nat)) (by omega) h1
    simp only [allPr, List.length_append]
    omega
theorem mem_prFrom {n i : Int} {p : Pr} : p ∈ prFrom n i ↔ p.1 = i ∧ i < p.2 ∧ p.2 < n := by
  unfold prFrom
  rw [List.mem_map]
  constructor
  · rintro ⟨j, h, rfl⟩
    have := mem_upto.mp h
    exact ⟨rfl, by show i < j; omega, by show j < n; omega⟩
  · rintro ⟨h1, h2, h3⟩
    exact ⟨p.2, mem_upto.mpr ⟨by omega, h3⟩, by rw [← h1]⟩
theorem mem_allPr {n : Int} {p : Pr} : ∀ {i : Nat}, p ∈ allPr n i ↔ 0 ≤ p.1 ∧ p.1 < (i : Nat) ∧ p.1 < p.2 ∧ p.2 < n
  | 0 => by
    simp only [allPr, List.not_mem_nil, false_iff]
    omega
  | i + 1 => by
    simp only [allPr, List.mem_append, mem_allPr, mem_prFrom]
    constructor
    · rintro (⟨a, b, c, d⟩ | ⟨a, b, c⟩)
      · omega
      · omega
    · rintro ⟨a, b, c, d⟩
      by_cases e : p.1 < (i : Nat)
      · exact .inl ⟨a, e, c, d⟩
      · exact .inr (by omega)
theorem mem_prs {n : Int} {p : Pr} : p ∈ prs n ↔ 0 ≤ p.1 ∧ p.1 < p.2 ∧ p.2 < n := by
  unfold prs
  rw [mem_allPr]
  omega
/-! ### nets: their number of halls and their pairs -/
def netD (n : Int) (ps : List Pr) : PyData := .tuple [.int n, .tuple (pD ps)]
/-- pairs ascend -/
def prLt (p q : Pr) : Prop := p.1 < q.1 ∨ (p.1 = q.1 ∧ p.2 < q.2)
structure Net (n : Int) (ps : List Pr) : Prop where
  n1 : 1 ≤ n
  n60 : n ≤ 60
  pr : ∀ p ∈ ps, 0 ≤ p.1 ∧ p.1 < p.2 ∧ p.2 < n
  asc : ps.Pairwise prLt

/-! ### a map that is one to one -/
def turnF : Nat → Row → List Int → List Int → List Int × Row
  | 0, r, f, _ => (f, r)
  | n + 1, r, f, l => turnF n (taken r l.length).2 (f ++ [l.getD (taken r l.length).1.toNat 0]) (l.eraseIdx (taken r l.length).1.toNat)
def turnM (r : Row) (n : Int) : List Int × Row := turnF n.toNat r [] (upto 0 n)
def RTurn (row ds : List PyData) (d : PyData) (row' : List PyData) : Prop := ∃ r n, RowOk r ∧ 0 ≤ n ∧ n ≤ 100 ∧ row = rowD r ∧ ds = [.int n] ∧ d = .tuple (iD (turnM r n).1) ∧ row' = rowD (turnM r n).2
/-! ### pairs led by a map -/
def ledM (t : List Int) (ps : List Pr) : List Pr := srtP (ps.map fun p => (min (t.getD p.1.toNat 0) (t.getD p.2.toNat 0), max (t.getD p.1.toNat 0) (t.getD p.2.toNat 0)))
def RLed (ds : List PyData) (d : PyData) : Prop := ∃ (t : List Int) (ps : List Pr), (∀ p ∈ ps, 0 ≤ p.1 ∧ p.1 < t.length ∧ 0 ≤ p.2 ∧ p.2 < t.length) ∧ ps.length < 100000 ∧ ds = [.tuple (iD t), .tuple (pD ps)] ∧ d = .tuple (pD (ledM t ps))
def RLeft (ds : List PyData) (d : PyData) : Prop := ∃ (es ss : List Pr), es.length < 100000 ∧ ds = [.list (pD es), .tuple (pD ss)] ∧ d = .tuple (pD (es.filter fun p => !decide (p ∈ ss)))
/-! ### a net drawn -/
def drawF (r : Row) : List Pr → List Pr × Row
  | [] => ([], r)
  | p :: ps => (if (taken r 2).1 = 0 then p :: (drawF (taken r 2).2 ps).1 else (drawF (taken r 2).2 ps).1, (drawF (taken r 2).2 ps).2)
def drawN (r : Row) (most : Int) : Int × List Pr × Row := (1 + (taken r most).1, (drawF (taken r most).2 (prs (1 + (taken r most).1))))
def RNet (row ds : List PyData) (d : PyData) (row' : List PyData) : Prop := ∃ r most, RowOk r ∧ 0 < most ∧ most ≤ 60 ∧ row = rowD r ∧ ds = [.int most] ∧ d = netD (drawN r most).1 (drawN r most).2.1 ∧ row' = rowD (drawN r most).2.2
/-! ### the friends of a hall -/
def fri (n : Int) (ps : List Pr) (h : Int) : List Int := (upto 0 n).filter fun o => decide ((min h o, max h o) ∈ ps)
def RFriends (ds : List PyData) (d : PyData) : Prop := ∃ n ps h, 0 ≤ n ∧ n ≤ 100 ∧ ds = [netD n ps, .int h] ∧ d = .list (iD (fri n ps h))
theorem turnF_ok : ∀ (n : Nat) {r : Row} {f l : List Int}, RowOk r → RowOk (turnF n r f l).2
  | 0, _, _, _, h => h
  | n + 1, _, _, _, h => turnF_ok n (taken_ok h _)
theorem drawF_ok : ∀ {ps : List Pr} {r : Row}, RowOk r → RowOk (drawF r ps).2
  | [], _, h => h
  | _ :: ps, _, h => drawF_ok (ps := ps) (taken_ok h _)

theorem drawF_snoc (p : Pr) : ∀ (l : List Pr) (r : Row), drawF r (l ++ [p]) = (if (taken (drawF r l).2 2).1 = 0 then (drawF r l).1 ++ [p] else (drawF r l).1, (taken (drawF r l).2 2).2)
  | [], r => by
    simp only [List.nil_append, drawF]
    rfl
  | q :: l, r => by
    simp only [List.cons_append, drawF, drawF_snoc p l]
    by_cases h1 : (taken r 2).1 = 0
    · by_cases h2 : (taken (drawF (taken r 2).2 l).2 2).1 = 0
      · simp [h1, h2]
      · simp [h1, h2]
    · by_cases h2 : (taken (drawF (taken r 2).2 l).2 2).1 = 0
      · simp [h1, h2]
      · simp [h1, h2]
theorem drawF_sub : ∀ (l : List Pr) (r : Row), (drawF r l).1.Sublist l
  | [], r => List.Sublist.slnil
  | q :: l, r => by
    simp only [drawF]
    split
    · exact (drawF_sub l _).cons_cons q
    · exact (drawF_sub l _).cons q
theorem prs_len {n : Int} (h : n ≤ 100) : (prs n).length ≤ 10000 := by
  have := allPr_len h n.toNat
  unfold prs
  omega

theorem srt_two (a b : Int) : srt [a, b] = [min a b, max a b] := by
  refine pw_unique ((srt_perm _).trans ?_) (srt_pw _) ?_
  · by_cases h : a ≤ b
    · rw [show min a b = a by omega, show max a b = b by omega]
    · rw [show min a b = b by omega, show max a b = a by omega]
      exact List.Perm.swap b a []
  · simp
    omega
/-! ### windmills -/
def wmPrs (nm : List Int) (n : Int) : List Pr := (upto 1 n).map (fun k => (nm.getD 0 0, nm.getD k.toNat 0)) ++ (List.range ((n - 1) / 2).toNat).map fun i => (nm.getD (1 + i * 2) 0, nm.getD (1 + i * 2 + 1) 0)
def mm (p : Pr) : Pr := (min p.1 p.2, max p.1 p.2)
def wmM (nm : List Int) (n : Int) : List Pr := srtP ((wmPrs nm n).map mm)
def RWind (row ds : List PyData) (d : PyData) (row' : List PyData) : Prop := ∃ r n, RowOk r ∧ (n = 1 ∨ n = 3 ∨ n = 5 ∨ n = 7 ∨ n = 9 ∨ n = 11) ∧ row = rowD r ∧ ds = [.int n] ∧ d = netD n (wmM (turnM r n).1 n) ∧ row' = rowD (turnM r n).2
def RCalled (row ds : List PyData) (d : PyData) (row' : List PyData) : Prop := ∃ r n ps, RowOk r ∧ 0 ≤ n ∧ n ≤ 100 ∧ ps.length < 100000 ∧ (∀ p ∈ ps, 0 ≤ p.1 ∧ p.1 < n ∧ 0 ≤ p.2 ∧ p.2 < n) ∧ row = rowD r ∧ ds = [netD n ps] ∧ d = netD n (ledM (turnM r n).1 ps) ∧ row' = rowD (turnM r n).2
theorem turnF_len : ∀ (n : Nat) (r : Row) (f l : List Int), l.length = n → (turnF n r f l).1.length = f.length + n
  | 0, _, f, l, h => by simp [turnF]
  | n + 1, r, f, l, h => by
    have hb := taken_ge (r := r) (many := (l.length : Int)) (by omega)
    simp only [turnF]
    rw [turnF_len n _ _ _ (by rw [List.length_eraseIdx, if_pos (by omega)]; omega)]
    simp
    omega
theorem turnM_len (r : Row) {n : Int} (h : 0 ≤ n) : (turnM r n).1.length = n.toNat := by
  unfold turnM
  rw [turnF_len _ _ _ _ (by rw [upto_len]; omega)]
  simp
/-! ### boards, the ten pairs of five -/
def onLine (s : Int) (p : Pr) : Bool := decide (p.1 / s = p.2 / s) || decide (p.1 % s = p.2 % s)
def boardM (s : Int) : List Pr := (prs (s * s)).filter (onLine s)
def RBoard (ds : List PyData) (d : PyData) : Prop := ∃ s : Int, 1 ≤ s ∧ s ≤ 7 ∧ ds = [.int s] ∧ d = .tuple (pD (boardM s))
def apart5 (p : Pr) : Bool := decide (((prs 5).getD p.1.toNat (0, 0)).1 ≠ ((prs 5).getD p.2.toNat (0, 0)).1) && decide (((prs 5).getD p.1.toNat (0, 0)).1 ≠ ((prs 5).getD p.2.toNat (0, 0)).2)
  && decide (((prs 5).getD p.1.toNat (0, 0)).2 ≠ ((prs 5).getD p.2.toNat (0, 0)).1) && decide (((prs 5).getD p.1.toNat (0, 0)).2 ≠ ((prs 5).getD p.2.toNat (0, 0)).2)
def petM : List Pr := (prs 10).filter apart5
def RPet (ds : List PyData) (d : PyData) : Prop := ds = [] ∧ d = .tuple (pD petM)
end LW

set_option Elab.async false
set_option linter.all false
set_option maxRecDepth 100000
set_option maxHeartbeats 4000000
/-! for .. in combinations(range(n), 2) -/
namespace NBI
open PySem PySem.Spec PyProof.Rows L2 Evl NB LW
/-! ### the pairs in their order -/
def cpF (n i : Nat) : List (Nat × Nat) := (List.range (n - (i + 1))).map fun k => (i, i + 1 + k)
def cpR (n : Nat) : Nat → Nat → List (Nat × Nat)
  | 0, _ => []
  | m + 1, i => cpF n i ++ cpR n m (i + 1)
def cps (n : Nat) : List (Nat × Nat) := cpR n n 0
def Nx (n : Nat) : List (Nat × Nat) → Option (Nat × Nat) → Prop
  | [], _ => True
  | p :: l, e => nxC n p = l.head?.or e ∧ Nx n l e
theorem Nx.app {n : Nat} {e : Option (Nat × Nat)} : ∀ {A B : List (Nat × Nat)}, Nx n A (B.head?.or e) → Nx n B e → Nx n (A ++ B) e
  | [], B, _, h => h
  | p :: A, B, h1, h2 => by
    obtain ⟨h, t⟩ := h1
    refine ⟨?_, Nx.app t h2⟩
    rw [h]
    cases A <;> simp
theorem Nx.row {n i : Nat} : ∀ (k j : Nat), i < j → j + k = n → Nx n ((List.range k).map fun x => (i, j + x)) (if i + 2 < n then some (i + 1, i + 2) else none)
  | 0, j, _, _ => trivial
  | k + 1, j, h, e => by
    rw [List.range_succ_eq_map, List.map_cons, List.map_map]
    have e1 : ((fun x => (i, j + x)) ∘ Nat.succ) = fun x => (i, j + 1 + x) := by
      funext x
      show (i, j + (x + 1)) = (i, j + 1 + x)
      rw [show j + (x + 1) = j + 1 + x by omega]
    rw [e1]
    refine ⟨?_, Nx.row k (j + 1) (by omega) (by omega)⟩
    unfold nxC
    show (if j + 0 + 1 < n then some (i, j + 0 + 1) else if i + 2 < n then some (i + 1, i + 2) else none) = _
    cases k with
    | zero => rw [if_neg (by omega)]; rfl
    | succ k =>
      rw [if_pos (by omega), List.range_succ_eq_map]
      rfl
theorem cpR_head {n : Nat} : ∀ (m i : Nat), i + m = n → (cpR n m i).head? = if i + 1 < n then some (i, i + 1) else none
  | 0, i, h => by rw [if_neg (by omega)]; rfl
  | m + 1, i, h => by
    unfold cpR cpF
    by_cases q : i + 1 < n
    · obtain ⟨k, hk⟩ : ∃ k, n - (i + 1) = k + 1 := ⟨n - (i + 1) - 1, by omega⟩
      rw [if_pos q, hk, List.range_succ_eq_map]
      rfl
    · rw [if_neg q, show n - (i + 1) = 0 by omega, show m = 0 by omega]
      rfl
theorem Nx.rows {n : Nat} : ∀ (m i : Nat), i + m = n → Nx n (cpR n m i) none
  | 0, i, h => trivial
  | m + 1, i, h => by
    unfold cpR
    refine Nx.app ?_ (Nx.rows m (i + 1) (by omega))
    rw [cpR_head m (i + 1) (by omega), Option.or_none]
    exact Nx.row (n - (i + 1)) (i + 1) (by omega) (by omega)
theorem Nx.get {n : Nat} : ∀ {L : List (Nat × Nat)} {t : Nat} {p : Nat × Nat}, Nx n L none → L[t]? = some p → nxC n p = L[t + 1]?
  | [], t, p, _, h => by simp at h
  | q :: L, 0, p, h, e => by
    simp at e
    subst e
    rw [h.1, Option.or_none]
    cases L <;> simp
  | q :: L, t + 1, p, h, e => by
    have := Nx.get (t := t) h.2 (by simpa using e)
    simpa using this
theorem cps_next {n t : Nat} {p : Nat × Nat} (h : (cps n)[t]? = some p) : nxC n p = (cps n)[t + 1]? := Nx.get (Nx.rows n 0 (by omega)) h
theorem cps_zero {n : Nat} : (cps n)[0]? = if 2 ≤ n then some (0, 1) else none := by
  rw [← List.head?_eq_getElem?]
  unfold cps
  rw [cpR_head n 0 (by omega)]
  by_cases q : 2 ≤ n
  · rw [if_pos q, if_pos (by omega)]
  · rw [if_neg q, if_neg (by omega)]
theorem cpR_mem {n : Nat} {p : Nat × Nat} : ∀ {m i : Nat}, p ∈ cpR n m i → p.1 < p.2 ∧ p.2 < n
  | 0, i, h => by cases h
  | m + 1, i, h => by
    unfold cpR at h
    rcases List.mem_append.mp h with h | h
    · unfold cpF at h
      obtain ⟨k, hk, rfl⟩ := List.mem_map.mp h
      have := List.mem_range.mp hk
      constructor <;> (simp only; omega)
    · exact cpR_mem h
def prC (p : Nat × Nat) : Pr := ((p.1 : Nat), (p.2 : Nat))
theorem cpR_prs {n : Nat} : ∀ (m i : Nat), i + m = n → allPr n i ++ (cpR n m i).map prC = allPr n n
  | 0, i, h => by
    rw [show i = n by omega]
    simp [cpR]
  | m + 1, i, h => by
    rw [← cpR_prs m (i + 1) (by omega)]
    show allPr n i ++ (cpF n i ++ cpR n m (i + 1)).map prC = _
    rw [List.map_append, ← List.append_assoc]
    congr 1
    simp only [allPr]
    congr 1
    unfold cpF prFrom upto
    rw [List.map_map, List.map_map, show ((n : Int) - ((i : Int) + 1)).toNat = n - (i + 1) by omega]
    rfl
theorem cps_prs (n : Nat) : (cps n).map prC = prs n := by
  have := cpR_prs (n := n) n 0 (by omega)
  unfold cps prs
  rw [show ((n : Int)).toNat = n by omega, ← this]
  rfl
/-! ### the walk -/
/-- the pairs of range(n), each in a new tuple -/
def Itcb (n : Nat) : It :=
  ⟨fun i _ => i < (cps n).length, fun i H v H' => ∃ T p, v = .ref T ∧ H T = none ∧ H' = upd H T (.tup [.int (p.1 : Nat), .int (p.2 : Nat)]) ∧ (cps n)[i]? = some p, fun i _ => (cps n).length ≤ i⟩
def TnC (n : Nat) (it pool : Addr) (acc : Array Value) (i : Nat) (h : Heap) : Prop :=
  h.get? pool = some { cls := .type "tuple", data := .seq acc } ∧ ((i = 0 ∧ IsCmb h it pool (if 2 > n then 2 else 0) .none 0 1) ∨ ∃ k p old, i = k + 1 ∧ (cps n)[k]? = some p ∧ IsCmb h it pool 1 old p.1 p.2)
theorem acc_at {acc : Array Value} {n a : Nat} (h : ItemsOf (fun i v => ∃ t, v = .int (0 + i * 1) t) acc n) (ha : a < n) : ∃ t, acc.getD a .none = .int (a : Nat) t := by
  have hs : a < acc.size := by rw [h.1]; exact ha
  obtain ⟨t, e⟩ := h.2 a acc[a] (by rw [Array.getElem?_eq_getElem hs])
  refine ⟨t, ?_⟩
  rw [Array.getD_eq_getD_getElem?, Array.getElem?_eq_getElem hs, Option.getD_some, e]
  congr 1
  omega
theorem turn_cmb {P : Program} {w : World} {K : PySem.W.Frag} {tg : Expr} {n : Nat} {it pool : Addr} {acc : Array Value} (hacc : ItemsOf (fun i v => ∃ t, v = .int (0 + i * 1) t) acc n) (hne : pool ≠ it) : Turn P w K tg (Itcb n) [it, pool] it (TnC n it pool acc) where
  mem := by simp
  obj := fun i h st b hb => by
    obtain ⟨hp, st⟩ := st
    have e' : b = it ∨ b = pool := by simpa using hb
    rcases e' with z | z
    · rw [z]
      rcases st with ⟨_, q⟩ | ⟨k, p, old, _, _, q⟩
      · exact ⟨_, q, fun v z => nomatch z⟩
      · exact ⟨_, q, fun v z => nomatch z⟩
    · rw [z]
      exact ⟨_, hp, fun v z => nomatch z⟩
  keep := fun i h h' st k => by
    obtain ⟨hp, st⟩ := st
    refine ⟨k pool (by simp) _ hp, ?_⟩
    rcases st with ⟨e, q⟩ | ⟨j, p, old, e, e2, q⟩
    · exact .inl ⟨e, k it (by simp) _ q⟩
    · exact .inr ⟨j, p, old, e, e2, k it (by simp) _ q⟩
  item := by
    intro X hP hw hK hc i pins s σ H E I hf st hg
    subst hP hw hK
    obtain ⟨hp, st⟩ := st
    have hg : i < (cps n).length := hg
    have hpl : pool < s.heap.objs.size := Heap.lt_size hp
    have hil : it < s.heap.objs.size := by
      rcases st with ⟨e, q⟩ | ⟨j, p, old, e, e2, q⟩
      · exact Heap.lt_size q
      · exact Heap.lt_size q
    -- what follows where the pair q has been handed out
    have fin : ∀ (q : Nat × Nat) (h' : Heap), (cps n)[i]? = some q → h'.get? s.heap.objs.size = some { cls := .type "tuple", data := .seq #[acc.getD q.1 .none, acc.getD q.2 .none] } → IsCmb h' it pool 1 (.ref s.heap.objs.size) q.1 q.2 → (∀ b o, b ≠ it → s.heap.get? b = some o → h'.get? b = some o) →
        (fun (r : Option Value) (s1 : Shared) => ∃ u, r = some u ∧ wpAny (model X.prog X.w) X.A (letOwnedTupleGo tg (.ref it) u) (fun _ s2 => ∃ x H', Inv X pins σ H' s2 ∧ RelV x u ∧ (Itcb n).yld i H x H' ∧ TnC n it pool acc (i + 1) s2.heap ∧ ∀ b ∈ [it, pool], H' b = none) E s1) (some (.ref s.heap.objs.size)) { s with heap := h' } := fun q h' hq hT hI hk => by
      have hm := cpR_mem (List.mem_of_getElem? hq)
      obtain ⟨t1, e1⟩ := acc_at hacc (a := q.1) (by omega)
      obtain ⟨t2, e2⟩ := acc_at hacc (a := q.2) (by omega)
      rw [e1, e2] at hT
      have new : ObjOk X.prog X.w (upd H s.heap.objs.size (.tup [.int (q.1 : Nat), .int (q.2 : Nat)])) h' s.heap.objs.size (.tup [.int (q.1 : Nat), .int (q.2 : Nat)]) :=
        ⟨by show 2 ≤ sizeLine; decide, [.int q.1 t1, .int q.2 t2], .cons ⟨_, rfl⟩ (.cons ⟨_, rfl⟩ .nil), ⟨_, hT, rfl, _, rfl⟩⟩
      have I1 : Inv X pins σ (upd H s.heap.objs.size (.tup [.int (q.1 : Nat), .int (q.2 : Nat)])) { s with heap := h' } :=
        I.turnedNew (t' := s.toks) (ch := [it, pool]) (fun c o hb e => hk c o (fun z => hb (by simp [z])) e) hf (Nat.le_refl _) new
      refine ⟨_, rfl, go_of (s := { s with heap := h' }) hI rfl rfl (by decide) ⟨.ref s.heap.objs.size, _, I1, rfl, ⟨_, q, rfl, I.hok.fresh (Nat.le_refl _), rfl, hq⟩, ⟨hk pool _ hne hp, .inr ⟨i, q, _, rfl, hq, hI⟩⟩, fun b hb => ?_⟩⟩
      have hlt : b < s.heap.objs.size := by
        have e' : b = it ∨ b = pool := by simpa using hb
        rcases e' with z | z
        · rw [z]; exact hil
        · rw [z]; exact hpl
      rw [upd_ne (Nat.ne_of_lt hlt)]
      exact (hf b hb).1
    rcases st with ⟨e, q⟩ | ⟨j, p, old, e, e2, q⟩
    · subst e
      have h0 := cps_zero (n := n)
      by_cases h2 : 2 ≤ n
      · rw [if_pos h2] at h0
        rw [if_neg (by omega)] at q
        exact next_first q hp hacc.1 h2 fun h' k1 k2 k3 => fin (0, 1) h' h0 k1 k2 k3
      · rw [if_neg h2] at h0
        rw [List.getElem?_eq_getElem hg] at h0
        cases h0
    · subst e
      have hm := cpR_mem (List.mem_of_getElem? e2)
      have hn := cps_next e2
      rw [List.getElem?_eq_getElem hg] at hn
      exact next_more q hp hacc.1 hm.1 hm.2 (i' := ((cps n)[j + 1]).1) (j' := ((cps n)[j + 1]).2) hn fun h' k1 k2 k3 => fin _ h' (List.getElem?_eq_getElem hg) k1 k2 k3
  done := by
    intro X hP hw hK hc i pins s σ H E I hf st hg
    subst hP hw hK
    obtain ⟨hp, st⟩ := st
    have hg : (cps n).length ≤ i := hg
    obtain ⟨f0, f1, f2, f3, f4, f5⟩ := hf it (by simp)
    have fin : ∀ h', Heap.ExtBut it s.heap h' → (fun (r : Option Value) (s1 : Shared) => r = none ∧ Inv X pins σ H s1) none { s with heap := h' } := fun h' eb => ⟨rfl, I.turned (t' := s.toks) (fun b o hb q => eb b o hb q) f0 f1 f3 f4 f5⟩
    rcases st with ⟨e, q⟩ | ⟨j, p, old, e, e2, q⟩
    · subst e
      have h0 := cps_zero (n := n)
      rw [List.getElem?_eq_none (by omega)] at h0
      have h2 : ¬ 2 ≤ n := fun h => by rw [if_pos h] at h0; cases h0
      rw [if_pos (by omega)] at q
      exact next_stop (I.ok.hd hc) q hp hacc.1 (.inl rfl) fin
    · subst e
      have hm := cpR_mem (List.mem_of_getElem? e2)
      have hn := cps_next e2
      rw [List.getElem?_eq_none (by omega)] at hn
      exact next_stop (I.ok.hd hc) q hp hacc.1 (.inr ⟨rfl, hm.1, hm.2, hn⟩) fin
  self := fun A i s Q E st h => by
    obtain ⟨hp, st⟩ := st
    rcases st with ⟨e, q⟩ | ⟨j, p, old, e, e2, q⟩
    · exact iter_cmb q h
    · exact iter_cmb q h
def iCmb (ta : TE) : TI := fun σ H R => tRg1 ta σ H fun lo hi H1 => lo = 0 ∧ ∃ n : Nat, hi = (n : Int) ∧ n ≤ 1000 ∧ R (Itcb n) H1
theorem pi_cmb {X : Cx} {tg a : Expr} {ta : TE} {p p2 pos pos2 p3 : Pos} {j : Nat} {cn : Str} (hc : X.calm = true) (hg : Gl X cn) (hm : X.mg cn = some (.type "itertools.combinations")) (hg2 : Gl X "range") (hm2 : X.mg "range" = none) (ha : PE X a ta) (hdb : (cn == ("__debug__" : Str)) = false := by decide)
    (na : starEach [a] X.env = (false, eval a X.env) :: starEach [] X.env := by rfl)
    (ns : starEach [.Call (.Name "range" p2) [a] [] pos2, .Constant (.int 2) j p3] X.env = (false, eval (.Call (.Name "range" p2) [a] [] pos2) X.env) :: starEach [.Constant (.int 2) j p3] X.env := by rfl)
    (ns2 : starEach [.Constant (.int 2) j p3] X.env = (false, eval (.Constant (.int 2) j p3) X.env) :: starEach [] X.env := by rfl)
    (hpl : (backTo pos (starEach [.Constant (.int 2) j p3] X.env)).any (·.1) = false := by rfl) :
    PI X tg (.Call (.Name cn p) [.Call (.Name "range" p2) [a] [] pos2, .Constant (.int 2) j p3] [] pos) (iCmb ta) := by
  refine ⟨fun pins s σ H R I h => ?_⟩
  refine Call_ (ld_glob I hg hm (PyProof.Rows.callWith_type1 (args_cons (thn (prg_1 hg2 hm2 ha na pins s σ H _ I h) fun x s1 ⟨r, lo, hi, t, u, v, H1, ex, hr, I1, q⟩ => args_cons (wpAny_Constant_int (args_nil ?_)) ns2) ns) ns hpl) hdb)
  obtain ⟨rfl, n, rfl, hn, q⟩ := q
  subst ex
  have hd := I1.ok.hd hc
  refine call_cmb (s := { s1 with toks := s1.toks + 1 }) hn hd hr fun h' tk acc k hacc => ?_
  have I2 : Inv X pins σ H1 { s1 with heap := h', toks := tk } := I1.kept k
  have e2 : (h'.push { cls := .type "tuple", data := .seq acc }).objs.size = h'.objs.size + 1 := Heap.size_push ..
  have ho : (madeC h' acc n).get? (h'.objs.size + 1) = some { cls := .type "itertools.combinations", data := .fields #[.ref h'.objs.size, .int (if 2 > n then 2 else 0) 0, .none, .int (0 : Nat) 0, .int (1 : Nat) 0] } := by
    unfold madeC
    rw [← e2]
    exact Heap.get?_push_size _ rfl
  have hp : (madeC h' acc n).get? h'.objs.size = some { cls := .type "tuple", data := .seq acc } := by
    unfold madeC
    exact Heap.get?_push_of_some _ (Heap.get?_push_size _ rfl)
  have k2 : ∀ b o, h'.get? b = some o → (madeC h' acc n).get? b = some o := fun b o e => by
    unfold madeC
    exact Heap.get?_push_of_some _ (Heap.get?_push_of_some _ e)
  have I3 : Inv X pins σ H1 { s1 with heap := madeC h' acc n, toks := tk } := I2.kept (t' := tk) k2
  refine iter_cmb (s := { s1 with heap := madeC h' acc n, toks := tk }) ho ?_
  refine ⟨h'.objs.size + 1, [h'.objs.size + 1, h'.objs.size], _, Itcb n, H1, rfl, I3, turn_cmb hacc (Nat.ne_of_lt (Nat.lt_succ_self _)), ⟨hp, .inl ⟨rfl, ho⟩⟩, fun b hb => ?_, q⟩
  have e' : b = h'.objs.size + 1 ∨ b = h'.objs.size := by simpa using hb
  have hle : h'.objs.size ≤ b := by
    rcases e' with z | z
    · rw [z]; exact Nat.le_succ _
    · rw [z]; exact Nat.le_refl _
  exact I2.fpOk hle (I2.hok.fresh hle)
/-! ### in the logic of data -/
theorem it_cmb {X : Cx} {tg a : Expr} {p p2 pos pos2 p3 : Pos} {j : Nat} {cn : Str} {env env1 : En} {n : Int} (hc : X.calm = true) (hm : X.mg cn = some (.type "itertools.combinations")) (hm2 : X.mg "range" = none) (ha : PD X a env (.int n) env1) (h0 : 0 ≤ n) (h1 : n ≤ 1000) (hg : Gl X cn := by rfl) (hg2 : Gl X "range" := by rfl) (hdb : (cn == ("__debug__" : Str)) = false := by decide)
    (na : starEach [a] X.env = (false, eval a X.env) :: starEach [] X.env := by rfl)
    (ns : starEach [.Call (.Name "range" p2) [a] [] pos2, .Constant (.int 2) j p3] X.env = (false, eval (.Call (.Name "range" p2) [a] [] pos2) X.env) :: starEach [.Constant (.int 2) j p3] X.env := by rfl)
    (ns2 : starEach [.Constant (.int 2) j p3] X.env = (false, eval (.Constant (.int 2) j p3) X.env) :: starEach [] X.env := by rfl)
    (hpl : (backTo pos (starEach [.Constant (.int 2) j p3] X.env)).any (·.1) = false := by rfl) :
    PID X tg (.Call (.Name cn p) [.Call (.Name "range" p2) [a] [] pos2, .Constant (.int 2) j p3] [] pos) env (pD (prs n)) env1 :=
  pi_imp (pi_cmb hc hg hm hg2 hm2 ha hdb na ns ns2 hpl) fun σ H R ⟨Γ, z, sd, k⟩ => ⟨Γ, z, sd, fun v H' ex sd' hd => by
    cases hd
    refine ⟨n, rfl, rfl, n.toNat, by omega, by omega, k _ H' ex sd' ?_⟩
    have en : ((n.toNat : Nat) : Int) = n := by omega
    have hl : (pD (prs n)).length = (cps n.toNat).length := by
      rw [pD, List.length_map, ← en, ← cps_prs, List.length_map, en]
    refine ⟨fun _ => True, fun i H v H' => ∃ (T : Addr) (p : Nat × Nat), v = .ref T ∧ H T = none ∧ H' = upd H T (.tup [.int (p.1 : Nat), .int (p.2 : Nat)]) ∧ (cps n.toNat)[i]? = some p, ⟨fun i H hi _ => by rw [hl] at hi; exact hi, fun H _ => by rw [hl]; exact Nat.le_refl _, fun i H x H' _ _ y => y⟩, fun _ _ _ => trivial, fun i Hc zc x H2 hi ec zd y => ?_⟩
    obtain ⟨T, q, rfl, hT, rfl, hq⟩ := y
    refine ⟨Ex.new hT, prd (prC q), ?_, ?_⟩
    · rw [← en, ← cps_prs, pD, List.getElem?_map, List.getElem?_map, hq]
      rfl
    · exact .tup (st_of (cut_of (zfree zd hT) upd_same)) (dpa_ints (ns := [(q.1 : Int), (q.2 : Int)]))⟩
end NBI

set_option Elab.async false
set_option linter.all false
set_option maxRecDepth 100000
set_option maxHeartbeats 4000000
/-! set(tuple of pairs of ints); x in such a set -/
namespace NBT
open PySem PySem.Spec PyProof.Rows L2
section
variable {P : Program} {w : World} {A : Around} {E : Value → Shared → Prop} {s : Shared}
set_option maxHeartbeats 3200000 in
theorem set_tups {l : Addr} {items : Array Value} (ks : List (Addr × List Int)) {Q : Value → Shared → Prop} (hh : A.handled = none) (hl : s.heap.IsTuple l items) (hit : items.toList = ks.map fun p => Value.ref p.1)
    (hk : ∀ p ∈ ks, IsT P w s.heap p.2 p.1) (hfew : ks.length < 64) (hu : A.units + 3 < cLine)
    (h : ∀ (h' : Heap) (tk : Nat) L es ep t, SetTR P w h' s.heap.objs.size L es ep t → Got ks ks.length L → (∀ b o, s.heap.get? b = some o → h'.get? b = some o) → Q (.ref s.heap.objs.size) { s with heap := h', toks := tk }) :
    wpAny (model P w) A (call (.type "set") [.ref l]) Q E s := by
  have hisz : items.size = ks.length := by
    have q := congrArg List.length hit
    rwa [Array.length_toList, List.length_map] at q
  obtain ⟨c, tl, hmro⟩ := F.called_set.mro
  have hmade := F.called_set.made
  have hsub := F.called_set.sub
  refine wpAny_call (codeAny_of_tree ?_)
  show wpAny _ _ (callAny (.type "set") _) _ _ _
  refine wpAny_pure ⟨Code.quiet_builtin _ (by decide +kernel), codeAny_builtin F.entry_type_call ?_⟩
  rw [Around.under_plain (weight_type_call_type "set" [.ref l] []) rfl]
  have h1 := F.called_set.notType
  have h2 := F.called_set.canCreate
  have hct := F.typeCall_set_1 (.ref l)
  repeat (any_goals (first | assumption | wp_step))
  refine codeAny_mono (code_set_led1 (.ref l) (E := E) (Q₁ := fun obj s₁ => obj = .ref s.heap.objs.size ∧ s₁ = { s with heap := s.heap.push (newS w) }) ⟨rfl, rfl⟩) fun r s₁ hr => ?_
  rcases r with e | fl
  · exact hr
  cases fl with
  | ret obj =>
    obtain ⟨rfl, rfl⟩ := hr
    have hS : (s.heap.push (newS w)).get? s.heap.objs.size = some (newS w) := Heap.get?_push_size _ rfl
    have hT : Shared.TypeIs { s with heap := s.heap.push (newS w) } (.ref s.heap.objs.size) "set" := ⟨_, hS, rfl⟩
    have hli := F.called_set.init.lookup
    have hbi := F.called_set.init.bind (.ref s.heap.objs.size)
    repeat (any_goals (first | assumption | wp_step))
    refine codeAny_mono (codeAny_call_builtin (R := wants (fun r s₂ => r = .none ∧ ∃ h' tk L es ep t, s₂ = { s with heap := h', toks := tk } ∧ SetTR P w h' s.heap.objs.size L es ep t ∧ Got ks ks.length L ∧
        (∀ b o, s.heap.get? b = some o → h'.get? b = some o)) E) F.called_set.init.plain F.entry_set_init (check_set_init_1 hT ?_)) fun r₂ s₂ hr₂ => ?_
    · have hl1 : (s.heap.push (newS w)).IsTuple l items := hl.push _
      have hlS : l < s.heap.objs.size := let ⟨o, ho, _⟩ := hl; Heap.lt_size ho
      obtain ⟨ol, hol, hcl, nl, hdl⟩ := id hl1
      obtain ⟨ocls, odict, odata, oslots⟩ := ol
      simp only at hcl hdl
      subst hcl; subst hdl
      have hsls := F.sub_tuple_set
      have hslf := F.sub_tuple_frozenset
      have hne : (Value.type "tuple" == Value.type "dict") = false := by decide
      unfold Builtin.«set.__init__» noKeywords Builtin.Frozenset.updateFrom
      generalize hPI : pyIter = PI
      wp_walk
      subst hPI
      refine wpAny_pyIter_tuple hl1 ?_
      refine wpAny_bind (wpAny_runValue ?_)
      have hh3 : A.in1.in1.in1.handled = none := by simp [hh]
      have hsz : (s.heap.push (newS w)).objs.size = s.heap.objs.size + 1 := Heap.size_push ..
      have hneI : l ≠ (s.heap.push (newS w)).objs.size := by rw [hsz]; exact Nat.ne_of_lt (Nat.lt_succ_of_lt hlS)
      have hSf : s.heap.objs.size ∉ [(s.heap.push (newS w)).objs.size, l] := by
        rw [hsz]; simp only [List.mem_cons, List.not_mem_nil, or_false, not_or]
        exact ⟨Nat.ne_of_lt (Nat.lt_succ_self _), Nat.ne_of_gt hlS⟩
      have hval : ∀ (i : Nat) (v : Value), items[i]? = some v → ∃ p, ks[i]? = some p ∧ v = .ref p.1 := fun i v hv => by
        have q : items.toList[i]? = some v := by rw [Array.getElem?_toList]; exact hv
        rw [hit, List.getElem?_map] at q
        cases hq : ks[i]? with
        | none => rw [hq] at q; cases q
        | some p =>
          rw [hq] at q
          exact ⟨p, rfl, (Option.some.inj q).symm⟩
      have none_of : ∀ b, s.heap.objs.size ≤ b → s.heap.get? b = none := fun b hb => by
        cases q : s.heap.get? b with
        | none => rfl
        | some o => exact absurd (Nat.lt_of_lt_of_le (Heap.lt_size q) hb) (Nat.lt_irrefl _)
      refine set_update_tups ((Walks.tuple hh3 _ l hneI items).toS) s.heap.objs.size hSf ks hisz hfew hval s.heap hk (none_of _ (Nat.le_refl _)) (fun b hb => none_of b (by
          rw [List.mem_singleton.mp hb, hsz]
          exact Nat.le_succ _)) hu (items.size - 0) 0 _ (by omega) (Nat.zero_le _) ⟨⟨_, Heap.get?_push_size _ rfl, rfl, rfl⟩, (hl1.push _)⟩ (fun b o e => Heap.get?_push_of_some _ (Heap.get?_push_of_some _ e)) ⟨[], #[], 0, _, setTR_fresh (Heap.get?_push_of_some _ hS), Got.zero ks⟩ ?_
      intro s' L es ep t hm hS' g' hkp
      obtain ⟨h', g2, d', tk', os'⟩ := s'
      have eg : g2 = s.gens := hm.gens
      have ed : d' = s.drawn := hm.drawn
      have eo : os' = s.os := hm.os
      subst eg; subst ed; subst eo
      refine wpAny_pure ?_
      rw [hisz] at g'
      exact wpAny_pure ⟨rfl, h', tk', L, es, ep, t, rfl, hS', g', hkp⟩
    · rcases r₂ with e | fl₂
      · exact hr₂
      cases fl₂ with
      | ret r =>
        obtain ⟨rfl, h', tk, L, es, ep, t, rfl, hS', g', hk'⟩ := hr₂
        repeat (any_goals (first | assumption | wp_step))
        exact h _ _ _ _ _ _ hS' g' hk'
      | _ => exact hr₂.elim
  | _ => exact hr.elim

/-! ### the search that adds nothing -/
variable {a : Addr} {L : List (Addr × List Int)} {es : Array (Int × Value)} {ep : Nat} {t : SetTable}
/-- the c-th stand of k's way -/
def std (P : Program) (w : World) (t : SetTable) (k : List Int) (c : Nat) : SetTable.Probe := nth t.mask (runAt t.mask (SetTable.bits (thash P w k) % (t.mask + 1)) (SetTable.bits (thash P w k))) c
theorem std_dm (k : List Int) (c : Nat) : (std P w t k c).dummy = none := by
  have key : ∀ (n : Nat) (p : SetTable.Probe), p.dummy = none → (nth t.mask p n).dummy = none := by
    intro n
    induction n with
    | zero => intro p h; exact h
    | succ n ih =>
      intro p h
      refine ih (adv t.mask p) ?_
      unfold adv
      split <;> exact h
  exact key c _ rfl
theorem std_at (k : List Int) (c q : Nat) : nth t.mask (std P w t k c) q = std P w t k (c + q) := (nth_add t.mask c _ q).symm
theorem std_j (k : List Int) (c q : Nat) : (nth t.mask (std P w t k c) q).j = way t.mask (thash P w k) (c + q) := congrArg SetTable.Probe.j (std_at k c q)
theorem find_from (R : SetTR P w s.heap a L es ep t) {x : Addr} {k : List Int} (hx : IsT P w s.heap k x) (hu : A.units < cLine) {K : Nat} (hKf : K < 10 * SetTable.turns t.mask)
    (hK : way t.mask (thash P w k) K ∉ t.place.toList) (hKb : ∀ c, c < K → way t.mask (thash P w k) c ∈ t.place.toList) {Q : SetFound → Shared → Prop}
    (hin : ∀ i, k ∈ L.map (·.2) → Q (.there (some i)) s) (hout : ∀ j b, k ∉ L.map (·.2) → Q (.free j b) s) :
    ∀ (f c : Nat) (stand : Option SetTable.Probe), stand.getD (t.probeStart (thash P w k)) = std P w t k c → c ≤ K → K - c < f →
      (∀ (i : Nat) p, L[i]? = some p → p.2 = k → ∃ c', c ≤ c' ∧ c' < K ∧ t.place.toList[i]? = some (way t.mask (thash P w k) c')) →
      wpAny (model P w) A (setSearchFrom a (.ref x) (thash P w k) false f stand) Q E s
  | 0, c, stand, _, _, hf, _ => absurd hf (Nat.not_lt_zero _)
  | f + 1, c, stand, hst, hc, hf, hre => by
    obtain ⟨o, ho, hex, hd⟩ := R.ob
    rw [setSearchFrom_succ]
    refine wpAny_bind (wpAny_setState_of ho hd R.fits ?_)
    dsimp only
    refine wp_if_neg R.gw ?_
    try refine wpAny_bind (wpAny_pure ?_)
    have hcK : c + (K - c) = K := by omega
    have hashAt : ∀ (i : Nat) p, L[i]? = some p → (fun i => (es[i]?.map (·.1)).getD 0) i = thash P w p.2 := fun i p hp => by
      show (es[i]?.map (·.1)).getD 0 = _
      rw [R.entry hp] <;> rfl
    rcases go_spec t R.tab.ris R.tab.dm (fun i => (es[i]?.map (·.1)).getD 0) (thash P w k) (10 * SetTable.turns t.mask) (K - c) _ (std_dm (P := P) (w := w) k c) (by omega)
      (fun q hq => by rw [std_j]; exact hKb (c + q) (by omega)) (by rw [std_j, hcK]; exact hK) with ⟨q, i, hq, hi, hh, hno, hpr⟩ | ⟨hno, hpr⟩
    · have hpr' : t.probe (fun i => (es[i]?.map (·.1)).getD 0) (thash P w k) (stand.getD (t.probeStart (thash P w k))) = some (.candidate (way t.mask (thash P w k) (c + q)) i (std P w t k (c + (q + 1)))) := by
        rw [hst, ← std_j, ← std_at]
        exact hpr
      rw [hpr']
      dsimp only
      rw [std_j] at hi
      have hil : i < L.length := by
        have h1 : i < t.place.toList.length := (List.getElem?_eq_some_iff.mp hi).1
        have h2 := R.tab.sz
        rw [List.length_map] at h2
        rw [Array.length_toList] at h1
        omega
      obtain ⟨p, hp⟩ : ∃ p, L[i]? = some p := ⟨_, List.getElem?_eq_getElem hil⟩
      have hmem : p ∈ L := List.mem_of_getElem? hp
      have hsl : t.slot (way t.mask (thash P w k) (c + q)) = .live i := slot_live R.tab.ris hi
      have rest : wpAny (model P w) A (searchRest a (.ref x) (thash P w k) false f es t (way t.mask (thash P w k) (c + q)) i (std P w t k (c + (q + 1)))) Q E s := by
        unfold searchRest
        rw [R.entry hp]
        dsimp only
        refine wpAny_bind (wpAny_holding (wpAny_eqBool_tuple hu (R.tup p hmem) hx ?_))
        refine wpAny_bind (wpAny_setState_of ho hd R.fits ?_)
        dsimp only
        refine wp_if_neg (by simp) ?_
        try refine wpAny_bind (wpAny_pure ?_)
        rw [sameMem]
        dsimp only
        simp only [if_true, hsl, R.entry hp]
        refine wpAny_bind (wpAny_isSame_ref_self (wpAny_bind (wpAny_pure ?_)))
        simp only [if_true]
        by_cases hkk : p.2 = k
        · refine wp_if_pos (by simp [hkk]) ?_
          exact wpAny_pure (hin i (List.mem_map.mpr ⟨p, hmem, hkk⟩))
        · refine wp_if_neg (by simp [hkk]) ?_
          refine find_from R hx hu hKf hK hKb hin hout f (c + (q + 1)) _ rfl (by omega) (by omega) fun i0 p0 h0 hk0 => ?_
          obtain ⟨c', a1, a2, a3⟩ := hre i0 p0 h0 hk0
          refine ⟨c', ?_, a2, a3⟩
          rcases Nat.lt_trichotomy c' (c + q) with z | z | z
          · refine (hno (c' - c) i0 (by omega) (by rw [std_j, show c + (c' - c) = c' by omega]; exact a3) ?_).elim
            exact (hashAt i0 p0 h0).trans (congrArg (thash P w) hk0)
          · rw [z] at a3
            have s0 := (slot_live R.tab.ris a3).symm.trans hsl
            injection s0 with s0
            rw [s0, hp] at h0
            exact (hkk ((congrArg Prod.snd (Option.some.inj h0)).trans hk0)).elim
          · omega
      by_cases hl : t.led = true
      · refine wp_if_neg (by simp [hl]) ?_
        try refine wpAny_bind (wpAny_pure ?_)
        exact rest
      · refine wp_if_pos (by simp [hl]) ?_
        refine wpAny_bind (seen_tup hx (fun y hy => ?_) ?_)
        · obtain ⟨e, he, ee⟩ := List.mem_map.mp hy
          have he1 : e ∈ es ∧ e.1 = thash P w k := by simpa using he
          have he2 : e ∈ es.toList := by simpa using he1.1
          rw [R.rows] at he2
          obtain ⟨p2, hp2, e2⟩ := List.mem_map.mp he2
          exact ⟨p2.2, p2.1, by rw [← ee, ← e2], R.tup p2 hp2⟩
        · refine wp_if_neg (by decide) ?_
          try refine wpAny_bind (wpAny_pure ?_)
          exact rest
    · have hpr' : t.probe (fun i => (es[i]?.map (·.1)).getD 0) (thash P w k) (stand.getD (t.probeStart (thash P w k))) = some (.empty (way t.mask (thash P w k) K) none) := by
        have e2 : way t.mask (thash P w k) K = (nth t.mask (std P w t k c) (K - c)).j := by rw [std_j, hcK]
        rw [hst, e2]
        exact hpr
      rw [hpr']
      dsimp only
      refine wpAny_pure (hout _ _ fun hm => ?_)
      obtain ⟨p0, h0, hk0⟩ := List.mem_map.mp hm
      obtain ⟨i0, h00⟩ := List.mem_iff_getElem?.mp h0
      obtain ⟨c', a1, a2, a3⟩ := hre i0 p0 h00 hk0
      refine hno (c' - c) i0 (by omega) (by rw [std_j, show c + (c' - c) = c' by omega]; exact a3) ?_
      exact (hashAt i0 p0 h00).trans (congrArg (thash P w) hk0)
theorem find_at (R : SetTR P w s.heap a L es ep t) {x : Addr} {k : List Int} (hx : IsT P w s.heap k x) (hu : A.units < cLine) {Q : Option Nat → Shared → Prop}
    (h : ∀ r : Option Nat, r.isSome = decide (k ∈ L.map (·.2)) → Q r s) : wpAny (model P w) A (setFind a (.ref x) (thash P w k)) Q E s := by
  have hroom := R.room
  obtain ⟨o, ho, hex, hd⟩ := R.ob
  obtain ⟨K, hKf, hK, hKb⟩ := R.tab.first (by rw [List.length_map]; omega) (thash P w k)
  have hbig : K < 100000 := by
    have : 10 * SetTable.turns t.mask ≤ 1420 := by
      unfold SetTable.turns
      rcases R.tab.mok with e | e | e <;> omega
    omega
  unfold setFind setFindIn
  refine wpAny_bind (wpAny_setState_of ho hd R.fits ?_)
  dsimp only
  refine wp_if_neg (by simp [byScan, Value.scannable]) ?_
  try refine wpAny_bind (wpAny_pure ?_)
  unfold setSearch
  refine wpAny_bind (find_from R hx hu hKf hK hKb (fun i hm => wpAny_pure (h _ (by simp only [Option.isSome_some]; rw [decide_eq_true hm]))) (fun j b hm => wpAny_pure (h _ (by simp only [Option.isSome_none]; rw [decide_eq_false hm]))) 100000 0 none rfl (Nat.zero_le _) (by omega) fun i p hp hk => ?_)
  have hi : (L.map fun p => thash P w p.2)[i]? = some (thash P w k) := by rw [List.getElem?_map, hp, ← hk] <;> rfl
  have hil : i < t.place.toList.length := by
    have h1 : i < L.length := (List.getElem?_eq_some_iff.mp hp).1
    have h2 := R.tab.sz
    rw [List.length_map] at h2
    rw [Array.length_toList]
    omega
  have hj := List.getElem?_eq_getElem hil
  obtain ⟨c, hc, e⟩ := R.tab.before hK hi hj
  exact ⟨c, Nat.zero_le _, hc, by rw [hj, e]⟩
end
end NBT

set_option Elab.async false
set_option linter.all false
set_option maxRecDepth 100000
set_option maxHeartbeats 4000000
namespace NBT
open PySem PySem.Spec PyProof.Rows L2
section
variable {P : Program} {w : World} {A : Around} {E : Value → Shared → Prop} {s : Shared} {a : Addr} {L : List (Addr × List Int)} {es : Array (Int × Value)} {ep : Nat} {t : SetTable}
theorem SetTR.typeIs (R : SetTR P w s.heap a L es ep t) : s.TypeIs (.ref a) "set" := by
  obtain ⟨o, ho, hex, hd⟩ := R.ob
  exact ⟨o, ho, hex.1⟩
theorem ninTups {x : Addr} {k : List Int} {Q : Value → Shared → Prop} (R : SetTR P w s.heap a L es ep t) (hx : IsT P w s.heap k x) (hu : A.units + 1 < cLine)
    (h : ∀ tk, Q (.bool (!decide (k ∈ L.map (·.2)))) { s with toks := tk }) : wpAny (model P w) A (compareOp .NotIn (.ref x) (.ref a)) Q E s := by
  have T := SetTR.typeIs R
  show wpAny _ _ (do return .bool (!(← contains (.ref a) (.ref x)))) Q E s
  refine wpAny_bind ?_
  unfold contains
  try with_reducible refine wpAny_holding ?_
  refine wpAny_bind (wpAny_specialOf T F.slot_set_contains.lookup ?_)
  show wpAny _ _ (if (some (Value.builtin "set.__contains__") == some Value.none) = true then _ else _) _ E s
  rw [if_neg (by rw [beq_builtin_none]; exact Bool.false_ne_true)]
  refine wpAny_bind (wpAny_callSpecialUnlessNone?_slot (name := Str.ofString "__contains__") T F.slot_set_contains
    (wpAny_call_entry F.slot_set_contains T entry_set_contains ?_ (F.args_set_contains_2 _ _)))
  unfold Builtin.«frozenset.__contains__» Builtin.Frozenset.oneOther
  simp only [List.isEmpty_nil, bind_assoc]
  unfold Builtin.Frozenset.addrOf Builtin.Frozenset.withSetAsKey setContains
  refine wpAny_bind (wpAny_pure ?_)
  try dsimp only
  refine wpAny_bind (wpAny_pure ?_)
  try dsimp only
  refine wpAny_bind (wpAny_tryCatch ?_)
  refine wpAny_holding ?_
  refine wpAny_bind (wpAny_pyHash_tuple hu hx ?_)
  have R2 : SetTR P w ({ s with toks := s.toks + (k.length + 1) } : Shared).heap a L es ep t := R
  refine wpAny_bind (find_at R2 hx hu fun r hr => ?_)
  refine wpAny_pure ?_
  show wpAny _ _ (ret (Value.bool r.isSome)) _ _ _
  rw [hr]
  exact wpAny_pure ⟨_, rfl, wpAny_truthy_bool (wpAny_pure (h _))⟩
end
end NBT
namespace NB
open PySem L2 Evl
section
variable {X : Cx} {env env1 env2 : En} {d : PyData} {ds : List PyData} {e a b : Expr} {pos : Pos} {ps : List Pr}
def lp (p : Pr) : List Int := [p.1, p.2]
theorem lp_inj {p q : Pr} (h : lp p = lp q) : p = q := by
  obtain ⟨a, b⟩ := p
  obtain ⟨c, d⟩ := q
  simp only [lp, List.cons.injEq, and_true] at h
  rw [h.1, h.2]
/-- data that are pairs: tuples of two ints -/
theorem dpa_pairs {K : PySem.W.Frag} {G : Hp} : ∀ {ps : List Pr} {xs : List V}, DpAll K G xs (pD ps) → ∃ ks : List (Addr × List Int), xs = ks.map (fun p => V.ref p.1) ∧ ks.map (·.2) = ps.map lp ∧ TsAt K G ks
  | [], _, h => by cases h; exact ⟨[], rfl, rfl, fun p hp => by cases hp⟩
  | p :: ps, _, h => by
    cases h with
    | cons h1 h2 =>
      obtain ⟨ks, e1, e2, h3⟩ := dpa_pairs h2
      cases h1 with
      | @tup t _ _ hs ha =>
        have e := dpa_ints_eq (ns := [p.1, p.2]) ha
        subst e
        refine ⟨(t, lp p) :: ks, by rw [e1]; rfl, by rw [List.map_cons, e2]; rfl, fun q hq => ?_⟩
        rcases List.mem_cons.mp hq with r | r
        · rw [r]; exact hs
        · exact h3 q r
/-- set(tuple of pairs) -/
def rSetT (K : PySem.W.Frag) (P : Program) (w : World) : List V → Hp → VK → Prop := fun xs H Q => ∃ (l : Addr) (ks : List (Addr × List Int)), xs = [V.ref l] ∧ SqT K H l (ks.map fun p => V.ref p.1) ∧ (∀ p ∈ ks, SqT K H p.1 (p.2.map V.int)) ∧ ks.length < 64 ∧
  ∀ a L, H a = none → (∀ p ∈ L, p ∈ ks) → (∀ p ∈ ks, p.2 ∈ L.map (·.2)) → Q (.ref a) (upd H a (SetTO P w a L))
theorem cr_setT (hc : X.calm = true) (hu : X.A.units + 64 < cLine) : CallR X (.type "set") (rSetT X.K X.prog X.w) := by
  intro pins s σ H xs us Q I r h
  obtain ⟨l, ks, rfl, hl, hk, hf, q⟩ := h
  rw [Vals.ref1 r]
  obtain ⟨its, rv, pl, hz⟩ := I.tuple hl
  have hn : H s.heap.objs.size = none := I.hok.fresh (Nat.le_refl _)
  refine NBT.set_tups (P := X.prog) (w := X.w) ks (I.ok.hd hc) pl (by simpa using refs_of_vals rv) (fun p hp => I.isT (hk p hp)) hf (by omega) fun h' tk L es ep t R g k => ?_
  refine ⟨.ref s.heap.objs.size, upd H s.heap.objs.size (SetTO X.prog X.w s.heap.objs.size L), I.laid (t' := tk) k (Nat.le_refl _) (setTO_new R.t0), rfl, q _ L hn (fun p hp => ?_) fun p hp => ?_⟩
  · exact List.mem_of_mem_take (g.sub p hp)
  · exact g.all p (by rw [List.take_length]; exact hp)
/-- the slot: a set of just these pairs -/
structure PrS (X : Cx) (ps : List Pr) (s : Sl) : Prop where
  ex : ∃ L : List (Addr × List Int), s = .x (fun a => SetTO X.prog X.w a L) L ∧ ∀ p : Pr, lp p ∈ L.map (·.2) ↔ p ∈ ps
/-- x = set(e) -/
theorem hs_setT (i : Nat) {x : Str} {px p cp : Pos} (hc : X.calm = true) (hu : X.A.units + 64 < cLine) (hN : X.N.Nodup) (hm : X.mg "set" = none) (he : PD X e env (.tuple (pD ps)) env1) (hf64 : ps.length < 64) (hl : i < env1.length := by simp) (hi : X.N[i]? = some x := by rfl) (hx : Loc X.env.scope x := by first | exact Or.inl rfl | exact Or.inr rfl) (hg : Gl X "set" := by rfl)
    (hst : starEach [e] X.env = (false, eval e X.env) :: starEach [] X.env := by rfl) (hpl : (backTo cp (starEach [] X.env)).any (·.1) = false := by rfl)
    (hs : swapsWith (.Call (.Name "set" p) [e] [] cp) (some (.Name x px)) pos.line X.env = pure false := by rfl) (hf : X.fn x = true ∨ X.env.scope.names.lookup x = some .local := by first | exact .inl rfl | exact .inr rfl) : HD1 X (.Assign [.Name x px] (.Call (.Name "set" p) [e] [] cp) pos) env { nx := fun e => ∃ s, PrS X ps s ∧ e = env1.set i s } :=
  ps_imp (ps_set hN hi hx (pe_callTy (cr_setT hc hu) hg hm PyProof.Rows.boot_set (pad_cons he pad_nil hst) (by decide) (by decide) hst hpl) hs hf) fun D σ H ⟨Γ, z, sd, k, _⟩ => ⟨Γ, z, sd, fun vs H' ex sd' hd => by
    cases hd with
    | cons h1 h2 =>
      cases h2
      cases h1 with
      | @tup t ys _ hs ha =>
        obtain ⟨ks, e1, e2, h3⟩ := dpa_pairs ha
        subst e1
        have hkl : ks.length = ps.length := by
          have := congrArg List.length e2
          rwa [List.length_map, List.length_map] at this
        refine ⟨t, ks, rfl, ex_t cut_sub hs, fun p hp => ex_t cut_sub (h3 p hp), by rw [hkl]; exact hf64, fun a L ha hL hL2 => ?_⟩
        have hTL : TsAt X.K (cut H' z) L := fun p hp => h3 p (hL p hp)
        refine k _ (addZ z a) _ _ ⟨_, ⟨L, rfl, fun p => ?_⟩, rfl⟩ (ex.trans (cut_addZ (Ex.new ha) ha)) (sd'.setS (f := fun a => SetTO X.prog X.w a L) (Ex.new ha) ha upd_same hTL hl)
        constructor
        · intro hp
          obtain ⟨q, hq, hqe⟩ := List.mem_map.mp hp
          have : q.2 ∈ ks.map (·.2) := List.mem_map.mpr ⟨q, hL q hq, rfl⟩
          rw [e2] at this
          obtain ⟨p', hp', hpe⟩ := List.mem_map.mp this
          rw [← lp_inj (hpe.trans hqe)]
          exact hp'
        · intro hp
          have : lp p ∈ ks.map (·.2) := by rw [e2]; exact List.mem_map.mpr ⟨p, hp, rfl⟩
          obtain ⟨q, hq, hqe⟩ := List.mem_map.mp this
          rw [← hqe]
          exact hL2 q hq⟩
theorem h_setT (i : Nat) {rest : List Stmt} {Q : Post} {x : Str} {px p cp : Pos} (hc : X.calm = true) (hu : X.A.units + 64 < cLine) (hN : X.N.Nodup) (hm : X.mg "set" = none) (he : PD X e env (.tuple (pD ps)) env1) (hf64 : ps.length < 64) (hr : ∀ s, PrS X ps s → HD X rest (env1.set i s) Q) (hl : i < env1.length := by simp) (hi : X.N[i]? = some x := by rfl) (hx : Loc X.env.scope x := by first | exact Or.inl rfl | exact Or.inr rfl) (hg : Gl X "set" := by rfl)
    (hst : starEach [e] X.env = (false, eval e X.env) :: starEach [] X.env := by rfl) (hpl : (backTo cp (starEach [] X.env)).any (·.1) = false := by rfl)
    (hs : swapsWith (.Call (.Name "set" p) [e] [] cp) (some (.Name x px)) pos.line X.env = pure false := by rfl) (hf : X.fn x = true ∨ X.env.scope.names.lookup x = some .local := by first | exact .inl rfl | exact .inr rfl) : HD X (.Assign [.Name x px] (.Call (.Name "set" p) [e] [] cp) pos :: rest) env Q :=
  h_cons (fun e => ∃ s, PrS X ps s ∧ e = env1.set i s) (ps_imp (hs_setT (ps := ps) i hc hu hN hm he hf64 hl hi hx hg hst hpl hs hf) fun D σ H ⟨Γ, z, sd, k1, _, _, _⟩ => ⟨Γ, z, sd, k1, fun _ _ _ _ _ _ q => q.elim, fun _ _ _ _ q => q.elim, fun _ _ _ _ q => q.elim⟩) fun e he => by
    obtain ⟨s, hS, rfl⟩ := he
    exact hr s hS
/-- p not in x -/
def rNotInT (P : Program) (w : World) (K : PySem.W.Frag) : R2 := fun x y H Q => ∃ t k a L, x = V.ref t ∧ y = V.ref a ∧ SqT K H t (k.map V.int) ∧ H a = some (SetTO P w a L) ∧ TsAt K H L ∧ Q (.bl (!decide (k ∈ L.map (·.2)))) H
theorem or_ninT (hu : X.A.units + 64 < cLine) : OpR X (compareOp .NotIn) (rNotInT X.prog X.w X.K) := by
  intro pins s σ H x y v u Q I rx ry h
  obtain ⟨t, k, a, L, rfl, rfl, ht, ha, hL, q⟩ := h
  cases rx
  cases ry
  have R0 : SetT0 X.prog X.w s.heap a L := (I.hok a _ ha).1
  obtain ⟨es, ep, tb, R⟩ := R0.full fun p hp => I.isT (hL p hp)
  exact NBT.ninTups R (I.isT ht) (by omega) fun tk => ⟨.bl _, H, I.tok _, rfl, q⟩
theorem pb_ninS (i : Nat) {p : Pr} {x : Str} {xp : Pos} {s : Sl} (hu : X.A.units + 64 < cLine) (ha : PD X a env (prd p) env) (hi : env[i]? = some s) (hS : PrS X ps s) (hN : X.N[i]? = some x := by rfl) (hv : Vis X.env.scope x := by first | exact Or.inl rfl | exact Or.inr (Or.inl rfl) | exact Or.inr (Or.inr rfl))
    (hb1 : (x == ("__debug__" : Str)) = false := by decide) (hcd : (x == ("__classdict__" : Str)) = false := by decide) (hm : behindInMarks .NotIn (.Name x xp) = false := by first | exact nomark _ | with_unfolding_all rfl) : PB X (.Compare a [.NotIn] [.Name x xp] pos) env (!decide (p ∈ ps)) env := by
  obtain ⟨L, rfl, hL⟩ := hS.ex
  exact pt_imp (pt_cmpR (or_ninT hu) ha (pv i hN hv hb1 hcd) hm) fun σ H Q ⟨Γ, z, sd, kk⟩ => ⟨Γ, z, sd, fun v H' ex sd' hd => by
    obtain ⟨b, h1, h2, h3, h4⟩ := sd'.seto hi
    refine ⟨.ref b, h1, ?_⟩
    cases hd with
    | @tup t ys _ hs ha2 =>
      have e := dpa_ints_eq (ns := [p.1, p.2]) ha2
      subst e
      refine ⟨t, lp p, b, L, rfl, rfl, ex_t cut_sub hs, h3, h4.mono cut_sub, _, rfl, ?_⟩
      have e2 : decide (lp p ∈ L.map (·.2)) = decide (p ∈ ps) := decide_eq_decide.mpr (hL p)
      rw [e2]
      exact kk H' ex sd'⟩
end
end NB

set_option Elab.async false
set_option linter.all false
set_option maxRecDepth 100000
set_option maxHeartbeats 4000000
/-! what the program's defs give, told by plain data -/
namespace LP
open PySem L2 Evl NB LW
def RNum (ds : List PyData) (d : PyData) : Prop := ∃ v lo hi : Int, ds = [.int v, .int lo, .int hi] ∧ d = .bool (decide (lo ≤ v) && decide (v ≤ hi))
def RPair (ds : List PyData) (d : PyData) : Prop := ∃ (n : Int) (p : Pr), 0 ≤ p.1 ∧ p.1 < p.2 ∧ p.2 < n ∧ ds = [.int n, prd p] ∧ d = .bool true
def RArePairs (ds : List PyData) (d : PyData) : Prop := ∃ (n : Int) (ps : List Pr), Net n ps ∧ ds = [.int n, .tuple (pD ps)] ∧ d = .bool true
def RWrong (ds : List PyData) (d : PyData) : Prop := ∃ (n : Int) (ps : List Pr), Net n ps ∧ ds = [netD n ps] ∧ d = .none
def RIsNet (ds : List PyData) (d : PyData) : Prop := ∃ (n : Int) (ps : List Pr), Net n ps ∧ ds = [netD n ps] ∧ d = .bool true
def RHall (ds : List PyData) (d : PyData) : Prop := ∃ (n : Int) (ps : List Pr) (h : Int), 0 ≤ h ∧ h < n ∧ ds = [netD n ps, .int h] ∧ d = .none
def rowsD (n : Int) (ps : List Pr) : PyData := .list ((upto 0 n).map fun h => .list (iD (fri n ps h)))
def RRows (ds : List PyData) (d : PyData) : Prop := ∃ (n : Int) (ps : List Pr), Net n ps ∧ ps.length < 100000 ∧ ds = [netD n ps] ∧ d = rowsD n ps
def RFr (ds : List PyData) (d : PyData) : Prop := ∃ (n : Int) (ps : List Pr) (h : Int), Net n ps ∧ ps.length < 100000 ∧ 0 ≤ h ∧ h < n ∧ ds = [netD n ps, .int h] ∧ d = .tuple (iD (fri n ps h))
def com (n : Int) (ps : List Pr) (a b : Int) : List Int := (fri n ps a).filter fun k => decide (k ∈ fri n ps b)
def RCom (ds : List PyData) (d : PyData) : Prop := ∃ (n : Int) (ps : List Pr) (a b : Int), Net n ps ∧ ps.length < 100000 ∧ 0 ≤ a ∧ a < n ∧ 0 ≤ b ∧ b < n ∧ ds = [netD n ps, .int a, .int b] ∧ d = .tuple (iD (com n ps a b))
/-- the numbers of common friends of the pairs of L that are joined (j = true) or not -/
def manyL (n : Int) (ps : List Pr) (j : Bool) (L : List Pr) : List Int := (L.filter fun p => decide (p.2 ∈ fri n ps p.1) == j).map fun p => ((com n ps p.1 p.2).length : Int)
def insU (k : Int) : List Int → List Int
  | [] => [k]
  | a :: r => if k < a then k :: a :: r else if k = a then a :: r else a :: insU k r
/-- ascending, each once -/
def asc (l : List Int) : List Int := l.foldr insU []
def cntD (n : Int) (ps : List Pr) : PyData := .tuple [.tuple (iD (asc (manyL n ps true (prs n)))), .tuple (iD (asc (manyL n ps false (prs n))))]
def RCounts (ds : List PyData) (d : PyData) : Prop := ∃ (n : Int) (ps : List Pr), Net n ps ∧ ps.length < 100000 ∧ n ≤ 11 ∧ ds = [netD n ps] ∧ d = cntD n ps
def resM (n : Int) (ps : List Pr) : List Pr := (prs n).filter fun p => !decide (p ∈ ps)
def RRest (ds : List PyData) (d : PyData) : Prop := ∃ (n : Int) (ps : List Pr), Net n ps ∧ ps.length < 64 ∧ n ≤ 11 ∧ ds = [netD n ps] ∧ d = netD n (resM n ps)
/-! ### the friends ascend -/
theorem fri_lt (n : Int) (ps : List Pr) (h : Int) : (fri n ps h).Pairwise (· < ·) := (upto_pw 0 n).filter _
theorem fri_nd (n : Int) (ps : List Pr) (h : Int) : (fri n ps h).Nodup := (fri_lt n ps h).imp fun q => by omega
theorem mem_fri {n : Int} {ps : List Pr} {h o : Int} : o ∈ fri n ps h ↔ (0 ≤ o ∧ o < n) ∧ (min h o, max h o) ∈ ps := by
  unfold fri
  rw [List.mem_filter, mem_upto, decide_eq_true_eq]
theorem com_lt (n : Int) (ps : List Pr) (a b : Int) : (com n ps a b).Pairwise (· < ·) := (fri_lt n ps a).filter _
theorem fri_len (n : Int) (ps : List Pr) (h : Int) : (fri n ps h).length ≤ n.toNat := by
  refine Nat.le_trans (List.length_filter_le _ _) ?_
  rw [upto_len]
  omega
/-- what friend_rows lays up for the hall h -/
def hitM (h : Int) (p : Pr) : Option Int := if p.1 = h then some p.2 else if p.2 = h then some p.1 else none
def rowM (ps : List Pr) (h : Int) : List Int := ps.filterMap (hitM h)
theorem rowM_fri {n : Int} {ps : List Pr} (N : Net n ps) {h : Int} : rowM ps h = fri n ps h := by
  refine lt_unique ?_ (fri_lt n ps h) fun k => ?_
  · unfold rowM
    rw [List.pairwise_filterMap]
    have : ∀ {l : List Pr}, (∀ p ∈ l, p.1 < p.2) → l.Pairwise prLt → l.Pairwise fun a a' => ∀ b, hitM h a = some b → ∀ b', hitM h a' = some b' → b < b' := fun {l} hl hp => by
      refine hp.imp_of_mem ?_
      intro p q hpm hqm hlt b hb b' hb'
      have k1 := hl p hpm
      have k2 := hl q hqm
      unfold hitM at hb hb'
      unfold prLt at hlt
      split at hb
      · cases hb
        split at hb'
        · cases hb'; omega
        · split at hb'
          · cases hb'; omega
          · cases hb'
      · split at hb
        · cases hb
          split at hb'
          · cases hb'; omega
          · split at hb'
            · cases hb'; omega
            · cases hb'
        · cases hb
    exact this (fun p hp => (N.pr p hp).2.1) N.asc
  · rw [mem_fri]
    unfold rowM
    rw [List.mem_filterMap]
    constructor
    · rintro ⟨p, hp, hq⟩
      have k1 := N.pr p hp
      unfold hitM at hq
      split at hq
      · cases hq
        refine ⟨by omega, ?_⟩
        rw [show min h p.2 = p.1 by omega, show max h p.2 = p.2 by omega]
        exact hp
      · split at hq
        · cases hq
          refine ⟨by omega, ?_⟩
          rw [show min h p.1 = p.1 by omega, show max h p.1 = p.2 by omega]
          exact hp
        · cases hq
    · rintro ⟨hk, hp⟩
      refine ⟨_, hp, ?_⟩
      have k1 := N.pr _ hp
      simp only at k1
      unfold hitM
      by_cases q : min h k = h
      · rw [if_pos q]
        simp only [Option.some.injEq]
        omega
      · rw [if_neg q, if_pos (by show max h k = h; omega)]
        simp only [Option.some.injEq]
        omega
theorem mem_insU (k j : Int) : ∀ l : List Int, j ∈ insU k l ↔ j = k ∨ j ∈ l
  | [] => by simp [insU]
  | a :: r => by
    unfold insU
    split
    · simp
    · split
      · rename_i h
        subst h
        simp
      · simp only [List.mem_cons, mem_insU k j r]
        constructor
        · rintro (h | h | h) <;> simp [h]
        · rintro (h | h | h) <;> simp [h]
theorem insU_lt (k : Int) : ∀ l : List Int, l.Pairwise (· < ·) → (insU k l).Pairwise (· < ·)
  | [], _ => by simp [insU]
  | a :: r, h => by
    obtain ⟨h1, h2⟩ := List.pairwise_cons.mp h
    unfold insU
    split
    · rename_i q
      refine List.pairwise_cons.mpr ⟨fun j hj => ?_, h⟩
      rcases List.mem_cons.mp hj with e | e
      · omega
      · have := h1 j e
        omega
    · split
      · exact h
      · refine List.pairwise_cons.mpr ⟨fun j hj => ?_, insU_lt k r h2⟩
        rcases (mem_insU k j r).mp hj with e | e
        · omega
        · exact h1 j e
theorem asc_lt (l : List Int) : (asc l).Pairwise (· < ·) := by
  unfold asc
  induction l with
  | nil => exact List.Pairwise.nil
  | cons a l ih => exact insU_lt a _ ih
theorem mem_asc (l : List Int) (k : Int) : k ∈ asc l ↔ k ∈ l := by
  unfold asc
  induction l with
  | nil => simp
  | cons a l ih => rw [List.foldr_cons, mem_insU, ih, List.mem_cons]
end LP

set_option Elab.async false
set_option linter.all false
set_option maxRecDepth 100000
set_option maxHeartbeats 4000000
/-! the laws' nets are nets -/
namespace LM
open PySem L2 Evl NB LW LP
theorem prLt_trans {p q r : Pr} (h1 : prLt p q) (h2 : prLt q r) : prLt p r := by unfold prLt at *; omega
theorem allPr_asc (n : Int) : ∀ i : Nat, (allPr n i).Pairwise prLt
  | 0 => List.Pairwise.nil
  | i + 1 => by
    simp only [allPr]
    refine List.pairwise_append.mpr ⟨allPr_asc n i, ?_, fun p hp q hq => ?_⟩
    · unfold prFrom
      rw [List.pairwise_map]
      refine (upto_pw _ _).imp fun h => .inr ⟨rfl, h⟩
    · have h1 := mem_allPr.mp hp
      have h2 := mem_prFrom.mp hq
      exact .inl (by omega)
theorem prs_asc (n : Int) : (prs n).Pairwise prLt := allPr_asc n _
/-- pairs of halls in their order make a net -/
theorem net_sub {n : Int} {ps : List Pr} (h1 : 1 ≤ n) (h60 : n ≤ 60) (s : ps.Sublist (prs n)) : Net n ps :=
  ⟨h1, h60, fun p hp => mem_prs.mp (s.subset hp), (prs_asc n).sublist s⟩
theorem drawN_net (r : Row) {most : Int} (h0 : 0 < most) (h1 : most ≤ 59) : Net (drawN r most).1 (drawN r most).2.1 := by
  have hb := taken_ge (r := r) h0
  unfold drawN
  exact net_sub (by omega) (by omega) (drawF_sub _ _)
theorem prs11' {n : Int} (h : n ≤ 11) : (prs n).length ≤ 55 := by
  by_cases h0 : n ≤ 0
  · unfold prs
    rw [show n.toNat = 0 by omega]
    simp [allPr]
  · have : n = 1 ∨ n = 2 ∨ n = 3 ∨ n = 4 ∨ n = 5 ∨ n = 6 ∨ n = 7 ∨ n = 8 ∨ n = 9 ∨ n = 10 ∨ n = 11 := by omega
    rcases this with rfl | rfl | rfl | rfl | rfl | rfl | rfl | rfl | rfl | rfl | rfl <;> decide +kernel
theorem net_len {n : Int} {ps : List Pr} (N : Net n ps) (h : n ≤ 11) : ps.length ≤ 55 := by
  have nd : ps.Nodup := N.asc.imp fun {p q} h e => by subst e; unfold prLt at h; omega
  have sub : ∀ p ∈ ps, p ∈ prs n := fun p hp => mem_prs.mpr (N.pr p hp)
  have nd2 : ((prs n).filter fun p => decide (p ∈ ps)).Nodup := ((prs_asc n).imp fun {p q} h e => by subst e; unfold prLt at h; omega).filter _
  have pm : ps.Perm ((prs n).filter fun p => decide (p ∈ ps)) := (List.perm_ext_iff_of_nodup nd nd2).mpr fun p => by
    rw [List.mem_filter, decide_eq_true_eq]
    exact ⟨fun h => ⟨sub p h, h⟩, fun h => h.2⟩
  have l1 := pm.length_eq
  have l2 := List.length_filter_le (fun p => decide (p ∈ ps)) (prs n)
  have l3 := prs11' h
  omega
/-! turns -/
theorem turnF_perm : ∀ (n : Nat) (r : Row) (f l : List Int), l.length = n → (turnF n r f l).1.Perm (f ++ l)
  | 0, r, f, l, h => by
    rw [List.length_eq_zero_iff.mp h]
    simp [turnF]
  | n + 1, r, f, l, h => by
    have hb := taken_ge (r := r) (many := (l.length : Int)) (by omega)
    have hk : (taken r l.length).1.toNat < l.length := by omega
    simp only [turnF]
    refine (turnF_perm n _ _ _ (by rw [List.length_eraseIdx, if_pos hk]; omega)).trans ?_
    rw [List.append_assoc]
    refine List.Perm.append_left f ?_
    have e : l[(taken r l.length).1.toNat]? = some (l.getD (taken r l.length).1.toNat 0) := getD_get l 0 _ hk
    exact erase_perm l _ _ e
theorem turnM_perm (r : Row) {n : Int} (h : 0 ≤ n) : (turnM r n).1.Perm (upto 0 n) := by
  unfold turnM
  have := turnF_perm n.toNat r [] (upto 0 n) (by rw [upto_len]; omega)
  simpa using this
/-- led by a map that is one to one -/
theorem led_net {n : Int} {t : List Int} {ps : List Pr} (h1 : 1 ≤ n) (h60 : n ≤ 60) (ht : t.Perm (upto 0 n)) (N : ∀ p ∈ ps, 0 ≤ p.1 ∧ p.1 < p.2 ∧ p.2 < n) (nd : ps.Nodup) : Net n (ledM t ps) := by
  have hl : t.length = n.toNat := by rw [ht.length_eq, upto_len]; omega
  have tn : t.Nodup := ht.nodup_iff.mpr (upto_nodup 0 n)
  have tb : ∀ {k : Int}, 0 ≤ k → k < n → 0 ≤ t.getD k.toNat 0 ∧ t.getD k.toNat 0 < n := fun {k} a b => by
    have e := getD_get t 0 k.toNat (by omega)
    have := mem_upto.mp (ht.mem_iff.mp (List.mem_of_getElem? e))
    omega
  have inj : ∀ {k j : Int}, 0 ≤ k → k < n → 0 ≤ j → j < n → t.getD k.toNat 0 = t.getD j.toNat 0 → k = j := fun {k j} a b c d e => by
    have e1 := List.getElem?_eq_some_iff.mp (getD_get t 0 k.toNat (by omega))
    have e2 := List.getElem?_eq_some_iff.mp (getD_get t 0 j.toNat (by omega))
    obtain ⟨l1, g1⟩ := e1
    obtain ⟨l2, g2⟩ := e2
    have := (List.getElem_inj tn).mp (g1.trans (e.trans g2.symm))
    omega
  have P := srtP_perm (ps.map fun p => (min (t.getD p.1.toNat 0) (t.getD p.2.toNat 0), max (t.getD p.1.toNat 0) (t.getD p.2.toNat 0)))
  have W := srtP_pw (ps.map fun p => (min (t.getD p.1.toNat 0) (t.getD p.2.toNat 0), max (t.getD p.1.toNat 0) (t.getD p.2.toNat 0)))
  have D : (srtP (ps.map fun p => (min (t.getD p.1.toNat 0) (t.getD p.2.toNat 0), max (t.getD p.1.toNat 0) (t.getD p.2.toNat 0)))).Nodup := by
    refine P.nodup_iff.mpr ?_
    unfold List.Nodup
    rw [List.pairwise_map]
    refine List.Pairwise.imp_of_mem (fun {p q} hp hq hne e => hne ?_) nd
    obtain ⟨a1, a2, a3⟩ := N p hp
    obtain ⟨b1, b2, b3⟩ := N q hq
    simp only [Prod.mk.injEq] at e
    have c : (t.getD p.1.toNat 0 = t.getD q.1.toNat 0 ∧ t.getD p.2.toNat 0 = t.getD q.2.toNat 0) ∨ (t.getD p.1.toNat 0 = t.getD q.2.toNat 0 ∧ t.getD p.2.toNat 0 = t.getD q.1.toNat 0) := by omega
    rcases c with ⟨c1, c2⟩ | ⟨c1, c2⟩
    · have f1 := inj a1 (by omega) b1 (by omega) c1
      have f2 := inj (by omega) a3 (by omega) b3 c2
      exact Prod.ext f1 f2
    · have f1 := inj a1 (by omega) (by omega) b3 c1
      have f2 := inj (by omega) a3 b1 (by omega) c2
      omega
  refine ⟨h1, h60, fun p hp => ?_, ?_⟩
  · obtain ⟨q, hq, rfl⟩ := List.mem_map.mp (P.mem_iff.mp hp)
    obtain ⟨b1, b2, b3⟩ := N q hq
    have c1 := tb b1 (by omega)
    have c2 := tb (k := q.2) (by omega) b3
    have c3 : t.getD q.1.toNat 0 ≠ t.getD q.2.toNat 0 := fun e => by
      have := inj b1 (by omega) (by omega) b3 e
      omega
    simp only
    omega
  · refine (W.and D).imp fun {p q} h => ?_
    have h1 := leP_iff.mp h.1
    have h2 : p ≠ q := h.2
    unfold prLt
    rcases h1 with h1 | ⟨h1, h3⟩
    · exact .inl h1
    · refine .inr ⟨h1, ?_⟩
      have : p.2 ≠ q.2 := fun e => h2 (Prod.ext h1 e)
      omega
/-! windmills -/
def bw (n : Int) : List Pr := (upto 1 n).map (fun k => ((0 : Int), k)) ++ (List.range ((n - 1) / 2).toNat).map fun i => (((1 + i * 2 : Nat) : Int), ((1 + i * 2 + 1 : Nat) : Int))
theorem wm_led (nm : List Int) {n : Int} : wmM nm n = ledM nm (bw n) := by
  unfold wmM ledM wmPrs bw
  congr 1
  simp only [List.map_append, List.map_map]
  rfl
theorem bw7 : (∀ p ∈ bw 7, 0 ≤ p.1 ∧ p.1 < p.2 ∧ p.2 < 7) ∧ (bw 7).Nodup := by
  constructor <;> decide +kernel
theorem wind_net (r : Row) : Net 7 (wmM (turnM r 7).1 7) := by
  rw [wm_led]
  exact led_net (by decide) (by decide) (turnM_perm r (by decide)) bw7.1 bw7.2
theorem called_net (r : Row) {n : Int} {ps : List Pr} (N : Net n ps) : Net n (ledM (turnM r n).1 ps) := by
  have h1 := N.n1
  exact led_net N.n1 N.n60 (turnM_perm r (by omega)) N.pr (N.asc.imp fun {p q} h e => by subst e; unfold prLt at h; omega)
theorem board_net : Net 9 (boardM 3) := net_sub (by decide) (by decide) List.filter_sublist
theorem pet_net : Net 10 petM := net_sub (by decide) (by decide) List.filter_sublist
end LM

set_option Elab.async false
set_option linter.all false
set_option maxRecDepth 100000
set_option maxHeartbeats 4000000
/-! counting friends: walks of length two and three, the halls' numbers of friends -/
namespace FM
open PySem L2 Evl NB LW LP LM
theorem sum_app (a b : List Nat) : (a ++ b).sum = a.sum + b.sum := by simp
/-- counted by rows and by columns -/
theorem swap {α β : Type} (r : α → β → Bool) (A : List α) (B : List β) : (A.map fun x => (B.filter (r x)).length).sum = (B.map fun y => (A.filter fun x => r x y).length).sum := by
  induction A with
  | nil =>
    simp only [List.map_nil, List.sum_nil, List.filter_nil, List.length_nil]
    induction B with
    | nil => rfl
    | cons b B ih => simp only [List.map_cons, List.sum_cons]; omega
  | cons a A ih =>
    rw [List.map_cons, List.sum_cons, ih]
    clear ih
    induction B with
    | nil => rfl
    | cons b B ih =>
      simp only [List.map_cons, List.sum_cons]
      rw [← ih]
      by_cases q : r a b = true
      · simp only [List.filter_cons, q, if_true, List.length_cons]
        omega
      · simp only [List.filter_cons, q, if_false]
        simp
        omega
/-- one place differs -/
theorem sum_one {A : List Int} (nd : A.Nodup) (b : Int) (c d : Nat) (f : Int → Nat) (h : ∀ x ∈ A, x ≠ b → f x = c) (hb : f b = d) : (A.map f).sum + (if b ∈ A then c else 0) = c * A.length + (if b ∈ A then d else 0) := by
  induction A with
  | nil => simp
  | cons a A ih =>
    obtain ⟨n1, n2⟩ := List.nodup_cons.mp nd
    have i := ih n2 fun x hx => h x (List.mem_cons_of_mem _ hx)
    rw [List.map_cons, List.sum_cons, List.length_cons, Nat.mul_succ]
    by_cases q : a = b
    · subst q
      rw [if_neg n1, if_neg n1] at i
      rw [if_pos List.mem_cons_self, if_pos List.mem_cons_self, hb]
      omega
    · have e := h a List.mem_cons_self q
      by_cases m : b ∈ A
      · rw [if_pos m, if_pos m] at i
        rw [if_pos (List.mem_cons_of_mem _ m), if_pos (List.mem_cons_of_mem _ m), e]
        omega
      · have m2 : b ∉ a :: A := fun z => by
          rcases List.mem_cons.mp z with z | z
          · exact q z.symm
          · exact m z
        rw [if_neg m, if_neg m] at i
        rw [if_neg m2, if_neg m2, e]
        omega
theorem sum_eq {A : List Int} {c : Nat} {f : Int → Nat} (h : ∀ x ∈ A, f x = c) : (A.map f).sum = c * A.length := by
  induction A with
  | nil => simp
  | cons a A ih =>
    rw [List.map_cons, List.sum_cons, List.length_cons, Nat.mul_succ, h a List.mem_cons_self, ih fun x hx => h x (List.mem_cons_of_mem _ hx)]
    omega
section
variable {n : Int} {ps : List Pr} {a b : Int}
theorem comC (n : Int) (ps : List Pr) (a b : Int) : com n ps b a = com n ps a b := lt_unique (com_lt n ps b a) (com_lt n ps a b) fun k => by
  unfold com
  rw [List.mem_filter, List.mem_filter, decide_eq_true_eq, decide_eq_true_eq]
  exact And.comm
theorem comS (n : Int) (ps : List Pr) (a : Int) : com n ps a a = fri n ps a := by
  unfold com
  exact List.filter_eq_self.mpr fun k hk => decide_eq_true hk
theorem com_nd (n : Int) (ps : List Pr) (a b : Int) : (com n ps a b).Nodup := (com_lt n ps a b).imp fun q => by omega
theorem fri_in {o h : Int} (q : o ∈ fri n ps h) : 0 ≤ o ∧ o < n := (mem_fri.mp q).1
theorem fri_sym {o h : Int} (h0 : 0 ≤ h) (h1 : h < n) (q : o ∈ fri n ps h) : h ∈ fri n ps o := by
  have := mem_fri.mp q
  refine mem_fri.mpr ⟨⟨h0, h1⟩, ?_⟩
  rw [Int.min_comm, Int.max_comm]
  exact this.2
theorem fri_ne (N : Net n ps) {o h : Int} (q : o ∈ fri n ps h) : o ≠ h := fun e => by
  subst e
  have := N.pr _ (mem_fri.mp q).2
  simp only at this
  omega
theorem mem_com {k : Int} : k ∈ com n ps a b ↔ k ∈ fri n ps a ∧ k ∈ fri n ps b := by
  unfold com
  rw [List.mem_filter, decide_eq_true_eq]
/-- walks of length three, told from either end -/
theorem walks (a0 : 0 ≤ a) (a1 : a < n) (b0 : 0 ≤ b) (b1 : b < n) : ((fri n ps a).map fun x => (com n ps x b).length).sum = ((fri n ps b).map fun y => (com n ps a y).length).sum := by
  have e1 : ((fri n ps a).map fun x => (com n ps x b).length) = (fri n ps a).map fun x => ((fri n ps b).filter fun y => decide (y ∈ fri n ps x)).length := by
    refine List.map_congr_left fun x _ => ?_
    rw [← comC]
    rfl
  rw [e1, swap fun x y => decide (y ∈ fri n ps x)]
  refine congrArg List.sum (List.map_congr_left fun y hy => ?_)
  unfold com
  refine congrArg List.length (List.filter_congr fun x hx => ?_)
  have hx' := fri_in hx
  have hy' := fri_in hy
  exact decide_eq_decide.mpr ⟨fun q => fri_sym hx'.1 hx'.2 q, fun q => fri_sym hy'.1 hy'.2 q⟩
/-- walks of length two from a, by their ends -/
theorem walks2 (a0 : 0 ≤ a) (a1 : a < n) : ((fri n ps a).map fun x => (fri n ps x).length).sum = ((upto 0 n).map fun y => (com n ps a y).length).sum := by
  have e1 : ((fri n ps a).map fun x => (fri n ps x).length) = (fri n ps a).map fun x => ((upto 0 n).filter fun y => decide (y ∈ fri n ps x)).length := by
    refine List.map_congr_left fun x _ => ?_
    refine congrArg List.length (lt_unique (fri_lt n ps x) ((upto_pw 0 n).filter _) fun k => ?_)
    rw [List.mem_filter, decide_eq_true_eq, mem_upto]
    exact ⟨fun q => ⟨fri_in q, q⟩, fun q => q.2⟩
  rw [e1, swap fun x y => decide (y ∈ fri n ps x)]
  refine congrArg List.sum (List.map_congr_left fun y hy => ?_)
  unfold com
  refine congrArg List.length (List.filter_congr fun x hx => ?_)
  have hx' := fri_in hx
  have hy' := mem_upto.mp hy
  exact decide_eq_decide.mpr ⟨fun q => fri_sym hx'.1 hx'.2 q, fun q => fri_sym hy'.1 hy'.2 q⟩
/-- each pair has two ends -/
theorem ends (N : Net n ps) : ((upto 0 n).map fun h => (fri n ps h).length).sum = 2 * ps.length := by
  have e1 : ((upto 0 n).map fun h => (fri n ps h).length) = (upto 0 n).map fun h => (rowM ps h).length := List.map_congr_left fun h _ => by rw [rowM_fri N]
  rw [e1]
  have pr := N.pr
  clear e1 N
  induction ps with
  | nil =>
    refine (sum_eq (c := 0) fun x _ => ?_).trans (by simp)
    rfl
  | cons p ps ih =>
    have i := ih fun q hq => pr q (List.mem_cons_of_mem _ hq)
    obtain ⟨p0, p1, p2⟩ := pr p List.mem_cons_self
    have e2 : ((upto 0 n).map fun h => (rowM (p :: ps) h).length) = (upto 0 n).map fun h => (hitM h p).toList.length + (rowM ps h).length := List.map_congr_left fun h _ => by
      unfold rowM
      rw [List.filterMap_cons]
      cases hitM h p <;> simp
      omega
    rw [e2]
    have add : ∀ (A : List Int) (f g : Int → Nat), (A.map fun h => f h + g h).sum = (A.map f).sum + (A.map g).sum := fun A f g => by
      induction A with
      | nil => rfl
      | cons x A ih => simp only [List.map_cons, List.sum_cons, ih]; omega
    rw [add, i, List.length_cons]
    have e3 : ((upto 0 n).map fun h => (hitM h p).toList.length) = (upto 0 n).map fun h => (if h = p.1 then 1 else 0) + (if h = p.2 then 1 else 0) := List.map_congr_left fun h _ => by
      unfold hitM
      by_cases q1 : p.1 = h
      · rw [if_pos q1, if_pos (c := h = p.1) q1.symm, if_neg (c := h = p.2) (by omega)]
        rfl
      · rw [if_neg q1, if_neg (c := h = p.1) (fun e => q1 e.symm)]
        by_cases q2 : p.2 = h
        · rw [if_pos q2, if_pos (c := h = p.2) q2.symm]
          rfl
        · rw [if_neg q2, if_neg (c := h = p.2) (fun e => q2 e.symm)]
          rfl
    rw [e3, add]
    have one : ∀ b : Int, 0 ≤ b → b < n → ((upto 0 n).map fun h => if h = b then (1 : Nat) else 0).sum = 1 := fun b b0 b1 => by
      have := sum_one (upto_nodup 0 n) b 0 1 (fun h => if h = b then 1 else 0) (fun x _ hx => if_neg hx) (if_pos rfl)
      rw [if_pos (mem_upto.mpr ⟨b0, b1⟩), if_pos (mem_upto.mpr ⟨b0, b1⟩)] at this
      omega
    rw [one p.1 p0 (by omega), one p.2 (by omega) p2]
    omega
/-- any two unlike halls have c friends in common -/
def Same (n : Int) (ps : List Pr) (c : Nat) : Prop := ∀ a b : Int, 0 ≤ a → a < n → 0 ≤ b → b < n → a ≠ b → (com n ps a b).length = c
theorem same_deg (N : Net n ps) {c : Nat} (S : Same n ps c) (hc : 2 ≤ c) (a0 : 0 ≤ a) (a1 : a < n) (b0 : 0 ≤ b) (b1 : b < n) : (fri n ps a).length = (fri n ps b).length := by
  by_cases ab : a = b
  · rw [ab]
  have w := walks (ps := ps) a0 a1 b0 b1
  have s1 := sum_one (fri_nd n ps a) b c (fri n ps b).length (fun x => (com n ps x b).length) (fun x hx hne => S x b (fri_in hx).1 (fri_in hx).2 b0 b1 hne) (by rw [comS])
  have s2 := sum_one (fri_nd n ps b) a c (fri n ps a).length (fun x => (com n ps a x).length) (fun x hx hne => S a x a0 a1 (fri_in hx).1 (fri_in hx).2 (Ne.symm hne)) (by rw [comS])
  by_cases q : b ∈ fri n ps a
  · have q2 := fri_sym a0 a1 q
    rw [if_pos q, if_pos q] at s1
    rw [if_pos q2, if_pos q2] at s2
    have key : c * (fri n ps a).length + (fri n ps b).length = c * (fri n ps b).length + (fri n ps a).length := by omega
    generalize (fri n ps a).length = x at key
    generalize (fri n ps b).length = y at key
    obtain ⟨m, rfl⟩ : ∃ m, c = m + 2 := ⟨c - 2, by omega⟩
    rcases Nat.lt_trichotomy x y with h | h | h
    · obtain ⟨t, rfl⟩ : ∃ t, y = x + t := ⟨y - x, by omega⟩
      have : (m + 2) * (x + t) = (m + 2) * x + (m + 2) * t := Nat.mul_add _ _ _
      have : (m + 2) * t = m * t + 2 * t := Nat.add_mul _ _ _
      omega
    · exact h
    · obtain ⟨t, rfl⟩ : ∃ t, x = y + t := ⟨x - y, by omega⟩
      have : (m + 2) * (y + t) = (m + 2) * y + (m + 2) * t := Nat.mul_add _ _ _
      have : (m + 2) * t = m * t + 2 * t := Nat.add_mul _ _ _
      omega
  · have q2 : a ∉ fri n ps b := fun z => q (fri_sym b0 b1 z)
    rw [if_neg q, if_neg q] at s1
    rw [if_neg q2, if_neg q2] at s2
    have key : c * (fri n ps a).length = c * (fri n ps b).length := by omega
    exact Nat.eq_of_mul_eq_mul_left (by omega) key
/-- k (k - 1) is c times (n - 1), n k twice the number of pairs -/
theorem same_core (N : Net n ps) {c : Nat} (S : Same n ps c) (hc : 2 ≤ c) : ∃ k : Nat, (∀ h, 0 ≤ h → h < n → (fri n ps h).length = k) ∧ k * k + c = c * n.toNat + k ∧ n.toNat * k = 2 * ps.length := by
  have n1 := N.n1
  refine ⟨(fri n ps 0).length, fun h h0 h1 => same_deg N S hc h0 h1 (Int.le_refl 0) (by omega), ?_, ?_⟩
  · have w := walks2 (n := n) (ps := ps) (a := 0) (Int.le_refl 0) (by omega)
    have s1 := sum_eq (A := fri n ps 0) (c := (fri n ps 0).length) (f := fun x => (fri n ps x).length) fun x hx => same_deg N S hc (fri_in hx).1 (fri_in hx).2 (Int.le_refl 0) (by omega)
    have s2 := sum_one (upto_nodup 0 n) 0 c (fri n ps 0).length (fun y => (com n ps 0 y).length) (fun y hy hne => S 0 y (Int.le_refl 0) (by omega) (mem_upto.mp hy).1 (mem_upto.mp hy).2 (Ne.symm hne)) (by rw [comS])
    rw [if_pos (mem_upto.mpr ⟨Int.le_refl 0, by omega⟩), if_pos (mem_upto.mpr ⟨Int.le_refl 0, by omega⟩), upto_len] at s2
    rw [show (n - 0).toNat = n.toNat by omega] at s2
    omega
  · have e := ends N
    rw [sum_eq (c := (fri n ps 0).length) fun x hx => same_deg N S hc (mem_upto.mp hx).1 (mem_upto.mp hx).2 (Int.le_refl 0) (by omega), upto_len] at e
    rw [show (n - 0).toNat = n.toNat by omega] at e
    rw [Nat.mul_comm]
    exact e
end
end FM

set_option Elab.async false
set_option linter.all false
set_option maxRecDepth 100000
set_option maxHeartbeats 4000000
/-! what several laws share: their defs' data, in plain Lean -/
namespace NB
open PySem L2 Evl
section
variable {X : Cx} {env env1 env' : En} {d : PyData} {ds row row0 row' : List PyData} {es : List Expr} {p pos : Pos} {k j n : Nat} {ps : List Str} {x : Str} {R : List PyData → PyData → Prop} {RR : List PyData → List PyData → PyData → List PyData → Prop}
/-- a call with no argument -/
theorem pd_my0 (C : Cal X.prog X.w X.K X.mg X.base x k [] (spD X.K 0 R)) (hr : Room j X.A) (hR : R [] d) (hj : k ≤ j := by decide) (hg : Gl X x := by rfl) (hdb : (x == ("__debug__" : Str)) = false := by decide) : PD X (.Call (.Name x p) [] [] pos) env d env := by
  obtain ⟨f, fd, F, hm, hk, hb⟩ := C.ex
  exact pe_imp (pe_call0 F (hr.mono hj) hg hm hk hb .nil pass0 hdb) fun σ H Q ⟨Γ, z, sd, kk⟩ => by
    show spD X.K 0 R ([] ++ []) H Q E0
    exact ⟨rfl, z, [], d, sd.zd, .nil, hR, fun v H'' ex' h2 => kk v H'' (cut_ex ex') (sd.grow ex') h2⟩
/-- f(row, ..), row one's own list that the other arguments change too -/
theorem pd_myL2 (i : Nat) {xr : Str} {pr : Pos} (C : Cal X.prog X.w X.K X.mg X.base x k ps (spR X.K n RR)) (hr : Room j X.A) (ha : PAD X es env ds env1) (hR : RR row ds d row') (hs : env1[i]? = some (.l row) := by rfl) (hsl : env[i]? = some (.l row0) := by rfl) (he' : env' = env1.set i (.l row') := by rfl) (hj : k ≤ j := by decide) (hn : ds.length + 1 = n := by rfl) (hg : Gl X x := by rfl)
    (hN : X.N[i]? = some xr := by rfl) (hv : Vis X.env.scope xr := by first | exact Or.inl rfl | exact Or.inr (Or.inl rfl) | exact Or.inr (Or.inr rfl)) (hb1 : (xr == ("__debug__" : Str)) = false := by decide) (hcd : (xr == ("__classdict__" : Str)) = false := by decide)
    (hs1 : starEach (.Name xr pr :: es) X.env = (false, eval (.Name xr pr) X.env) :: starEach es X.env := by rfl) (hdb : (x == ("__debug__" : Str)) = false := by decide) (hpl : (backTo pos (starEach es X.env)).any (·.1) = false := by rfl) : PD X (.Call (.Name x p) (.Name xr pr :: es) [] pos) env d env' := by
  obtain ⟨f, fd, F, hm, hk, hb⟩ := C.ex
  exact pe_imp (pe_call F (hr.mono hj) hg hm hk hb .nil pass0 (pa_cons (pv i hN hv hb1 hcd) ha hs1) hdb hs1 hpl) fun σ H Q ⟨Γ, z, sd, kk⟩ => by
    obtain ⟨r, us0, e1, _⟩ := sd.own (.inl hsl)
    refine ⟨.ref r, e1, Γ, z, sd, fun vs H' ex sd' h1 => ?_⟩
    show spR X.K n RR (.ref r :: (vs ++ [])) H' Q E0
    rw [List.append_nil]
    obtain ⟨r', us, e2, zr, hr', hd'⟩ := sd'.own (.inl hs)
    rw [e1] at e2
    cases e2
    refine ⟨by rw [List.length_cons, dpa_len h1]; exact hn, z, r, vs, us, ds, row, d, row', rfl, sd'.zd, zr, hr', hd', h1, hR, fun v H'' us' hx' hr'' hd'' hv' => ?_⟩
    obtain ⟨sd2, e3⟩ := sd'.chL hs e1 hx' hr'' fun _ => hd''
    exact kk v H'' (ex.trans e3) (he' ▸ sd2) hv'
end
end NB
namespace LG
open PySem L2 Evl NB LW LP NBI LM
/-- the law's call of itself: the part for a list or a tuple -/
theorem eqv_nil : PyData.eqv (.list []) (.list []) = true := by simp [PyData.eqv, PyData.eqvAll]
theorem al_rg {n : Int} {d : PyData} (h : d ∈ rgD 0 n) : ∃ k, 0 ≤ k ∧ k < n ∧ d = .int k := by
  rw [rgD_eq] at h
  obtain ⟨k, hk, e⟩ := mem_iD h
  exact ⟨k, (mem_upto.mp hk).1, (mem_upto.mp hk).2, e⟩
theorem eqv_iD_nil (l : List Int) : PyData.eqv (.list (iD l)) (.list []) = decide (l = []) := by
  cases l <;> simp [iD, PyData.eqv, PyData.eqvAll]
theorem iD_at {t : List Int} {k : Int} (h0 : 0 ≤ k) (h1 : k < t.length) : atI (iD t) k = some (.int (t.getD k.toNat 0)) := by
  have e : k = ((k.toNat : Nat) : Int) := by omega
  rw [e]
  refine atI_nat ?_
  unfold iD
  rw [List.getElem?_map, getD_get t 0 _ (by omega)]
  rfl
theorem pD_at {t : List Pr} {k : Int} (h0 : 0 ≤ k) (h1 : k < t.length) : atI (pD t) k = some (prd (t.getD k.toNat (0, 0))) := by
  have e : k = ((k.toNat : Nat) : Int) := by omega
  rw [e]
  refine atI_nat ?_
  unfold pD
  rw [List.getElem?_map, getD_get t (0, 0) _ (by omega)]
  rfl
theorem pet_in (p q : Pr) : (([PyData.int p.1, .int p.2].filter fun d => ([PyData.int q.1, .int q.2].any fun z => PyData.eqv z d)).map fun d => d) = iD ([p.1, p.2].filter fun k => decide (k = q.1 ∨ k = q.2)) := by
  have e : ∀ k : Int, ([PyData.int q.1, .int q.2].any fun z => PyData.eqv z (.int k)) = decide (k = q.1 ∨ k = q.2) := fun k => by
    have := any_int [q.1, q.2] k
    unfold iD at this
    simp only [List.map_cons, List.map_nil] at this
    rw [this]
    simp
  simp only [List.map_id', List.filter_cons, List.filter_nil, e]
  by_cases h1 : p.1 = q.1 ∨ p.1 = q.2
  · by_cases h2 : p.2 = q.1 ∨ p.2 = q.2
    · simp [h1, h2, iD]
    · simp [h1, h2, iD]
  · by_cases h2 : p.2 = q.1 ∨ p.2 = q.2
    · simp [h1, h2, iD]
    · simp [h1, h2, iD]
/-- the pair before the i-th -/
def befI (ps : List Pr) : Nat → List Int
  | 0 => []
  | i + 1 => lp (ps.getD i (0, 0))
theorem bef_no {n : Int} {ps : List Pr} (N : Net n ps) {i : Nat} {p : Pr} (h : ps[i]? = some p) :
    Ob.lexAt (fun j => decide ((lp p).getD j 0 = (befI ps i).getD j 0)) (fun j => decide ((lp p).getD j 0 ≤ (befI ps i).getD j 0)) (decide ((lp p).length ≤ (befI ps i).length)) 0 (min (lp p).length (befI ps i).length) = false := by
  cases i with
  | zero => rfl
  | succ i =>
    have hi1 := (List.getElem?_eq_some_iff.mp h).1
    have hp := (List.getElem?_eq_some_iff.mp h).2
    have hq : ps.getD i (0, 0) = ps[i] := by rw [List.getD_eq_getElem?_getD, List.getElem?_eq_getElem (by omega)]; rfl
    have lt := List.pairwise_iff_getElem.mp N.asc i (i + 1) (by omega) hi1 (by omega)
    rw [hp, ← hq] at lt
    show (if decide (p.1 = (ps.getD i (0, 0)).1) = true then (if decide (p.2 = (ps.getD i (0, 0)).2) = true then _ else decide (p.2 ≤ (ps.getD i (0, 0)).2)) else decide (p.1 ≤ (ps.getD i (0, 0)).1)) = false
    unfold prLt at lt
    generalize ps.getD i (0, 0) = q at lt ⊢
    by_cases e1 : p.1 = q.1
    · by_cases e2 : p.2 = q.2
      · omega
      · rw [if_pos (decide_eq_true e1), if_neg (by simp [e2])]
        exact decide_eq_false (by omega)
    · rw [if_neg (by simp [e1])]
      exact decide_eq_false (by omega)
theorem pd_gInt {X : Cx} {env : En} {x : Str} {i : Int} {pos : Pos} (hm : ∃ t, X.mg x = some (.int i t)) (hg : Gl X x := by rfl) (hdb : (x == ("__debug__" : Str)) = false := by decide) : PD X (.Name x pos) env (.int i) env := by
  obtain ⟨t, hm⟩ := hm
  exact pd_c (v := .int i) (pe_glob hg hm ⟨t, rfl⟩ hdb) fun _ => .int i
theorem rows_at {n h : Int} (f : Int → PyData) (h0 : 0 ≤ h) (h1 : h < n) : atI ((upto 0 n).map f) h = some (f h) := by
  have e : h = ((h.toNat : Nat) : Int) := by omega
  rw [e]
  refine atI_nat ?_
  rw [List.getElem?_map, upto_get (by omega)]
  simp
theorem fri60 {n : Int} {ps : List Pr} (N : Net n ps) (h : Int) : (fri n ps h).length ≤ 60 := by
  have := fri_len n ps h
  have := N.n60
  omega
theorem manyL_snoc {n : Int} {ps : List Pr} {j : Bool} (L : List Pr) (p : Pr) : manyL n ps j (L ++ [p]) = if (decide (p.2 ∈ fri n ps p.1) == j) = true then manyL n ps j L ++ [((com n ps p.1 p.2).length : Int)] else manyL n ps j L := by
  unfold manyL
  rw [List.filter_append, List.map_append]
  by_cases h : (decide (p.2 ∈ fri n ps p.1) == j) = true
  · rw [if_pos h]
    simp only [List.filter_cons, h, if_true, List.filter_nil, List.map_cons, List.map_nil]
  · rw [if_neg h]
    simp only [List.filter_cons, h, if_false, List.filter_nil, List.map_nil, List.append_nil]
    simp
theorem manyL_len {n : Int} {ps : List Pr} {j : Bool} (L : List Pr) : (manyL n ps j L).length ≤ L.length := by
  unfold manyL
  rw [List.length_map]
  exact List.length_filter_le _ _
theorem prs11 {n : Int} (h : n ≤ 11) : (prs n).length ≤ 55 := by
  by_cases h0 : n ≤ 0
  · unfold prs
    rw [show n.toNat = 0 by omega]
    simp [allPr]
  · have : n = 1 ∨ n = 2 ∨ n = 3 ∨ n = 4 ∨ n = 5 ∨ n = 6 ∨ n = 7 ∨ n = 8 ∨ n = 9 ∨ n = 10 ∨ n = 11 := by omega
    rcases this with rfl | rfl | rfl | rfl | rfl | rfl | rfl | rfl | rfl | rfl | rfl <;> decide +kernel
def rws (n : Int) (L : List Pr) : List (List Int) := (upto 0 n).map fun h => rowM L h
theorem rws_len (n : Int) (L : List Pr) : (rws n L).length = n.toNat := by
  unfold rws
  rw [List.length_map, upto_len]
  omega
theorem rws_get {n : Int} {L : List Pr} {k : Nat} (h : k < n.toNat) : (rws n L)[k]? = some (rowM L (k : Nat)) := by
  unfold rws
  rw [List.getElem?_map, upto_get (by omega)]
  simp
theorem rws_getD {n : Int} {L : List Pr} {k : Nat} (h : k < n.toNat) : (rws n L).getD k [] = rowM L (k : Nat) := by
  rw [List.getD_eq_getElem?_getD, rws_get h]
  rfl
theorem rowM_snoc (L : List Pr) (p : Pr) (h : Int) : rowM (L ++ [p]) h = rowM L h ++ (hitM h p).toList := by
  unfold rowM
  rw [List.filterMap_append]
  simp only [List.filterMap_cons, List.filterMap_nil]
  cases q : hitM h p <;> simp
theorem rowM_len (L : List Pr) (h : Int) : (rowM L h).length ≤ L.length := List.length_filterMap_le _ _
theorem rws_step {n : Int} {L : List Pr} {p : Pr} (h0 : 0 ≤ p.1) (h1 : p.1 < p.2) (h2 : p.2 < n) :
    ((rws n L).set p.1.toNat ((rws n L).getD p.1.toNat [] ++ [p.2])).set p.2.toNat (((rws n L).set p.1.toNat ((rws n L).getD p.1.toNat [] ++ [p.2])).getD p.2.toNat [] ++ [p.1]) = rws n (L ++ [p]) := by
  have ne : p.1.toNat ≠ p.2.toNat := by omega
  have e2 : ((rws n L).set p.1.toNat ((rws n L).getD p.1.toNat [] ++ [p.2])).getD p.2.toNat [] = rowM L p.2 := by
    rw [List.getD_eq_getElem?_getD, List.getElem?_set_ne ne, rws_get (by omega)]
    rw [show ((p.2.toNat : Nat) : Int) = p.2 by omega]
    rfl
  rw [e2, rws_getD (by omega), show ((p.1.toNat : Nat) : Int) = p.1 by omega]
  apply List.ext_getElem?
  intro k
  by_cases hk : k < n.toNat
  · rw [rws_get hk, rowM_snoc]
    by_cases e : k = p.2.toNat
    · subst e
      rw [List.getElem?_set_self (by rw [List.length_set, rws_len]; omega)]
      have eh : hitM ((p.2.toNat : Nat) : Int) p = some p.1 := by
        unfold hitM
        rw [if_neg (by omega), if_pos (by omega)]
      rw [eh, show ((p.2.toNat : Nat) : Int) = p.2 by omega]
      rfl
    · rw [List.getElem?_set_ne (Ne.symm e)]
      by_cases e' : k = p.1.toNat
      · subst e'
        rw [List.getElem?_set_self (by rw [rws_len]; omega)]
        have eh : hitM ((p.1.toNat : Nat) : Int) p = some p.2 := by
          unfold hitM
          rw [if_pos (by omega)]
        rw [eh, show ((p.1.toNat : Nat) : Int) = p.1 by omega]
        rfl
      · rw [List.getElem?_set_ne (Ne.symm e'), rws_get hk]
        have eh : hitM ((k : Nat) : Int) p = none := by
          unfold hitM
          rw [if_neg (by omega), if_neg (by omega)]
        rw [eh]
        simp
  · rw [List.getElem?_eq_none (by rw [List.length_set, List.length_set, rws_len]; omega), List.getElem?_eq_none (by rw [rws_len]; omega)]
theorem rws_nil (n : Int) (m : Nat) (h : m = n.toNat) : List.replicate m [] = rws n [] := by
  unfold rws
  have e : (fun h : Int => rowM [] h) = fun _ => [] := by funext h; rfl
  rw [e, List.map_const', upto_len, h]
  congr 1
  omega
/-- [friends(net, hall) for hall in range(net[0])] -/
theorem near_rows {n : Int} {ps : List Pr} (y : PyData → PyData) (hy : ∀ h, y (.int h) = .list (iD (fri n ps h))) : PyData.list (((rgD 0 n).filter fun _ => true).map y) = rowsD n ps := by
  unfold rowsD
  rw [filter_yes fun _ => rfl, rgD_eq, iD, List.map_map]
  congr 1
  exact List.map_congr_left fun h _ => hy h
def yF (n : Int) (ps : List Pr) (d : PyData) : PyData := match d with | .int h => .list (iD (fri n ps h)) | _ => .none
theorem al_rg' {n : Int} {d : PyData} (h : d ∈ rgD 0 n) : ∃ k : Int, 0 ≤ k ∧ k < n ∧ d = .int k := by
  rw [rgD_eq] at h
  obtain ⟨k, hk, rfl⟩ := mem_iD h
  have := mem_upto.mp hk
  exact ⟨k, this.1, this.2, rfl⟩
def inL (l : List Int) (d : PyData) : Bool := match d with | .int h => decide (h ∈ l) | _ => false
theorem filt_in (a l : List Int) : ((iD a).filter (inL l)).map (fun d => d) = iD (a.filter fun k => decide (k ∈ l)) := by
  unfold iD
  rw [List.filter_map, List.map_map]
  rfl
theorem eqvA_iD : ∀ l : List Int, PyData.eqvAll (iD l) (iD l) = true
  | [] => by simp [iD, PyData.eqvAll]
  | a :: l => by
    have := eqvA_iD l
    show PyData.eqvAll (.int a :: iD l) (.int a :: iD l) = true
    simp only [PyData.eqvAll, this, eqv_int, decide_true, Bool.and_true]
theorem eqvA_pD : ∀ l : List Pr, PyData.eqvAll (pD l) (pD l) = true
  | [] => by simp [pD, PyData.eqvAll]
  | a :: l => by
    have := eqvA_pD l
    show PyData.eqvAll (prd a :: pD l) (prd a :: pD l) = true
    simp only [PyData.eqvAll, this, eqv_pr, decide_true, Bool.and_true]
theorem eqv_tI (l : List Int) : PyData.eqv (.tuple (iD l)) (.tuple (iD l)) = true := by simp only [PyData.eqv]; exact eqvA_iD l
theorem eqv_net (n : Int) (ps : List Pr) : PyData.eqv (netD n ps) (netD n ps) = true := by
  unfold netD
  simp only [PyData.eqv, PyData.eqvAll, eqvA_pD, beq_self_eq_true, Bool.and_true]
theorem com_comm (n : Int) (ps : List Pr) (a b : Int) : com n ps b a = com n ps a b := lt_unique (com_lt n ps b a) (com_lt n ps a b) fun k => by
  unfold com
  rw [List.mem_filter, List.mem_filter, decide_eq_true_eq, decide_eq_true_eq]
  exact And.comm
theorem com_self (n : Int) (ps : List Pr) (a : Int) : com n ps a a = fri n ps a := by
  unfold com
  exact List.filter_eq_self.mpr fun k hk => decide_eq_true hk
theorem asc_unique {l l' : List Pr} (h : l.Pairwise prLt) (h' : l'.Pairwise prLt) (m : ∀ k, k ∈ l ↔ k ∈ l') : l = l' := by
  have nd : ∀ {l : List Pr}, l.Pairwise prLt → l.Nodup := fun h => h.imp fun {p q} h e => by subst e; unfold prLt at h; omega
  have le : ∀ {l : List Pr}, l.Pairwise prLt → l.Pairwise fun p q => leP p q = true := fun h => h.imp fun {p q} h => by rw [leP_iff]; unfold prLt at h; omega
  exact pwP_unique ((List.perm_ext_iff_of_nodup (nd h) (nd h')).mpr m) (le h) (le h')
theorem res_asc (n : Int) (ps : List Pr) : (resM n ps).Pairwise prLt := (prs_asc n).filter _
theorem res_net {n : Int} {ps : List Pr} (N : Net n ps) : Net n (resM n ps) := net_sub N.n1 N.n60 List.filter_sublist
theorem mem_res {n : Int} {ps : List Pr} {k : Pr} : k ∈ resM n ps ↔ k ∈ prs n ∧ k ∉ ps := by
  unfold resM
  rw [List.mem_filter]
  simp
theorem res_res {n : Int} {ps : List Pr} (N : Net n ps) : resM n (resM n ps) = ps := asc_unique (res_asc _ _) N.asc fun k => by
  have hk := N.pr k
  rw [mem_res, mem_res, mem_prs]
  constructor
  · rintro ⟨h1, h2⟩
    by_cases q : k ∈ ps
    · exact q
    · exact (h2 ⟨h1, q⟩).elim
  · intro h
    exact ⟨hk h, fun q => q.2 h⟩
theorem al_tI (m : Nat) {l : List Int} (h : l.length ≤ 10000) : Al (m + 1) (.tuple (iD l)) := al_tup (fun d hd => by
  obtain ⟨k, _, rfl⟩ := mem_iD hd
  exact al_int m k) (by simpa [iD] using h)
theorem al_prd (m : Nat) (p : Pr) : Al (m + 1) (prd p) := al_tI m (l := [p.1, p.2]) (by simp)
theorem al_net (m : Nat) (n : Int) {ps : List Pr} (h : ps.length ≤ 10000) : Al (m + 3) (netD n ps) := al_tup (fun d hd => by
  rcases List.mem_cons.mp hd with e | hd
  · rw [e]; exact al_int _ _
  · rw [List.mem_singleton.mp hd]
    exact al_tup (fun d hd => by
      obtain ⟨p, _, rfl⟩ := mem_pD hd
      exact al_prd m p) (by simpa [pD] using h)) (by simp)
theorem fl_net (n : Int) (ps : List Pr) : Fl 3 (netD n ps) := fl_tuple (n := 2) fun d hd => by
  rcases List.mem_cons.mp hd with e | hd
  · rw [e]; exact fl_int _ _
  · rw [List.mem_singleton.mp hd]
    exact fl_tuple (n := 1) (fl_pD ps)
theorem asc_len (l : List Int) : (asc l).length ≤ l.length := by
  unfold asc
  induction l with
  | nil => exact Nat.le_refl _
  | cons a l ih =>
    rw [List.foldr_cons, List.length_cons]
    have gen : ∀ (k : Int) (l : List Int), (insU k l).length ≤ l.length + 1 := fun k l => by
      induction l with
      | nil => simp [insU]
      | cons b l ih =>
        unfold insU
        split
        · simp
        · split
          · simp
          · simp; omega
    have := gen a (List.foldr insU [] l)
    omega
theorem drawN_ok {r : Row} (h : RowOk r) (m : Int) : RowOk (drawN r m).2.2 := drawF_ok (taken_ok h m)
theorem turnM_ok {r : Row} (h : RowOk r) (n : Int) : RowOk (turnM r n).2 := turnF_ok _ h
def row0 (seed : Int) (ns : List Int) : Row := ⟨ns, 0, seed, 0⟩
theorem row0_ok (seed : Int) (ns : List Int) (h : 0 ≤ seed ∧ seed < 2147483647) : RowOk (row0 seed ns) := ⟨Int.le_refl 0, h.1, h.2⟩
def RLaw (ds : List PyData) (d : PyData) : Prop := ∃ ns : List Int, ns.length ≤ 63 ∧ ds = [.list (iD ns)] ∧ d = .bool true
/-! ### of up to sixty halls -/
def RCnt60 (ds : List PyData) (d : PyData) : Prop := ∃ (n : Int) (ps : List Pr), Net n ps ∧ ps.length < 100000 ∧ ds = [netD n ps] ∧ d = cntD n ps
def RLCnt60 (ds : List PyData) (d : PyData) : Prop := ∃ (n : Int) (ps : List Pr), Net n ps ∧ ds = [netD n ps] ∧ d = cntD n ps
theorem allPr_sq {n : Int} : ∀ i : Nat, (allPr n i).length ≤ n.toNat * i
  | 0 => by simp [allPr]
  | i + 1 => by
    have a := allPr_sq (n := n) i
    simp only [allPr, List.length_append]
    have b : (prFrom n i).length ≤ n.toNat := by
      unfold prFrom
      rw [List.length_map, upto_len]
      omega
    rw [Nat.mul_succ]
    omega
theorem prs60 {n : Int} (h : n ≤ 60) : (prs n).length ≤ 3600 := by
  have a := allPr_sq (n := n) n.toNat
  have b : n.toNat ≤ 60 := by omega
  have c : n.toNat * n.toNat ≤ 60 * 60 := Nat.mul_le_mul b b
  unfold prs
  omega
theorem com_len (n : Int) (ps : List Pr) (a b : Int) : (com n ps a b).length ≤ (fri n ps a).length := List.length_filter_le _ _
theorem many_few {n : Int} {ps : List Pr} (N : Net n ps) (j : Bool) (L : List Pr) : Few (manyL n ps j L) 61 := few_rg (m := 61) fun k hk => by
  obtain ⟨p, _, rfl⟩ := List.mem_map.mp hk
  have h1 := com_len n ps p.1 p.2
  have h2 := fri60 N p.1
  omega
theorem few_asc {l : List Int} {B : Nat} (h : Few l B) : Few (asc l) B := fun M nd hM => h M nd fun k hk => (mem_asc l k).mp (hM k hk)
theorem asc_few {l : List Int} {B : Nat} (h : Few l B) : (asc l).length ≤ B := h (asc l) ((asc_lt l).imp fun q => by omega) fun k hk => (mem_asc l k).mp hk
theorem al_cnt60 (m : Nat) {n : Int} {ps : List Pr} (N : Net n ps) : Al (m + 2) (cntD n ps) := al_tup (fun d hd => by
  have l1 := asc_few (many_few N true (prs n))
  have l2 := asc_few (many_few N false (prs n))
  rcases List.mem_cons.mp hd with e | hd
  · rw [e]; exact al_tI m (by omega)
  · rw [List.mem_singleton.mp hd]; exact al_tI m (by omega)) (by simp)
end LG
namespace LG
open PySem L2 Evl NB LW LP NBI LM
/-! ### numbers that are asked of, of any kind of value -/
def numOk (v : PyData) (lo hi : Int) : Bool := match v with
  | .int i => decide (lo ≤ i) && decide (i ≤ hi)
  | _ => false
def RNumG (ds : List PyData) (d : PyData) : Prop := ∃ v lo hi, ds = [v, .int lo, .int hi] ∧ d = .bool (numOk v lo hi)
theorem rNum {ds : List PyData} {d : PyData} (h : RNum ds d) : RNumG ds d := by
  obtain ⟨v, lo, hi, rfl, rfl⟩ := h
  exact ⟨.int v, lo, hi, rfl, rfl⟩
/-- a number that may stand -/
def RCkNum (ds : List PyData) (d : PyData) : Prop := ∃ v lo hi : Int, lo ≤ v ∧ v ≤ hi ∧ ds = [.int v, .int lo, .int hi] ∧ d = .none
/-- a value that may not -/
def RCkNumE (ds : List PyData) : Prop := ∃ (v : PyData) (lo hi : Int), numOk v lo hi = false ∧ 0 ≤ lo ∧ lo ≤ 1000 ∧ 0 ≤ hi ∧ hi ≤ 1000 ∧ ds = [v, .int lo, .int hi]
theorem dig4' : ∀ m : Fin 1001, (Str.ofString (toString ((m.val : Nat) : Int))).length ≤ 4 := by decide +kernel
theorem dig4 {i : Int} (h0 : 0 ≤ i) (h1 : i ≤ 1000) : (Str.ofString (toString i)).length ≤ 4 := by
  have := dig4' ⟨i.toNat, by omega⟩
  rw [show ((i.toNat : Nat) : Int) = i by omega] at this
  exact this
theorem log1000 {i : Int} (h0 : 0 ≤ i) (h1 : i ≤ 1000) : i.natAbs.log2 < 1920 := by
  have h : i.natAbs ≤ 1000 := by omega
  by_cases q : i.natAbs = 0
  · rw [q]; decide
  · have := (Nat.log2_lt q (k := 10)).mpr (by omega)
    omega
theorem fitNum {lo hi : Int} (h0 : 0 ≤ lo) (h1 : lo ≤ 1000) (h2 : 0 ≤ hi) (h3 : hi ≤ 1000) : FitJ Str.empty ["no integer from ", Str.ofString (toString lo), " to ", Str.ofString (toString hi)] := by
  have a := dig4 h0 h1
  have b := dig4 h2 h3
  have c1 : (Str.ofString "no integer from ").length = 16 := by decide +kernel
  have c2 : (Str.ofString " to ").length = 4 := by decide +kernel
  have c0 : Str.empty.length = 0 := rfl
  refine ⟨?_, ?_, ?_, ?_, trivial⟩
  all_goals rw [sizeLine_eq]
  all_goals simp only [Str.length_append, c0, c1, c2]
  all_goals omega
end LG
namespace NB
open PySem L2 Evl
theorem Cal.imp {P : Program} {w : World} {K : PySem.W.Frag} {mg : Str → Option Value} {base : Heap} {x : Str} {k n : Nat} {ps : List Str} {R R' : List PyData → PyData → Prop} (C : Cal P w K mg base x k ps (spD K n R)) (h : ∀ ds d, R' ds d → R ds d) : Cal P w K mg base x k ps (spD K n R') := by
  obtain ⟨f, fd, F, r⟩ := C.ex
  refine ⟨f, fd, F.imp ?_, r⟩
  intro vs H Q E q
  obtain ⟨h1, z, ds, d, h2, h3, h4, h5⟩ := q
  exact ⟨h1, z, ds, d, h2, h3, h ds d h4, h5⟩
end NB

set_option Elab.async false
set_option linter.all false
set_option maxRecDepth 100000
set_option maxHeartbeats 4000000
/-! the same numbers: what the defs give -/
namespace LS
open PySem L2 Evl NB LW LP NBI LM LG FM
def evs (n : Int) (ps : List Pr) : List Int := asc (asc (manyL n ps true (prs n)) ++ asc (manyL n ps false (prs n)))
def one1 : List Int → PyData
  | [x] => .int x
  | _ => .none
theorem one1_no {l : List Int} (h : l.length ≠ 1) : one1 l = .none := by
  match l, h with
  | [], _ => rfl
  | [x], h => exact (h rfl).elim
  | x :: y :: r, _ => rfl
theorem len1 {l : List Int} (h : l.length = 1) : ∃ x, l = [x] := by
  match l, h with
  | [x], _ => exact ⟨x, rfl⟩
def dgs (n : Int) (ps : List Pr) : List Int := asc ((upto 0 n).map fun h => ((fri n ps h).length : Int))
def keptM (m r : Int) : Option Pr :=
  if (m + r * r) % r ≠ 0 ∨ (m + r * r) * (m + r * r - 1) % m ≠ 0 then none
  else if (m + r * r) * (m + r * r - 1) / m - (m + r * r) / r < 0 ∨ ((m + r * r) * (m + r * r - 1) / m - (m + r * r) / r) % 2 ≠ 0 then none
  else some ((m + r * r) * (m + r * r - 1) / m + 1, m + r * r)
def optD : Option Pr → PyData
  | some p => prd p
  | none => .none
def sizesM (m : Int) : List Pr := (upto 1 (m + 1)).filterMap (keptM m)
def RCommon (ds : List PyData) (d : PyData) : Prop := ∃ (n : Int) (ps : List Pr), Net n ps ∧ ps.length < 100000 ∧ ds = [netD n ps] ∧ d = one1 (evs n ps)
def RDegree (ds : List PyData) (d : PyData) : Prop := ∃ (n : Int) (ps : List Pr), Net n ps ∧ ps.length < 100000 ∧ ds = [netD n ps] ∧ d = one1 (dgs n ps)
def RKept (ds : List PyData) (d : PyData) : Prop := ∃ m r : Int, 2 ≤ m ∧ m ≤ 1000 ∧ 1 ≤ r ∧ r ≤ 1000 ∧ ds = [.int m, .int r] ∧ d = optD (keptM m r)
def RSizes (ds : List PyData) (d : PyData) : Prop := ∃ m : Int, 2 ≤ m ∧ m ≤ 1000 ∧ ds = [.int m] ∧ d = .tuple (pD (sizesM m))
def RSizesE (ds : List PyData) : Prop := ∃ v : PyData, numOk v 2 1000 = false ∧ ds = [v]
theorem evs_few {n : Int} {ps : List Pr} (N : Net n ps) : Few (asc (manyL n ps true (prs n)) ++ asc (manyL n ps false (prs n))) 61 := few_rg (m := 61) fun k hk => by
  have : k ∈ manyL n ps true (prs n) ∨ k ∈ manyL n ps false (prs n) := by
    rcases List.mem_append.mp hk with h | h
    · exact .inl ((mem_asc _ k).mp h)
    · exact .inr ((mem_asc _ k).mp h)
  have : ∃ p : Pr, k = ((com n ps p.1 p.2).length : Int) := by
    rcases this with h | h
    · obtain ⟨p, _, rfl⟩ := List.mem_map.mp h
      exact ⟨p, rfl⟩
    · obtain ⟨p, _, rfl⟩ := List.mem_map.mp h
      exact ⟨p, rfl⟩
  obtain ⟨p, rfl⟩ := this
  have h1 := com_len n ps p.1 p.2
  have h2 := fri60 N p.1
  omega
theorem dgs_few {n : Int} {ps : List Pr} (N : Net n ps) : Few ((upto 0 n).map fun h => ((fri n ps h).length : Int)) 61 := few_rg (m := 61) fun k hk => by
  obtain ⟨h, _, rfl⟩ := List.mem_map.mp hk
  have h2 := fri60 N h
  omega
end LS

set_option Elab.async false
set_option linter.all false
set_option maxRecDepth 100000
set_option maxHeartbeats 4000000
/-! one friend in common: windmills, and no others among few halls -/
namespace FW
open PySem L2 Evl NB LW LP NBI LM LG FM LS
def topsM (n : Int) (ps : List Pr) : List Int := (upto 0 n).filter fun h => decide (((fri n ps h).length : Int) = n - 1)
def badM (n : Int) (ps : List Pr) (t : Int) : List Int := (upto 0 n).filter fun h => !decide (h = t) && !decide (((fri n ps h).length : Int) = 2)
def isW (n : Int) (ps : List Pr) : Bool := decide (n = 1) || (!decide (topsM n ps = []) && decide (badM n ps ((topsM n ps).getD 0 0) = []))
def bothM (n : Int) (ps : List Pr) : List Int := asc (manyL n ps true (prs n)) ++ asc (manyL n ps false (prs n))
def oneM (n : Int) (ps : List Pr) : Bool := (bothM n ps).all fun k => decide (k = 1)
section
variable {n : Int} {ps : List Pr} {a b t : Int}
theorem one_same : oneM n ps = true ↔ Same n ps 1 := by
  unfold oneM bothM
  rw [List.all_eq_true]
  constructor
  · intro h a b a0 a1 b0 b1 ne
    have key : ∀ p ∈ prs n, (com n ps p.1 p.2).length = 1 := fun p hp => by
      have m : ((com n ps p.1 p.2).length : Int) ∈ asc (manyL n ps true (prs n)) ++ asc (manyL n ps false (prs n)) := by
        rw [List.mem_append, mem_asc, mem_asc]
        cases q : decide (p.2 ∈ fri n ps p.1) with
        | true => exact .inl (List.mem_map.mpr ⟨p, List.mem_filter.mpr ⟨hp, by rw [q]; rfl⟩, rfl⟩)
        | false => exact .inr (List.mem_map.mpr ⟨p, List.mem_filter.mpr ⟨hp, by rw [q]; rfl⟩, rfl⟩)
      have := of_decide_eq_true (h _ m)
      omega
    by_cases lt : a < b
    · exact key (a, b) (mem_prs.mpr ⟨a0, lt, b1⟩)
    · have := key (b, a) (mem_prs.mpr ⟨b0, by omega, a1⟩)
      rw [← comC]
      exact this
  · intro S k hk
    have : ∃ p ∈ prs n, k = ((com n ps p.1 p.2).length : Int) := by
      rw [List.mem_append, mem_asc, mem_asc] at hk
      rcases hk with h | h
      · obtain ⟨p, hp, rfl⟩ := List.mem_map.mp h
        exact ⟨p, (List.mem_filter.mp hp).1, rfl⟩
      · obtain ⟨p, hp, rfl⟩ := List.mem_map.mp h
        exact ⟨p, (List.mem_filter.mp hp).1, rfl⟩
    obtain ⟨p, hp, rfl⟩ := this
    have m := mem_prs.mp hp
    have := S p.1 p.2 m.1 (by omega) (by omega) m.2.2 (by omega)
    exact decide_eq_true (by omega)
theorem mem_tops : t ∈ topsM n ps ↔ (0 ≤ t ∧ t < n) ∧ ((fri n ps t).length : Int) = n - 1 := by
  unfold topsM
  rw [List.mem_filter, mem_upto, decide_eq_true_eq]
theorem tops_get (h : topsM n ps ≠ []) : (topsM n ps).getD 0 0 ∈ topsM n ps := by
  cases q : topsM n ps with
  | nil => exact (h q).elim
  | cons x l => exact List.mem_cons_self
theorem bad_nil : badM n ps t = [] ↔ ∀ h, 0 ≤ h → h < n → h ≠ t → (fri n ps h).length = 2 := by
  unfold badM
  rw [List.filter_eq_nil_iff]
  constructor
  · intro k h h0 h1 ne
    have := k h (mem_upto.mpr ⟨h0, h1⟩)
    simp [ne] at this
    omega
  · intro k h hh
    have m := mem_upto.mp hh
    by_cases ne : h = t
    · simp [ne]
    · simp [ne]
      have := k h m.1 m.2 ne
      omega
/-- joined to all others -/
theorem hub_all (N : Net n ps) (t0 : 0 ≤ t) (t1 : t < n) (h : ((fri n ps t).length : Int) = n - 1) {x : Int} (x0 : 0 ≤ x) (x1 : x < n) (ne : x ≠ t) : x ∈ fri n ps t := by
  by_cases q : x ∈ fri n ps t
  · exact q
  · have nt : t ∉ fri n ps t := fun z => fri_ne N z rfl
    have nd : (x :: t :: fri n ps t).Nodup := List.nodup_cons.mpr ⟨fun z => by
      rcases List.mem_cons.mp z with z | z
      · exact ne z
      · exact q z, List.nodup_cons.mpr ⟨nt, fri_nd n ps t⟩⟩
    have := sub_len nd (upto_nodup 0 n) fun k hk => by
      rcases List.mem_cons.mp hk with e | hk
      · rw [e]; exact mem_upto.mpr ⟨x0, x1⟩
      · rcases List.mem_cons.mp hk with e | hk
        · rw [e]; exact mem_upto.mpr ⟨t0, t1⟩
        · exact mem_upto.mpr (fri_in hk)
    rw [upto_len, List.length_cons, List.length_cons] at this
    omega
theorem two_of {l : List Int} (nd : l.Nodup) (hl : l.length = 2) (h : t ∈ l) {p : Int → Bool} (hp : ∀ x ∈ l, p x = true ↔ x ≠ t) : (l.filter p).length = 1 := by
  match l, hl with
  | [x, y], _ =>
    have ne : x ≠ y := fun e => by
      rw [e] at nd
      simp at nd
    have hx := hp x (by simp)
    have hy := hp y (by simp)
    rcases List.mem_cons.mp h with e | h
    · subst e
      have p1 : p t = false := by
        cases q : p t with
        | true => exact (hx.mp q rfl).elim
        | false => rfl
      have p2 : p y = true := hy.mpr (Ne.symm ne)
      simp [p1, p2]
    · have e : t = y := List.mem_singleton.mp h
      subst e
      have p1 : p t = false := by
        cases q : p t with
        | true => exact (hy.mp q rfl).elim
        | false => rfl
      have p2 : p x = true := hx.mpr ne
      simp [p1, p2]
/-- a hub, the others with two friends each -/
structure Mill (n : Int) (ps : List Pr) (t : Int) : Prop where
  t0 : 0 ≤ t
  t1 : t < n
  top : ((fri n ps t).length : Int) = n - 1
  two : ∀ h, 0 ≤ h → h < n → h ≠ t → (fri n ps h).length = 2
theorem isW_iff (N : Net n ps) : isW n ps = true ↔ n = 1 ∨ (Mill n ps ((topsM n ps).getD 0 0) ∧ topsM n ps ≠ []) := by
  unfold isW
  simp only [Bool.or_eq_true, decide_eq_true_eq, Bool.and_eq_true, Bool.not_eq_true', decide_eq_false_iff_not]
  constructor
  · rintro (h | ⟨h1, h2⟩)
    · exact .inl h
    · have m := mem_tops.mp (tops_get h1)
      exact .inr ⟨⟨m.1.1, m.1.2, m.2, bad_nil.mp h2⟩, h1⟩
  · rintro (h | ⟨h1, h2⟩)
    · exact .inl h
    · exact .inr ⟨h2, bad_nil.mpr h1.two⟩
theorem mill_same (N : Net n ps) (M : Mill n ps t) : Same n ps 1 := by
  have hub : ∀ x, 0 ≤ x → x < n → x ≠ t → x ∈ fri n ps t := fun x x0 x1 ne => hub_all N M.t0 M.t1 M.top x0 x1 ne
  have one : ∀ b, 0 ≤ b → b < n → b ≠ t → (com n ps b t).length = 1 := fun b b0 b1 ne => by
    have tb : t ∈ fri n ps b := fri_sym M.t0 M.t1 (hub b b0 b1 ne)
    unfold com
    refine two_of (fri_nd n ps b) (M.two b b0 b1 ne) tb fun x hx => ?_
    rw [decide_eq_true_eq]
    have := fri_in hx
    exact ⟨fun q => fri_ne N q, fun q => hub x this.1 this.2 q⟩
  intro a b a0 a1 b0 b1 ne
  by_cases ea : a = t
  · subst ea
    rw [comC]
    exact one b b0 b1 (Ne.symm ne)
  · by_cases eb : b = t
    · subst eb
      exact one a a0 a1 ea
    · have all : ∀ y ∈ com n ps a b, y = t := fun y hy => by
        obtain ⟨ya, yb⟩ := mem_com.mp hy
        have yi := fri_in ya
        by_cases e : y = t
        · exact e
        · have d2 := M.two y yi.1 yi.2 e
          have nd : [t, a, b].Nodup := by simp [Ne.symm ea, Ne.symm eb, ne]
          have := sub_len nd (fri_nd n ps y) fun k hk => by
            rcases List.mem_cons.mp hk with e1 | hk
            · rw [e1]; exact fri_sym M.t0 M.t1 (hub y yi.1 yi.2 e)
            · rcases List.mem_cons.mp hk with e1 | hk
              · rw [e1]; exact fri_sym a0 a1 ya
              · rw [List.mem_singleton.mp hk]; exact fri_sym b0 b1 yb
          rw [d2] at this
          simp at this
      have tin : t ∈ com n ps a b := mem_com.mpr ⟨fri_sym M.t0 M.t1 (hub a a0 a1 ea), fri_sym M.t0 M.t1 (hub b b0 b1 eb)⟩
      have e : com n ps a b = [t] := lt_unique (com_lt n ps a b) (by simp) fun k => by
        rw [List.mem_singleton]
        exact ⟨all k, fun e => e ▸ tin⟩
      rw [e]
      rfl
theorem isW_one (N : Net n ps) (h : isW n ps = true) : oneM n ps = true := by
  rcases (isW_iff N).mp h with e | ⟨M, _⟩
  · refine one_same.mpr fun a b a0 a1 b0 b1 ne => ?_
    omega
  · exact one_same.mpr (mill_same N M)
/-- not joined: as many friends -/
theorem apart_deg {c : Nat} (S : ∀ x, 0 ≤ x → x < n → x ∈ fri n ps a → x ≠ b → (com n ps x b).length = c) (S' : ∀ y, 0 ≤ y → y < n → y ∈ fri n ps b → y ≠ a → (com n ps a y).length = c) (hc : 1 ≤ c) (a0 : 0 ≤ a) (a1 : a < n) (b0 : 0 ≤ b) (b1 : b < n) (q : b ∉ fri n ps a) : (fri n ps a).length = (fri n ps b).length := by
  have w := walks (ps := ps) a0 a1 b0 b1
  have s1 := sum_one (fri_nd n ps a) b c (fri n ps b).length (fun x => (com n ps x b).length) (fun x hx hne => S x (fri_in hx).1 (fri_in hx).2 hx hne) (by rw [comS])
  have s2 := sum_one (fri_nd n ps b) a c (fri n ps a).length (fun x => (com n ps a x).length) (fun x hx hne => S' x (fri_in hx).1 (fri_in hx).2 hx hne) (by rw [comS])
  have q2 : a ∉ fri n ps b := fun z => q (fri_sym b0 b1 z)
  rw [if_neg q, if_neg q] at s1
  rw [if_neg q2, if_neg q2] at s2
  have key : c * (fri n ps a).length = c * (fri n ps b).length := by omega
  exact Nat.eq_of_mul_eq_mul_left (by omega) key
theorem one_isW (N : Net n ps) (n11 : n ≤ 11) (h : oneM n ps = true) : isW n ps = true := by
  have S := one_same.mp h
  have n1 := N.n1
  refine (isW_iff N).mpr ?_
  by_cases e1 : n = 1
  · exact .inl e1
  have ap : ∀ a b, 0 ≤ a → a < n → 0 ≤ b → b < n → a ≠ b → b ∉ fri n ps a → (fri n ps a).length = (fri n ps b).length := fun a b a0 a1 b0 b1 ne q =>
    apart_deg (c := 1) (fun x x0 x1 _ hne => S x b x0 x1 b0 b1 hne) (fun y y0 y1 _ hne => S a y a0 a1 y0 y1 (Ne.symm hne)) (by omega) a0 a1 b0 b1 q
  have hub : ∃ t, 0 ≤ t ∧ t < n ∧ ∀ x, 0 ≤ x → x < n → x ≠ t → x ∈ fri n ps t := by
    by_cases reg : ∀ x, 0 ≤ x → x < n → (fri n ps x).length = (fri n ps 0).length
    · have w := walks2 (n := n) (ps := ps) (a := 0) (Int.le_refl 0) (by omega)
      have s1 := sum_eq (A := fri n ps 0) (c := (fri n ps 0).length) (f := fun x => (fri n ps x).length) fun x hx => reg x (fri_in hx).1 (fri_in hx).2
      have s2 := sum_one (upto_nodup 0 n) 0 1 (fri n ps 0).length (fun y => (com n ps 0 y).length) (fun y hy hne => S 0 y (Int.le_refl 0) (by omega) (mem_upto.mp hy).1 (mem_upto.mp hy).2 (Ne.symm hne)) (by rw [comS])
      rw [if_pos (mem_upto.mpr ⟨Int.le_refl 0, by omega⟩), if_pos (mem_upto.mpr ⟨Int.le_refl 0, by omega⟩), upto_len] at s2
      have e := ends N
      rw [sum_eq (c := (fri n ps 0).length) fun x hx => reg x (mem_upto.mp hx).1 (mem_upto.mp hx).2, upto_len] at e
      have lt := fri_len n ps 0
      generalize hk : (fri n ps 0).length = k at w s1 s2 e lt reg
      have key : k * k + 1 = (n - 0).toNat + k := by omega
      have k3 : k ≤ 3 := by
        by_cases big : 4 ≤ k
        · have : 4 * k ≤ k * k := Nat.mul_le_mul_right k big
          omega
        · omega
      have kc : k = 0 ∨ k = 1 ∨ k = 2 ∨ k = 3 := by omega
      rcases kc with rfl | rfl | rfl | rfl
      · omega
      · omega
      · have n3 : n = 3 := by omega
        subst n3
        exact ⟨0, by decide, by decide, fun x x0 x1 ne => hub_all N (Int.le_refl 0) (by decide) (by rw [hk]; decide) x0 x1 ne⟩
      · exfalso
        have : (n - 0).toNat = 7 := by omega
        rw [this] at e
        omega
    · have ex : ∃ x, (0 ≤ x ∧ x < n) ∧ (fri n ps x).length ≠ (fri n ps 0).length := by
        by_cases z : ∃ x, (0 ≤ x ∧ x < n) ∧ (fri n ps x).length ≠ (fri n ps 0).length
        · exact z
        · exact (reg fun x x0 x1 => by
            by_cases y : (fri n ps x).length = (fri n ps 0).length
            · exact y
            · exact (z ⟨x, ⟨x0, x1⟩, y⟩).elim).elim
      obtain ⟨b, ⟨b0, b1⟩, hb⟩ := ex
      have adj : ∀ x y, 0 ≤ x → x < n → 0 ≤ y → y < n → (fri n ps x).length ≠ (fri n ps y).length → y ∈ fri n ps x := fun x y x0 x1 y0 y1 hne => by
        by_cases q : y ∈ fri n ps x
        · exact q
        · exact (hne (ap x y x0 x1 y0 y1 (fun e => hne (by rw [e])) q)).elim
      by_cases two : ∃ x, (0 ≤ x ∧ x < n) ∧ x ≠ 0 ∧ (fri n ps x).length = (fri n ps 0).length
      · obtain ⟨a, ⟨a0, a1⟩, ane, ha⟩ := two
        refine ⟨b, b0, b1, fun x x0 x1 ne => ?_⟩
        by_cases q : (fri n ps x).length = (fri n ps b).length
        · exfalso
          have c1 : x ∈ com n ps 0 a := mem_com.mpr ⟨adj 0 x (Int.le_refl 0) (by omega) x0 x1 (by omega), adj a x a0 a1 x0 x1 (by omega)⟩
          have c2 : b ∈ com n ps 0 a := mem_com.mpr ⟨adj 0 b (Int.le_refl 0) (by omega) b0 b1 (by omega), adj a b a0 a1 b0 b1 (by omega)⟩
          have l1 := S 0 a (Int.le_refl 0) (by omega) a0 a1 (Ne.symm ane)
          have := sub_len (M := [x, b]) (by simp [ne]) (com_nd n ps 0 a) fun k hk => by
            rcases List.mem_cons.mp hk with e | hk
            · rw [e]; exact c1
            · rw [List.mem_singleton.mp hk]; exact c2
          rw [l1] at this
          simp at this
        · exact adj b x b0 b1 x0 x1 (Ne.symm q)
      · refine ⟨0, Int.le_refl 0, by omega, fun x x0 x1 ne => adj 0 x (Int.le_refl 0) (by omega) x0 x1 fun e => two ⟨x, ⟨x0, x1⟩, ne, e.symm⟩⟩
  obtain ⟨h, h0, h1, hall⟩ := hub
  have d2 : ∀ x, 0 ≤ x → x < n → x ≠ h → (fri n ps x).length = 2 := fun x x0 x1 ne => by
    have hx : h ∈ fri n ps x := fri_sym h0 h1 (hall x x0 x1 ne)
    have l1 := S x h x0 x1 h0 h1 ne
    unfold com at l1
    have e : (fri n ps x).filter (fun k => decide (k ∈ fri n ps h)) = (fri n ps x).filter fun k => !decide (k = h) := List.filter_congr fun k hk => by
      have ki := fri_in hk
      by_cases q : k = h
      · subst q
        have : k ∉ fri n ps k := fun z => fri_ne N z rfl
        simp [this]
      · simp [q, hall k ki.1 ki.2 q]
    rw [e] at l1
    have p : (fri n ps x).Perm (h :: (fri n ps x).filter fun k => !decide (k = h)) := (List.perm_ext_iff_of_nodup (fri_nd n ps x) (List.nodup_cons.mpr ⟨by simp, (fri_nd n ps x).filter _⟩)).mpr fun k => by
      rw [List.mem_cons, List.mem_filter]
      by_cases q : k = h
      · subst q
        simp [hx]
      · simp [q]
    rw [p.length_eq, List.length_cons, l1]
  have dh : ((fri n ps h).length : Int) = n - 1 := by
    have e : fri n ps h = (upto 0 n).filter fun k => !decide (k = h) := lt_unique (fri_lt n ps h) ((upto_pw 0 n).filter _) fun k => by
      rw [List.mem_filter, mem_upto]
      constructor
      · intro q
        exact ⟨fri_in q, by simp [fri_ne N q]⟩
      · intro q
        exact hall k q.1.1 q.1.2 (by simpa using q.2)
    have p : (upto 0 n).Perm (h :: (upto 0 n).filter fun k => !decide (k = h)) := (List.perm_ext_iff_of_nodup (upto_nodup 0 n) (List.nodup_cons.mpr ⟨by simp, (upto_nodup 0 n).filter _⟩)).mpr fun k => by
      rw [List.mem_cons, List.mem_filter]
      by_cases q : k = h
      · subst q
        simp [mem_upto]
        omega
      · simp [q]
    have := p.length_eq
    rw [← e, upto_len, List.length_cons] at this
    omega
  have ht : h ∈ topsM n ps := mem_tops.mpr ⟨⟨h0, h1⟩, dh⟩
  have ne : topsM n ps ≠ [] := List.ne_nil_of_mem ht
  have m := mem_tops.mp (tops_get ne)
  refine .inr ⟨⟨m.1.1, m.1.2, m.2, fun x x0 x1 xt => ?_⟩, ne⟩
  by_cases xh : x = h
  · subst xh
    have := d2 _ m.1.1 m.1.2 (Ne.symm xt)
    have m2 := m.2
    rw [this] at m2
    omega
  · exact d2 x x0 x1 xh
theorem W_eq (N : Net n ps) (n11 : n ≤ 11) : isW n ps = oneM n ps := by
  cases h : oneM n ps with
  | true => exact one_isW N n11 h
  | false =>
    cases k : isW n ps with
    | false => rfl
    | true => rw [isW_one N k] at h; cases h
/-- an odd number of halls; three pairs to two halls -/
theorem mill_pairs (N : Net n ps) (M : Mill n ps t) : 2 * (ps.length : Int) = 3 * (n - 1) := by
  have e := ends N
  have s := sum_one (upto_nodup 0 n) t 2 (fri n ps t).length (fun h => (fri n ps h).length) (fun x hx hne => M.two x (mem_upto.mp hx).1 (mem_upto.mp hx).2 hne) rfl
  rw [if_pos (mem_upto.mpr ⟨M.t0, M.t1⟩), if_pos (mem_upto.mpr ⟨M.t0, M.t1⟩), upto_len] at s
  have := M.top
  have := M.t0
  have := M.t1
  omega
def bladeM (ps : List Pr) (t : Int) : List Pr := ps.filter fun p => !decide (t = p.1 ∨ t = p.2)
theorem blade_len (N : Net n ps) (M : Mill n ps t) : 2 * ((bladeM ps t).length : Int) = n - 1 := by
  have e1 : (rowM ps t).length + (bladeM ps t).length = ps.length := by
    unfold rowM bladeM
    have : ∀ l : List Pr, (l.filterMap (hitM t)).length + (l.filter fun p => !decide (t = p.1 ∨ t = p.2)).length = l.length := fun l => by
      induction l with
      | nil => rfl
      | cons p l ih =>
        rw [List.filterMap_cons, List.filter_cons, List.length_cons]
        by_cases q1 : p.1 = t
        · have hh : hitM t p = some p.2 := if_pos q1
          have dd : decide (t = p.1 ∨ t = p.2) = true := decide_eq_true (.inl q1.symm)
          rw [hh, dd, if_neg (by decide)]
          show (p.2 :: l.filterMap (hitM t)).length + _ = _
          rw [List.length_cons]
          omega
        · by_cases q2 : p.2 = t
          · have hh : hitM t p = some p.1 := (if_neg q1).trans (if_pos q2)
            have dd : decide (t = p.1 ∨ t = p.2) = true := decide_eq_true (.inr q2.symm)
            rw [hh, dd, if_neg (by decide)]
            show (p.1 :: l.filterMap (hitM t)).length + _ = _
            rw [List.length_cons]
            omega
          · have hh : hitM t p = none := (if_neg q1).trans (if_neg q2)
            have dd : decide (t = p.1 ∨ t = p.2) = false := decide_eq_false fun z => z.elim (fun z => q1 z.symm) fun z => q2 z.symm
            rw [hh, dd, if_pos (by decide), List.length_cons]
            show (l.filterMap (hitM t)).length + _ = _
            omega
    exact this ps
  rw [rowM_fri N] at e1
  have := mill_pairs N M
  have := M.top
  omega
theorem W_odd (N : Net n ps) (h : isW n ps = true) : n % 2 = 1 := by
  rcases (isW_iff N).mp h with e | ⟨M, _⟩
  · omega
  · have := mill_pairs N M
    omega
end
end FW

set_option Elab.async false
set_option linter.all false
set_option maxRecDepth 100000
set_option maxHeartbeats 4000000
/-! values of any kind as nets; enumerate; comprehensions over pairs of data; empty dicts -/
namespace NB
open PySem L2 Evl
section
variable {X : Cx} {env env1 : En} {a iter elt : Expr} {pos : Pos} {ds : List PyData} {ifs : List Expr} {scope : Scope} {P : Post} {st : List Stmt}
/-- no value is such: the way is never taken -/
theorem h_bad (j : Nat) {k : PyData × PyData} {r : List (PyData × PyData)} (h : env[j]? = some (.d (.dict (k :: r)))) : HD X st env P := pss_imp h_never fun D σ H ⟨Γ, z, sd, _⟩ => by
  obtain ⟨v, _, h2⟩ := sd.var h
  cases h2
theorem pd_dict0 : PD X (.Dict [] [] pos) env (.dict []) env := pe_imp pe_dnewK fun σ H Q ⟨Γ, z, sd, k⟩ p hp => k _ _ (cut_ex (Ex.new hp)) (sd.grow (Ex.new hp)) (.dct (cut_of (sd.zfresh hp) upd_same))
def enD (ds : List PyData) : List PyData := (List.range ds.length).map fun i => .tuple [.int ((i : Nat) : Int), ds.getD i .none]
theorem it_enum {es : List Expr} {kk : Nat} {p tp : Pos} (hm : X.mg "enumerate" = none) (ha : PD X a env (.list ds) env1) (hg : Gl X "enumerate" := by rfl) (hs : starEach [a] X.env = [(false, eval a X.env)] := by rfl) :
    PID X (.Tuple es kk tp) (.Call (.Name "enumerate" p) [a] [] pos) env (enD ds) env1 := pi_imp (pi_enum hg hm (pad_cons ha pad_nil (by rw [hs]; rfl)) hs) fun σ H R ⟨Γ, z, sd, k⟩ => ⟨Γ, z, sd, fun vs H' ex sd' hd => by
  cases hd with
  | cons q1 q2 =>
    cases q2
    cases q1 with
    | @lst b xs _ hs ha =>
      have hl := dpa_len ha
      refine ⟨b, xs, rfl, ex_l cut_sub hs, k _ H' ex sd' ⟨fun H => SqL X.K H b xs, YPair (fun i => some (.int (i : Nat))) (fun i => xs[i]?), ?_, fun H2 z2 e2 => ex_l cut_sub (ex_l e2 hs), fun i Hc zc x H2 hi ec zd y => ?_⟩⟩
      · have e : (enD ds).length = xs.length := by simp [enD, hl]
        rw [e]
        exact walk_enum
      · obtain ⟨T, u, v, rfl, hT, rfl, hu, hv⟩ := y
        cases hu
        have hi' : i < ds.length := by simpa [enD] using hi
        obtain ⟨d, hd, hp⟩ := dpa_get' ha hv
        refine ⟨Ex.new hT, .tuple [.int ((i : Nat) : Int), ds.getD i .none], by simp [enD, hi'], .tup (st_of (cut_of (zfree zd hT) upd_same)) (.cons (.int _) (.cons ?_ .nil))⟩
        rw [List.getD_eq_getElem?_getD, hd]
        exact Dpm (cut_ex (Ex.new hT)) (Dpm ec hp)⟩
abbrev tpD (t : PyData × PyData) : PyData := .tuple [t.1, t.2]
abbrev prT (e : En) (i j : Nat) (t : PyData × PyData) : En := (((e.set j .u).set i .u).set i (.d t.1)).set j (.d t.2)
def twoOf : PyData → PyData × PyData
  | .tuple [x, y] => (x, y)
  | _ => (.none, .none)
/-- [elt for x, z in iter if ..], the items pairs of any data -/
theorem pf_lcT (i j : Nat) {x z : Str} {es : List Expr} {kk : Nat} {p : Pos} {ts : List (PyData × PyData)} (cnd : PyData × PyData → Bool) (y : PyData × PyData → PyData) (hc : X.calm = true) (hN : X.N.Nodup) (it : PID X (.Tuple es kk p) iter env (ts.map tpD) env1) (ok : BlkOk X.N X.env.scope scope [(x, i), (z, j)])
    (ht : ∀ (s : Shared) (H : Hp) (C : Addr) (cl : List (Str × Addr)) (fp : List Addr) q, q ∈ ts → PTs (X.blk s H scope (compEnvC scope cl C X.env) fp) ifs (tT X.K X.w (prT env1 i j q) (cnd q) (prT env1 i j q)))
    (he : ∀ (s : Shared) (H : Hp) (C : Addr) (cl : List (Str × Addr)) (fp : List Addr) q, q ∈ ts → cnd q = true → PD (X.blk s H scope (compEnvC scope cl C X.env) fp) elt (prT env1 i j q) (y q) (prT env1 i j q))
    (hgg : ∀ (s : Shared) (H : Hp) (C : Addr) (cl : List (Str × Addr)) (fp : List Addr), PG (X.blk s H scope (compEnvC scope cl C X.env) fp) (.Tuple es kk p) (gTup X.K 2 (gCons (gName i) (gCons (gName j) gNil))))
    (hli : i < env1.length) (hlj : j < env1.length) (hn : ts.length < 100000) (hki : keepD (env1.getD i .u) = env1.getD i .u := by rfl) (hkj : keepD (env1.getD j .u) = env1.getD j .u := by rfl)
    (hs : ∀ x, foldedSetIterable iter X.env x = pure x := by intro _; rfl) : PF X (.ListComp elt [⟨.Tuple es kk p, iter, ifs, 0⟩] scope pos) env ((ts.filter cnd).map y) env1 := by
  have get : ∀ {k : Nat} {d : PyData}, (ts.map tpD)[k]? = some d → ∃ q, ts[k]? = some q ∧ d = tpD q := fun {k d} h => by
    rw [List.getElem?_map] at h
    cases e : ts[k]? with
    | none => rw [e] at h; cases h
    | some q => rw [e] at h; exact ⟨q, rfl, (Option.some.inj h).symm⟩
  have q := pf_lc (own := [(x, i), (z, j)]) (g := gTup X.K 2 (gCons (gName i) (gCons (gName j) gNil))) (elt := elt) (ifs := ifs) (pos := pos) hc hN it ok (fun _ => env1) (fun i => ((ts.take i).filter cnd).map y) (fun _ d => prT env1 i j (twoOf d)) (fun _ d => prT env1 i j (twoOf d)) (fun _ d => prT env1 i j (twoOf d)) (fun _ d => cnd (twoOf d)) (fun _ d => y (twoOf d))
    hgg (fun s H C cl fp k d h => by
      obtain ⟨q, hq, rfl⟩ := get h
      exact ht s H C cl fp q (List.mem_of_getElem? hq)) (fun s H C cl fp k d h hc => by
      obtain ⟨q, hq, rfl⟩ := get h
      exact he s H C cl fp q (List.mem_of_getElem? hq) hc) (fun k d h => by
      obtain ⟨q, hq, rfl⟩ := get h
      exact gt_pair i j (.inl rfl) (by show i < ((env1.set j .u).set i .u).length; simp; exact hli) (by show j < ((env1.set j .u).set i .u).length; simp; exact hlj)) (Le.refl _) (by simp)
    (fun k d h => by
      obtain ⟨q, hq, rfl⟩ := get h
      constructor
      · show ((ts.take (k + 1)).filter cnd).map y = if cnd q = true then ((ts.take k).filter cnd).map y ++ [y q] else ((ts.take k).filter cnd).map y
        rw [List.take_add_one, hq, List.filter_append]
        by_cases r : cnd q = true
        · simp [r]
        · simp [r]
      · refine Le.of_eq ?_
        have e1 : (if cnd (twoOf (tpD q)) = true then prT env1 i j (twoOf (tpD q)) else prT env1 i j (twoOf (tpD q))) = prT env1 i j q := by split <;> rfl
        rw [e1]
        exact (mix_self2 hki hkj).symm) (fun k h => by
      rw [List.length_map]
      have a1 := List.length_filter_le cnd (ts.take k)
      have a2 : (ts.take k).length ≤ ts.length := by rw [List.length_take]; omega
      omega) hs
  rw [List.length_map, List.take_length] at q
  exact q
end
end NB
namespace LO
open PySem L2 Evl NB LW LP NBI LM LG FM LS FW
def isPairD (n : Int) : PyData → Bool
  | .tuple [a, b] => match a with
    | .int i => (decide (0 ≤ i) && decide (i ≤ n - 1)) && numOk b (i + 1) (n - 1)
    | _ => false
  | _ => false
def lpv : PyData → List Int
  | .tuple [.int a, .int b] => [a, b]
  | _ => []
def leV (ns ms : List Int) : Bool := Ob.lexAt (fun j => decide (ns.getD j 0 = ms.getD j 0)) (fun j => decide (ns.getD j 0 ≤ ms.getD j 0)) (decide (ns.length ≤ ms.length)) 0 (min ns.length ms.length)
def okFrom (n : Int) : List Int → List PyData → Bool
  | _, [] => true
  | bf, v :: r => if isPairD n v && !leV (lpv v) bf then okFrom n (lpv v) r else false
def arePairsD (n : Int) : PyData → Bool
  | .tuple ds => okFrom n [] ds
  | _ => false
def wrongD : PyData → PyData
  | .tuple [a, p] => match a with
    | .int n => if numOk (.int n) 1 60 then (if arePairsD n p then .none else .str "pairs") else .str "halls"
    | _ => .str "halls"
  | _ => .str "whole"
theorem pair_inv {n : Int} {v : PyData} (h : isPairD n v = true) : ∃ a b : Int, v = .tuple [.int a, .int b] ∧ lpv v = [a, b] := by
  unfold isPairD at h
  split at h
  · rename_i a b
    cases a with
    | int i =>
      cases b with
      | int b => exact ⟨i, b, rfl, rfl⟩
      | none => simp [numOk] at h
      | bool b => simp [numOk] at h
      | str b => simp [numOk] at h
      | list b => simp [numOk] at h
      | tuple b => simp [numOk] at h
      | dict b => simp [numOk] at h
    | none => cases h
    | bool b => cases h
    | str b => cases h
    | list b => cases h
    | tuple b => cases h
    | dict b => cases h
  · cases h
def RPairG (ds : List PyData) (d : PyData) : Prop := ∃ (n : Int) (v : PyData), ds = [.int n, v] ∧ d = .bool (isPairD n v)
def RAreG (ds : List PyData) (d : PyData) : Prop := ∃ (n : Int) (v : PyData), ds = [.int n, v] ∧ d = .bool (arePairsD n v)
def RWrongG (ds : List PyData) (d : PyData) : Prop := ∃ v : PyData, ds = [v] ∧ d = wrongD v
def RIsNetG (ds : List PyData) (d : PyData) : Prop := ∃ v : PyData, ds = [v] ∧ d = .bool (NB.isNon (wrongD v))
def bfI (ds : List PyData) : Nat → List Int
  | 0 => []
  | i + 1 => lpv (ds.getD i .none)
def goodI (n : Int) (ds : List PyData) (i : Nat) : Bool := okFrom n [] ds == okFrom n (bfI ds i) (ds.drop i)
def badS : Sl := .d (.dict [(.none, .none)])
/-! the halls joined to all others -/
def RHubs (ds : List PyData) (d : PyData) : Prop := ∃ (n : Int) (ps : List Pr), Net n ps ∧ ps.length < 100000 ∧ ds = [netD n ps] ∧ d = .tuple (iD (topsM n ps))
def hubT (n : Int) (ps : List Pr) : List (PyData × PyData) := (upto 0 n).map fun h => (.int h, .list (iD (fri n ps h)))
def hubC (n : Int) (t : PyData × PyData) : Bool := match t.2 with | .list xs => decide ((xs.length : Int) = n - 1) | _ => false
theorem en_rows {n : Int} {ps : List Pr} : enD ((upto 0 n).map fun h => PyData.list (iD (fri n ps h))) = (hubT n ps).map tpD := by
  unfold enD hubT
  apply List.ext_getElem?
  intro i
  rw [List.map_map, List.getElem?_map, List.getElem?_map]
  by_cases hi : i < (n - 0).toNat
  · rw [List.getElem?_range (by rw [List.length_map, upto_len]; exact hi), upto_get hi]
    show some (PyData.tuple [.int ((i : Nat) : Int), (List.map (fun h => PyData.list (iD (fri n ps h))) (upto 0 n)).getD i PyData.none]) = some (PyData.tuple [.int (0 + (i : Nat)), .list (iD (fri n ps (0 + (i : Nat))))])
    rw [List.getD_eq_getElem?_getD, List.getElem?_map, upto_get hi]
    simp
  · rw [List.getElem?_eq_none (by rw [List.length_range, List.length_map, upto_len]; omega), List.getElem?_eq_none (l := upto 0 n) (by rw [upto_len]; omega)]
    rfl
theorem hub_res {n : Int} {ps : List Pr} : ((hubT n ps).filter (hubC n)).map (fun t => t.1) = iD (topsM n ps) := by
  have e : (hubC n ∘ fun h : Int => ((.int h, .list (iD (fri n ps h))) : PyData × PyData)) = fun h => decide (((fri n ps h).length : Int) = n - 1) := by
    funext h
    simp [hubC, iD]
  unfold hubT topsM
  rw [List.filter_map, e, List.map_map]
  rfl
end LO

set_option Elab.async false
set_option linter.all false
set_option maxRecDepth 100000
set_option maxHeartbeats 4000000
/-! enumerate(list, start=k) -/
namespace NB
open PySem PySem.Spec PyProof.Rows L2 Evl
/-- the items of the list at l, each in a new pair with its count from c on -/
def ItC (K : PySem.W.Frag) (l : Addr) (c : Int) : It where
  go := fun i G => ∃ (ys : List V) (y : V), SqL K G l ys ∧ ys[i]? = some y
  yld := fun i G v G' => ∃ p y, v = .ref p ∧ G p = none ∧ G' = upd G p (.tup [.int (c + (i : Nat)), y]) ∧ ∀ ys, SqL K G l ys → ys[i]? = some y
  stop := fun i G => ∃ ys : List V, SqL K G l ys ∧ ys.length ≤ i
theorem walk_C {K : PySem.W.Frag} {l : Addr} {c : Int} {ys : List V} : Walk (ItC K l c) ys.length (fun G => SqL K G l ys) (YPair (fun i => some (.int (c + (i : Nat)))) (fun i => ys[i]?)) where
  goes := fun i _ hi q => ⟨ys, ys[i], q, by simp [hi]⟩
  stops := fun _ q => ⟨ys, q, Nat.le_refl _⟩
  yields := fun i G v G' _ q ⟨p, y, h1, h2, h3, h4⟩ => ⟨p, .int (c + (i : Nat)), y, h1, h2, h3, rfl, h4 ys q⟩
theorem turn_C {P : Program} {w : World} {K : PySem.W.Frag} {elts : List Expr} {kk : Nat} {tpos : Pos} (l en li : Addr) (c : Int) (hnl : l ≠ li) (hne : en ≠ li) (hnl2 : en ≠ l) :
    Turn P w K (.Tuple elts kk tpos) (ItC K l c) [en, li] en (fun i h => (∃ old, IsEnum h en li (c + (i : Nat)) old) ∧ h.IsListIter li l i) := by
  refine ⟨List.mem_cons_self, fun i h st b hb => ?_, fun i h h' st kp => ?_, ?_, ?_, fun A i s Q E st h => ?_⟩
  · obtain ⟨⟨old, he⟩, o, ho, hcl, hdt⟩ := st
    rcases List.mem_cons.mp hb with rfl | hb
    · exact ⟨_, he, fun v q => nomatch q⟩
    · obtain rfl := List.mem_singleton.mp hb
      exact ⟨o, ho, fun v q => by rw [hdt] at q; cases q⟩
  · obtain ⟨⟨old, he⟩, hi⟩ := st
    exact ⟨⟨old, kp en List.mem_cons_self _ he⟩, hi.at fun o q => kp li (List.mem_cons_of_mem _ List.mem_cons_self) o q⟩
  · intro X hP hw hK hc i pins s σ G E I hf st hg
    subst hP hw hK
    obtain ⟨⟨old, he⟩, hit⟩ := st
    obtain ⟨ys, y, hq, hy⟩ := hg
    obtain ⟨its, rv, pl, hz⟩ := I.list hq
    obtain ⟨u, hu, ru⟩ := rv.get hy
    have hh : X.A.in1.handled = none := I.ok.hd hc
    have l1 : en < s.heap.objs.size := Heap.lt_size he
    have l2 : li < s.heap.objs.size := by obtain ⟨_, q, _⟩ := hit; exact Heap.lt_size q
    have isz : i < its.toArray.size := by
      have := (List.getElem?_eq_some_iff.mp hu).1
      simpa using this
    refine wpAny_pyNext_enum_itemC (Draws.list hh li l hnl its.toArray) he ⟨hit, pl.isList⟩ isz hne (by simp [hne, hnl2]) fun x h' tk hx ho hst hT hsz hk => ?_
    have hx : its[i]? = some x := by simpa using hx
    rw [hu] at hx
    obtain rfl := Option.some.inj hx
    refine ⟨_, rfl, wpAny_letOwnedTupleGo_enum (s := { s with heap := h', toks := tk + 1 }) ho fun h'' he' sb => ?_⟩
    have hT2 : h''.get? s.heap.objs.size = some { cls := .type "tuple", data := .seq #[.int (c + (i : Nat)) tk, u] } := (sb.2 _ (Nat.ne_of_gt l1)).trans hT
    have new : ObjOk X.prog X.w (upd G s.heap.objs.size (.tup [.int (c + (i : Nat)), y])) h'' s.heap.objs.size (.tup [.int (c + (i : Nat)), y]) := by
      refine ⟨?_, [.int (c + (i : Nat)) tk, u], .cons ⟨_, rfl⟩ (.cons ru .nil), ⟨_, hT2, rfl, _, rfl⟩⟩
      show 2 ≤ sizeLine
      decide
    have I1 : Inv X pins σ (upd G s.heap.objs.size (.tup [.int (c + (i : Nat)), y])) { s with heap := h'', toks := tk + 1 } := by
      refine I.turnedNew (ch := [en, li]) (fun b ob hb q => ?_) hf (Nat.le_refl _) new
      have b1 : b ≠ en := fun z => hb (z ▸ List.mem_cons_self)
      have b2 : b ≠ li := fun z => hb (z ▸ List.mem_cons_of_mem _ List.mem_cons_self)
      exact (sb.2 b b1).trans (hk b ob b1 b2 q)
    refine ⟨.ref s.heap.objs.size, _, I1, rfl, ⟨_, y, rfl, I.hok.fresh (Nat.le_refl _), rfl, fun zs hzs => ?_⟩, ⟨⟨u, ?_⟩, hst.1.at fun o q => (sb.2 li (Ne.symm hne)).trans q⟩, fun b hb => ?_⟩
    · rw [I.list_inj hzs hq]
      exact hy
    · rw [show c + ((i + 1 : Nat) : Int) = c + (i : Nat) + 1 by omega]
      exact he'
    · have hb' : b < s.heap.objs.size := by
        rcases List.mem_cons.mp hb with rfl | hb
        · exact l1
        · obtain rfl := List.mem_singleton.mp hb
          exact l2
      rw [upd_ne (Nat.ne_of_lt hb')]
      exact (hf b hb).1
  · intro X hP hw hK hc i pins s σ G E I hf st hg
    subst hP hw hK
    obtain ⟨⟨old, he⟩, hit⟩ := st
    obtain ⟨ys, hq, hy⟩ := hg
    obtain ⟨its, rv, pl, hz⟩ := I.list hq
    obtain ⟨f0, f1, f2, f3, f4, f5⟩ := hf li (List.mem_cons_of_mem _ List.mem_cons_self)
    have hl := rv.length
    have hh : X.A.in1.handled = none := I.ok.hd hc
    have D : Draws X.prog X.w X.A.in1 li [li, l] i (fun _ _ => True) (fun j h => j = i ∧ h.IsListIter li l i ∧ h.IsList l its.toArray) := by
      refine ⟨fun j h st => ?_, fun j h h' st kp => ?_, fun j s Q E hj st => ?_, fun s Q E st hE => ?_⟩
      · obtain ⟨o, ho, _⟩ := st.2.1
        exact ⟨o, ho⟩
      · exact ⟨st.1, st.2.1.at fun o q => kp li (by simp) o q, st.2.2.at fun o q => kp l (by simp) o q⟩
      · exact absurd st.1 (Nat.ne_of_lt hj)
      · exact wpAny_nextOf_list_end hh st.2.1 st.2.2 (by simp; omega) hE
    exact wpAny_pyNext_enum_endD D he ⟨rfl, hit, pl.isList⟩ fun h' eb => ⟨rfl, I.turned (t' := s.toks) (fun b o hb q => eb b o hb q) f0 f1 f3 f4 f5⟩
  · obtain ⟨⟨old, he⟩, _⟩ := st
    exact wpAny_pyIter_enum he h
section
variable {X : Cx} {env env1 : En} {a : Expr} {ds : List PyData} {pos : Pos}
/-- for .. in enumerate(a, start=k) -/
theorem pi_enumK {elts : List Expr} {kk j : Nat} {tpos p kp qp : Pos} {c : Int} {ta : TA} (hg : Gl X "enumerate") (hm : X.mg "enumerate" = none) (c0 : -(2 ^ 63) ≤ c) (c1 : c < 2 ^ 63) (ha : PA X [a] ta) (hs : starEach [a] X.env = [(false, eval a X.env)] := by rfl) :
    PI X (.Tuple elts kk tpos) (.Call (.Name "enumerate" p) [a] [⟨some "start", .Constant (.int c) j kp, qp⟩] pos) (fun σ H R => ta σ H fun vs H1 => ∃ l xs, vs = [.ref l] ∧ SqL X.K H1 l xs ∧ R (ItC X.K l c) H1) := by
  refine ⟨fun pins s σ H R I h => ?_⟩
  refine wpAny_Call_Name_kw (ld_blt I hg hm boot_enumerate ?_)
  refine PySem.W.callWith_of (P := fun _ => True) (by rw [hs]; rfl) (fun h _ => ⟨.machine, .inr (.inl rfl), PySem.W.Looks.of_pure rfl⟩) ?_
  refine evalArgs_kw2 (by rfl) (thn (ha.run pos pins s σ H _ I h) fun us s1 ⟨vs, H1, I1, r1, q1⟩ => ?_) hs
  refine kws_cons (wpAny_Constant_int (kws_nil ⟨trivial, ?_⟩))
  obtain ⟨l, xs, rfl, hq, q⟩ := q1
  cases r1 with
  | cons r rr =>
    cases rr
    obtain rfl := r
    obtain ⟨its, rv, pl, hz⟩ := I1.list hq
    have hll : l < s1.heap.objs.size := by obtain ⟨o, ho, _⟩ := pl.isList; exact Heap.lt_size ho
    refine enum_begins_start (begins_list l its.toArray) pl.isList c0 c1 fun h' he hit hsz hk => wpAny_pyIter_enum he ?_
    have I2 : Inv X pins σ H1 { s1 with heap := h', toks := s1.toks + 1 } := I1.kept hk
    have nl : l ≠ s1.heap.objs.size := Nat.ne_of_lt hll
    have nl2 : s1.heap.objs.size + 1 ≠ l := Nat.ne_of_gt (Nat.lt_succ_of_lt hll)
    refine ⟨s1.heap.objs.size + 1, [s1.heap.objs.size + 1, s1.heap.objs.size], _, _, H1, rfl, I2, turn_C l (s1.heap.objs.size + 1) s1.heap.objs.size c nl (Nat.succ_ne_self _) nl2, ⟨⟨.none, ?_⟩, ⟨_, hit, rfl, rfl⟩⟩, fun b hb => ?_, q⟩
    · rw [show c + ((0 : Nat) : Int) = c by omega]
      exact he
    · have hle : s1.heap.objs.size ≤ b := by
        rcases List.mem_cons.mp hb with rfl | hb
        · exact Nat.le_succ _
        · obtain rfl := List.mem_singleton.mp hb
          exact Nat.le_refl _
      exact I1.fpOk hle (I1.hok.fresh hle)
/-- the items in pairs with their counts from c on -/
def enC (c : Int) (ds : List PyData) : List PyData := (List.range ds.length).map fun i => .tuple [.int (c + ((i : Nat) : Int)), ds.getD i .none]
theorem it_enumK {es : List Expr} {kk j : Nat} {p tp kp qp : Pos} {c : Int} (hm : X.mg "enumerate" = none) (ha : PD X a env (.list ds) env1) (c0 : -(2 ^ 63) ≤ c := by decide) (c1 : c < 2 ^ 63 := by decide) (hg : Gl X "enumerate" := by rfl) (hs : starEach [a] X.env = [(false, eval a X.env)] := by rfl) :
    PID X (.Tuple es kk tp) (.Call (.Name "enumerate" p) [a] [⟨some "start", .Constant (.int c) j kp, qp⟩] pos) env (enC c ds) env1 := pi_imp (pi_enumK hg hm c0 c1 (pad_cons ha pad_nil (by rw [hs]; rfl)) hs) fun σ H R ⟨Γ, z, sd, k⟩ => ⟨Γ, z, sd, fun vs H' ex sd' hd => by
  cases hd with
  | cons q1 q2 =>
    cases q2
    cases q1 with
    | @lst b xs _ hs ha =>
      have hl := dpa_len ha
      have e : (enC c ds).length = xs.length := by simp [enC, hl]
      refine ⟨b, xs, rfl, ex_l cut_sub hs, k _ H' ex sd' ⟨fun H => SqL X.K H b xs, YPair (fun i => some (.int (c + (i : Nat)))) (fun i => xs[i]?), by rw [e]; exact walk_C, fun H2 z2 e2 => ex_l cut_sub (ex_l e2 hs), fun i Hc zc x H2 hi ec zd y => ?_⟩⟩
      obtain ⟨T, u, v, rfl, hT, rfl, hu, hv⟩ := y
      cases hu
      have hi' : i < ds.length := by simpa [enC] using hi
      obtain ⟨d, hd, hp⟩ := dpa_get' ha hv
      refine ⟨Ex.new hT, .tuple [.int (c + ((i : Nat) : Int)), ds.getD i .none], by simp [enC, hi'], .tup (st_of (cut_of (zfree zd hT) upd_same)) (.cons (.int _) (.cons ?_ .nil))⟩
      rw [List.getD_eq_getElem?_getD, hd]
      exact Dpm (cut_ex (Ex.new hT)) (Dpm ec hp)⟩
end
end NB

set_option Elab.async false
set_option linter.all false
set_option maxRecDepth 100000
set_option maxHeartbeats 4000000
/-! list(combinations(range(n), 2)) -/
namespace NBI
open PySem PySem.Spec PyProof.Rows L2 Evl NB LW
open Sem (wp)
theorem nolen_cmb : typeLookup (.type "itertools.combinations") "__len__" = pure none := by rw [typeLookup_type, builtinLookup_eq_fast]; kernel_rfl
theorem nohint_cmb : typeLookup (.type "itertools.combinations") "__length_hint__" = pure none := by rw [typeLookup_type, builtinLookup_eq_fast]; kernel_rfl
/-- the tuples handed out so far -/
structure LcG (n : Nat) (lo : Addr) (h : Heap) (as : List Addr) : Prop where
  rise : as.Pairwise (· < ·)
  above : ∀ a ∈ as, lo < a
  pairs : ∀ (j : Nat) (a : Addr), as[j]? = some a → ∃ (q : Nat × Nat) (t1 t2 : Tok), (cps n)[j]? = some q ∧ h.get? a = some { cls := .type "tuple", data := .seq #[.int (q.1 : Nat) t1, .int (q.2 : Nat) t2] }
theorem LcG.there {n : Nat} {lo : Addr} {h : Heap} {as : List Addr} (g : LcG n lo h as) {a : Addr} (ha : a ∈ as) : a < h.objs.size := by
  obtain ⟨j, hj⟩ := List.mem_iff_getElem?.mp ha
  obtain ⟨_, _, _, _, e⟩ := g.pairs j a hj
  exact Heap.lt_size e
section
variable {prog : Program} {w : World} {A : Around} {E : Value → Shared → Prop} {s : Shared}
theorem lc_item {it pool : Addr} {i n : Nat} {acc : Array Value} {Q : Option Value → Shared → Prop} (hacc : ItemsOf (fun i v => ∃ t, v = .int (0 + i * 1) t) acc n) (hne : pool ≠ it) (st : TnC n it pool acc i s.heap) (hg : i < (cps n).length)
    (hQ : ∀ h' (q : Nat × Nat) (t1 t2 : Tok), TnC n it pool acc (i + 1) h' → (cps n)[i]? = some q → h'.get? s.heap.objs.size = some { cls := .type "tuple", data := .seq #[.int (q.1 : Nat) t1, .int (q.2 : Nat) t2] } →
      (∀ b o, b ≠ it → s.heap.get? b = some o → h'.get? b = some o) → Q (some (.ref s.heap.objs.size)) { s with heap := h' }) :
    wpAny (model prog w) A (pyNext (.ref it)) Q E s := by
  obtain ⟨hp, st⟩ := st
  have fin : ∀ (q : Nat × Nat) (h' : Heap), (cps n)[i]? = some q → h'.get? s.heap.objs.size = some { cls := .type "tuple", data := .seq #[acc.getD q.1 .none, acc.getD q.2 .none] } → IsCmb h' it pool 1 (.ref s.heap.objs.size) q.1 q.2 → (∀ b o, b ≠ it → s.heap.get? b = some o → h'.get? b = some o) →
      Q (some (.ref s.heap.objs.size)) { s with heap := h' } := by
    intro q h' hq hT hI hk
    have hm := cpR_mem (List.mem_of_getElem? hq)
    obtain ⟨t1, e1⟩ := acc_at hacc (a := q.1) (by omega)
    obtain ⟨t2, e2⟩ := acc_at hacc (a := q.2) (by omega)
    rw [e1, e2] at hT
    exact hQ h' q t1 t2 ⟨hk pool _ hne hp, .inr ⟨i, q, _, rfl, hq, hI⟩⟩ hq hT hk
  rcases st with ⟨e, q⟩ | ⟨j, p, old, e, e2, q⟩
  · subst e
    have h0 := cps_zero (n := n)
    by_cases h2 : 2 ≤ n
    · rw [if_pos h2] at h0
      rw [if_neg (by omega)] at q
      exact next_first q hp hacc.1 h2 fun h' k1 k2 k3 => fin (0, 1) h' h0 k1 k2 k3
    · rw [if_neg h2] at h0
      rw [List.getElem?_eq_getElem hg] at h0
      cases h0
  · subst e
    have hm := cpR_mem (List.mem_of_getElem? e2)
    have hn := cps_next e2
    rw [List.getElem?_eq_getElem hg] at hn
    exact next_more q hp hacc.1 hm.1 hm.2 (i' := ((cps n)[j + 1]).1) (j' := ((cps n)[j + 1]).2) hn fun h' k1 k2 k3 => fin _ h' (List.getElem?_eq_getElem hg) k1 k2 k3
theorem lc_done {it pool : Addr} {i n : Nat} {acc : Array Value} {Q : Option Value → Shared → Prop} (hh : A.handled = none) (hacc : ItemsOf (fun i v => ∃ t, v = .int (0 + i * 1) t) acc n) (st : TnC n it pool acc i s.heap) (hg : (cps n).length ≤ i)
    (hQ : ∀ h', Heap.ExtBut it s.heap h' → Q none { s with heap := h' }) : wpAny (model prog w) A (pyNext (.ref it)) Q E s := by
  obtain ⟨hp, st⟩ := st
  rcases st with ⟨e, q⟩ | ⟨j, p, old, e, e2, q⟩
  · subst e
    have h0 := cps_zero (n := n)
    rw [List.getElem?_eq_none (by omega)] at h0
    have h2 : ¬ 2 ≤ n := fun h => by rw [if_pos h] at h0; cases h0
    rw [if_pos (by omega)] at q
    exact next_stop hh q hp hacc.1 (.inl rfl) hQ
  · subst e
    have hm := cpR_mem (List.mem_of_getElem? e2)
    have hn := cps_next e2
    rw [List.getElem?_eq_none (by omega)] at hn
    exact next_stop hh q hp hacc.1 (.inr ⟨rfl, hm.1, hm.2, hn⟩) hQ
theorem TnC.keep {it pool : Addr} {i n : Nat} {acc : Array Value} {h h' : Heap} {S : Addr} (st : TnC n it pool acc i h) (hi : it ≠ S) (hp : pool ≠ S) (k : ∀ b o, b ≠ S → h.get? b = some o → h'.get? b = some o) : TnC n it pool acc i h' := by
  obtain ⟨h1, st⟩ := st
  refine ⟨k pool _ hp h1, ?_⟩
  rcases st with ⟨e, q⟩ | ⟨j, p, old, e, e2, q⟩
  · exact .inl ⟨e, k it _ hi q⟩
  · exact .inr ⟨j, p, old, e, e2, k it _ hi q⟩
end
section
variable {prog : Program} {w : World} {A : Around} {s : Shared} {R : Result → Shared → Prop} {n : Nat}
theorem lc_loop {S I pool : Addr} {acc0 : Array Value} (hh : A.handled = none) (hacc0 : ItemsOf (fun i v => ∃ t, v = .int (0 + i * 1) t) acc0 n) (hne0 : pool ≠ I) (hIS : I < S) (hPS : pool < S) (hn : (cps n).length ≤ sizeLine) (res : Value) {h₁ : Heap}
    (hR : ∀ h' tk acc c as, (∀ b o, b ≠ S → b ≠ I → h₁.get? b = some o → h'.get? b = some o) → h'.get? S = some { cls := .type "list", dict := none, data := .seq acc c, slots := #[] } → as.length = (cps n).length → LcG n S h' as →
      acc.toList = as.map Value.ref → R (.ok (.ret res)) { s with heap := h', toks := tk }) :
    ∀ (k i : Nat) (h : Heap) (tk c : Nat) (acc : Array Value) (as : List Addr), (cps n).length - i = k → i ≤ (cps n).length → TnC n I pool acc0 i h → (∀ b o, b ≠ S → b ≠ I → h₁.get? b = some o → h.get? b = some o) →
      h.get? S = some { cls := .type "list", dict := none, data := .seq acc c, slots := #[] } → acc.toList = as.map Value.ref → as.length = i → LcG n S h as →
      codeAny (model prog w) A (.builtin "list.extend.loop" ⟨[.ref S, .ref I, res], []⟩) R { s with heap := h, toks := tk } := by
  have hne : S ≠ I := Nat.ne_of_gt hIS
  have hnp : S ≠ pool := Nat.ne_of_gt hPS
  intro k
  induction k with
  | zero =>
    intro i h tk c acc as hk hi hst hkeep hS hacc hal hG
    refine codeAny_builtin PySem.F.entry_extend_loop ?_
    rw [Around.under_plainId PySem.F.plain_extend_loop _]
    show wpAny _ A.in1 (pyNext (.ref I) >>= _) _ _ _
    refine wpAny_bind (lc_done (s := { s with heap := h, toks := tk }) (A := A.in1) hh hacc0 hst (by omega) fun h' he => ?_)
    refine wpAny_pure (hR h' tk acc c as (fun b o h1 h2 e => he b o h2 (hkeep b o h1 h2 e)) (he S _ hne hS) (by omega) ⟨hG.rise, hG.above, fun j a hj => ?_⟩ hacc)
    obtain ⟨q, t1, t2, hj', e3⟩ := hG.pairs j a hj
    exact ⟨q, t1, t2, hj', he a _ (Nat.ne_of_gt (Nat.lt_trans hIS (hG.above a (List.mem_of_getElem? hj)))) e3⟩
  | succ k ih =>
    intro i h tk c acc as hk hi hst hkeep hS hacc hal hG
    have hlt : i < (cps n).length := by omega
    have hsz : acc.size = i := by rw [← Array.length_toList, hacc, List.length_map, hal]
    refine codeAny_builtin PySem.F.entry_extend_loop ?_
    rw [Around.under_plainId PySem.F.plain_extend_loop _]
    show wpAny _ A.in1 (pyNext (.ref I) >>= _) _ _ _
    refine wpAny_bind (lc_item (s := { s with heap := h, toks := tk }) hacc0 hne0 hst hlt fun h' q t1 t2 hst' hq ht hkp => ?_)
    dsimp only at ht hkp ⊢
    have hS' := hkp S _ hne hS
    have up : ∀ b o, b ≠ S → h'.get? b = some o → (h'.update S (Obj.mapSeq (·.push (Value.ref h.objs.size)))).get? b = some o := fun b o hb e => (Heap.get?_update_other _ _ (Ne.symm hb)).trans e
    have hSl : S < h.objs.size := Heap.lt_size hS
    show wpAny _ A.in1 (updateSeq S (·.push (Value.ref h.objs.size)) >>= _) _ _ _
    refine wpAny_bind ?_
    refine wpAny_updateSeq hS' rfl (wpAny_pure ⟨plainId_quiet PySem.F.plain_extend_loop _, ih (i + 1) _ tk _ (acc.push (Value.ref h.objs.size)) (as ++ [h.objs.size]) (by omega) hlt (hst'.keep (Ne.symm hne) (Ne.symm hnp) up)
      (fun b o h1 h2 e => up b o h1 (hkp b o h2 (hkeep b o h1 h2 e))) (Heap.get?_update_self _ hS' rfl) (by rw [Array.toList_push, hacc, List.map_append]; rfl) (by rw [List.length_append, hal]; rfl) ⟨?_, ?_, ?_⟩⟩) (by rw [hsz]; omega) (by show (acc.push (Value.ref h.objs.size)).size ≤ sizeLine + 1; rw [Array.size_push, hsz]; omega)
    · refine List.pairwise_append.mpr ⟨hG.rise, List.pairwise_singleton _ _, fun a ha b hb => ?_⟩
      rw [List.mem_singleton.mp hb]
      exact hG.there ha
    · intro a ha
      rcases List.mem_append.mp ha with ha | ha
      · exact hG.above a ha
      · rw [List.mem_singleton.mp ha]; exact hSl
    · intro j b hj
      rcases Nat.lt_trichotomy j as.length with h1 | h1 | h1
      · rw [List.getElem?_append_left h1] at hj
        obtain ⟨q', t1', t2', hj', e3⟩ := hG.pairs j b hj
        have hb := hG.above b (List.mem_of_getElem? hj)
        exact ⟨q', t1', t2', hj', up b _ (Nat.ne_of_gt hb) (hkp b _ (Nat.ne_of_gt (Nat.lt_trans hIS hb)) e3)⟩
      · subst h1
        have hb : h.objs.size = b := by simpa using hj
        subst hb
        exact ⟨q, t1, t2, by subst hal; exact hq, up _ _ (Nat.ne_of_gt hSl) ht⟩
      · have hnone : (as ++ [h.objs.size])[j]? = none := List.getElem?_eq_none (by rw [List.length_append, List.length_singleton]; omega)
        rw [hnone] at hj; cases hj
end
section
variable {prog : Program} {w : World} {A : Around} {E : Value → Shared → Prop} {s : Shared} {I pool : Addr} {acc0 : Array Value} {n : Nat}
theorem lc_extend {R : Result → Shared → Prop} (hh : A.handled = none) (hacc0 : ItemsOf (fun i v => ∃ t, v = .int (0 + i * 1) t) acc0 n) (hne0 : pool ≠ I) (st : TnC n I pool acc0 0 s.heap) (hit : ∃ st old i j, IsCmb s.heap I pool st old i j) (S : Addr) (hIS : I < S) (hPS : pool < S) (res : Value) (c₀ : Nat) (hS : s.heap.get? S = some { cls := .type "list", data := .seq #[] c₀ })
    (hR : ∀ h' tk acc c as, (∀ b o, b ≠ S → b ≠ I → s.heap.get? b = some o → h'.get? b = some o) → h'.get? S = some { cls := .type "list", dict := none, data := .seq acc c, slots := #[] } → as.length = (cps n).length → LcG n S h' as →
      acc.toList = as.map Value.ref → R (.ok (.ret res)) { s with heap := h', toks := tk }) (hn : (cps n).length ≤ sizeLine) :
    wpAny (model prog w) A.in1 (Builtin.List.listExtendWith (.ref S) (.ref I) res)
      (fun fin s' => match fin with | .done f => R (.ok f) s' | .again c' => c'.quiet = true ∧ codeAny (model prog w) A c' R s') (fun e s' => R (.error e) s') s := by
  have key : ∀ (h : Heap) (c₁ tk : Nat), (∀ b o, b ≠ S → s.heap.get? b = some o → h.get? b = some o) →
      h.get? S = some { cls := .type "list", data := .seq #[] c₁ } → codeAny (model prog w) A (.builtin "list.extend.loop" ⟨[.ref S, .ref I, res], []⟩) R { s with heap := h, toks := tk } := by
    intro h c₁ tk hk hS₁
    exact lc_loop (s := s) (h₁ := s.heap) hh hacc0 hne0 hIS hPS hn res hR (cps n).length 0 h tk c₁ #[] [] (Nat.sub_zero _) (Nat.zero_le _) (st.keep (Nat.ne_of_lt hIS) (Nat.ne_of_lt hPS) hk) (fun b o hb _ e => hk b o hb e) hS₁ rfl rfl
      ⟨List.Pairwise.nil, (fun _ ha => nomatch ha), (fun j a hj => by simp at hj)⟩
  obtain ⟨st1, old1, i1, j1, hI⟩ := hit
  have hT : s.TypeIs (.ref I) "itertools.combinations" := ⟨_, hI, rfl⟩
  unfold Builtin.List.listExtendWith
  refine wpAny_bind (wpAny_typeOf (T := "itertools.combinations") hT ?_)
  have h1 : Builtin.List.listSameRef (.ref S) (.ref I) = false := by simp [Builtin.List.listSameRef, Nat.ne_of_gt hIS]
  have h2 : (Value.type "itertools.combinations" == Value.type "list") = false := by decide
  have h3 : (Value.type "itertools.combinations" == Value.type "tuple") = false := by decide
  simp only [h1, h2, h3, Bool.or_false, Bool.false_eq_true, if_false]
  refine wpAny_bind (iter_cmb hI ?_)
  refine wpAny_bind (wpAny_holding ?_)
  unfold Builtin.List.listLengthHint
  refine wpAny_bind (wpAny_specialOf hT nolen_cmb ?_)
  show wpAny _ A.in1 (specialOf (Value.ref I) (Str.ofString "__length_hint__") >>= _) _ _ _
  refine wpAny_bind (wpAny_specialOf hT nohint_cmb ?_)
  refine wpAny_pure ?_
  refine wpAny_ite_split (fun _ => ?_) (fun _ => wpAny_pure ⟨plainId_quiet PySem.F.plain_extend_loop _, key _ c₀ _ (fun b o _ e => e) hS⟩)
  refine wpAny_bind (wpAny_rule ?_)
  refine wpAny_bind ?_
  show wpAny _ _ (updateSeq S (·.push .none) >>= fun _ => updateSeq S (·.pop)) _ _ _
  refine wpAny_bind (wpAny_updateSeq hS rfl ?_)
  have hS₂ := Heap.get?_update_self (Obj.mapSeq (·.push Value.none)) hS rfl
  refine wpAny_updateSeq (hz := by seq_fits) hS₂ rfl ?_
  have hS₃ := Heap.get?_update_self (Obj.mapSeq (·.pop)) hS₂ rfl
  refine wpAny_pure ⟨plainId_quiet PySem.F.plain_extend_loop _, key _ _ _ (fun b o hb e => ?_) hS₃⟩
  exact (Heap.get?_update_other _ _ (Ne.symm hb)).trans ((Heap.get?_update_other _ _ (Ne.symm hb)).trans e)
theorem lc_init {R : Result → Shared → Prop} (hh : A.handled = none) (hacc0 : ItemsOf (fun i v => ∃ t, v = .int (0 + i * 1) t) acc0 n) (hne0 : pool ≠ I) (st : TnC n I pool acc0 0 s.heap) (hit : ∃ st old i j, IsCmb s.heap I pool st old i j) (S : Addr) (hIS : I < S) (hPS : pool < S) (hS : s.heap.get? S = some { cls := .type "list", data := .seq #[] })
    (hR : ∀ h' tk acc c as, (∀ b o, b ≠ S → b ≠ I → s.heap.get? b = some o → h'.get? b = some o) → h'.get? S = some { cls := .type "list", dict := none, data := .seq acc c, slots := #[] } → as.length = (cps n).length → LcG n S h' as →
      acc.toList = as.map Value.ref → R (.ok (.ret .none)) { s with heap := h', toks := tk }) (hn : (cps n).length ≤ sizeLine) :
    wpAny (model prog w) A.in1 (Builtin.«list.__init__» ⟨[.ref S, .ref I], []⟩)
      (fun fin s' => match fin with | .done f => R (.ok f) s' | .again c' => c'.quiet = true ∧ codeAny (model prog w) A c' R s') (fun e s' => R (.error e) s') s := by
  show wpAny _ _ (do let old ← Builtin.List.listItems (.ref S); Builtin.List.listUpdate (.ref S) (fun _ => #[]); letGo old.toList.reverse; Builtin.List.listExtendWith (.ref S) (.ref I) .none) _ _ s
  refine wpAny_bind ?_
  unfold Builtin.List.listItems
  refine wpAny_bind (wpAny_seqItems hS rfl (wpAny_pure ?_))
  show wpAny _ _ (updateSeq S (fun _ => #[]) >>= fun _ => letGo (#[] : Array Value).toList.reverse >>= fun _ => Builtin.List.listExtendWith (.ref S) (.ref I) .none) _ _ s
  refine wpAny_bind (wpAny_updateSeq hS rfl ?_)
  have hS₂ := Heap.get?_update_self (Obj.mapSeq (fun _ => (#[] : Array Value))) hS rfl
  have oth : ∀ b o, b ≠ S → s.heap.get? b = some o → (s.heap.update S (Obj.mapSeq (fun _ => (#[] : Array Value)))).get? b = some o :=
    fun b o hb e => (Heap.get?_update_other _ _ (Ne.symm hb)).trans e
  refine wpAny_bind (wpAny_letGo ?_)
  obtain ⟨st1, old1, i1, j1, hI⟩ := hit
  refine lc_extend hh hacc0 hne0 (st.keep (Nat.ne_of_lt hIS) (Nat.ne_of_lt hPS) oth) ⟨st1, old1, i1, j1, oth I _ (Nat.ne_of_lt hIS) hI⟩ S hIS hPS .none _ hS₂ (fun h' tk acc c as hk hS' hl hG hacc => ?_) hn
  exact hR h' tk acc c as (fun b o hb hb2 e => hk b o hb hb2 (oth b o hb e)) hS' hl hG hacc
theorem lc_call {Q : Value → Shared → Prop} (hh : A.handled = none) (hacc0 : ItemsOf (fun i v => ∃ t, v = .int (0 + i * 1) t) acc0 n) (hne0 : pool ≠ I) (st : TnC n I pool acc0 0 s.heap) (hit : ∃ st old i j, IsCmb s.heap I pool st old i j) (hn : (cps n).length ≤ sizeLine)
    (hQ : ∀ h' tk acc c as, (∀ b o, b ≠ I → s.heap.get? b = some o → h'.get? b = some o) → h'.get? s.heap.objs.size = some { cls := .type "list", dict := none, data := .seq acc c, slots := #[] } → as.length = (cps n).length → LcG n s.heap.objs.size h' as →
      acc.toList = as.map Value.ref → Q (.ref s.heap.objs.size) { s with heap := h', toks := tk }) :
    wpAny (model prog w) A (call (.type "list") [.ref I]) Q E s := by
  refine callType_codes (Q₁ := fun obj s₁ => obj = .ref s.heap.objs.size ∧ s₁ = { s with heap := s.heap.push { cls := .type "list", data := .seq #[] } }) PySem.F.called_list (PySem.F.typeCall_list_1 _) PySem.F.entry_list_init
    (code_list_new _ ⟨rfl, rfl⟩) fun obj s₁ h₁ => ?_
  obtain ⟨rfl, rfl⟩ := h₁
  have hS : (s.heap.push { cls := .type "list", data := .seq #[] }).get? s.heap.objs.size = some { cls := .type "list", data := .seq #[] } := Heap.get?_push_size _ rfl
  obtain ⟨st1, old1, i1, j1, hI⟩ := hit
  have hIl : I < s.heap.objs.size := Heap.lt_size hI
  have hPl : pool < s.heap.objs.size := Heap.lt_size st.1
  refine ⟨⟨_, hS, rfl⟩, PySem.F.args_list_init_2 _ _, lc_init (A := A.in1) hh hacc0 hne0 (st.keep (S := s.heap.objs.size) (Nat.ne_of_lt hIl) (Nat.ne_of_lt hPl) fun b o _ e => Heap.get?_push_of_some _ e) ⟨st1, old1, i1, j1, Heap.get?_push_of_some _ hI⟩ _ hIl hPl hS (fun h' tk acc c as hk hS' hl hG hacc => ?_) hn⟩
  exact ⟨rfl, hQ h' tk acc c as (fun b o hb e => hk b o (Nat.ne_of_lt (Heap.lt_size e)) hb (Heap.get?_push_of_some _ e)) hS' hl hG hacc⟩
end
end NBI

set_option Elab.async false
set_option linter.all false
set_option maxRecDepth 100000
set_option maxHeartbeats 4000000
/-! list(combinations(range(n), 2)), in the logic of data; x in a set of ints -/
namespace NBI
open PySem PySem.Spec PyProof.Rows L2 Evl NB LW
def tLc (ta : TE) : TE := fun σ H Q => tRg1 ta σ H fun lo hi H1 => lo = 0 ∧ ∃ n : Nat, hi = (n : Int) ∧ n ≤ 100 ∧ ∀ (H2 : Hp) (p : Addr) (as : List Addr), (∀ b o, H1 b = some o → H2 b = some o) → as.length = (cps n).length →
  (∀ a, a ∈ as → H1 a = none) → (∀ (j : Nat) (a : Addr), as[j]? = some a → ∃ q : Nat × Nat, (cps n)[j]? = some q ∧ H2 a = some (.tup [.int (q.1 : Nat), .int (q.2 : Nat)])) → H2 p = none → Q (.ref p) (upd H2 p (.lst (as.map V.ref)))
theorem cps_len (n : Nat) (h : n ≤ 100) : (cps n).length ≤ 10000 := by
  have := prs_len (n := (n : Int)) (by omega)
  rw [← cps_prs, List.length_map] at this
  exact this
theorem pe_lc {X : Cx} {a : Expr} {ta : TE} {p p2 pos pos2 p3 pl posl : Pos} {j : Nat} {cn : Str} (hc : X.calm = true) (hgl : Gl X "list") (hml : X.mg "list" = none) (hg : Gl X cn) (hm : X.mg cn = some (.type "itertools.combinations")) (hg2 : Gl X "range") (hm2 : X.mg "range" = none) (ha : PE X a ta) (hdb : (cn == ("__debug__" : Str)) = false := by decide)
    (na : starEach [a] X.env = (false, eval a X.env) :: starEach [] X.env := by rfl)
    (ns : starEach [.Call (.Name "range" p2) [a] [] pos2, .Constant (.int 2) j p3] X.env = (false, eval (.Call (.Name "range" p2) [a] [] pos2) X.env) :: starEach [.Constant (.int 2) j p3] X.env := by rfl)
    (ns2 : starEach [.Constant (.int 2) j p3] X.env = (false, eval (.Constant (.int 2) j p3) X.env) :: starEach [] X.env := by rfl)
    (hpl : (backTo pos (starEach [.Constant (.int 2) j p3] X.env)).any (·.1) = false := by rfl)
    (nl : starEach [.Call (.Name cn p) [.Call (.Name "range" p2) [a] [] pos2, .Constant (.int 2) j p3] [] pos] X.env = (false, eval (.Call (.Name cn p) [.Call (.Name "range" p2) [a] [] pos2, .Constant (.int 2) j p3] [] pos) X.env) :: starEach [] X.env := by rfl) :
    PE X (.Call (.Name "list" pl) [.Call (.Name cn p) [.Call (.Name "range" p2) [a] [] pos2, .Constant (.int 2) j p3] [] pos] [] posl) (tLc ta) := by
  refine ⟨fun pins s σ H Q I h => ?_⟩
  refine Call_ (ld_blt I hgl hml boot_list (PyProof.Rows.callWith_type1 (args_cons (Call_ (ld_glob I hg hm (PyProof.Rows.callWith_type1 (args_cons (thn (prg_1 hg2 hm2 ha na pins s σ H _ I h) fun x s1 ⟨r, lo, hi, t, u, v, H1, ex, hr, I1, q⟩ => args_cons (wpAny_Constant_int (args_nil ?_)) ns2) ns) ns hpl) hdb)) nl) nl))
  obtain ⟨rfl, n, rfl, hn, q⟩ := q
  subst ex
  have hd := I1.ok.hd hc
  refine call_cmb (s := { s1 with toks := s1.toks + 1 }) (by omega) hd hr fun h' tk acc k hacc => args_nil ?_
  have e2 : (h'.push { cls := .type "tuple", data := .seq acc }).objs.size = h'.objs.size + 1 := Heap.size_push ..
  have ho : (madeC h' acc n).get? (h'.objs.size + 1) = some { cls := .type "itertools.combinations", data := .fields #[.ref h'.objs.size, .int (if 2 > n then 2 else 0) 0, .none, .int (0 : Nat) 0, .int (1 : Nat) 0] } := by
    unfold madeC
    rw [← e2]
    exact Heap.get?_push_size _ rfl
  have hp : (madeC h' acc n).get? h'.objs.size = some { cls := .type "tuple", data := .seq acc } := by
    unfold madeC
    exact Heap.get?_push_of_some _ (Heap.get?_push_size _ rfl)
  have k2 : ∀ b o, h'.get? b = some o → (madeC h' acc n).get? b = some o := fun b o e => by
    unfold madeC
    exact Heap.get?_push_of_some _ (Heap.get?_push_of_some _ e)
  have kk : ∀ b o, s1.heap.get? b = some o → (madeC h' acc n).get? b = some o := fun b o e => k2 b o (k b o e)
  have cl := cps_len n hn
  refine lc_call (s := { s1 with heap := madeC h' acc n, toks := tk }) (I := h'.objs.size + 1) (pool := h'.objs.size) hd hacc (Nat.ne_of_lt (Nat.lt_succ_self _)) ⟨hp, .inl ⟨rfl, ho⟩⟩ ⟨_, _, _, _, ho⟩ (by rw [sizeLine_eq]; omega) fun h2 tk2 acc2 c2 as hk hS hl hG hacc2 => ?_
  dsimp only at hk hS hG ⊢
  have I2 : Inv X pins σ H1 { s1 with heap := h', toks := tk } := I1.kept k
  have msz : (madeC h' acc n).objs.size = h'.objs.size + 2 := by
    unfold madeC
    rw [Heap.size_push, Heap.size_push]
  have keep2 : ∀ b o, h'.get? b = some o → h2.get? b = some o := fun b o e => hk b o (Nat.ne_of_lt (Nat.lt_succ_of_lt (Heap.lt_size e))) (k2 b o e)
  have I3 : Inv X pins σ H1 { s1 with heap := h2, toks := tk2 } := I2.kept keep2
  have Sle : h'.objs.size ≤ (madeC h' acc n).objs.size := by rw [msz]; exact Nat.le_add_right _ _
  have ale : ∀ a ∈ as, h'.objs.size ≤ a := fun a ha => Nat.le_trans Sle (Nat.le_of_lt (hG.above a ha))
  have Snone : H1 (madeC h' acc n).objs.size = none := I2.hok.fresh Sle
  have nd : as.Nodup := hG.rise.imp fun h => Nat.ne_of_lt h
  have I4 := I3.take (h' := h2) (it := (madeC h' acc n).objs.size) (o := .lst (as.map V.ref)) (t' := tk2) (fun b ob _ e => e) (I2.fpOk Sle Snone) (by
    refine ⟨?_, as.map Value.ref, c2, ?_, ?_⟩
    · rw [List.length_map, hl, sizeLine_eq]; omega
    · clear hacc2 hl hG ale nd
      induction as with
      | nil => exact .nil
      | cons a as ih => exact .cons rfl ih
    · rw [← hacc2, Array.toArray_toList]
      exact hS)
  obtain ⟨H2, I5, g, qq⟩ := L2.DX.takeT (P := fun a vs => ∀ j : Nat, as[j]? = some a → ∃ q : Nat × Nat, (cps n)[j]? = some q ∧ vs = [.int (q.1 : Nat), .int (q.2 : Nat)]) I2 as _ I4 nd fun a ha => by
    refine ⟨ale a ha, ?_, ?_⟩
    · rw [upd_ne (Nat.ne_of_gt (hG.above a ha))]
      exact I2.hok.fresh (ale a ha)
    · obtain ⟨jj, hj⟩ := List.mem_iff_getElem?.mp ha
      obtain ⟨q, t1, t2, hq, ht⟩ := hG.pairs jj a hj
      refine ⟨[.int (q.1 : Nat), .int (q.2 : Nat)], fun j' hj' => ?_, fun H3 => ⟨by show 2 ≤ sizeLine; decide, [.int q.1 t1, .int q.2 t2], .cons ⟨_, rfl⟩ (.cons ⟨_, rfl⟩ .nil), ⟨_, ht, rfl, _, rfl⟩⟩⟩
      have l1 := (List.getElem?_eq_some_iff.mp hj).1
      have : jj = j' := (List.getElem?_inj l1 nd).mp (hj.trans hj'.symm)
      subst this
      exact ⟨q, hq, rfl⟩
  have gS : H2 (madeC h' acc n).objs.size = some (.lst (as.map V.ref)) := g _ _ upd_same
  have eH : upd (fun b => if b = (madeC h' acc n).objs.size then none else H2 b) (madeC h' acc n).objs.size (.lst (as.map V.ref)) = H2 := by
    funext b
    by_cases e : b = (madeC h' acc n).objs.size
    · rw [e, upd_same, gS]
    · rw [upd_ne e, if_neg e]
  have fin := q (fun b => if b = (madeC h' acc n).objs.size then none else H2 b) (madeC h' acc n).objs.size as (fun b o e => ?_) hl (fun a ha => I2.hok.fresh (ale a ha)) (fun j a hj => ?_) (if_pos rfl)
  · rw [eH] at fin
    exact ⟨.ref _, H2, I5, rfl, fin⟩
  · have ne : b ≠ (madeC h' acc n).objs.size := fun z => by rw [z, Snone] at e; cases e
    show (if b = _ then none else H2 b) = some o
    rw [if_neg ne]
    exact g b o (by rw [upd_ne ne]; exact e)
  · have ha := List.mem_of_getElem? hj
    obtain ⟨vs, hP, hH⟩ := qq a ha
    obtain ⟨q', hq', rfl⟩ := hP j hj
    refine ⟨q', hq', ?_⟩
    show (if a = _ then none else H2 a) = some _
    rw [if_neg (Nat.ne_of_gt (hG.above a ha))]
    exact hH
end NBI
namespace NBI
open PySem PySem.Spec PyProof.Rows L2 Evl NB LW
/-- list(combinations(range(n), 2)) -/
theorem pf_lc2 {X : Cx} {a : Expr} {p p2 pos pos2 p3 pl posl : Pos} {j : Nat} {cn : Str} {env env1 : En} {n : Int} (hc : X.calm = true) (hml : X.mg "list" = none) (hm : X.mg cn = some (.type "itertools.combinations")) (hm2 : X.mg "range" = none) (ha : PD X a env (.int n) env1) (h0 : 0 ≤ n) (h1 : n ≤ 100) (hgl : Gl X "list" := by rfl) (hg : Gl X cn := by rfl) (hg2 : Gl X "range" := by rfl)
    (hdb : (cn == ("__debug__" : Str)) = false := by decide)
    (na : starEach [a] X.env = (false, eval a X.env) :: starEach [] X.env := by rfl)
    (ns : starEach [.Call (.Name "range" p2) [a] [] pos2, .Constant (.int 2) j p3] X.env = (false, eval (.Call (.Name "range" p2) [a] [] pos2) X.env) :: starEach [.Constant (.int 2) j p3] X.env := by rfl)
    (ns2 : starEach [.Constant (.int 2) j p3] X.env = (false, eval (.Constant (.int 2) j p3) X.env) :: starEach [] X.env := by rfl)
    (hpl : (backTo pos (starEach [.Constant (.int 2) j p3] X.env)).any (·.1) = false := by rfl)
    (nl : starEach [.Call (.Name cn p) [.Call (.Name "range" p2) [a] [] pos2, .Constant (.int 2) j p3] [] pos] X.env = (false, eval (.Call (.Name cn p) [.Call (.Name "range" p2) [a] [] pos2, .Constant (.int 2) j p3] [] pos) X.env) :: starEach [] X.env := by rfl) :
    PF X (.Call (.Name "list" pl) [.Call (.Name cn p) [.Call (.Name "range" p2) [a] [] pos2, .Constant (.int 2) j p3] [] pos] [] posl) env (pD (prs n)) env1 :=
  pe_imp (pe_lc hc hgl hml hg hm hg2 hm2 ha hdb na ns ns2 hpl nl) fun σ H Q ⟨Γ, z, sd, k⟩ => ⟨Γ, z, sd, fun v H' ex sd' hd => by
    cases hd
    refine ⟨n, rfl, rfl, n.toNat, by omega, by omega, fun H2 q as g hl hnone hget hq => ?_⟩
    have en : ((n.toNat : Nat) : Int) = n := by omega
    have zf : ∀ a ∈ as, z a = false := fun a ha => by
      cases e : z a with
      | false => rfl
      | true => exact (sd'.zd a e (hnone a ha)).elim
    have ce : cut H' z = cut H' z := rfl
    have c : Ex (cut H' z) (cut H2 z) := cut_ex g
    refine k q H2 _ (as.map V.ref) (ex.trans c) (sd'.grow g) (Ex.new hq) hq upd_same ?_
    rw [← en, ← cps_prs]
    clear hq
    have gen : ∀ (L : List (Nat × Nat)) (as : List Addr), as.length = L.length → (∀ a ∈ as, z a = false) → (∀ (j : Nat) (a : Addr), as[j]? = some a → ∃ q : Nat × Nat, L[j]? = some q ∧ H2 a = some (.tup [.int (q.1 : Nat), .int (q.2 : Nat)])) → NB.DpAll X.K (cut H2 z) (as.map V.ref) (pD (L.map prC)) := by
      intro L
      induction L with
      | nil =>
        intro as hl _ _
        rw [List.length_eq_zero_iff.mp hl]
        exact .nil
      | cons p L ih =>
        intro as hl hz hg
        cases as with
        | nil => simp at hl
        | cons a as =>
          obtain ⟨q, e1, e2⟩ := hg 0 a rfl
          cases e1
          refine .cons (.tup (st_of (cut_of (hz a List.mem_cons_self) e2)) (dpa_ints (ns := [(p.1 : Int), (p.2 : Int)]))) (ih as (by simpa using hl) (fun b hb => hz b (List.mem_cons_of_mem _ hb)) fun j b hb => ?_)
          obtain ⟨q', e3, e4⟩ := hg (j + 1) b (by simpa using hb)
          exact ⟨q', by simpa using e3, e4⟩
    exact gen _ as hl zf hget⟩
end NBI
namespace NB
open PySem L2 Evl PyProof.Rows
/-- a set of ints in a slot; how many members it has stands open -/
def sS (w : World) (L : List Int) (n : Nat) : Sl := .x (fun a => SetO w a (fun k => decide (k ∈ L)) n) []
section
variable {X : Cx} {env env1 : En} {e a : Expr} {pos : Pos} {L : List Int} {B : Nat}
theorem hs_setX (i : Nat) {x : Str} {px : Pos} (hN : X.N.Nodup) (he : PX X e env L B env1) (hl : i < env1.length := by simp) (hi : X.N[i]? = some x := by rfl) (hx : Loc X.env.scope x := by first | exact Or.inl rfl | exact Or.inr rfl)
    (hs : swapsWith e (some (.Name x px)) pos.line X.env = pure false := by rfl) (hf : X.fn x = true ∨ X.env.scope.names.lookup x = some .local := by first | exact .inl rfl | exact .inr rfl) : HD1 X (.Assign [.Name x px] e pos) env { nx := fun e => ∃ n, e = env1.set i (sS X.w L n) } :=
  ps_imp (ps_set hN hi hx he hs hf) fun D σ H ⟨Γ, z, sd, k, _⟩ => ⟨Γ, z, sd, fun p H1 H2 n ex sd' e2 hp hl' _ => k _ (addZ z p) _ H2 ⟨n, rfl⟩ (ex.trans (cut_addZ e2 hp)) (sd'.setS (f := fun a => SetO X.w a (fun k => decide (k ∈ L)) n) e2 hp hl' tsNil hl)⟩
theorem pb_inS (i : Nat) {x : Str} {p : Pos} {k : Int} {n : Nat} (ha : PD X a env (.int k) env) (hi : env[i]? = some (sS X.w L n)) (hN : X.N[i]? = some x := by rfl) (hv : Vis X.env.scope x := by first | exact Or.inl rfl | exact Or.inr (Or.inl rfl) | exact Or.inr (Or.inr rfl))
    (hb1 : (x == ("__debug__" : Str)) = false := by decide) (hcd : (x == ("__classdict__" : Str)) = false := by decide) : PB X (.Compare a [.In] [.Name x p] pos) env (decide (k ∈ L)) env :=
  pt_imp (pt_cmpR or_sin ha (pv i hN hv hb1 hcd) (by with_unfolding_all rfl)) fun σ H Q ⟨Γ, z, sd, kk⟩ => ⟨Γ, z, sd, fun v H' ex sd' h1 => by
    cases h1
    obtain ⟨c, h2, h3, h4, _⟩ := sd'.seto hi
    exact ⟨.ref c, h2, k, c, _, _, rfl, rfl, h4, _, rfl, kk H' ex sd'⟩⟩
variable {st : Stmt} {rest : List Stmt} {P : Post} {A : En → Prop}
/-- a statement that leaves one of several states -/
theorem h_ex (h1 : HD1 X st env { nx := A }) (h2 : ∀ e, A e → HD X rest e P) : HD X (st :: rest) env P :=
  h_cons A (ps_imp h1 fun D σ H ⟨Γ, z, sd, k1, _, _, _⟩ => ⟨Γ, z, sd, k1, fun _ _ _ _ _ _ q => q.elim, fun _ _ _ _ q => q.elim, fun _ _ _ _ q => q.elim⟩) h2
end
end NB

set_option Elab.async false
set_option linter.all false
set_option maxRecDepth 100000
set_option maxHeartbeats 4000000
namespace NB
open PySem L2 Evl
section
variable {X : Cx} {env env1 : En} {a iter elt : Expr} {pos : Pos} {ds : List PyData} {ifs : List Expr} {scope : Scope} {P : Post} {st : List Stmt}
theorem hs_lcT (i j k0 : Nat) {x z yn : Str} {py spos : Pos} {es : List Expr} {kk : Nat} {p : Pos} {ts : List (PyData × PyData)} (cnd : PyData × PyData → Bool) (y : PyData × PyData → PyData) (hc : X.calm = true) (hN : X.N.Nodup) (it : PID X (.Tuple es kk p) iter env (ts.map tpD) env1) (ok : BlkOk X.N X.env.scope scope [(x, i), (z, j)])
    (ht : ∀ (s : Shared) (H : Hp) (C : Addr) (cl : List (Str × Addr)) (fp : List Addr) q, q ∈ ts → PTs (X.blk s H scope (compEnvC scope cl C X.env) fp) ifs (tT X.K X.w (prT env1 i j q) (cnd q) (prT env1 i j q)))
    (he : ∀ (s : Shared) (H : Hp) (C : Addr) (cl : List (Str × Addr)) (fp : List Addr) q, q ∈ ts → cnd q = true → PD (X.blk s H scope (compEnvC scope cl C X.env) fp) elt (prT env1 i j q) (y q) (prT env1 i j q))
    (hgg : ∀ (s : Shared) (H : Hp) (C : Addr) (cl : List (Str × Addr)) (fp : List Addr), PG (X.blk s H scope (compEnvC scope cl C X.env) fp) (.Tuple es kk p) (gTup X.K 2 (gCons (gName i) (gCons (gName j) gNil))))
    (hli : i < env1.length) (hlj : j < env1.length) (hlk : k0 < env1.length) (hn : ts.length < 100000) (hki : keepD (env1.getD i .u) = env1.getD i .u := by rfl) (hkj : keepD (env1.getD j .u) = env1.getD j .u := by rfl)
    (hy : X.N[k0]? = some yn := by rfl) (hyl : X.env.scope.names.lookup yn = some .local := by rfl)
    (hsw : swapsWith (.ListComp elt [⟨.Tuple es kk p, iter, ifs, 0⟩] scope pos) (some (.Name yn py)) spos.line X.env = pure true := by exact sw_true rfl rfl rfl (by decide +kernel))
    (hs : ∀ x, foldedSetIterable iter X.env x = pure x := by intro _; rfl) : HD1 X (.Assign [.Name yn py] (.ListComp elt [⟨.Tuple es kk p, iter, ifs, 0⟩] scope pos) spos) env { nx := fun e => e = env1.set k0 (.d (.list ((ts.filter cnd).map y))) } := by
  have get : ∀ {k : Nat} {d : PyData}, (ts.map tpD)[k]? = some d → ∃ q, ts[k]? = some q ∧ d = tpD q := fun {k d} h => by
    rw [List.getElem?_map] at h
    cases e : ts[k]? with
    | none => rw [e] at h; cases h
    | some q => rw [e] at h; exact ⟨q, rfl, (Option.some.inj h).symm⟩
  have q := hs_lc (j := k0) (yn := yn) (py := py) (spos := spos) (own := [(x, i), (z, j)]) (g := gTup X.K 2 (gCons (gName i) (gCons (gName j) gNil))) (elt := elt) (ifs := ifs) (pos := pos) hc hN it ok (fun _ => env1) (fun i => ((ts.take i).filter cnd).map y) (fun _ d => prT env1 i j (twoOf d)) (fun _ d => prT env1 i j (twoOf d)) (fun _ d => prT env1 i j (twoOf d)) (fun _ d => cnd (twoOf d)) (fun _ d => y (twoOf d))
    hgg (fun s H C cl fp k d h => by
      obtain ⟨q, hq, rfl⟩ := get h
      exact ht s H C cl fp q (List.mem_of_getElem? hq)) (fun s H C cl fp k d h hc => by
      obtain ⟨q, hq, rfl⟩ := get h
      exact he s H C cl fp q (List.mem_of_getElem? hq) hc) (fun k d h => by
      obtain ⟨q, hq, rfl⟩ := get h
      exact gt_pair i j (.inl rfl) (by show i < ((env1.set j .u).set i .u).length; simp; exact hli) (by show j < ((env1.set j .u).set i .u).length; simp; exact hlj)) (Le.refl _) (by simp)
    (fun k d h => by
      obtain ⟨q, hq, rfl⟩ := get h
      constructor
      · show ((ts.take (k + 1)).filter cnd).map y = if cnd q = true then ((ts.take k).filter cnd).map y ++ [y q] else ((ts.take k).filter cnd).map y
        rw [List.take_add_one, hq, List.filter_append]
        by_cases r : cnd q = true
        · simp [r]
        · simp [r]
      · refine Le.of_eq ?_
        have e1 : (if cnd (twoOf (tpD q)) = true then prT env1 i j (twoOf (tpD q)) else prT env1 i j (twoOf (tpD q))) = prT env1 i j q := by split <;> rfl
        rw [e1]
        exact (mix_self2 hki hkj).symm) (fun k h => by
      rw [List.length_map]
      have a1 := List.length_filter_le cnd (ts.take k)
      have a2 : (ts.take k).length ≤ ts.length := by rw [List.length_take]; omega
      omega) hlk hy hyl hsw hs
  rw [List.length_map, List.take_length] at q
  exact q
end
end NB
/-! families: what the defs give -/
namespace LFM
open PySem L2 Evl NB LW LP NBI LM LG LO
def t2 (p : Pr) : PyData × PyData := (.int p.1, .int p.2)
def intOf : PyData → Int
  | .int k => k
  | _ => 0
def prT2 (t : PyData × PyData) : Pr := (intOf t.1, intOf t.2)
theorem t2_tp (l : List Pr) : (l.map t2).map tpD = pD l := by
  unfold pD
  rw [List.map_map]
  rfl
theorem filtT (c : Pr → Bool) (l : List Pr) : ((l.map t2).filter fun t => c (prT2 t)).map tpD = pD (l.filter c) := by
  rw [List.filter_map, List.map_map]
  rfl
def things (m : Int) (k : Int) : Pr := (prs m).getD k.toNat (0, 0)
def metM (m : Int) (p : Pr) : Bool := decide ((things m p.1).1 = (things m p.2).1 ∨ (things m p.1).1 = (things m p.2).2) || decide ((things m p.1).2 = (things m p.2).1 ∨ (things m p.1).2 = (things m p.2).2)
def coupM (m : Int) : List Pr := (prs ((prs m).length : Int)).filter (metM m)
def primeM (n : Int) : Bool := (upto 2 n).all fun k => !decide (n % k = 0)
def remsM (p : Int) : List Int := (upto 1 p).map fun k => k * k % p
def sqM (p : Int) : List Pr := (prs p).filter fun q => decide (q.2 - q.1 ∈ remsM p)
def grpM (a b : Int) : List Pr := (prs (a * b)).filter fun q => !decide (q.1 / b = q.2 / b)
def RBoardP (ds : List PyData) (d : PyData) : Prop := ∃ s : Int, 2 ≤ s ∧ s ≤ 7 ∧ ds = [.int s] ∧ d = netD (s * s) (boardM s)
def RBoardE (ds : List PyData) : Prop := ∃ v : PyData, numOk v 2 7 = false ∧ ds = [v]
def RCoup (ds : List PyData) (d : PyData) : Prop := ∃ m : Int, 4 ≤ m ∧ m ≤ 11 ∧ ds = [.int m] ∧ d = netD ((prs m).length : Int) (coupM m)
def RCoupE (ds : List PyData) : Prop := ∃ v : PyData, numOk v 4 11 = false ∧ ds = [v]
def RPrime (ds : List PyData) (d : PyData) : Prop := ∃ n : Int, 0 ≤ n ∧ n ≤ 1000 ∧ ds = [.int n] ∧ d = .bool (primeM n)
def RSq (ds : List PyData) (d : PyData) : Prop := ∃ p : Int, 5 ≤ p ∧ p ≤ 59 ∧ p % 4 = 1 ∧ primeM p = true ∧ ds = [.int p] ∧ d = netD p (sqM p)
def RSqE (ds : List PyData) : Prop := ∃ v : PyData, (numOk v 5 59 = false ∨ ∃ p : Int, v = .int p ∧ 5 ≤ p ∧ p ≤ 59 ∧ (p % 4 ≠ 1 ∨ primeM p = false)) ∧ ds = [v]
def RGrp (ds : List PyData) (d : PyData) : Prop := ∃ a b : Int, 2 ≤ a ∧ a ≤ 30 ∧ 2 ≤ b ∧ b ≤ 60 / a ∧ ds = [.int a, .int b] ∧ d = netD (a * b) (grpM a b)
def RGrpE (ds : List PyData) : Prop := ∃ v u : PyData, (numOk v 2 30 = false ∨ ∃ a : Int, v = .int a ∧ 2 ≤ a ∧ a ≤ 30 ∧ numOk u 2 (60 / a) = false) ∧ ds = [v, u]
theorem grp_bd {a b : Int} (a0 : 2 ≤ a) (a1 : a ≤ 30) (b0 : 2 ≤ b) (b1 : b ≤ 60 / a) : 4 ≤ a * b ∧ a * b ≤ 60 ∧ b ≤ 30 := by
  have h1 : a * b ≤ a * (60 / a) := Int.mul_le_mul_of_nonneg_left b1 (by omega)
  have h2 : a * (60 / a) ≤ 60 := Int.mul_ediv_self_le (by omega)
  have h3 : 2 * 2 ≤ a * b := Int.mul_le_mul a0 b0 (by decide) (by omega)
  have h4 : 2 * b ≤ a * b := Int.mul_le_mul_of_nonneg_right a0 (by omega)
  omega
end LFM

set_option Elab.async false
set_option linter.all false
set_option maxRecDepth 100000
set_option maxHeartbeats 4000000
/-! sparse nets and rings of five: what the defs give -/
namespace LSP
open PySem L2 Evl NB LW LP NBI LM LG FM LS FW LO
def sparseM (n : Int) (ps : List Pr) : Bool := ((asc (manyL n ps true (prs n))).all fun k => decide (k = 0)) && ((asc (manyL n ps false (prs n))).all fun k => decide (k = 1))
def starM (n : Int) (ps : List Pr) : Bool := decide (((topsM n ps).length : Int) > 0) && decide ((ps.length : Int) = n - 1)
def ringM (r s : Int) : List Pr := (upto 0 5).map fun p => (min (5 * r + p) (5 * r + (p + s) % 5), max (5 * r + p) (5 * r + (p + s) % 5))
def acrM (near one other : Int) : List Pr := (upto 0 5).map fun p => (5 * one + p, 5 * (near + other) + (p + one * other) % 5)
def acr2M (near far one : Int) : List Pr := (upto 0 far).flatMap fun o => acrM near one o
def rngM (near far : Int) : List Pr := (upto 0 (near + far)).flatMap fun r => ringM r (if r < near then 1 else 2)
def ringsM (near far : Int) : List Pr := rngM near far ++ (upto 0 near).flatMap fun one => acr2M near far one
def spnM (f : Int) : PyData := if f = 2 then netD 5 (srtP (ringsM 1 0)) else if f = 3 then netD 10 (srtP (ringsM 1 1)) else if f = 7 then netD 50 (srtP (ringsM 5 5)) else .none
def toldM (n : Int) (ps : List Pr) : PyData := if (asc (manyL n ps true (prs n))).length = 1 ∧ (asc (manyL n ps false (prs n))).length = 1 ∧ (dgs n ps).length = 1 then .tuple (iD [n, (dgs n ps).getD 0 0, (asc (manyL n ps true (prs n))).getD 0 0, (asc (manyL n ps false (prs n))).getD 0 0]) else .none
def RSparse (ds : List PyData) (d : PyData) : Prop := ∃ (n : Int) (ps : List Pr), Net n ps ∧ ps.length < 100000 ∧ ds = [netD n ps] ∧ d = .bool (sparseM n ps)
def RStar (ds : List PyData) (d : PyData) : Prop := ∃ (n : Int) (ps : List Pr), Net n ps ∧ ps.length < 100000 ∧ ds = [netD n ps] ∧ d = .bool (starM n ps)
def RAllow (ds : List PyData) (d : PyData) : Prop := ds = [] ∧ d = .tuple (iD [2, 3, 7, 57])
def RRing (ds : List PyData) (d : PyData) : Prop := ∃ r s : Int, 0 ≤ r ∧ r ≤ 20 ∧ 0 ≤ s ∧ s ≤ 5 ∧ ds = [.int r, .int s] ∧ d = .list (pD (ringM r s))
def RRings (ds : List PyData) (d : PyData) : Prop := ∃ a b : Int, 0 ≤ a ∧ a ≤ 5 ∧ 0 ≤ b ∧ b ≤ 5 ∧ ds = [.int a, .int b] ∧ d = netD (5 * (a + b)) (srtP (ringsM a b))
def RSpNet (ds : List PyData) (d : PyData) : Prop := ∃ f : Int, 0 ≤ f ∧ f ≤ 100 ∧ ds = [.int f] ∧ d = spnM f
def RSpNetE (ds : List PyData) : Prop := ∃ v : PyData, numOk v 0 100 = false ∧ ds = [v]
def RShA (ds : List PyData) (d : PyData) : Prop := ∃ (f : Int) (v : PyData), 0 ≤ f ∧ f ≤ 100 ∧ ¬ (f = 2 ∨ f = 3 ∨ f = 7) ∧ ds = [.int f, v] ∧ d = .bool (NB.isNon v)
def RShB (ds : List PyData) (d : PyData) : Prop := ∃ (f n : Int) (ps : List Pr), (f = 2 ∨ f = 3 ∨ f = 7) ∧ Net n ps ∧ ps.length < 100000 ∧ ds = [.int f, netD n ps] ∧ d = .bool (sparseM n ps && decide (dgs n ps = [f]))
def RShC (ds : List PyData) (d : PyData) : Prop := ∃ (f : Int) (v : PyData), (f = 2 ∨ f = 3 ∨ f = 7) ∧ NB.isNon (wrongD v) = false ∧ ds = [.int f, v] ∧ d = .bool false
def RTold (ds : List PyData) (d : PyData) : Prop := ∃ (n : Int) (ps : List Pr), Net n ps ∧ ds = [netD n ps] ∧ d = toldM n ps
theorem up_get {m : Int} {i : Nat} {d : PyData} (h : (rgD 0 m)[i]? = some d) : d = .int (i : Nat) ∧ ((i : Nat) : Int) < m ∧ (upto 0 m).take (i + 1) = (upto 0 m).take i ++ [((i : Nat) : Int)] := by
  unfold rgD at h
  rw [List.getElem?_map] at h
  have hi : i < (m - 0).toNat := by
    have := (List.getElem?_eq_some_iff (l := List.range (m - 0).toNat) (i := i) (a := i)).mp
    cases q : (List.range (m - 0).toNat)[i]? with
    | none => rw [q] at h; cases h
    | some x => have := (List.getElem?_eq_some_iff.mp q).1; simpa using this
  have e : (List.range (m - 0).toNat)[i]? = some i := by rw [List.getElem?_eq_getElem (by simpa using hi)]; simp
  rw [e] at h
  have h' := Option.some.inj h
  refine ⟨?_, by omega, ?_⟩
  · rw [← h']
    simp
  · rw [List.take_add_one]
    congr 1
    have : (upto 0 m)[i]? = some ((i : Nat) : Int) := by
      unfold upto
      rw [List.getElem?_map, e]
      simp
    rw [this]
    rfl
theorem ring_len (r s : Int) : (ringM r s).length = 5 := by
  unfold ringM
  rw [List.length_map, upto_len]
  rfl
theorem acr_len (near one other : Int) : (acrM near one other).length = 5 := by
  unfold acrM
  rw [List.length_map, upto_len]
  rfl
theorem fm_len {α β : Type} {f : α → List β} {c : Nat} (l : List α) (h : ∀ x ∈ l, (f x).length = c) : (l.flatMap f).length = c * l.length := by
  induction l with
  | nil => rfl
  | cons a l ih =>
    rw [List.flatMap_cons, List.length_append, ih fun x hx => h x (List.mem_cons_of_mem _ hx), h a List.mem_cons_self, List.length_cons, Nat.mul_add]
    omega
theorem acr2_len (near far one : Int) : (acr2M near far one).length = 5 * far.toNat := by
  unfold acr2M
  rw [fm_len _ fun x _ => acr_len _ _ x, upto_len]
  simp
theorem rng_tlen (near far : Int) (i : Nat) : (((upto 0 (near + far)).take i).flatMap fun r => ringM r (if r < near then 1 else 2)).length ≤ 5 * (near + far).toNat := by
  rw [fm_len _ fun x _ => ring_len _ _, List.length_take, upto_len]
  have : min i (near + far - 0).toNat ≤ (near + far).toNat := by omega
  omega
theorem acr2_tlen (near far one : Int) (i : Nat) : (((upto 0 far).take i).flatMap fun o => acrM near one o).length ≤ 5 * far.toNat := by
  rw [fm_len _ fun x _ => acr_len _ _ x, List.length_take, upto_len]
  omega
theorem acr3_tlen (near far : Int) (i : Nat) : (((upto 0 near).take i).flatMap fun o => acr2M near far o).length ≤ 5 * far.toNat * near.toNat := by
  rw [fm_len _ fun x _ => acr2_len _ _ x, List.length_take, upto_len]
  exact Nat.mul_le_mul_left _ (by omega)
end LSP

set_option Elab.async false
set_option linter.all false
set_option maxRecDepth 100000
set_option maxHeartbeats 4000000
/-! told nets: what the defs give -/
namespace NB
open PySem L2 Evl
section
variable {X : Cx} {env env1 : En} {e : Expr} {pos : Pos} {ds : List PyData} {d : PyData}
theorem cr_isqrt : CallR X (.builtin "math.isqrt") (fun vs H Q => ∃ a : Int, vs = [.int a] ∧ 0 ≤ a ∧ a < 2 ^ 64 ∧ Q (.int ((Float64.isqrt a.toNat : Nat) : Int)) H) := by
  intro pins s σ H vs us Q I r h
  obtain ⟨a, rfl, h0, h1, q⟩ := h
  match us, r with
  | [_], .cons ⟨t, rfl⟩ .nil => exact PySem.W.mg_isqrt h0 h1 ⟨.int _, H, I.tok _, ⟨_, rfl⟩, q⟩
def sqrtI (a : Int) : Int := ((Float64.isqrt a.toNat : Nat) : Int)
theorem f_isqrt {i : Int} (h0 : 0 ≤ i) (h1 : i < 2 ^ 64) : CalD X (.builtin "math.isqrt") [.int i] (.int (sqrtI i)) := cal_of cr_isqrt fun z xs H Q zd h k => by
  cases h with
  | cons h2 h3 =>
    cases h3
    cases h2
    exact ⟨i, rfl, h0, h1, k _ H (Ex.refl _) (.int _)⟩
theorem f_abs {i : Int} : CalD X (.builtin "abs") [.int i] (.int (if i < 0 then -i else i)) := cal_of call_abs fun z xs H Q zd h k => by
  cases h with
  | cons h2 h3 =>
    cases h3
    cases h2
    exact ⟨i, rfl, k _ H (Ex.refl _) (.int _)⟩
/-- a module's name for a built-in function -/
theorem pd_callM {x : Str} {p : Pos} {id : String} {es : List Expr} (hc : CalD X (.builtin id) ds d) (hm : X.mg x = some (.builtin id)) (ha : PAD X (e :: es) env ds env1) (hg : Gl X x := by rfl) (hdb : (x == ("__debug__" : Str)) = false := by decide)
    (he : starEach (e :: es) X.env = (false, eval e X.env) :: starEach es X.env := by rfl) (hpl : (backTo pos (starEach es X.env)).any (·.1) = false := by rfl) : PD X (.Call (.Name x p) (e :: es) [] pos) env d env1 :=
  pe_imp (pe_callBfun hc hg hm ha hdb he hpl) fun σ H Q ⟨Γ, z, sd, kk⟩ => ⟨Γ, z, sd, fun vs H' ex sd' h1 => ⟨z, sd'.zd, h1, fun v H'' ex' h2 => kk v H'' (ex.trans (cut_ex ex')) (sd'.grow ex') h2⟩⟩
end
end NB
namespace LTD
open PySem L2 Evl NB LW LP NBI LM LG LO LS FM FW LSP
structure Four (n k a b : Int) : Prop where
  n3 : 3 ≤ n
  n1 : n ≤ 1000
  k1 : 1 ≤ k
  kn : k ≤ n - 2
  a0 : 0 ≤ a
  ak : a ≤ k - 1
  b0 : 0 ≤ b
  bk : b ≤ k
def leanM (n k a b : Int) : Int := 2 * k + (n - 1) * (a - b)
def roomM (k a b : Int) : Int := (a - b) ^ 2 + 4 * (k - b)
def leadM (n k a b : Int) : Option Int :=
  if leanM n k a b = 0 then some 0
  else if sqrtI (roomM k a b) * sqrtI (roomM k a b) ≠ roomM k a b ∨ leanM n k a b % sqrtI (roomM k a b) ≠ 0 then none
  else some (-(leanM n k a b) / sqrtI (roomM k a b))
def sharesM (n k a b : Int) : Option Pr :=
  if k * (k - a - 1) ≠ (n - k - 1) * b then none
  else match leadM n k a b with
    | none => none
    | some l => if n - 1 < (if l < 0 then -l else l) ∨ (n - 1 + l) % 2 ≠ 0 then none else some ((n - 1 + l) / 2, (n - 1 - l) / 2)
def optI : Option Int → PyData
  | some i => .int i
  | none => .none
def restM (n k a b : Int) : List Int := [n, n - 1 - k, n - 2 - 2 * k + b, n - 2 * k + a]
def four (n k a b : Int) : List PyData := [.int n, .int k, .int a, .int b]
def fourOk (ds : List PyData) : Bool := match ds with
  | [.int n, .int k, .int a, b] => decide (3 ≤ n) && (decide (n ≤ 1000) && (decide (1 ≤ k) && (decide (k ≤ n - 2) && (decide (0 ≤ a) && (decide (a ≤ k - 1) && numOk b 0 k)))))
  | _ => false
def RToldP (ds : List PyData) (d : PyData) : Prop := ∃ (n : Int) (ps : List Pr), Net n ps ∧ ps.length < 100000 ∧ ds = [netD n ps] ∧ d = toldM n ps
def RCk4 (ds : List PyData) (d : PyData) : Prop := ∃ n k a b, Four n k a b ∧ ds = four n k a b ∧ d = .none
def RRest4 (ds : List PyData) (d : PyData) : Prop := ∃ n k a b, Four n k a b ∧ ds = four n k a b ∧ d = .tuple (iD (restM n k a b))
def RLead (ds : List PyData) (d : PyData) : Prop := ∃ n k a b, Four n k a b ∧ ds = four n k a b ∧ d = optI (leadM n k a b)
def RShares (ds : List PyData) (d : PyData) : Prop := ∃ n k a b, Four n k a b ∧ ds = four n k a b ∧ d = optD (sharesM n k a b)
def RMay (ds : List PyData) (d : PyData) : Prop := ∃ n k a b, Four n k a b ∧ ds = four n k a b ∧ d = .bool (sharesM n k a b).isSome
/-- one of the four is beyond its bounds -/
inductive Off4 : List PyData → Prop
  | n {n k a b : PyData} (h : numOk n 3 1000 = false) : Off4 [n, k, a, b]
  | k {n : Int} {k a b : PyData} (h0 : 3 ≤ n) (h1 : n ≤ 1000) (h : numOk k 1 (n - 2) = false) : Off4 [.int n, k, a, b]
  | a {n k : Int} {a b : PyData} (h0 : 3 ≤ n) (h1 : n ≤ 1000) (k0 : 1 ≤ k) (k1 : k ≤ n - 2) (h : numOk a 0 (k - 1) = false) : Off4 [.int n, .int k, a, b]
  | b {n k a : Int} {b : PyData} (h0 : 3 ≤ n) (h1 : n ≤ 1000) (k0 : 1 ≤ k) (k1 : k ≤ n - 2) (a0 : 0 ≤ a) (a1 : a ≤ k - 1) (h : numOk b 0 k = false) : Off4 [.int n, .int k, .int a, b]
theorem room_pos {n k a b : Int} (F : Four n k a b) : 1 ≤ roomM k a b ∧ roomM k a b ≤ 2000000 := by
  have h1 := F.n3
  have h2 := F.n1
  have h3 := F.k1
  have h4 := F.kn
  have h5 := F.a0
  have h6 := F.ak
  have h7 := F.b0
  have h8 := F.bk
  unfold roomM
  have e : (a - b) ^ 2 = (a - b) * (a - b) := by rw [Int.pow_succ, Int.pow_succ, Int.pow_zero, Int.one_mul]
  rw [e]
  have q : (a - b) * (a - b) ≤ 1000 * 1000 := by
    rcases Int.le_total 0 (a - b) with h | h
    · exact Int.mul_le_mul (by omega) (by omega) h (by omega)
    · have : (a - b) * (a - b) = (b - a) * (b - a) := by rw [← Int.neg_sub a b, Int.neg_mul_neg]
      rw [this]
      exact Int.mul_le_mul (by omega) (by omega) (by omega) (by omega)
  have p : 0 ≤ (a - b) * (a - b) := by
    rcases Int.le_total 0 (a - b) with h | h
    · exact Int.mul_nonneg h h
    · have : (a - b) * (a - b) = (b - a) * (b - a) := by rw [← Int.neg_sub a b, Int.neg_mul_neg]
      rw [this]
      exact Int.mul_nonneg (by omega) (by omega)
  by_cases z : k = b
  · have : 1 ≤ (a - b) * (a - b) := by
      have : (a - b) * (a - b) = (b - a) * (b - a) := by rw [← Int.neg_sub a b, Int.neg_mul_neg]
      rw [this]
      have := Int.mul_le_mul (show (1 : Int) ≤ b - a by omega) (show (1 : Int) ≤ b - a by omega) (by omega) (by omega)
      simpa using this
    omega
  · omega
end LTD
namespace LTD
open PySem L2 Evl NB LW LP NBI LM LG LO LS FM FW LSP
/-- how many windmills, in general -/
def wayJ (h : Int) : Nat → Int
  | 0 => h
  | i + 1 => wayJ h i * (1 + (i : Nat) * 2)
def cwN (h : Int) : Int := if h % 2 = 0 then 0 else if h = 3 then 1 else wayJ h (h / 2).toNat
def RCountN (ds : List PyData) (d : PyData) : Prop := ∃ h : Int, 1 ≤ h ∧ h ≤ 60 ∧ ds = [.int h] ∧ d = .int (cwN h)
theorem sqrt_sq {a : Int} (h : 0 ≤ a) : sqrtI a * sqrtI a ≤ a ∧ a < (sqrtI a + 1) * (sqrtI a + 1) ∧ 0 ≤ sqrtI a := by
  have q := Float64.isqrt_spec a.toNat
  unfold sqrtI
  generalize Float64.isqrt a.toNat = r at q
  refine ⟨?_, ?_, by omega⟩
  · have := Int.ofNat_le.mpr q.1
    rw [Int.natCast_mul] at this
    omega
  · have := Int.ofNat_lt.mpr q.2
    rw [Int.natCast_mul, Int.natCast_add] at this
    have e : ((a.toNat : Nat) : Int) = a := by omega
    rw [e] at this
    exact this
theorem root_bd {n k a b : Int} (F : Four n k a b) : 1 ≤ sqrtI (roomM k a b) ∧ sqrtI (roomM k a b) ≤ 1500 := by
  obtain ⟨h1, h2⟩ := room_pos F
  obtain ⟨q1, q2, q3⟩ := sqrt_sq (a := roomM k a b) (by omega)
  generalize sqrtI (roomM k a b) = r at q1 q2 q3
  constructor
  · rcases Int.lt_or_le 0 r with h | h
    · omega
    · have : r = 0 := by omega
      subst this
      simp at q2
      omega
  · rcases Int.lt_or_le 1500 r with h | h
    · have := Int.mul_le_mul (show (1501 : Int) ≤ r by omega) (show (1501 : Int) ≤ r by omega) (by omega) (by omega)
      omega
    · exact h
theorem lead_bd {n k a b l : Int} (F : Four n k a b) (h : leadM n k a b = some l) : -10000000 ≤ l ∧ l ≤ 10000000 := by
  have h1 := F.n3
  have h2 := F.n1
  have h3 := F.k1
  have h4 := F.kn
  have h5 := F.a0
  have h6 := F.ak
  have h7 := F.b0
  have h8 := F.bk
  unfold leadM at h
  by_cases z : leanM n k a b = 0
  · rw [if_pos z] at h
    cases h
    omega
  · rw [if_neg z] at h
    split at h
    · cases h
    · have e := (Option.some.inj h).symm
      have r := (root_bd F).1
      have w1 : (n - 1) * (a - b) ≤ 999 * 999 := by
        rcases Int.le_total 0 (a - b) with q | q
        · exact Int.mul_le_mul (by omega) (by omega) q (by omega)
        · have := Int.mul_le_mul_of_nonneg_left q (show 0 ≤ n - 1 by omega)
          simp at this
          omega
      have w2 : -(999 * 999) ≤ (n - 1) * (a - b) := by
        rcases Int.le_total 0 (b - a) with q | q
        · have := Int.mul_le_mul (show n - 1 ≤ 999 by omega) (show b - a ≤ 999 by omega) q (by omega)
          have e2 : (n - 1) * (a - b) = -((n - 1) * (b - a)) := by rw [← Int.neg_sub b a, Int.mul_neg]
          omega
        · have := Int.mul_nonneg (show 0 ≤ n - 1 by omega) (show 0 ≤ a - b by omega)
          omega
      have wb : -1000000 ≤ leanM n k a b ∧ leanM n k a b ≤ 1000000 := by unfold leanM; omega
      generalize leanM n k a b = wv at *
      generalize sqrtI (roomM k a b) = rv at *
      subst e
      have a1 : -(1000000 : Int) ≤ -wv := by omega
      have lo : -(1000000 : Int) ≤ (-wv) / rv := by
        have : (-(1000000 : Int)) / rv ≤ (-wv) / rv := Int.ediv_le_ediv (by omega) a1
        have : -(1000000 : Int) ≤ (-(1000000 : Int)) / rv := by
          rw [Int.le_ediv_iff_mul_le (by omega)]
          have := Int.mul_le_mul_of_nonneg_left r (show (0 : Int) ≤ 1000000 by decide)
          omega
        omega
      have hi : (-wv) / rv ≤ 1000000 := by
        have h9 : (-wv) / rv ≤ (1000000 : Int) / rv := Int.ediv_le_ediv (by omega) (by omega)
        have : (1000000 : Int) / rv ≤ 1000000 := Int.ediv_le_self _ (by decide)
        omega
      omega
end LTD

set_option Elab.async false
set_option linter.all false
set_option maxRecDepth 100000
set_option maxHeartbeats 4000000
/-! nets as texts: what the defs give -/
namespace LTX
open PySem L2 Evl NB LW LP NBI LM LG LO LS FM FW TL
abbrev nlS : Str := "\n"
abbrev spS : Str := " "
/-- a number, written -/
abbrev wI (i : Int) : Str := Str.ofString (toString i)
def aboveM (n : Int) (ps : List Pr) (h : Int) : List Int := (fri n ps h).filter fun f => decide (h < f)
def lineW (h : Int) (fs : List Int) : List Str := wI h :: "with" :: fs.map wI
def lineM (n : Int) (ps : List Pr) (h : Int) : Option Str := if aboveM n ps h = [] then none else some (Txt.join spS (lineW h (aboveM n ps h)))
def headM (n : Int) : Str := catJ Str.empty ["halls ", wI n]
def writeM (n : Int) (ps : List Pr) : Str := Txt.join nlS (headM n :: (upto 0 n).filterMap (lineM n ps))
def RWrite (ds : List PyData) (d : PyData) : Prop := ∃ (n : Int) (ps : List Pr), Net n ps ∧ ps.length < 100000 ∧ ds = [netD n ps] ∧ d = .str (writeM n ps)
/-! lengths -/
theorem wI_len {i : Int} (h0 : 0 ≤ i) (h1 : i ≤ 1000) : (wI i).length ≤ 4 := dig4 h0 h1
theorem join_len (y : Str) : ∀ parts : List Str, (Txt.join y parts).length ≤ (parts.map (·.length)).sum + parts.length * y.length := fun parts => by
  rw [join_eq]
  induction parts with
  | nil =>
    have e : (Str.join y []).length = 0 := rfl
    omega
  | cons p r ih =>
    cases r with
    | nil =>
      show p.length ≤ _
      simp
    | cons q r =>
      have e : (Str.join y (p :: q :: r)).length = p.length + y.length + (Str.join y (q :: r)).length := by
        rw [len_tl, tl_join]
        show (tl p ++ (tl y ++ joinL (tl y) ((q :: r).map tl))).length = _
        rw [List.length_append, List.length_append, ← tl_join, ← len_tl, ← len_tl, ← len_tl]
        omega
      rw [e, List.map_cons, List.sum_cons, List.length_cons, Nat.add_mul]
      omega
theorem sum_le {c : Nat} : ∀ {l : List Nat}, (∀ x ∈ l, x ≤ c) → l.sum ≤ c * l.length
  | [], _ => by simp
  | a :: l, h => by
    have h1 := h a List.mem_cons_self
    have h2 := sum_le fun x hx => h x (List.mem_cons_of_mem a hx)
    rw [List.sum_cons, List.length_cons, Nat.mul_add]
    omega
theorem above_bd {n : Int} {ps : List Pr} (N : Net n ps) (h : Int) : (aboveM n ps h).length ≤ 60 ∧ ∀ f ∈ aboveM n ps h, 0 ≤ f ∧ f < n ∧ h < f := by
  refine ⟨Nat.le_trans (List.length_filter_le _ _) (fri60 N h), fun f hf => ?_⟩
  obtain ⟨h1, h2⟩ := List.mem_filter.mp hf
  have := fri_in h1
  simp at h2
  omega
theorem lineW_len {h : Int} {fs : List Int} (h0 : 0 ≤ h) (h1 : h ≤ 1000) (hf : ∀ f ∈ fs, 0 ≤ f ∧ f ≤ 1000) : ∀ x ∈ lineW h fs, x.length ≤ 4 := fun x hx => by
  unfold lineW at hx
  rcases List.mem_cons.mp hx with rfl | hx
  · exact wI_len h0 h1
  · rcases List.mem_cons.mp hx with rfl | hx
    · show (4 : Nat) ≤ 4
      exact Nat.le_refl _
    · obtain ⟨f, hm, rfl⟩ := List.mem_map.mp hx
      exact wI_len (hf f hm).1 (hf f hm).2
theorem line_bd {n : Int} {ps : List Pr} (N : Net n ps) {h : Int} (h0 : 0 ≤ h) (h1 : h < n) : ((lineW h (aboveM n ps h)).map (·.length)).sum + (lineW h (aboveM n ps h)).length * spS.length ≤ 310 := by
  have n60 := N.n60
  obtain ⟨a1, a2⟩ := above_bd N h
  have l := lineW_len (h := h) (fs := aboveM n ps h) h0 (by omega) fun f hf => by have := a2 f hf; omega
  have ll : (lineW h (aboveM n ps h)).length ≤ 62 := by unfold lineW; simp; omega
  have s := sum_le (c := 4) (l := (lineW h (aboveM n ps h)).map (·.length)) fun x hx => by
    obtain ⟨z, hz, rfl⟩ := List.mem_map.mp hx
    exact l z hz
  rw [List.length_map] at s
  have e : spS.length = 1 := rfl
  rw [e]
  omega
theorem head_len {n : Int} (h0 : 0 ≤ n) (h1 : n ≤ 1000) : (headM n).length ≤ 10 := by
  have := wI_len h0 h1
  unfold headM catJ
  simp only [List.foldl_cons, List.foldl_nil]
  rw [len_tl, tl_append, tl_append, List.length_append, List.length_append, ← len_tl, ← len_tl, ← len_tl]
  have e1 : (Str.empty).length = 0 := rfl
  have e2 : ("halls " : Str).length = 6 := rfl
  omega
theorem lines_bd {n : Int} {ps : List Pr} (N : Net n ps) (i : Nat) : ∀ x ∈ headM n :: ((upto 0 n).take i).filterMap (lineM n ps), x.length ≤ 310 := fun x hx => by
  have n1 := N.n1
  have n60 := N.n60
  rcases List.mem_cons.mp hx with rfl | hx
  · have := head_len (n := n) (by omega) (by omega)
    omega
  · obtain ⟨h, hm, e⟩ := List.mem_filterMap.mp hx
    have hb := mem_upto.mp (List.mem_of_mem_take hm)
    unfold lineM at e
    split at e
    · cases e
    · have e := (Option.some.inj e).symm
      subst e
      exact Nat.le_trans (join_len _ _) (line_bd N hb.1 hb.2)
theorem text_bd {n : Int} {ps : List Pr} (N : Net n ps) : ((headM n :: (upto 0 n).filterMap (lineM n ps)).map (·.length)).sum + (headM n :: (upto 0 n).filterMap (lineM n ps)).length * nlS.length ≤ 20000 := by
  have n60 := N.n60
  have b := lines_bd N (upto 0 n).length
  rw [List.take_length] at b
  have ll : (headM n :: (upto 0 n).filterMap (lineM n ps)).length ≤ 61 := by
    have := List.length_filterMap_le (lineM n ps) (upto 0 n)
    rw [upto_len] at this
    simp
    omega
  have s := sum_le (c := 310) (l := (headM n :: (upto 0 n).filterMap (lineM n ps)).map (·.length)) fun x hx => by
    obtain ⟨z, hz, rfl⟩ := List.mem_map.mp hx
    exact b z hz
  rw [List.length_map] at s
  have e : nlS.length = 1 := rfl
  rw [e]
  generalize ((headM n :: (upto 0 n).filterMap (lineM n ps)).map (·.length)).sum = S at *
  generalize (headM n :: (upto 0 n).filterMap (lineM n ps)).length = Z at *
  omega
theorem write_len {n : Int} {ps : List Pr} (N : Net n ps) : (writeM n ps).length ≤ 20000 := Nat.le_trans (join_len _ _) (text_bd N)
theorem hub_get {n : Int} {ps : List Pr} {i : Nat} {d : PyData} (h : ((hubT n ps).map tpD)[i]? = some d) : d = .tuple [.int (i : Nat), .list (iD (fri n ps (i : Nat)))] ∧ ((i : Nat) : Int) < n ∧ (upto 0 n).take (i + 1) = (upto 0 n).take i ++ [((i : Nat) : Int)] := by
  unfold hubT at h
  rw [List.map_map, List.getElem?_map] at h
  cases e : (upto 0 n)[i]? with
  | none => rw [e] at h; cases h
  | some x =>
    rw [e] at h
    have hi := (List.getElem?_eq_some_iff.mp e).1
    rw [upto_len] at hi
    have := upto_get (lo := 0) (hi := n) (i := i) hi
    rw [e] at this
    have ex : x = ((i : Nat) : Int) := by
      have := Option.some.inj this
      omega
    subst ex
    refine ⟨(Option.some.inj h).symm, by omega, ?_⟩
    rw [List.take_add_one, e]
    rfl
theorem filt_above (n : Int) (ps : List Pr) (h : Int) : ((iD (fri n ps h)).filter fun d => match d with | .int f => decide (h < f) | _ => false).map (fun d => match d with | .int f => .str (wI f) | _ => .none) = sD ((aboveM n ps h).map wI) := by
  unfold iD sD aboveM
  rw [List.filter_map, List.map_map, List.map_map]
  rfl
/-! ### texts read -/
def wordsM (line : Str) : List Str := (Txt.split line spS).filter fun w => !decide (w = "")
theorem words_len (line : Str) : (wordsM line).length ≤ line.length + 2 := Nat.le_trans (List.length_filter_le _ _) (PyProof.Rows.split_le line spS)
def RWords (ds : List PyData) (d : PyData) : Prop := ∃ line : Str, line.length ≤ 90000 ∧ ds = [.str line] ∧ d = .list (sD (wordsM line))
def RWordAt (ds : List PyData) (d : PyData) : Prop := ∃ (l p : Int) (ws al : List Str) (w : Str), 1 ≤ p ∧ p ≤ ws.length ∧ ws[(p - 1).toNat]? = some w ∧ w ∈ al ∧ ds = [.int l, .list (sD ws), .int p, .list (sD al)] ∧ d = .str w
def RNumAt (ds : List PyData) (d : PyData) : Prop := ∃ (l p lo hi v : Int) (ws : List Str), 1 ≤ p ∧ p ≤ ws.length ∧ ws[(p - 1).toNat]? = some (wI v) ∧ 0 ≤ lo ∧ lo ≤ v ∧ v ≤ hi ∧ hi ≤ 1000 ∧ ds = [.int l, .list (sD ws), .int p, .int lo, .int hi] ∧ d = .int v
def RReadH (ds : List PyData) (d : PyData) : Prop := ∃ l n : Int, 1 ≤ n ∧ n ≤ 60 ∧ ds = [.int l, .list (sD ["halls", wI n])] ∧ d = .int n
/-- ascending numbers above b, below n -/
def Chain : Int → Int → List Int → Prop
  | _, _, [] => True
  | b, n, f :: r => b < f ∧ f < n ∧ Chain f n r
def prsOf (p : Int × List Int) : List Pr := p.2.map fun f => (p.1, f)
def RReadP (ds : List PyData) (d : PyData) : Prop := ∃ (l lo n h : Int) (fs : List Int), 0 ≤ lo ∧ lo ≤ h ∧ h < n ∧ n ≤ 60 ∧ fs ≠ [] ∧ Chain h n fs ∧ ds = [.int l, .list (sD (lineW h fs)), .int lo, .int n] ∧ d = .list (pD (prsOf (h, fs)))
/-- lines in order, the first hall least or above -/
def LinesOk : Int → Int → List (Int × List Int) → Prop
  | _, _, [] => True
  | lo, n, (h, fs) :: r => lo ≤ h ∧ h < n ∧ fs ≠ [] ∧ Chain h n fs ∧ LinesOk (h + 1) n r
def rowsM (text : Str) : List (List Str) := (Txt.split text nlS).map wordsM
def RRead (ds : List PyData) (d : PyData) : Prop := ∃ (text : Str) (n : Int) (L : List (Int × List Int)), 1 ≤ n ∧ n ≤ 60 ∧ LinesOk 0 n L ∧ text.length ≤ 80000 ∧ (rowsM text).filter (fun ws => !decide (ws = [])) = (["halls", wI n] : List Str) :: L.map (fun p => lineW p.1 p.2) ∧ ds = [.str text] ∧ d = netD n (L.flatMap prsOf)
theorem sD_at {ws : List Str} {p : Int} {w : Str} (h1 : 1 ≤ p) (h : ws[(p - 1).toNat]? = some w) : atI (sD ws) (p - 1) = some (.str w) := by
  have hl := (List.getElem?_eq_some_iff.mp h).1
  have e : (sD ws)[(p - 1).toNat]? = some (.str w) := by
    unfold sD
    rw [List.getElem?_map, h]
    rfl
  have l2 : (sD ws).length = ws.length := by simp [sD]
  unfold atI ixN
  rw [if_pos (by omega), if_pos (by omega)]
  exact e
theorem at_zero {α : Type} (x : α) (l : List α) : atI (x :: l) 0 = some x := by
  unfold atI ixN
  rw [if_pos (Int.le_refl 0), if_pos (by simp)]
  rfl
theorem chain_mem : ∀ {b n : Int} {fs : List Int}, Chain b n fs → ∀ f ∈ fs, b < f ∧ f < n
  | _, _, [], _, f, h => by cases h
  | b, n, g :: r, c, f, h => by
    obtain ⟨c1, c2, c3⟩ := c
    rcases List.mem_cons.mp h with rfl | h
    · exact ⟨c1, c2⟩
    · have := chain_mem c3 f h
      exact ⟨by omega, this.2⟩
theorem chain_len : ∀ {b n : Int} {fs : List Int}, 0 ≤ b → Chain b n fs → b < n → (fs.length : Int) ≤ n - b
  | _, _, [], _, _, h => by simp; omega
  | b, n, g :: r, hb, c, h => by
    obtain ⟨c1, c2, c3⟩ := c
    have := chain_len (by omega) c3 c2
    simp
    omega
/-- the last one told, b at first -/
def lastF (b : Int) (fs : List Int) (i : Nat) : Int := if i = 0 then b else fs.getD (i - 1) 0
theorem chain_at : ∀ {b n : Int} {fs : List Int} {i : Nat} {f : Int}, Chain b n fs → fs[i]? = some f → lastF b fs i < f ∧ f < n
  | _, _, [], i, f, _, h => by simp at h
  | b, n, g :: r, 0, f, c, h => by
    simp at h
    subst h
    exact ⟨c.1, c.2.1⟩
  | b, n, g :: r, i + 1, f, c, h => by
    have h' : r[i]? = some f := by simpa using h
    have q := chain_at c.2.2 h'
    refine ⟨?_, q.2⟩
    have e : lastF b (g :: r) (i + 1) = lastF g r i := by
      unfold lastF
      rw [if_neg (by omega)]
      cases i with
      | zero => rfl
      | succ j => rw [if_neg (by omega)]; rfl
    rw [e]
    exact q.1
theorem spl_part_len (S : List Nat) : ∀ (l : List Nat) (k : Nat) (acc p : List Nat), p ∈ spl S k acc l → p.length ≤ acc.length + l.length
  | [], k, acc, p, h => by
    rw [spl_nil] at h
    rw [List.mem_singleton.mp h]
    simp
  | c :: r, 0, acc, p, h => by
    by_cases q : pre S (c :: r) = true
    · rw [spl_hit q] at h
      rcases List.mem_cons.mp h with rfl | h
      · simp
      · have := spl_part_len S r _ _ p h
        simp at this ⊢
        omega
    · rw [spl_miss (by simpa using q)] at h
      have := spl_part_len S r _ _ p h
      simp at this ⊢
      omega
  | c :: r, k + 1, acc, p, h => by
    have := spl_part_len S r k acc p h
    simp at this ⊢
    omega
theorem part_len {text x : Str} (h : x ∈ Txt.split text (Str.ofString "\n")) : x.length ≤ text.length := by
  have e := split_spl text nlS (by decide) (kind_ok (by decide +kernel))
  have m : tl x ∈ spl (tl nlS) 0 [] (tl text) := by
    rw [← e]
    exact List.mem_map.mpr ⟨x, h, rfl⟩
  have := spl_part_len _ _ _ _ _ m
  rw [len_tl, len_tl]
  simpa using this
/-! the rows with their numbers -/
def enumW : Int → List (List Str) → List (Int × List Str)
  | _, [] => []
  | c, w :: r => (c, w) :: enumW (c + 1) r
def nwD (q : Int × List Str) : PyData × PyData := (.int q.1, .list (sD q.2))
theorem enumW_len : ∀ (c : Int) (W : List (List Str)), (enumW c W).length = W.length
  | _, [] => rfl
  | c, w :: r => by
    show (enumW (c + 1) r).length + 1 = r.length + 1
    rw [enumW_len]
theorem enumW_get : ∀ {c : Int} {W : List (List Str)} {i : Nat} {w : List Str}, W[i]? = some w → (enumW c W)[i]? = some (c + (i : Nat), w)
  | _, [], i, w, h => by simp at h
  | c, w :: r, 0, v, h => by
    simp at h
    subst h
    show some (c, w) = _
    simp
  | c, w :: r, i + 1, v, h => by
    have h' : r[i]? = some v := by simpa using h
    have q := enumW_get (c := c + 1) h'
    show (enumW (c + 1) r)[i]? = _
    rw [q]
    congr 2
    omega
theorem enC_W (c : Int) (W : List (List Str)) : enC c (W.map fun ws => PyData.list (sD ws)) = ((enumW c W).map nwD).map tpD := by
  refine List.ext_getElem? fun i => ?_
  unfold enC
  rw [List.getElem?_map, List.getElem?_map, List.getElem?_map, List.length_map]
  by_cases hi : i < W.length
  · have e1 : W[i]? = some W[i] := by simp [hi]
    rw [enumW_get e1, List.getElem?_eq_getElem (by simpa using hi)]
    simp [nwD, hi]
  · rw [List.getElem?_eq_none (by simpa using hi), List.getElem?_eq_none (by rw [enumW_len]; omega)]
    rfl
def neW (q : PyData × PyData) : Bool := match q.2 with | .list xs => decide ((xs.length : Int) > 0) | _ => false
def nwT (q : Int × List Str) : PyData := .tuple [.int q.1, .list (sD q.2)]
/-- the rows with words: their numbers do not matter -/
theorem rows_filt : ∀ (c : Int) (W : List (List Str)), ∃ ms : List Int, ms.length = (W.filter fun ws => !decide (ws = [])).length ∧ (((enumW c W).map nwD).filter neW).map tpD = (ms.zip (W.filter fun ws => !decide (ws = []))).map nwT
  | _, [] => ⟨[], rfl, rfl⟩
  | c, w :: r => by
    obtain ⟨ms, h1, h2⟩ := rows_filt (c + 1) r
    cases w with
    | nil =>
      refine ⟨ms, by simpa using h1, ?_⟩
      show (((nwD (c, []) :: (enumW (c + 1) r).map nwD).filter neW).map tpD) = _
      rw [List.filter_cons, if_neg (show ¬ neW (nwD (c, [])) = true by simp [neW, nwD, sD])]
      simpa using h2
    | cons a b =>
      refine ⟨c :: ms, by simp [h1], ?_⟩
      show (((nwD (c, a :: b) :: (enumW (c + 1) r).map nwD).filter neW).map tpD) = _
      rw [List.filter_cons, if_pos (show neW (nwD (c, a :: b)) = true by simp only [neW, nwD, sD, List.map_cons, List.length_cons]; exact decide_eq_true (by omega)), List.filter_cons, if_pos (by simp)]
      rw [List.map_cons, h2, List.zip_cons_cons, List.map_cons]
      rfl
/-- the least hall that the next line may have -/
def lowL (lo : Int) (L : List (Int × List Int)) (i : Nat) : Int := if i = 0 then lo else (L.getD (i - 1) (0, [])).1 + 1
theorem lines_at : ∀ {lo n : Int} {L : List (Int × List Int)} {i : Nat} {h : Int} {fs : List Int}, 0 ≤ lo → LinesOk lo n L → L[i]? = some (h, fs) → 0 ≤ lowL lo L i ∧ lowL lo L i ≤ h ∧ h < n ∧ fs ≠ [] ∧ Chain h n fs
  | _, _, [], i, h, fs, _, _, e => by simp at e
  | lo, n, (g, gs) :: r, 0, h, fs, l0, c, e => by
    simp at e
    obtain ⟨rfl, rfl⟩ := e
    exact ⟨l0, c.1, c.2.1, c.2.2.1, c.2.2.2.1⟩
  | lo, n, (g, gs) :: r, i + 1, h, fs, l0, c, e => by
    have e' : r[i]? = some (h, fs) := by simpa using e
    have c1 : lo ≤ g := c.1
    have q := lines_at (by omega) c.2.2.2.2 e'
    have eq : lowL lo ((g, gs) :: r) (i + 1) = lowL (g + 1) r i := by
      unfold lowL
      rw [if_neg (by omega)]
      cases i with
      | zero => rfl
      | succ j => rw [if_neg (by omega)]; rfl
    rw [eq]
    exact q
theorem lines_len : ∀ {lo n : Int} {L : List (Int × List Int)}, LinesOk lo n L → lo ≤ n → (L.length : Int) ≤ n - lo
  | _, _, [], _, h => by simp; omega
  | lo, n, (g, gs) :: r, c, h => by
    have c1 : lo ≤ g := c.1
    have c2 : g < n := c.2.1
    have := lines_len c.2.2.2.2 (by omega)
    simp
    omega
theorem lines_flat {lo n : Int} {L : List (Int × List Int)} (l0 : 0 ≤ lo) (n60 : n ≤ 60) (h : LinesOk lo n L) (i : Nat) : ((L.take i).flatMap prsOf).length ≤ 60 * i := by
  induction i with
  | zero => simp
  | succ i ih =>
    rw [List.take_add_one, List.flatMap_append, List.length_append]
    cases e : L[i]? with
    | none =>
      have e0 : ((none : Option (Int × List Int)).toList.flatMap prsOf).length = 0 := rfl
      rw [e0]
      omega
    | some p =>
      obtain ⟨g, gs⟩ := p
      obtain ⟨q1, q2, q3, q4, q5⟩ := lines_at l0 h e
      have := chain_len (by omega) q5 q3
      have e1 : ([(g, gs)].flatMap prsOf).length = gs.length := by simp [prsOf]
      show _ + ([(g, gs)].flatMap prsOf).length ≤ _
      rw [e1]
      omega
end LTX

set_option Elab.async false
set_option linter.all false
set_option maxRecDepth 100000
set_option maxHeartbeats 4000000
/-! a net's text, read back -/
namespace LTX
open PySem L2 Evl NB LW LP NBI LM LG LO LS FM FW TL
/-- the lines of a net -/
def linesL (n : Int) (ps : List Pr) (hs : List Int) : List (Int × List Int) := hs.filterMap fun h => if aboveM n ps h = [] then none else some (h, aboveM n ps h)
section
variable {n : Int} {ps : List Pr}
theorem chain_of {b : Int} : ∀ {l : List Int}, l.Pairwise (· < ·) → (∀ x ∈ l, b < x ∧ x < n) → Chain b n l
  | [], _, _ => trivial
  | a :: l, p, h => by
    obtain ⟨p1, p2⟩ := List.pairwise_cons.mp p
    have ha := h a List.mem_cons_self
    exact ⟨ha.1, ha.2, chain_of p2 fun x hx => ⟨p1 x hx, (h x (List.mem_cons_of_mem _ hx)).2⟩⟩
theorem above_chain (h : Int) : Chain h n (aboveM n ps h) := chain_of ((fri_lt n ps h).filter _) fun x hx => by
  obtain ⟨h1, h2⟩ := List.mem_filter.mp hx
  exact ⟨of_decide_eq_true h2, (fri_in h1).2⟩
theorem lines_weak : ∀ {L : List (Int × List Int)} {lo lo' : Int}, lo' ≤ lo → LinesOk lo n L → LinesOk lo' n L
  | [], _, _, _, _ => trivial
  | (h, fs) :: r, lo, lo', l, c => ⟨Int.le_trans l c.1, c.2.1, c.2.2.1, c.2.2.2.1, c.2.2.2.2⟩
theorem lines_ok : ∀ {hs : List Int} {lo : Int}, hs.Pairwise (· < ·) → (∀ h ∈ hs, lo ≤ h ∧ h < n) → LinesOk lo n (linesL n ps hs)
  | [], _, _, _ => trivial
  | h :: hs, lo, p, b => by
    obtain ⟨p1, p2⟩ := List.pairwise_cons.mp p
    have hb := b h List.mem_cons_self
    have i := lines_ok (lo := h + 1) p2 fun x hx => ⟨by have := p1 x hx; omega, (b x (List.mem_cons_of_mem _ hx)).2⟩
    unfold linesL at i ⊢
    by_cases q : aboveM n ps h = []
    · rw [List.filterMap_cons, if_pos q]
      exact lines_weak (by omega) i
    · rw [List.filterMap_cons, if_neg q]
      exact ⟨hb.1, hb.2, q, above_chain h, i⟩
theorem mem_flat {hs : List Int} {p : Pr} : p ∈ (linesL n ps hs).flatMap prsOf ↔ p.1 ∈ hs ∧ p.2 ∈ aboveM n ps p.1 := by
  rw [List.mem_flatMap]
  unfold linesL prsOf
  constructor
  · rintro ⟨q, hq, hp⟩
    obtain ⟨h, hh, e⟩ := List.mem_filterMap.mp hq
    split at e
    · cases e
    · have e := (Option.some.inj e).symm
      subst e
      obtain ⟨f, hf, rfl⟩ := List.mem_map.mp hp
      exact ⟨hh, hf⟩
  · rintro ⟨h1, h2⟩
    refine ⟨(p.1, aboveM n ps p.1), List.mem_filterMap.mpr ⟨p.1, h1, if_neg (List.ne_nil_of_mem h2)⟩, List.mem_map.mpr ⟨p.2, h2, rfl⟩⟩
theorem flat_asc : ∀ {hs : List Int}, hs.Pairwise (· < ·) → ((linesL n ps hs).flatMap prsOf).Pairwise prLt
  | [], _ => .nil
  | h :: hs, p => by
    obtain ⟨p1, p2⟩ := List.pairwise_cons.mp p
    have i := flat_asc p2
    by_cases q : aboveM n ps h = []
    · have e : linesL n ps (h :: hs) = linesL n ps hs := by unfold linesL; rw [List.filterMap_cons, if_pos q]
      rw [e]
      exact i
    · have e : linesL n ps (h :: hs) = (h, aboveM n ps h) :: linesL n ps hs := by unfold linesL; rw [List.filterMap_cons, if_neg q]
      rw [e, List.flatMap_cons]
      refine List.pairwise_append.mpr ⟨?_, i, fun a ha b hb => ?_⟩
      · unfold prsOf
        rw [List.pairwise_map]
        exact ((fri_lt n ps h).filter _).imp fun {x y} l => .inr ⟨rfl, l⟩
      · obtain ⟨f, _, rfl⟩ := List.mem_map.mp ha
        exact .inl (p1 _ (mem_flat.mp hb).1)
theorem flat_net (N : Net n ps) : (linesL n ps (upto 0 n)).flatMap prsOf = ps := asc_unique (flat_asc (upto_pw 0 n)) N.asc fun p => by
  rw [mem_flat]
  unfold aboveM
  rw [List.mem_filter, mem_upto, mem_fri, decide_eq_true_eq]
  constructor
  · rintro ⟨a, ⟨b, m⟩, l⟩
    rw [show min p.1 p.2 = p.1 by omega, show max p.1 p.2 = p.2 by omega] at m
    exact m
  · intro m
    have b := N.pr p m
    refine ⟨by omega, ⟨by omega, ?_⟩, b.2.1⟩
    rw [show min p.1 p.2 = p.1 by omega, show max p.1 p.2 = p.2 by omega]
    exact m
end
/-! words and lines -/
theorem wI_free : ∀ i : Fin 61, (tl (wI (i.val : Int))).all (fun c => decide (48 ≤ c ∧ c ≤ 57)) = true ∧ tl (wI (i.val : Int)) ≠ [] := by decide +kernel
theorem head_words : ∀ i : Fin 61, wordsM (headM (i.val : Int)) = (["halls", wI (i.val : Int)] : List Str) ∧ 10 ∉ tl (headM (i.val : Int)) := by decide +kernel
theorem word_free {i : Int} (h0 : 0 ≤ i) (h1 : i ≤ 60) : 32 ∉ tl (wI i) ∧ 10 ∉ tl (wI i) ∧ wI i ≠ "" := by
  have f := wI_free ⟨i.toNat, by omega⟩
  simp only at f
  rw [show ((i.toNat : Nat) : Int) = i by omega, List.all_eq_true] at f
  refine ⟨fun h => ?_, fun h => ?_, fun h => f.2 (by rw [h]; rfl)⟩
  · have := of_decide_eq_true (f.1 32 h)
    omega
  · have := of_decide_eq_true (f.1 10 h)
    omega
theorem with_free : 32 ∉ tl ("with" : Str) ∧ 10 ∉ tl ("with" : Str) ∧ ("with" : Str) ≠ "" := by decide +kernel
theorem line_free {h : Int} {fs : List Int} (h0 : 0 ≤ h) (h1 : h ≤ 60) (hf : ∀ f ∈ fs, 0 ≤ f ∧ f ≤ 60) : ∀ x ∈ lineW h fs, 32 ∉ tl x ∧ 10 ∉ tl x ∧ x ≠ "" := fun x hx => by
  unfold lineW at hx
  rcases List.mem_cons.mp hx with rfl | hx
  · exact word_free h0 h1
  · rcases List.mem_cons.mp hx with rfl | hx
    · exact with_free
    · obtain ⟨f, m, rfl⟩ := List.mem_map.mp hx
      exact word_free (hf f m).1 (hf f m).2
theorem filter_self {α : Type} {p : α → Bool} : ∀ {l : List α}, (∀ x ∈ l, p x = true) → l.filter p = l
  | [], _ => rfl
  | a :: l, h => by
    rw [List.filter_cons, if_pos (h a List.mem_cons_self), filter_self fun x hx => h x (List.mem_cons_of_mem _ hx)]
theorem words_join {ws : List Str} (ne : ws ≠ []) (h : ∀ x ∈ ws, 32 ∉ tl x ∧ x ≠ "") : wordsM (Txt.join spS ws) = ws := by
  unfold wordsM
  rw [split_join (s := 32) (S := []) (by decide +kernel) (by decide +kernel) ne fun p hp => (h p hp).1]
  exact filter_self fun x hx => by simp [(h x hx).2]
theorem mem_joinL {S : List Nat} {c : Nat} : ∀ {L : List (List Nat)}, c ∈ joinL S L → c ∈ S ∨ ∃ p ∈ L, c ∈ p
  | [], h => by cases h
  | [p], h => .inr ⟨p, List.mem_cons_self, h⟩
  | p :: q :: r, h => by
    have h : c ∈ p ++ (S ++ joinL S (q :: r)) := h
    rcases List.mem_append.mp h with h | h
    · exact .inr ⟨p, List.mem_cons_self, h⟩
    · rcases List.mem_append.mp h with h | h
      · exact .inl h
      · rcases mem_joinL h with h | ⟨z, hz, h⟩
        · exact .inl h
        · exact .inr ⟨z, List.mem_cons_of_mem _ hz, h⟩
theorem join_free {ws : List Str} (h : ∀ x ∈ ws, 10 ∉ tl x) : 10 ∉ tl (Txt.join spS ws) := by
  rw [join_eq, tl_join]
  intro m
  rcases mem_joinL m with m | ⟨p, hp, m⟩
  · revert m; decide +kernel
  · obtain ⟨x, hx, rfl⟩ := List.mem_map.mp hp
    exact h x hx m
section
variable {n : Int} {ps : List Pr}
theorem lines_map (hs : List Int) : hs.filterMap (lineM n ps) = (linesL n ps hs).map fun p => Txt.join spS (lineW p.1 p.2) := by
  unfold linesL lineM
  rw [List.map_filterMap]
  congr 1
  funext h
  split <;> rfl
theorem mem_lines {hs : List Int} {p : Int × List Int} (h : p ∈ linesL n ps hs) : p.1 ∈ hs ∧ p.2 = aboveM n ps p.1 ∧ p.2 ≠ [] := by
  obtain ⟨x, hx, e⟩ := List.mem_filterMap.mp h
  split at e
  · cases e
  · rename_i q
    have e := (Option.some.inj e).symm
    subst e
    exact ⟨hx, rfl, q⟩
/-- the text read: the net -/
theorem read_write (N : Net n ps) : RRead [.str (writeM n ps)] (netD n ps) := by
  have n1 := N.n1
  have n60 := N.n60
  have hw := head_words ⟨n.toNat, by omega⟩
  simp only at hw
  rw [show ((n.toNat : Nat) : Int) = n by omega] at hw
  have lf : ∀ p ∈ linesL n ps (upto 0 n), ∀ x ∈ lineW p.1 p.2, 32 ∉ tl x ∧ 10 ∉ tl x ∧ x ≠ "" := fun p hp => by
    obtain ⟨h1, h2, h3⟩ := mem_lines hp
    have b := mem_upto.mp h1
    refine line_free b.1 (by omega) fun f hf => ?_
    rw [h2] at hf
    have := (above_bd N p.1).2 f hf
    omega
  refine ⟨writeM n ps, n, linesL n ps (upto 0 n), n1, n60, lines_ok (upto_pw 0 n) (fun h hh => mem_upto.mp hh), Nat.le_trans (write_len N) (by decide), ?_, rfl, by rw [flat_net N]⟩
  unfold rowsM writeM
  rw [split_join (s := 10) (S := []) (by decide +kernel) (by decide +kernel) (by simp) fun p hp => ?_]
  · rw [List.map_cons, hw.1, lines_map, List.map_map]
    have e : (linesL n ps (upto 0 n)).map (wordsM ∘ fun p => Txt.join spS (lineW p.1 p.2)) = (linesL n ps (upto 0 n)).map fun p => lineW p.1 p.2 := List.map_congr_left fun p hp => words_join (by unfold lineW; simp) fun x hx => ⟨(lf p hp x hx).1, (lf p hp x hx).2.2⟩
    rw [e]
    exact filter_self fun x hx => by
      rcases List.mem_cons.mp hx with rfl | hx
      · rfl
      · obtain ⟨p, _, rfl⟩ := List.mem_map.mp hx
        rfl
  · rcases List.mem_cons.mp hp with rfl | hp
    · exact hw.2
    · rw [lines_map] at hp
      obtain ⟨q, hq, rfl⟩ := List.mem_map.mp hp
      exact join_free fun x hx => (lf q hq x hx).2.1
end
end LTX

set_option Elab.async false
set_option linter.all false
set_option maxRecDepth 100000
set_option maxHeartbeats 4000000
/-! the logic's rules: errors that carry fields -/
namespace NB
open PySem L2 Evl PyProof.Rows
/-- the error's dict, told of G: none, or these fields -/
def RzD (o : Option (List (Str × V))) (d : Option Addr) (G : Hp) : Prop := match o with
  | none => d = none
  | some fs => ∃ dd, d = some dd ∧ G dd = some (.xd fs)
theorem RzD.mono {o : Option (List (Str × V))} {d : Option Addr} {G G' : Hp} (e : Ex G G') (h : RzD o d G) : RzD o d G' := by
  cases o with
  | none => exact h
  | some fs =>
    obtain ⟨dd, h1, h2⟩ := h
    exact ⟨dd, h1, e _ _ h2⟩
section
variable {X : Cx} {env env1 env2 : En} {e a b c tg : Expr} {es : List Expr} {pos : Pos} {st : Stmt} {rest body : List Stmt} {W : WX} {C : Addr} {o : Option (List (Str × V))} {d : PyData} {ds : List PyData}
def tYF (K : PySem.W.Frag) (w : World) (W : WX) (C : Addr) (o : Option (List (Str × V))) (env : En) : TE := fun σ H _ => ∃ Γ z, SD K w Γ z H σ env ∧ ∀ d H', Ex (cut H z) (cut H' z) → SD K w Γ z H' σ env → RzD o d (cut H' z) → W (.ref C) d σ H'
def tYFA (K : PySem.W.Frag) (w : World) (W : WX) (C : Addr) (o : Option (List (Str × V))) (env : En) : TA := fun σ H _ => ∃ Γ z, SD K w Γ z H σ env ∧ ∀ d H', Ex (cut H z) (cut H' z) → SD K w Γ z H' σ env → RzD o d (cut H' z) → W (.ref C) d σ H'
def tZF (K : PySem.W.Frag) (w : World) (W : WX) (C : Addr) (o : Option (List (Str × V))) (env : En) : TS := fun _ σ H => ∃ Γ z, SD K w Γ z H σ env ∧ ∀ d env' z' σ' H', Ex (cut H z) (cut H' z') → SD K w Γ z' H' σ' env' → RzD o d (cut H' z') → W (.ref C) d σ' H'
abbrev PZF (X : Cx) (W : WX) (C : Addr) (o : Option (List (Str × V))) (e : Expr) (env : En) : Prop := PE X e (tYF X.K X.w W C o env)
abbrev HZF1 (X : Cx) (W : WX) (C : Addr) (o : Option (List (Str × V))) (st : Stmt) (env : En) : Prop := PS X st (tZF X.K X.w W C o env)
abbrev HZF (X : Cx) (W : WX) (C : Addr) (o : Option (List (Str × V))) (st : List Stmt) (env : En) : Prop := PSs X st (tZF X.K X.w W C o env)
theorem hzf_one (h1 : PS X st (tS X.K X.w env { nx := fun e => e = env1 })) (h2 : HZF X W C o rest env1) : HZF X W C o (st :: rest) env :=
  pss_imp (pss_cons h1 h2) fun D σ H ⟨Γ, z, sd, k⟩ => ⟨Γ, z, sd, fun env' z' σ' H' q ex sd' => by
    have q2 : env' = env1 := q
    subst q2
    exact ⟨Γ, z', sd', fun d e2 z2 σ2 H2 ex2 sd2 r => k d e2 z2 σ2 H2 (ex.trans ex2) sd2 r⟩, fun _ _ _ _ _ _ q => q.elim, fun _ _ _ _ q => q.elim, fun _ _ _ _ q => q.elim⟩
theorem hzf_st (h : HZF1 X W C o st env) : HZF X W C o (st :: rest) env := pss_imp (pss_cons h (h_never (X := X))) fun D σ H q => q
theorem hzf_eq (l : env = env1) (h : HZF X W C o rest env1) : HZF X W C o rest env := l ▸ h
theorem zf_of {σ : L2.St} {H : Hp} {D : Ends} {Q : VK} (h : tZF X.K X.w W C o env D σ H) : tYF X.K X.w W C o env σ H Q := by
  obtain ⟨Γ, z, sd, k⟩ := h
  exact ⟨Γ, z, sd, fun d H' ex sd' r => k d env z σ H' ex sd' r⟩
theorem hzf_expr (he : PZF X W C o e env) (hs : swapsWith e none pos.line X.env = pure false := by rfl) : HZF1 X W C o (.Expr e pos) env := ps_imp (ps_expr he hs) fun D σ H h => zf_of h
theorem hzf_ret (he : PZF X W C o e env) : HZF1 X W C o (.Return (some e) pos) env := ps_imp (ps_ret he) fun D σ H h => zf_of h
theorem hzf_asg {g : TG} (he : PZF X W C o e env) (hg : PG X tg g) (hs : swapsWithSole [tg] e pos.line X.env = pure false := by rfl) (hw : swappedStores [tg] e X.env = pure none := by rfl) (h1 : (assignEach [tg] X.env).map (·.2) = [assign tg X.env] := by rfl) :
    HZF1 X W C o (.Assign [tg] e pos) env := ps_imp (ps_asg he hg hs hw h1) fun D σ H h => zf_of h
theorem hzf_set (i : Nat) (hN : X.N.Nodup) {x : Str} {px : Pos} (he : PZF X W C o e env) (hi : X.N[i]? = some x := by rfl) (hx : Loc X.env.scope x := by first | exact Or.inl rfl | exact Or.inr rfl)
    (hs : swapsWith e (some (.Name x px)) pos.line X.env = pure false := by rfl) (hf : X.fn x = true ∨ X.env.scope.names.lookup x = some .local := by first | exact .inl rfl | exact .inr rfl) : HZF1 X W C o (.Assign [.Name x px] e pos) env :=
  ps_imp (ps_set hN hi hx he hs hf) fun D σ H h => zf_of h
theorem hzf_if {s1 s2 : List Stmt} (hc : PB X c env true env1) (h : HZF X W C o s1 env1) : HZF1 X W C o (.If c s1 s2 pos) env :=
  ps_imp (ps_if hc h h_never) fun D σ H ⟨Γ, z, sd, k⟩ => ⟨Γ, z, sd, fun H' ex sd' => by
    refine iteT ?_
    exact ⟨Γ, z, sd', fun d e2 z2 σ2 H2 ex2 sd2 r => k d e2 z2 σ2 H2 (ex.trans ex2) sd2 r⟩⟩
/-- a test that raises -/
theorem hzf_ift {s1 s2 : List Stmt} {t : TT} (hc : PT X c t) (ht : ∀ σ H Q, tYF X.K X.w W C o env σ H (fun _ _ => True) → t σ H Q) : HZF1 X W C o (.If c s1 s2 pos) env :=
  ps_imp (ps_if hc (h_never (X := X) (sts := s1)) (h_never (X := X) (sts := s2))) fun D σ H h => ht σ H _ (zf_of h)
/-- f(a), the argument raises -/
theorem paf_first (ha : PZF X W C o a env) (hr : ∃ t, PA X es t) (hs : starEach (a :: es) X.env = (false, eval a X.env) :: starEach es X.env := by rfl) : PA X (a :: es) (tYFA X.K X.w W C o env) := by
  obtain ⟨t, hr⟩ := hr
  exact pa_imp (pa_cons ha hr hs) fun σ H Q h => h
/-- C(e, ..), C's own __init__: the error's fields are fs -/
theorem hzf_raise {x : Str} {CX : CXT} {fI : Addr} {k : Nat} {fd : FuncData} {ps : List Str} {sp : Sp} {p pos2 : Pos} {fs : List (Str × V)} (tk : Takes X W) (hc : X.calm = true) (T : OexC X.K C) (iC : PySem.W.findIn X.K (.ref C) "__init__" = some (some (.ref fI))) (tI : PySem.W.typeIn X.K (.ref fI) = some (.type "function"))
    (F1 : FnOk X.prog X.w X.K X.mg X.base CX k fI fd ps sp) (hr : Room (k + 1) X.A) (hb : Binds X.K fd ps []) (hx : Passes CX X (fun _ _ _ => False)) (hm : X.mg x = some (.ref C)) (ha : PAD X (e :: es) env ds env)
    (hsp : ∀ z vs H1 a E (Q : VK), DpAll X.K (cut H1 z) vs ds → (∀ a, z a = true → H1 a ≠ none) → H1 a = none → (∀ dx, upd H1 a (exo a C none) dx = none → dx ≠ a → Q .non (upd (upd (upd H1 a (exo a C none)) dx (exd dx fs)) a (exo a C (some dx)))) → sp (.ref a :: (vs ++ [])) (upd H1 a (exo a C none)) Q E)
    (hl : ds.length ≤ 1000 := by decide)
    (hg : Gl X x := by rfl) (hdb : (x == ("__debug__" : Str)) = false := by decide) (he : starEach (e :: es) X.env = (false, eval e X.env) :: starEach es X.env := by rfl) (hpl : (backTo pos (starEach es X.env)).any (·.1) = false := by rfl) :
    HZF1 X W C (some fs) (.Raise (some (.Call (.Name x p) (e :: es) [] pos)) none pos2) env :=
  ps_imp (ps_raise hc tk (pmk_oex (dvs := []) (ds := []) T iC tI F1 hr hb .nil hx hg hm ha hdb he hpl)) fun D σ H ⟨Γ, z, sd, kk⟩ => ⟨Γ, z, sd, fun vs H1 ex sd1 hd => by
    refine ⟨by rw [dpa_len hd]; exact hl, fun a ha => ?_⟩
    · refine hsp z vs H1 a _ _ hd sd1.zd ha fun dx hdx ne => ?_
      rw [upd_ne ne] at hdx
      refine ⟨rfl, dx, fs, upd_same, ?_, hdx, ?_⟩
      · rw [upd_ne ne, upd_same]
      · have e1 : upd (del (upd (upd (upd H1 a (exo a C none)) dx (exd dx fs)) a (exo a C (some dx))) a) dx (.xd fs) = upd H1 dx (.xd fs) := by
          funext b
          by_cases hb : b = dx
          · rw [hb, upd_same, upd_same]
          · rw [upd_ne hb, upd_ne hb]
            by_cases hb2 : b = a
            · rw [hb2, del_same, ha]
            · rw [del_ne hb2, upd_ne hb2, upd_ne hb, upd_ne hb2]
        rw [e1]
        exact kk (some dx) env z σ _ (ex.trans (cut_ex (Ex.new hdx))) (sd1.grow (Ex.new hdx)) ⟨dx, rfl, cut_of (sd1.zfresh hdx) upd_same⟩⟩
end
/-! ### a def that raises, told with the error's fields -/
def spO (K : PySem.W.Frag) (n : Nat) (C : Addr) (R : List PyData → Option (List (Str × V)) → Prop) : Sp := fun vs H _ E => vs.length = n ∧ ∃ z ds o, (∀ a, z a = true → H a ≠ none) ∧ DpAll K (cut H z) vs ds ∧ R ds o ∧ ∀ d H', Ex H H' → RzD o d (cut H' z) → E (.ref C) d H'
section
variable {P Pg : Program} {w : World} {K : PySem.W.Frag} {mg : Str → Option Value} {base : Heap}
theorem fnF {x qual : Str} {st : Stmt} {f : Addr} {fd : FuncData} {N ps : List Str} {k n m : Nat} {C : Addr} {R : List PyData → Option (List (Str × V)) → Prop} (F : Fun K x qual st f fd) (S : FnScope N ps (defScope st)) (hn : n = ps.length) (hm : m = N.length - n)
    (hbody : ∀ (cdv : Value) (A : Around) (outer : List Env) (s : Shared) (H : Hp) (E : XK), Room k (A.deeper (PyProof.Rows.envOfC qual (defScope st) s.heap.objs.size f cdv)) → ∀ ds o, R ds o →
      Takes (cxOf (L2.CX Pg w) Pg w K mg base N qual (defScope st) f cdv A outer s H E) (fun cls d _ H => E cls d H) →
      HZF (cxOf (L2.CX Pg w) Pg w K mg base N qual (defScope st) f cdv A outer s H E) (fun cls d _ H => E cls d H) C o (defBody st) (startE ds m)) : FnOk Pg w K mg base (L2.CX Pg w) (k + 1) f fd ps (spO K n C R) := by
  refine F.okX S (fun vs H Q E h => by rw [h.1, hn]) fun cdv A outer s H vs Q E hr h => ?_
  obtain ⟨hl, z, ds, o, zd, ha, hR, kk⟩ := h
  refine ⟨_, hbody cdv A outer s H E hr ds o hR (takes_of rfl rfl rfl rfl), ?_⟩
  have sd := sd_start (w := w) (N := N) (m := m) zd ha (by rw [hm, hl])
  exact ⟨_, z, sd, fun d env' z' σ' H' ex sd' r => kk d H' (fun a o q' => sd'.ext a o rfl q') (r.mono (ex_back sd'))⟩
end
section
variable {X : Cx} {env env1 : En} {e : Expr} {es : List Expr} {p pos : Pos} {W : WX} {C : Addr} {R : List PyData → Option (List (Str × V)) → Prop} {o : Option (List (Str × V))} {ps : List Str} {k j n : Nat} {x : Str} {ds : List PyData}
theorem pzf_my (G : CalE X.prog X.w X.K X.mg X.base x k ps (spO X.K n C R)) (hr : Room j X.A) (tk : Takes X W) (ha : PAD X (e :: es) env ds env) (hR : R ds o) (hj : k ≤ j := by decide) (hn : ds.length = n := by rfl) (hg : Gl X x := by rfl) (hdb : (x == ("__debug__" : Str)) = false := by decide)
    (he : starEach (e :: es) X.env = (false, eval e X.env) :: starEach es X.env := by rfl) (hpl : (backTo pos (starEach es X.env)).any (·.1) = false := by rfl) : PZF X W C o (.Call (.Name x p) (e :: es) [] pos) env := by
  obtain ⟨f, fd, F, hm, hk, hb⟩ := G.ex
  refine pe_imp (pe_callS F (hr.mono hj) hg hm hk hb (fun σ => passAt tk σ) ha hdb he hpl) fun σ H Q ⟨Γ, z, sd, kk⟩ => ⟨Γ, z, sd, fun vs H' ex sd' hd => ?_⟩
  exact ⟨by rw [dpa_len hd]; exact hn, z, ds, o, sd'.zd, hd, hR, fun d H'' ex' r => kk d H'' (ex.trans (cut_ex ex')) (sd'.grow ex') r⟩
/-- an old promise told anew -/
theorem spE_spO {K : PySem.W.Frag} {P : Program} {w : World} {mg : Str → Option Value} {base : Heap} {R : List PyData → Prop} (h : CalE P w K mg base x k ps (spE K n C R)) : CalE P w K mg base x k ps (spO K n C fun ds o => R ds ∧ o = none) := by
  obtain ⟨f, fd, F, hm, hk, hb⟩ := h.ex
  refine ⟨f, fd, ⟨fun vs H Q E q => ?_, fun A outer s H args us vs Q E hr e0 hbd hv q => ?_⟩, hm, hk, hb⟩
  · obtain ⟨hl, z, ds, o, zd, ha, ⟨hR, ho⟩, kk⟩ := q
    exact F.len vs H Q E ⟨hl, z, ds, zd, ha, hR, fun H' ex => kk none H' ex (by rw [ho]; rfl)⟩
  · obtain ⟨hl, z, ds, o, zd, ha, ⟨hR, ho⟩, kk⟩ := q
    exact F.run A outer s H args us vs Q E hr e0 hbd hv ⟨hl, z, ds, zd, ha, hR, fun H' ex => kk none H' ex (by rw [ho]; rfl)⟩
end
/-! ### self.f = value: an __init__ of one field -/
def spIn1 (C : Addr) (f : Str) : Sp := fun vs H Q _ => ∃ (a : Addr) (y : V), vs = [.ref a, y] ∧ H a = some (exo a C none) ∧ ∀ dx, H dx = none → dx ≠ a → Q .non (upd (upd H dx (exd dx [(f, y)])) a (exo a C (some dx)))
theorem ok_in1 {P : Program} {w : World} {K : PySem.W.Frag} {mg : Str → Option Value} {base : Heap} {qual f p1 : Str} {st : Stmt} {fI C : Addr} {fd : FuncData} (F : Fun K "__init__" qual st fI fd) (S : FnScope ["self", p1] ["self", p1] (defScope st)) (T : OexC K C) (hno : PySem.W.findIn K (.ref C) f = some none)
    {a1 a2 a3 a4 : Pos} (hb : defBody st = [.Assign [.Attribute (.Name "self" a1) f a2] (.Name p1 a3) a4]) (hd1 : (p1 == ("__debug__" : Str)) = false) (hd2 : (p1 == ("__classdict__" : Str)) = false) (hp : (defScope st).names.lookup p1 = some NameKind.local) (hse : (defScope st).names.lookup ("self" : Str) = some NameKind.local) : FnOk P w K mg base CX0 1 fI fd ["self", p1] (spIn1 C f) := by
  refine Fun.ok (k := 0) F S (fun vs H Q E ⟨a, y, h, _⟩ => by rw [h]; rfl) fun cdv A outer s H vs Q E hr ⟨a, y, h, hC, kk⟩ => ?_
  subst h
  rw [hb]
  refine ⟨_, pss_one (ps_ost (pe_var (i := 0) (by rfl) (.inl hse) (by decide) (by decide)) (pe_var (i := 1) (by rfl) (.inl hp) hd1 hd2)), ?_⟩
  refine ⟨y, by rfl, .ref a, by rfl, a, C, rfl, T, hno, .inl ⟨hC, fun dx h1 h2 => kk dx h1 h2⟩⟩
end NB

set_option Elab.async false
set_option linter.all false
set_option maxRecDepth 100000
set_option maxHeartbeats 4000000
/-! the logic's rules: an __init__ of two fields; a walk whose k-th turn raises; two clauses, each with a name -/
namespace NB
open PySem PySem.Spec L2 Evl PyProof.Rows
/-! ### self.f = y; self.g = z -/
def spIn2 (C : Addr) (f g : Str) : Sp := fun vs H Q _ => ∃ (a : Addr) (y z : V), vs = [.ref a, y, z] ∧ H a = some (exo a C none) ∧ ∀ dx, H dx = none → dx ≠ a → Q .non (upd (upd H dx (exd dx [(g, z), (f, y)])) a (exo a C (some dx)))
theorem ok_in2 {P : Program} {w : World} {K : PySem.W.Frag} {mg : Str → Option Value} {base : Heap} {qual f g p1 p2 : Str} {st : Stmt} {fI C : Addr} {fd : FuncData} (F : Fun K "__init__" qual st fI fd) (S : FnScope ["self", p1, p2] ["self", p1, p2] (defScope st)) (T : OexC K C)
    (hf : PySem.W.findIn K (.ref C) f = some none) (hg : PySem.W.findIn K (.ref C) g = some none) {a1 a2 a3 a4 b1 b2 b3 b4 : Pos} (hb : defBody st = [.Assign [.Attribute (.Name "self" a1) f a2] (.Name p1 a3) a4, .Assign [.Attribute (.Name "self" b1) g b2] (.Name p2 b3) b4])
    (hd1 : (p1 == ("__debug__" : Str)) = false) (hd2 : (p1 == ("__classdict__" : Str)) = false) (he1 : (p2 == ("__debug__" : Str)) = false) (he2 : (p2 == ("__classdict__" : Str)) = false)
    (hp : (defScope st).names.lookup p1 = some NameKind.local) (hp2 : (defScope st).names.lookup p2 = some NameKind.local) (hse : (defScope st).names.lookup ("self" : Str) = some NameKind.local) : FnOk P w K mg base CX0 1 fI fd ["self", p1, p2] (spIn2 C f g) := by
  refine Fun.ok (k := 0) F S (fun vs H Q E ⟨a, y, z, h, _⟩ => by rw [h]; rfl) fun cdv A outer s H vs Q E hr ⟨a, y, z, h, hC, kk⟩ => ?_
  subst h
  rw [hb]
  refine ⟨_, pss_cons (ps_ost (pe_var (i := 0) (by rfl) (.inl hse) (by decide) (by decide)) (pe_var (i := 1) (by rfl) (.inl hp) hd1 hd2)) (pss_one (ps_ost (pe_var (i := 0) (by rfl) (.inl hse) (by decide) (by decide)) (pe_var (i := 2) (by rfl) (.inl hp2) he1 he2))), ?_⟩
  refine ⟨y, by rfl, .ref a, by rfl, a, C, rfl, T, hf, .inl ⟨hC, fun dx h1 h2 => ?_⟩⟩
  refine ⟨z, by rfl, .ref a, by rfl, a, C, rfl, T, hg, .inr ⟨dx, [(f, y)], upd_same, by rw [upd_ne h2, upd_same], by simp, ?_⟩⟩
  have e : upd (upd (upd H dx (exd dx [(f, y)])) a (exo a C (some dx))) dx (exd dx [(g, z), (f, y)]) = upd (upd H dx (exd dx [(g, z), (f, y)])) a (exo a C (some dx)) := by
    funext b
    by_cases q : b = dx
    · subst q
      rw [upd_same, upd_ne h2, upd_same]
    · rw [upd_ne q]
      by_cases q2 : b = a
      · subst q2
        rw [upd_same, upd_same]
      · rw [upd_ne q2, upd_ne q2, upd_ne q, upd_ne q]
  rw [e]
  exact kk dx h1 h2
/-! ### a walk whose k-th turn raises -/
theorem pss_or {X : Cx} {st : List Stmt} {t u : TS} (h1 : PSs X st t) (h2 : PSs X st u) : PSs X st (fun D σ H => t D σ H ∨ u D σ H) :=
  ⟨fun pins s σ H D I h => h.elim (fun q => h1.run pins s σ H D I q) fun q => h2.run pins s σ H D I q⟩
section
variable {X : Cx} {env env1 : En} {tg iter : Expr} {ds : List PyData} {pos : Pos} {W : WX} {C : Addr} {o : Option (List (Str × V))}
theorem hzf_for {body : List Stmt} (hp : PassesOwn (model X.prog X.w) X.A X.env X.xe) (hc : X.calm = true) (it : PID X tg iter env ds env1) (I : Nat → En) (h0 : Le (I 0) env1) {env0 : Nat → PyData → En} (k : Nat) (hk : k < ds.length)
    (hg : ∀ i d, i ≤ k → ds[i]? = some d → GD X tg (I i) d (env0 i d))
    (turn : ∀ i d, i < k → ds[i]? = some d → HD X body (env0 i d) { nx := fun e => Le (I (i + 1)) e, ct := fun e => Le (I (i + 1)) e })
    (last : ∀ d, ds[k]? = some d → HZF X W C o body (env0 k d)) (hs : ∀ x, foldedSetIterable iter X.env x = pure x := by intro _; rfl) : HZF1 X W C o (.For tg iter body [] pos) env := by
  refine ps_imp (ps_for hp hc it (pg_all (C := fun (p : Nat × PyData) => p.1 ≤ k ∧ ds[p.1]? = some p.2) (fun p h => hg p.1 p.2 h.1 h.2)) (pss_or (pss_all (C := fun (p : Nat × PyData) => p.1 < k ∧ ds[p.1]? = some p.2) (fun p h => turn p.1 p.2 h.1 h.2)) (pss_all (C := fun (d : PyData) => ds[k]? = some d) (fun d h => last d h))) hs)
    fun D σ H ⟨Γ, z, sd, kk⟩ => ⟨Γ, z, sd, fun J H' ex sd' ⟨G, Y, wk, hG, hY⟩ => ?_⟩
  refine for_it (g := fun v σ H Q => ∃ p : Nat × PyData, (p.1 ≤ k ∧ ds[p.1]? = some p.2) ∧ tG X.K X.w (I p.1) p.2 (env0 p.1 p.2) v σ H Q)
    (tb := fun D σ H => (∃ p : Nat × PyData, (p.1 < k ∧ ds[p.1]? = some p.2) ∧ tS X.K X.w (env0 p.1 p.2) { nx := fun e => Le (I (p.1 + 1)) e, ct := fun e => Le (I (p.1 + 1)) e } D σ H) ∨ ∃ d : PyData, ds[k]? = some d ∧ tZF X.K X.w W C o (env0 k d) D σ H)
    wk (fun i σ2 H2 => i ≤ k ∧ ∃ z2, SD X.K X.w Γ z2 H2 σ2 (I i) ∧ Ex (cut H' z) (cut H2 z2)) ⟨Nat.zero_le k, z, sd'.weak h0, Ex.refl _⟩ (fun i σ2 H2 hi ⟨_, z2, _, e2⟩ => hG H2 z2 e2) (fun i x σ2 H2 H3 hi ⟨ik, z2, sd2, e2⟩ y => ?_) (fun σ2 H2 ⟨q, _⟩ => absurd hk (by omega))
  obtain ⟨e3, d, hd, hv⟩ := hY i H2 z2 x H3 hi e2 sd2.zd y
  refine ⟨(i, d), ⟨ik, hd⟩, Γ, z2, sd2.grow e3, hv, fun σ4 sd4 => ?_⟩
  have up : Ex (cut H z) (cut H3 z2) := ex.trans (e2.trans (cut_ex e3))
  rcases Nat.lt_or_eq_of_le ik with lt | rfl
  · exact .inl ⟨(i, d), ⟨lt, hd⟩, Γ, z2, sd4, fun env' z' σ' H'' l e5 sd5 => ⟨lt, z', sd5.weak l, e2.trans ((cut_ex e3).trans e5)⟩, fun _ _ _ _ _ _ r => r.elim, fun _ _ _ _ l => l.elim, fun env' z' σ' H'' l e5 sd5 => ⟨lt, z', sd5.weak l, e2.trans ((cut_ex e3).trans e5)⟩⟩
  · exact .inr ⟨d, hd, Γ, z2, sd4, fun dd env' z' σ' H'' e5 sd5 r => kk dd env' z' σ' H'' (up.trans e5) sd5 r⟩
/-- found.extend(what raises) -/
theorem hzf_ext {e : Expr} (i : Nat) {x : Str} {xp ap cp : Pos} {spos : Pos} (he : PZF X W C o e env) (hi : env[i]? = some (.l ds)) (hN : X.N[i]? = some x := by rfl) (hv : Vis X.env.scope x := by first | exact Or.inl rfl | exact Or.inr (Or.inl rfl) | exact Or.inr (Or.inr rfl))
    (hb1 : (x == ("__debug__" : Str)) = false := by decide) (hcd : (x == ("__classdict__" : Str)) = false := by decide)
    (hbase : attributeBase (.Name x xp) "extend" X.env (eval (.Name x xp) X.env) = eval (.Name x xp) X.env := by rfl)
    (hfew : ((backTo cp (starEach [e] X.env)).all (fun x => !x.1) && (backToKw cp (keywordEach [] X.env)).all (fun x => x.1.isSome) && decide (([e] : List Expr).length + ([] : List Keyword).length + (if ([] : List Keyword).isEmpty then 0 else 1) < 30)) = true := by rfl)
    (hline : (ap.endLine == cp.line) = true := by rfl) (hst : starEach [e] X.env = (false, eval e X.env) :: starEach [] X.env := by rfl) (hplain : (backTo cp (starEach [] X.env)).any (·.1) = false := by rfl)
    (hs : swapsWith (.Call (.Attribute (.Name x xp) "extend" ap) [e] [] cp) none spos.line X.env = pure false := by rfl) : HZF1 X W C o (.Expr (.Call (.Attribute (.Name x xp) "extend" ap) [e] [] cp) spos) env :=
  ps_imp (ps_expr (pe_bm PySem.F.plainAttrs_list PySem.F.slot_list_extend PySem.F.type_list_extend mt_extS (pv i hN hv hb1 hcd) (paf_first he ⟨_, pa_nil⟩ hst) hbase hfew hline hst hplain) hs) fun D σ H ⟨Γ, z, sd, kk⟩ => by
    obtain ⟨a, us, h1, h2, h3, h4⟩ := sd.own (.inl hi)
    exact ⟨.ref a, h1, .inl ⟨rfl, us, sq_of h3⟩, Γ, z, sd, fun d H' ex sd' r => kk d env z σ H' ex sd' r⟩
theorem hzf_skip {c : Expr} {s1 rest : List Stmt} {p : Pos} (hc : PB X c env false env1) (h : HZF X W C o rest env1) : HZF X W C o (.If c s1 [] p :: rest) env :=
  hzf_one (hs_if (k := false) hc (fun q => nomatch q) fun _ => h_nil rfl) h
end
end NB

set_option Elab.async false
set_option linter.all false
set_option maxRecDepth 100000
set_option maxHeartbeats 4000000
/-! several clauses 'except T as e': the first whose class fits runs -/
namespace NB
open PySem PySem.Spec L2 Evl PyProof.Rows
/-- the clauses, and what they wish of an exception, by the end wished of the statement -/
inductive Clauses (X : Cx) (i : Nat) (nm : Str) : List ExceptHandler → (Ends → WX) → Prop
  | fin {Wo : WX} (tk : Takes X Wo) : Clauses X i nm [] (fun _ => Wo)
  | more {x : Str} {cv : Value} {ts : Addr → Value → Option Addr → TS} {s0 : Stmt} {st : List Stmt} {p1 p2 : Pos} {hl : List ExceptHandler} {WR : Ends → WX} (named : Names X x cv)
      (run : ∀ (b : Addr) (ob : Obj) (cl : Value) (dd : Option Addr) (pl : List (Addr × Obj)), Zc cl dd ob → (∃ fv, ob.data = .fields fv) → PSs (X.suite b ((b, ob) :: pl)) (s0 :: st) (ts b cl dd))
      (rest : Clauses X i nm hl WR) : Clauses X i nm (.ExceptHandler (some (.Name x p1)) (some nm) (s0 :: st) p2 :: hl) (fun D => wAs X.K cv i ts (WR D) D)
section
variable {X : Cx} {i : Nat} {nm : Str} {body : List Stmt} {hl : List ExceptHandler} {h0 : ExceptHandler} {WR : Ends → WX} {tb : WX → TS} {pos : Pos} {pins : List (Addr × Obj)} {D : Ends}
/-- an exception that has come down: the clauses, one after the other -/
theorem Clauses.take (hs : X.stack = X.env :: X.outer) (hf : X.env.frame = some X.env.locals) (nd : X.N.Nodup) (slot : X.N[i]? = some nm) (kd : X.env.kindOf nm = some .local) (C : Clauses X i nm hl WR)
    {a : Addr} {B : Heap} {cls : Value} {d : Option Addr} {σ : L2.St} {H : Hp} {sI s1 : Shared} (J : Inv X pins σ H sI) (nb : ∀ b o, sI.heap.get? b = some o → b ∉ frs X.stack → B.get? b = some o) (up : sI.heap.UpToSlots s1.heap)
    (fl : HandSPX.FlyingZ B (X.env :: X.outer) a (Zc cls d) s1.heap) (na : H a = none) (os : s1.os = sI.os) (ag : AllBare s1.gens) (w : WR D cls d σ H) :
    wpAny (model X.prog X.w) X.A (handleBy (.ref a) X.env hl) (SP X pins D) X.xe s1 := by
  have ok := J.ok
  induction C with
  | fin tk =>
    have go : wpAny (model X.prog X.w) X.A (setFlight (.ref a) X.env.frame) (fun _ t => wpAny (model X.prog X.w) X.A (throw (.ref a) : Sem Flow) (SP X pins D) X.xe t) X.xe s1 := by
      rw [hf]
      exact HandSPX.setFlight_upZ fl fun h' held up' => wpAny_throw (tk _ _ ⟨a, B, sI, pins, σ, H, cls, d, rfl, J, nb, up.trans up', .inr (.inr (by rw [hs]; exact held)), na, os, ag, w⟩)
    obtain ⟨_, _, _, ob, fv, T, oT, tt, at1, z1, f1, t1, rr⟩ := id fl
    refine wpAny_handleBy_nil ?_
    unfold PySem.passOn
    refine wpAny_bind (wpAny_field at1 f1 t1 ?_)
    have isn : ¬ ((Value.ref T == Value.none) = true) := by simp
    rw [if_neg isn]
    first
      | exact wpAny_bind go
      | exact wpAny_bind (wpAny_pure (wpAny_bind go))
  | @more x cv ts s0 st p1 p2 hl2 WR2 named run rest ih =>
    obtain ⟨b, e1, yes, no⟩ := w
    have J1 : Inv X pins σ H s1 := J.landed nb fl.1 up os ag
    obtain ⟨ob, fv, at1, z1, f1⟩ := fl.there
    have apart : a ∉ frs (X.env :: X.outer) := fun hm => by
      obtain ⟨_, o', e', hnf⟩ := fl.2.2.1.mem hm
      rw [at1] at e'
      cases e'
      exact hnf _ f1
    have nL : a ≠ X.env.locals := fun z => apart (List.mem_filterMap.mpr ⟨X.env, List.mem_cons_self, by rw [hf, z]⟩)
    have nF : a ∉ X.fs := fun hm => apart (by
      obtain ⟨e, he, q⟩ := List.mem_filterMap.mp hm
      exact List.mem_filterMap.mpr ⟨e, List.mem_cons_of_mem _ he, q⟩)
    have S1 := J1.suite at1 f1 na nL nF
    have asked := PySem.W.exm_one (M := model X.prog X.w) J1.kIn (fun A Q E t k q => wpAny_typeOf_ref (k _ _ at1) (by rw [z1.1]; exact q) : PySem.W.Looks (model X.prog X.w) s1.heap (typeOf (.ref a)) cls) e1
    have loaded : ∀ {Q : Value → Shared → Prop} {E : Value → Shared → Prop}, Q cv s1 → wpAny (model X.prog X.w) (X.A.mark (some (.ref a))) (eval (.Name x p1) X.env) Q E s1 := fun {Q E} q => by
      rcases named with ⟨hg, hd, hm | ⟨hm, hv, hn⟩⟩
      · exact ld_glob (X := X.suite a ((a, ob) :: (X.pn ++ pins))) S1 hg hm q hd
      · exact ld_blt (X := X.suite a ((a, ob) :: (X.pn ++ pins))) S1 hg hm hv q hn hd
    refine wpAny_handleBy_cons (codeAny_handlers_test (loaded (asked.here ?_))) (by intro q; cases q)
    cases b with
    | false => exact ih (no rfl)
    | true =>
      refine codeAny_handlers_suite_as (HandSPX.lands_againZ fl fun h4 fl4 up4 => ?_)
      obtain ⟨ob4, fv4, at4, z4, f4⟩ := fl4.there
      have J4 : Inv X pins σ H { s1 with heap := h4 } := J.landed nb fl4.1 (up.trans up4) os ag
      refine store_ok (X := X.suite a ((a, ob4) :: (X.pn ++ pins))) (v := .ref a) (J4.suite at4 f4 na nL nF) nd slot (.inl kd) rfl (fun s5 S5 => ?_) (.inr kd)
      refine wpAny_mono ((run a ob4 cls d (X.pn ++ pins) z4 ⟨_, f4⟩).run [] s5 _ H _ S5 (yes rfl a na)) (fun f s6 out => ?_) (fun _ _ z => False.elim z)
      have gone : ∀ {τ : L2.St} {G : Hp} {Q : Shared → Prop}, Inv (X.suite a ((a, ob4) :: (X.pn ++ pins))) [] τ G s6 → (∀ s7, Inv X pins (τ.set i none) G s7 → Q s7) →
          wpAny (model X.prog X.w) X.A (do bindName X.env nm .none; unbindBehindTheSuite X.env nm p2) (fun _ s7 => Q s7) X.xe s6 := fun {τ G Q} S6 hq => gone_ok (S6.unsuite ok) nd slot kd hq
      cases f with
      | ret u =>
        obtain ⟨v, τ, G, S6, r, q⟩ := out
        exact gone S6 fun s7 J7 => ⟨v, _, _, J7, r, q⟩
      | next =>
        obtain ⟨τ, G, S6, q⟩ := out
        exact gone S6 fun s7 J7 => ⟨_, G, J7, q⟩
      | brk =>
        obtain ⟨τ, G, S6, q⟩ := out
        exact gone S6 fun s7 J7 => ⟨_, G, J7, q⟩
      | cont =>
        obtain ⟨τ, G, S6, q⟩ := out
        exact gone S6 fun s7 J7 => ⟨_, G, J7, q⟩
/-- try: .. except T as e: .. except U as e: .. -/
theorem ps_tryM (hs : X.stack = X.env :: X.outer) (hf : X.env.frame = some X.env.locals) (nd : X.N.Nodup) (slot : X.N[i]? = some nm) (kd : X.env.kindOf nm = some .local) (C : Clauses X i nm (h0 :: hl) WR)
    (hb : ∀ (W : WX) (pl : List (Addr × Obj)) (xe : Value → Shared → Prop), Takes (X.tr pl xe) W → PassesOwn (model X.prog X.w) X.A X.env xe → PSs (X.tr pl xe) body (tb W)) :
    PS X (.Try body (h0 :: hl) [] [] pos) (fun D σ H => tb (WR D) D σ H) := by
  refine ⟨fun pins s σ H D I h => wpAny_Try_except ?_⟩
  have ok := I.ok
  have ran := (hb (WR D) (X.pn ++ pins) (fun e t => wpAny (model X.prog X.w) X.A (noteFrame e X.env) (fun _ t2 => wpAny (model X.prog X.w) X.A (setFlight e none) (fun _ t3 => wpAny (model X.prog X.w) X.A (handleBy e X.env (h0 :: hl)) (SP X pins D) X.xe t3) X.xe t2) X.xe t) (fun u t came => ?_) PassesOwn.looking).run [] s σ H D (I.toTry _) h
  · refine wpAny_mono ran (fun f s1 out => ?_) fun _ _ q => q
    cases f with
    | next =>
      obtain ⟨τ, G, K1, q⟩ := out
      exact wpAny_execs_nil ⟨τ, G, K1.ofTry ok, q⟩
    | ret u =>
      obtain ⟨v, τ, G, K1, r, q⟩ := out
      exact ⟨v, τ, G, K1.ofTry ok, r, q⟩
    | brk =>
      obtain ⟨τ, G, K1, q⟩ := out
      exact ⟨τ, G, K1.ofTry ok, q⟩
    | cont =>
      obtain ⟨τ, G, K1, q⟩ := out
      exact ⟨τ, G, K1.ofTry ok, q⟩
  · obtain ⟨a, B, sI, pl, τ, G, cls, d, rfl, K1, nb, up, sky, na, os, ag, w⟩ := came
    have sky' : Sky B (X.env :: X.outer) a (Zc cls d) X.env.locals t.heap := by rw [← hs]; exact sky
    exact Sky.land Zc.steady (by rw [ok.frames, hs]) hf sky' fun h3 fl3 up3 => C.take (s1 := { t with heap := h3 }) hs hf nd slot kd (K1.ofTry ok) nb (up.trans up3) fl3 na os ag w
end
end NB

set_option Elab.async false
set_option linter.all false
set_option maxRecDepth 100000
set_option maxHeartbeats 4000000
/-! no nets: the error and its part -/
namespace LE10
open PySem L2 Evl NB LW LP NBI LM LG LO
abbrev partF (w : Str) : Option (List (Str × V)) := some [("part", V.str w)]
def RNF1 (ds : List PyData) (o : Option (List (Str × V))) : Prop := ∃ (v : PyData) (w : Str), ds = [v] ∧ wrongD v = .str w ∧ o = partF w
def RNF2 (ds : List PyData) (o : Option (List (Str × V))) : Prop := ∃ (v h : PyData) (w : Str), ds = [v, h] ∧ wrongD v = .str w ∧ o = partF w
def RNF3 (ds : List PyData) (o : Option (List (Str × V))) : Prop := ∃ (v g h : PyData) (w : Str), ds = [v, g, h] ∧ wrongD v = .str w ∧ o = partF w
/-- the class of no nets: its __init__ keeps one field -/
structure BadN (P : Program) (w : World) (K : PySem.W.Frag) (mg : Str → Option Value) (base : Heap) (B : Addr) : Prop where
  T : OexC K B
  gl : mg "BadNet" = some (.ref B)
  init : ∃ fI fd, PySem.W.findIn K (.ref B) "__init__" = some (some (.ref fI)) ∧ PySem.W.typeIn K (.ref fI) = some (.type "function") ∧ FnOk P w K mg base CX0 1 fI fd ["self", "part"] (spIn1 B "part") ∧ Binds K fd ["self", "part"] []
section
variable {X : Cx} {env : En} {e : Expr} {W : WX} {B : Addr} {w : Str} {p pos pos2 : Pos}
/-- raise BadNet(part) -/
theorem hzf_badnet (I : BadN X.prog X.w X.K X.mg X.base B) (tk : Takes X W) (hc : X.calm = true) {k : Nat} (hr : Room (k + 2) X.A) (ha : PAD X [e] env [.str w] env) (hg : Gl X "BadNet" := by rfl)
    (he : starEach [e] X.env = (false, eval e X.env) :: starEach [] X.env := by rfl) (hpl : (backTo pos (starEach [] X.env)).any (·.1) = false := by rfl) : HZF1 X W B (partF w) (.Raise (some (.Call (.Name "BadNet" p) [e] [] pos)) none pos2) env := by
  obtain ⟨fI, fd, iC, tI, F1, hb⟩ := I.init
  refine hzf_raise tk hc I.T iC tI F1 (hr.mono (by omega)) hb pass0 I.gl ha (fun z vs H1 a E Q hd zd hn hq => ?_) (by simp) hg (by decide) he hpl
  cases hd with
  | cons h1 h2 =>
    cases h2
    cases h1
    exact ⟨a, .str w, rfl, upd_same, hq⟩
end
/-- a value that is no hall of the net -/
def RHallE (ds : List PyData) : Prop := ∃ (n : Int) (ps : List Pr) (v : PyData), 1 ≤ n ∧ n ≤ 60 ∧ numOk v 0 (n - 1) = false ∧ ds = [netD n ps, v]
theorem fitHall {i : Int} (h0 : 0 ≤ i) (h1 : i ≤ 1000) : FitJ Str.empty ["no hall from 0 to ", Str.ofString (toString i)] := by
  have a := dig4 h0 h1
  have c1 : (Str.ofString "no hall from 0 to ").length = 18 := by decide +kernel
  have c0 : Str.empty.length = 0 := rfl
  refine ⟨?_, ?_, trivial⟩
  all_goals rw [sizeLine_eq]
  all_goals simp only [Str.length_append, c0, c1]
  all_goals omega
/-- a value that is no number of halls; the same, with another argument -/
def RNum60 (ds : List PyData) : Prop := ∃ v : PyData, numOk v 1 60 = false ∧ ds = [v]
def RNum60' (ds : List PyData) : Prop := ∃ v x : PyData, numOk v 1 60 = false ∧ ds = [v, x]
def RNum100' (ds : List PyData) : Prop := ∃ v x : PyData, numOk v 0 100 = false ∧ ds = [v, x]
/-- one of the halls is none -/
def RFrE (ds : List PyData) : Prop := ∃ (n : Int) (ps : List Pr) (v : PyData), Net n ps ∧ numOk v 0 (n - 1) = false ∧ ds = [netD n ps, v]
def RComE (ds : List PyData) : Prop := ∃ (n : Int) (ps : List Pr) (u v : PyData), Net n ps ∧ (numOk u 0 (n - 1) = false ∨ ∃ h : Int, u = .int h ∧ 0 ≤ h ∧ h < n ∧ numOk v 0 (n - 1) = false) ∧ ds = [netD n ps, u, v]
end LE10

set_option Elab.async false
set_option linter.all false
set_option maxRecDepth 100000
set_option maxHeartbeats 4000000
/-! texts that tell no net: the line and the word -/
namespace LE9
open PySem L2 Evl NB LW LP NBI LM LG LO LS FM FW TL LTX
abbrev lineF (l p : Int) : Option (List (Str × V)) := some [("word", V.int p), ("line", V.int l)]
/-- the class of such texts: its __init__ keeps two fields -/
structure BadL (P : Program) (w : World) (K : PySem.W.Frag) (mg : Str → Option Value) (base : Heap) (B : Addr) : Prop where
  T : OexC K B
  gl : mg "BadLine" = some (.ref B)
  init : ∃ fI fd, PySem.W.findIn K (.ref B) "__init__" = some (some (.ref fI)) ∧ PySem.W.typeIn K (.ref fI) = some (.type "function") ∧ FnOk P w K mg base CX0 1 fI fd ["self", "line", "word"] (spIn2 B "line" "word") ∧ Binds K fd ["self", "line", "word"] []
section
variable {X : Cx} {env : En} {e e2 : Expr} {W : WX} {B : Addr} {l q : Int} {p pos pos2 : Pos}
/-- raise BadLine(line, word) -/
theorem hzf_badline (I : BadL X.prog X.w X.K X.mg X.base B) (tk : Takes X W) (hc : X.calm = true) {k : Nat} (hr : Room (k + 2) X.A) (ha : PAD X [e, e2] env [.int l, .int q] env) (hg : Gl X "BadLine" := by rfl)
    (he : starEach [e, e2] X.env = (false, eval e X.env) :: starEach [e2] X.env := by rfl) (hpl : (backTo pos (starEach [e2] X.env)).any (·.1) = false := by rfl) : HZF1 X W B (lineF l q) (.Raise (some (.Call (.Name "BadLine" p) [e, e2] [] pos)) none pos2) env := by
  obtain ⟨fI, fd, iC, tI, F1, hb⟩ := I.init
  refine hzf_raise tk hc I.T iC tI F1 (hr.mono (by omega)) hb pass0 I.gl ha (fun z vs H1 a E Q hd zd hn hq => ?_) (by simp) hg (by decide) he hpl
  cases hd with
  | cons h1 h2 =>
    cases h2 with
    | cons h2 h3 =>
      cases h3
      cases h1
      cases h2
      exact ⟨a, .int l, .int q, rfl, upd_same, hq⟩
end
/-- at this place no such word -/
def lackB (ws : List Str) (i : Nat) (al : List Str) : Bool := match ws[i]? with
  | none => true
  | some x => !decide (x ∈ al)
def RWordF (ds : List PyData) (o : Option (List (Str × V))) : Prop := ∃ (l p : Int) (ws al : List Str), 1 ≤ p ∧ lackB ws (p - 1).toNat al = true ∧ ds = [.int l, .list (sD ws), .int p, .list (sD al)] ∧ o = lineF l p
def RNumF (ds : List PyData) (o : Option (List (Str × V))) : Prop := ∃ (l p lo hi : Int) (ws : List Str), 1 ≤ p ∧ 0 ≤ lo ∧ lo ≤ 1000 ∧ -1 ≤ hi ∧ hi ≤ 1000 ∧ lackB ws (p - 1).toNat ((upto lo (hi + 1)).map wI) = true ∧ ds = [.int l, .list (sD ws), .int p, .int lo, .int hi] ∧ o = lineF l p
inductive BadH : List Str → Int → Prop
  | one {ws : List Str} (h : lackB ws 0 ["halls"] = true) : BadH ws 1
  | two {ws : List Str} (h : lackB ("halls" :: ws) 1 ((upto 1 61).map wI) = true) : BadH ("halls" :: ws) 2
  | three {n : Int} {x : Str} {r : List Str} (h1 : 1 ≤ n) (h2 : n ≤ 60) : BadH ("halls" :: wI n :: x :: r) 3
def RReadHF (ds : List PyData) (o : Option (List (Str × V))) : Prop := ∃ (l q : Int) (ws : List Str), BadH ws q ∧ ds = [.int l, .list (sD ws)] ∧ o = lineF l q
inductive BadP (lo n : Int) : List Str → Int → Prop
  | one {ws : List Str} (h : lackB ws 0 ((upto lo n).map wI) = true) : BadP lo n ws 1
  | two {h : Int} {ws : List Str} (h1 : lo ≤ h) (h2 : h < n) (l : lackB (wI h :: ws) 1 ["with"] = true) : BadP lo n (wI h :: ws) 2
  | more {h : Int} {fs : List Int} {tail : List Str} (h1 : lo ≤ h) (h2 : h < n) (c : Chain h n fs) (t : tail = [] → fs = []) (l : lackB (fs.map wI ++ tail) fs.length ((upto (lastF h fs fs.length + 1) n).map wI) = true) : BadP lo n (wI h :: "with" :: (fs.map wI ++ tail)) (3 + (fs.length : Int))
def RReadPF (ds : List PyData) (o : Option (List (Str × V))) : Prop := ∃ (l lo n q : Int) (ws : List Str), 0 ≤ lo ∧ lo ≤ n ∧ 1 ≤ n ∧ n ≤ 60 ∧ ws.length ≤ 90000 ∧ BadP lo n ws q ∧ ds = [.int l, .list (sD ws), .int lo, .int n] ∧ o = lineF l q
/-- the lines with words -/
def told (W : List (List Str)) : List (Int × List Str) := (enumW 1 W).filter fun q => !decide (q.2 = [])
inductive BadT (W : List (List Str)) : Int → Int → Prop
  | none (h : told W = []) : BadT W ((W.length : Int) + 1) 1
  | head {l q : Int} {ws : List Str} {r : List (Int × List Str)} (h : told W = (l, ws) :: r) (b : BadH ws q) : BadT W l q
  | line {m0 n l q : Int} {ms : List Int} {L : List (Int × List Int)} {ws : List Str} {r : List (Int × List Str)} (n1 : 1 ≤ n) (n60 : n ≤ 60) (lk : LinesOk 0 n L) (hl : ms.length = L.length)
      (h : told W = (m0, (["halls", wI n] : List Str)) :: (ms.zip (L.map fun p => lineW p.1 p.2) ++ (l, ws) :: r)) (wl : ws.length ≤ 90000) (b : BadP (lowL 0 L L.length) n ws q) : BadT W l q
def RReadF (ds : List PyData) (o : Option (List (Str × V))) : Prop := ∃ (text : Str) (l q : Int), text.length ≤ 80000 ∧ BadT (rowsM text) l q ∧ ds = [.str text] ∧ o = lineF l q
/-- no text -/
def RReadT (ds : List PyData) : Prop := ∃ v : PyData, (∀ x, v ≠ .str x) ∧ ds = [v]
def RRefusal (ds : List PyData) (d : PyData) : Prop := (∃ l q, RReadF ds (lineF l q) ∧ d = .tuple [.int l, .int q]) ∨ (RReadT ds ∧ d = .str "text") ∨ (∃ d', RRead ds d' ∧ d = .str "")
theorem told_map (W : List (List Str)) : (((enumW 1 W).map nwD).filter neW).map tpD = (told W).map nwT := by
  unfold told
  rw [List.filter_map, List.map_map]
  have e : (neW ∘ nwD) = fun q : Int × List Str => !decide (q.2 = []) := by
    funext q
    obtain ⟨a, b⟩ := q
    cases b with
    | nil => rfl
    | cons x y =>
      show decide (((sD (x :: y)).length : Int) > 0) = _
      simp [sD]
  rw [e]
  rfl
theorem lack_or {ws al : List Str} {p : Int} (h1 : 1 ≤ p) (h : lackB ws (p - 1).toNat al = true) : (ws.length : Int) < p ∨ ∃ x, ws[(p - 1).toNat]? = some x ∧ p ≤ ws.length ∧ x ∉ al := by
  unfold lackB at h
  cases q : ws[(p - 1).toNat]? with
  | none =>
    have := List.getElem?_eq_none_iff.mp q
    exact .inl (by omega)
  | some x =>
    rw [q] at h
    have := (List.getElem?_eq_some_iff.mp q).1
    exact .inr ⟨x, rfl, by omega, by simpa using h⟩
end LE9

set_option Elab.async false
set_option linter.all false
set_option maxRecDepth 100000
set_option maxHeartbeats 4000000
namespace K09
open PySem L2 Evl NB LW LP NBI LM LG FM LS LO FW LTX TL LE9
def top (i : Nat) : Stmt := PySem.Challenge.pw_onefriend_k09_whole_texts.main.body.getD i (.Pass ⟨0, 0, 0, 0⟩)
abbrev sNum : Stmt := top 7
abbrev sPair : Stmt := top 8
abbrev sAre : Stmt := top 9
abbrev sWrong : Stmt := top 10
abbrev sCkNet : Stmt := top 11
abbrev sRows : Stmt := top 13
abbrev sWrite : Stmt := top 15
abbrev sWords : Stmt := top 16
abbrev sWordAt : Stmt := top 17
abbrev sNumAt : Stmt := top 18
abbrev sReadH : Stmt := top 19
abbrev sReadP : Stmt := top 20
abbrev sRead : Stmt := top 21
abbrev sTaken : Stmt := top 23
abbrev sPick : Stmt := top 24
abbrev sAlike : Stmt := top 25
abbrev sPairs : Stmt := top 26
abbrev sNet : Stmt := top 27
abbrev sBoard : Stmt := top 28
abbrev sLaw : Stmt := top 32
end K09

set_option Elab.async false
set_option linter.all false
set_option maxRecDepth 100000
set_option maxHeartbeats 4000000
namespace K09
open PySem L2 Evl NB LW LP NBI LM LG FM LS LO FW LTX TL LE9
variable {P : Program} {w : World} {K : PySem.W.Frag} {mg : Str → Option Value} {base : Heap}
theorem scBoard : FnScope ["side", "found", "one", "other"] ["side"] (defScope sBoard) := ⟨rfl, rfl, rfl, by decide +kernel, rfl, by decide +kernel, by decide +kernel⟩
theorem ok_board (T : Nam mg) (C : Cal P w K mg base "_law_pairs" 1 ["halls"] (spD K 1 RPairs)) (D : Dfn K mg "_law_board" sBoard ["side"]) : Cal P w K mg base "_law_board" 2 ["side"] (spD K 1 RBoard) := D.cal fun f fd F => by
  refine fnD (m := 3) F scBoard rfl rfl fun cdv A outer s H E hr ds d hR => ?_
  obtain ⟨n, h0, h1, rfl, rfl⟩ := hR
  refine h_eq (env1 := [.d (.int n), .u, .u, .u]) rfl ?_
  have hnn : 1 ≤ n * n ∧ n * n ≤ 49 := by
    have : n = 1 ∨ n = 2 ∨ n = 3 ∨ n = 4 ∨ n = 5 ∨ n = 6 ∨ n = 7 := by omega
    rcases this with rfl | rfl | rfl | rfl | rfl | rfl | rfl <;> decide
  have hl := prs_len (n := n * n) (by omega)
  have hle : (pD (prs (n * n))).length = (prs (n * n)).length := by simp [pD]
  refine h_one (hs_setL 1 scBoard.nd (pf_lst pad_nil)) ?_
  refine h_cons (fun e => e = [.d (.int n), .l (pD (boardM n)), .u, .u]) (hs_for (B := fun _ => False) PassesOwn.never rfl (it_list (pd_my C hr (pad_cons (pd_op (pd_var 0 rfl) (pd_var 0 rfl) (b_mul (.inl ⟨by omega, by omega⟩))) pad_nil) ⟨n * n, by omega, by omega, rfl, rfl⟩)) (fun i => [.d (.int n), .l (pD (((prs (n * n)).take i).filter (onLine n))), .u, .u]) (Le.of_eq rfl)
    (env0 := fun i d => [.d (.int n), .l (pD (((prs (n * n)).take i).filter (onLine n))), .d (.int (prOf d).1), .d (.int (prOf d).2)]) (fun i d h => ?_) (fun i d h => ?_) ?_ (fun _ q => q.elim)) fun e he => ?_
  · obtain ⟨p, hp, rfl⟩ := pD_get h
    exact gd_tup rfl (gds_cons (gd_name 2 scBoard.nd) (gds_cons (gd_name 3 scBoard.nd) gds_nil))
  · obtain ⟨p, hp, rfl⟩ := pD_get h
    have e : (prs (n * n)).take (i + 1) = (prs (n * n)).take i ++ [p] := by rw [List.take_add_one, hp]; rfl
    refine h_last (hs_if (k := onLine n p) (pb_of (pw_orD (pb_cmp (pd_op (pd_var 2 rfl) (pd_var 0 rfl) (b_div ⟨by omega, by omega⟩)) (pd_op (pd_var 3 rfl) (pd_var 0 rfl) (b_div ⟨by omega, by omega⟩)) c_eqI) (fun _ => pw_one (pb_cmp (pd_op (pd_var 2 rfl) (pd_var 0 rfl) (b_mod (by omega))) (pd_op (pd_var 3 rfl) (pd_var 0 rfl) (b_mod (by omega))) c_eqI) (.inr rfl)))) (fun q => ?_) (fun q => ?_))
    · refine h_last (hs_to (hs_app 1 (pd_tup (pad_cons (pd_var 2 rfl) (pad_cons (pd_var 3 rfl) pad_nil))) rfl rfl ?_) ?_)
      · simp only [pD, List.length_map]
        have l1 := List.length_filter_le (onLine n) ((prs (n * n)).take i)
        have l2 : ((prs (n * n)).take i).length ≤ (prs (n * n)).length := by rw [List.length_take]; omega
        omega
      · show Le _ _
        rw [e, List.filter_append]
        refine le_cons (.inr rfl) (le_cons (.inr ?_) (le_cons (.inl rfl) (le_cons (.inl rfl) le_nil)))
        simp [pD, q]
        rfl
    · refine h_nil ?_
      show Le _ _
      rw [e, List.filter_append]
      refine le_cons (.inr rfl) (le_cons (.inr ?_) (le_cons (.inl rfl) (le_cons (.inl rfl) le_nil)))
      simp [pD, q]
  · show _ = _
    rw [hle, List.take_length]
    rfl
  · subst he
    exact h_freeze 1 rfl (h_ret (pd_callTy f_tupL T.tuple (pad_cons (pd_var 1 rfl) pad_nil)) rfl)
end K09

set_option Elab.async false
set_option linter.all false
set_option maxRecDepth 100000
set_option maxHeartbeats 4000000
namespace K09
open PySem L2 Evl NB LW LP NBI LM LG FM LS LO FW LTX TL LE9
variable {P : Program} {w : World} {K : PySem.W.Frag} {mg : Str → Option Value} {base : Heap}
theorem scNum : FnScope ["value", "least", "most"] ["value", "least", "most"] (defScope sNum) := ⟨rfl, rfl, rfl, by decide +kernel, rfl, by decide +kernel, by decide +kernel⟩
theorem ok_numG (T : Nam mg) (D : Dfn K mg "is_number" sNum ["value", "least", "most"]) : Cal P w K mg base "is_number" 1 ["value", "least", "most"] (spD K 3 RNumG) := D.cal fun f fd F => by
  refine fnD (m := 0) F scNum rfl rfl fun cdv A outer s H E hr ds d hR => ?_
  obtain ⟨v, lo, hi, rfl, rfl⟩ := hR
  refine h_eq (env1 := [.d v, .d (.int lo), .d (.int hi)]) rfl ?_
  cases v with
  | int v => exact h_ret (pd_is (pd_and (pd_isi "int" true T.isinstance T.int (pd_var 0 rfl)) fun _ => pd_and (pd_not (pd_isi "bool" false T.isinstance T.bool (pd_var 0 rfl))) fun _ => pd_one (pd_leLe (pd_var 1 rfl) (pd_var 0 rfl) fun _ => pd_var 2 rfl)) (by simp [numOk])) rfl
  | bool v => exact h_ret (pd_is (pd_and (k2 := false) (pd_isi "int" true T.isinstance T.int (pd_var 0 rfl)) fun _ => pd_is (pd_and (k2 := false) (pd_not (pd_isi "bool" true T.isinstance T.bool (pd_var 0 rfl))) fun q => nomatch q) rfl) rfl) rfl
  | none => exact h_ret (pd_is (pd_and (k2 := false) (pd_isi "int" false T.isinstance T.int (pd_var 0 rfl)) fun q => nomatch q) rfl) rfl
  | str v => exact h_ret (pd_is (pd_and (k2 := false) (pd_isi "int" false T.isinstance T.int (pd_var 0 rfl)) fun q => nomatch q) rfl) rfl
  | list v => exact h_ret (pd_is (pd_and (k2 := false) (pd_isi "int" false T.isinstance T.int (pd_var 0 rfl)) fun q => nomatch q) rfl) rfl
  | tuple v => exact h_ret (pd_is (pd_and (k2 := false) (pd_isi "int" false T.isinstance T.int (pd_var 0 rfl)) fun q => nomatch q) rfl) rfl
  | dict v => exact h_ret (pd_is (pd_and (k2 := false) (pd_isi "int" false T.isinstance T.int (pd_var 0 rfl)) fun q => nomatch q) rfl) rfl
theorem scPair : FnScope ["halls", "value", "one", "other"] ["halls", "value"] (defScope sPair) := ⟨rfl, rfl, rfl, by decide +kernel, rfl, by decide +kernel, by decide +kernel⟩
theorem ok_pair (T : Nam mg) (C : Cal P w K mg base "is_number" 1 ["value", "least", "most"] (spD K 3 RNum)) (D : Dfn K mg "is_pair" sPair ["halls", "value"]) : Cal P w K mg base "is_pair" 2 ["halls", "value"] (spD K 2 RPair) := D.cal fun f fd F => by
  refine fnD (m := 2) F scPair rfl rfl fun cdv A outer s H E hr ds d hR => ?_
  obtain ⟨n, p, h0, h1, h2, rfl, rfl⟩ := hR
  refine h_eq (env1 := [.d (.int n), .d (prd p), .u, .u]) rfl ?_
  refine h_skip (pb_is (pb_of (pw_orD (pb_not (pb_val (pd_isi (ty := "tuple") "tuple" true T.isinstance T.tuple (pd_var 1 rfl)))) fun _ => pw_one (pb_cmp (pd_callB f_lenT T.len (pad_cons (pd_var 1 rfl) pad_nil)) pd_int c_neI) (.inr rfl))) (by simp)) ?_
  refine h_one (hs_asg (pd_var 1 rfl) (gd_tup rfl (gds_cons (gd_name 2 scPair.nd) (gds_cons (gd_name 3 scPair.nd) gds_nil)))) ?_
  refine h_ret (pd_is (pd_and (pd_my C hr (pad_cons (pd_var 2 rfl) (pad_cons pd_int (pad_cons (pd_op (pd_var 0 rfl) pd_int b_sub) pad_nil))) ⟨_, _, _, rfl, rfl⟩) fun _ => pd_one (pd_my C hr (pad_cons (pd_var 3 rfl) (pad_cons (pd_op (pd_var 2 rfl) pd_int b_add) (pad_cons (pd_op (pd_var 0 rfl) pd_int b_sub) pad_nil))) ⟨_, _, _, rfl, rfl⟩)) ?_) rfl
  simp
  omega
theorem ok_pairG (T : Nam mg) (C : Cal P w K mg base "is_number" 1 ["value", "least", "most"] (spD K 3 RNumG)) (D : Dfn K mg "is_pair" sPair ["halls", "value"]) : Cal P w K mg base "is_pair" 2 ["halls", "value"] (spD K 2 RPairG) := D.cal fun f fd F => by
  refine fnD (m := 2) F scPair rfl rfl fun cdv A outer s H E hr ds d hR => ?_
  obtain ⟨n, v, rfl, rfl⟩ := hR
  refine h_eq (env1 := [.d (.int n), .d v, .u, .u]) rfl ?_
  cases v with
  | tuple ds =>
    refine h_guard (pb_of (pw_orD (pb_not (pb_val (pd_isi (ty := "tuple") "tuple" true T.isinstance T.tuple (pd_var 1 rfl)))) fun _ => pw_one (pb_cmp (pd_callB f_lenT T.len (pad_cons (pd_var 1 rfl) pad_nil)) pd_int c_neI) (.inr rfl))) (fun hk => ?_) (fun hk => ?_)
    · refine h_ret pd_bl ?_
      show PyData.bool false = _
      match ds, hk with
      | [], _ => rfl
      | [_], _ => rfl
      | [_, _], hk => simp at hk
      | _ :: _ :: _ :: _, _ => rfl
    · obtain ⟨a, b, rfl⟩ : ∃ a b, ds = [a, b] := by
        match ds, hk with
        | [], hk => simp at hk
        | [_], hk => simp at hk
        | [a, b], _ => exact ⟨a, b, rfl⟩
        | _ :: _ :: _ :: _, hk => simp at hk; omega
      refine h_one (hs_asg (pd_var 1 rfl) (gd_tup rfl (gds_cons (gd_name 2 scPair.nd) (gds_cons (gd_name 3 scPair.nd) gds_nil)))) ?_
      have first := fun (X : Cx) => True
      cases a with
      | int i => exact h_ret (pd_is (pd_and (pd_my C hr (pad_cons (pd_var 2 rfl) (pad_cons pd_int (pad_cons (pd_op (pd_var 0 rfl) pd_int b_sub) pad_nil))) ⟨_, _, _, rfl, rfl⟩) fun _ => pd_one (pd_my C hr (pad_cons (pd_var 3 rfl) (pad_cons (pd_op (pd_var 2 rfl) pd_int b_add) (pad_cons (pd_op (pd_var 0 rfl) pd_int b_sub) pad_nil))) ⟨_, _, _, rfl, rfl⟩)) rfl) rfl
      | none => exact h_ret (pd_is (pd_and (k1 := false) (k2 := false) (pd_my C hr (pad_cons (pd_var 2 rfl) (pad_cons pd_int (pad_cons (pd_op (pd_var 0 rfl) pd_int b_sub) pad_nil))) ⟨_, _, _, rfl, rfl⟩) fun q => nomatch q) rfl) rfl
      | bool i => exact h_ret (pd_is (pd_and (k1 := false) (k2 := false) (pd_my C hr (pad_cons (pd_var 2 rfl) (pad_cons pd_int (pad_cons (pd_op (pd_var 0 rfl) pd_int b_sub) pad_nil))) ⟨_, _, _, rfl, rfl⟩) fun q => nomatch q) rfl) rfl
      | str i => exact h_ret (pd_is (pd_and (k1 := false) (k2 := false) (pd_my C hr (pad_cons (pd_var 2 rfl) (pad_cons pd_int (pad_cons (pd_op (pd_var 0 rfl) pd_int b_sub) pad_nil))) ⟨_, _, _, rfl, rfl⟩) fun q => nomatch q) rfl) rfl
      | list i => exact h_ret (pd_is (pd_and (k1 := false) (k2 := false) (pd_my C hr (pad_cons (pd_var 2 rfl) (pad_cons pd_int (pad_cons (pd_op (pd_var 0 rfl) pd_int b_sub) pad_nil))) ⟨_, _, _, rfl, rfl⟩) fun q => nomatch q) rfl) rfl
      | tuple i => exact h_ret (pd_is (pd_and (k1 := false) (k2 := false) (pd_my C hr (pad_cons (pd_var 2 rfl) (pad_cons pd_int (pad_cons (pd_op (pd_var 0 rfl) pd_int b_sub) pad_nil))) ⟨_, _, _, rfl, rfl⟩) fun q => nomatch q) rfl) rfl
      | dict i => exact h_ret (pd_is (pd_and (k1 := false) (k2 := false) (pd_my C hr (pad_cons (pd_var 2 rfl) (pad_cons pd_int (pad_cons (pd_op (pd_var 0 rfl) pd_int b_sub) pad_nil))) ⟨_, _, _, rfl, rfl⟩) fun q => nomatch q) rfl) rfl
  | none => exact h_guard (k := true) (pb_of (pw_orD (k1 := true) (k2 := false) (pb_not (pb_val (pd_isi "tuple" false T.isinstance T.tuple (pd_var 1 rfl)))) (fun q => nomatch q))) (fun _ => h_ret pd_bl rfl) (fun q => nomatch q)
  | bool v => exact h_guard (k := true) (pb_of (pw_orD (k1 := true) (k2 := false) (pb_not (pb_val (pd_isi "tuple" false T.isinstance T.tuple (pd_var 1 rfl)))) (fun q => nomatch q))) (fun _ => h_ret pd_bl rfl) (fun q => nomatch q)
  | int v => exact h_guard (k := true) (pb_of (pw_orD (k1 := true) (k2 := false) (pb_not (pb_val (pd_isi "tuple" false T.isinstance T.tuple (pd_var 1 rfl)))) (fun q => nomatch q))) (fun _ => h_ret pd_bl rfl) (fun q => nomatch q)
  | str v => exact h_guard (k := true) (pb_of (pw_orD (k1 := true) (k2 := false) (pb_not (pb_val (pd_isi "tuple" false T.isinstance T.tuple (pd_var 1 rfl)))) (fun q => nomatch q))) (fun _ => h_ret pd_bl rfl) (fun q => nomatch q)
  | list v => exact h_guard (k := true) (pb_of (pw_orD (k1 := true) (k2 := false) (pb_not (pb_val (pd_isi "tuple" false T.isinstance T.tuple (pd_var 1 rfl)))) (fun q => nomatch q))) (fun _ => h_ret pd_bl rfl) (fun q => nomatch q)
  | dict v => exact h_guard (k := true) (pb_of (pw_orD (k1 := true) (k2 := false) (pb_not (pb_val (pd_isi "tuple" false T.isinstance T.tuple (pd_var 1 rfl)))) (fun q => nomatch q))) (fun _ => h_ret pd_bl rfl) (fun q => nomatch q)
theorem scAre : FnScope ["halls", "value", "before", "pair"] ["halls", "value"] (defScope sAre) := ⟨rfl, rfl, rfl, by decide +kernel, rfl, by decide +kernel, by decide +kernel⟩
theorem ok_are (T : Nam mg) (C : Cal P w K mg base "is_pair" 2 ["halls", "value"] (spD K 2 RPair)) (D : Dfn K mg "are_pairs" sAre ["halls", "value"]) : Cal P w K mg base "are_pairs" 3 ["halls", "value"] (spD K 2 RArePairs) := D.cal fun f fd F => by
  refine fnD (m := 2) F scAre rfl rfl fun cdv A outer s H E hr ds d hR => ?_
  obtain ⟨n, ps, N, rfl, rfl⟩ := hR
  refine h_eq (env1 := [.d (.int n), .d (.tuple (pD ps)), .u, .u]) rfl ?_
  have hu := Room.u0 hr
  refine h_skip (pb_is (pb_not (pb_val (pd_isi (ty := "tuple") "tuple" true T.isinstance T.tuple (pd_var 1 rfl)))) rfl) ?_
  refine h_one (hs_set 2 scAre.nd (pd_tup pad_nil)) ?_
  refine h_cons (fun e => e = [.d (.int n), .d (.tuple (pD ps)), .d (.tuple (iD (befI ps (pD ps).length))), .u]) (hs_for (B := fun _ => False) PassesOwn.never rfl (it_tup (pd_var 1 rfl)) (fun i => [.d (.int n), .d (.tuple (pD ps)), .d (.tuple (iD (befI ps i))), .u]) (Le.of_eq rfl)
    (fun i d h => gd_name 3 scAre.nd) (fun i d h => ?_) rfl (fun _ q => q.elim)) fun e he => ?_
  · obtain ⟨p, hp, rfl⟩ := pD_get h
    have k := N.pr p (List.mem_of_getElem? hp)
    refine h_skip (pb_is (pb_of (pw_orD (pb_not (pb_val (pd_my C hr (pad_cons (pd_var 0 rfl) (pad_cons (pd_var 3 rfl) pad_nil)) ⟨n, p, k.1, k.2.1, k.2.2, rfl, rfl⟩))) fun _ => pw_one (pb_cmp (pd_var 3 rfl) (pd_var 2 rfl) (c_leT (ns := lp p) (ms := befI ps i) hu)) (.inr rfl))) ?_) ?_
    · rw [bef_no N hp]
      rfl
    · refine h_one (hs_set 2 scAre.nd (pd_var 3 rfl)) (h_nil ?_)
      refine le_cons (.inr rfl) (le_cons (.inr rfl) (le_cons (.inr ?_) (le_cons (.inl rfl) le_nil)))
      have e : ps.getD i (0, 0) = p := by rw [List.getD_eq_getElem?_getD, hp]; rfl
      show Sl.d (.tuple (iD (lp (ps.getD i (0, 0))))) = _
      rw [e]
      rfl
  · subst he
    exact h_ret pd_bl rfl
theorem ok_areG (T : Nam mg) (C : Cal P w K mg base "is_pair" 2 ["halls", "value"] (spD K 2 RPairG)) (D : Dfn K mg "are_pairs" sAre ["halls", "value"]) : Cal P w K mg base "are_pairs" 3 ["halls", "value"] (spD K 2 RAreG) := D.cal fun f fd F => by
  refine fnD (m := 2) F scAre rfl rfl fun cdv A outer s H E hr ds d hR => ?_
  obtain ⟨n, v, rfl, rfl⟩ := hR
  refine h_eq (env1 := [.d (.int n), .d v, .u, .u]) rfl ?_
  have hu := Room.u0 hr
  cases v with
  | tuple ds =>
    refine h_skip (pb_is (pb_not (pb_val (pd_isi (ty := "tuple") "tuple" true T.isinstance T.tuple (pd_var 1 rfl)))) rfl) ?_
    refine h_one (hs_set 2 scAre.nd (pd_tup pad_nil)) ?_
    refine h_cons (fun e => e = [.d (.int n), .d (.tuple ds), (if goodI n ds ds.length = true then .d (.tuple (iD (bfI ds ds.length))) else badS), .u]) (hs_for (B := fun _ => False) PassesOwn.never rfl (it_tup (pd_var 1 rfl)) (fun i => [.d (.int n), .d (.tuple ds), (if goodI n ds i = true then .d (.tuple (iD (bfI ds i))) else badS), .u])
      (Le.of_eq (by rw [if_pos (by simp [goodI, bfI])]; rfl)) (fun i d h => gd_name 3 scAre.nd) (fun i d h => ?_) rfl (fun _ q => q.elim)) fun e he => ?_
    · cases g : goodI n ds i with
      | false =>
        rw [if_neg Bool.false_ne_true]
        exact h_bad 2 rfl
      | true =>
        rw [if_pos rfl]
        have g' : okFrom n [] ds = okFrom n (bfI ds i) (ds.drop i) := by simpa [goodI] using g
        have hi := (List.getElem?_eq_some_iff.mp h).1
        have dr : ds.drop i = d :: ds.drop (i + 1) := by
          rw [List.drop_eq_getElem_cons hi]
          congr 1
          exact (List.getElem?_eq_some_iff.mp h).2
        rw [dr] at g'
        have gd : ds.getD i .none = d := by rw [List.getD_eq_getElem?_getD, h]; rfl
        cases hp : isPairD n d with
        | false =>
          refine h_guard (k := true) (pb_is (pb_of (pw_orD (k2 := false) (pb_not (pb_val (pd_my C hr (pad_cons (pd_var 0 rfl) (pad_cons (pd_var 3 rfl) pad_nil)) ⟨n, d, rfl, rfl⟩))) (fun q => by rw [hp] at q; cases q))) (by rw [hp]; rfl)) (fun _ => h_ret pd_bl ?_) (fun q => nomatch q)
          show PyData.bool false = .bool (okFrom n [] ds)
          rw [g', okFrom, hp]
          rfl
        | true =>
          obtain ⟨a, b, rfl, hl⟩ := pair_inv hp
          refine h_guard (pb_of (pw_orD (pb_not (pb_val (pd_my C hr (pad_cons (pd_var 0 rfl) (pad_cons (pd_var 3 rfl) pad_nil)) ⟨n, _, rfl, rfl⟩))) fun _ => pw_one (pb_cmp (pd_var 3 rfl) (pd_var 2 rfl) (c_leT (ns := [a, b]) (ms := bfI ds i) hu)) (.inr rfl))) (fun hk => ?_) (fun hk => ?_)
          · have hk' : leV [a, b] (bfI ds i) = true := by
              rw [hp] at hk
              exact hk
            refine h_ret pd_bl ?_
            show PyData.bool false = .bool (okFrom n [] ds)
            rw [g', okFrom, hp, hl, hk']
            rfl
          · have hk' : leV [a, b] (bfI ds i) = false := by
              rw [hp] at hk
              exact hk
            refine h_one (hs_set 2 scAre.nd (pd_var 3 rfl)) (h_nil ?_)
            have g2 : goodI n ds (i + 1) = true := by
              unfold goodI
              rw [g', okFrom, hp, hl, hk']
              show (okFrom n [a, b] (ds.drop (i + 1)) == okFrom n (lpv (ds.getD i .none)) (ds.drop (i + 1))) = true
              rw [gd, hl]
              exact beq_self_eq_true _
            refine le_cons (.inr rfl) (le_cons (.inr rfl) (le_cons (.inr ?_) (le_cons (.inl rfl) le_nil)))
            rw [if_pos g2]
            show Sl.d (.tuple (iD (lpv (ds.getD i .none)))) = _
            rw [gd, hl]
            rfl
    · subst he
      cases g : goodI n ds ds.length with
      | false =>
        rw [if_neg Bool.false_ne_true]
        exact h_bad 2 rfl
      | true =>
        refine h_ret pd_bl ?_
        have g' : okFrom n [] ds = okFrom n (bfI ds ds.length) (ds.drop ds.length) := by simpa [goodI] using g
        show PyData.bool true = .bool (okFrom n [] ds)
        rw [g', List.drop_length, okFrom]
  | none => exact h_guard (k := true) (pb_not (pb_val (pd_isi "tuple" false T.isinstance T.tuple (pd_var 1 rfl)))) (fun _ => h_ret pd_bl rfl) (fun q => nomatch q)
  | bool v => exact h_guard (k := true) (pb_not (pb_val (pd_isi "tuple" false T.isinstance T.tuple (pd_var 1 rfl)))) (fun _ => h_ret pd_bl rfl) (fun q => nomatch q)
  | int v => exact h_guard (k := true) (pb_not (pb_val (pd_isi "tuple" false T.isinstance T.tuple (pd_var 1 rfl)))) (fun _ => h_ret pd_bl rfl) (fun q => nomatch q)
  | str v => exact h_guard (k := true) (pb_not (pb_val (pd_isi "tuple" false T.isinstance T.tuple (pd_var 1 rfl)))) (fun _ => h_ret pd_bl rfl) (fun q => nomatch q)
  | list v => exact h_guard (k := true) (pb_not (pb_val (pd_isi "tuple" false T.isinstance T.tuple (pd_var 1 rfl)))) (fun _ => h_ret pd_bl rfl) (fun q => nomatch q)
  | dict v => exact h_guard (k := true) (pb_not (pb_val (pd_isi "tuple" false T.isinstance T.tuple (pd_var 1 rfl)))) (fun _ => h_ret pd_bl rfl) (fun q => nomatch q)
theorem scWrong : FnScope ["value", "halls", "pairs"] ["value"] (defScope sWrong) := ⟨rfl, rfl, rfl, by decide +kernel, rfl, by decide +kernel, by decide +kernel⟩
theorem ok_wrong (T : Nam mg) (M : ∃ t, mg "MOST_HALLS" = some (.int 60 t)) (C : Cal P w K mg base "is_number" 1 ["value", "least", "most"] (spD K 3 RNum)) (C2 : Cal P w K mg base "are_pairs" 3 ["halls", "value"] (spD K 2 RArePairs)) (D : Dfn K mg "wrong_part" sWrong ["value"]) : Cal P w K mg base "wrong_part" 4 ["value"] (spD K 1 RWrong) := D.cal fun f fd F => by
  refine fnD (m := 2) F scWrong rfl rfl fun cdv A outer s H E hr ds d hR => ?_
  obtain ⟨n, ps, N, rfl, rfl⟩ := hR
  refine h_eq (env1 := [.d (netD n ps), .u, .u]) rfl ?_
  refine h_skip (pb_is (pb_of (pw_orD (pb_not (pb_val (pd_isi (ty := "tuple") "tuple" true T.isinstance T.tuple (pd_var 0 rfl)))) fun _ => pw_one (pb_cmp (pd_callB f_lenT T.len (pad_cons (pd_var 0 rfl) pad_nil)) pd_int c_neI) (.inr rfl))) (by simp)) ?_
  refine h_one (hs_asg (pd_var 0 rfl) (gd_tup rfl (gds_cons (gd_name 1 scWrong.nd) (gds_cons (gd_name 2 scWrong.nd) gds_nil)))) ?_
  refine h_skip (pb_is (pb_not (pb_val (pd_my C hr (pad_cons (pd_var 1 rfl) (pad_cons pd_int (pad_cons (pd_gInt M) pad_nil))) ⟨_, _, _, rfl, rfl⟩))) ?_) ?_
  · have := N.n1
    have := N.n60
    simp
    omega
  refine h_skip (pb_is (pb_not (pb_val (pd_my C2 hr (pad_cons (pd_var 1 rfl) (pad_cons (pd_var 2 rfl) pad_nil)) ⟨n, ps, N, rfl, rfl⟩))) rfl) ?_
  exact h_ret pd_non rfl
theorem ok_wrongG (T : Nam mg) (M : ∃ t, mg "MOST_HALLS" = some (.int 60 t)) (C : Cal P w K mg base "is_number" 1 ["value", "least", "most"] (spD K 3 RNumG)) (C2 : Cal P w K mg base "are_pairs" 3 ["halls", "value"] (spD K 2 RAreG)) (D : Dfn K mg "wrong_part" sWrong ["value"]) : Cal P w K mg base "wrong_part" 4 ["value"] (spD K 1 RWrongG) := D.cal fun f fd F => by
  refine fnD (m := 2) F scWrong rfl rfl fun cdv A outer s H E hr ds d hR => ?_
  obtain ⟨v, rfl, rfl⟩ := hR
  refine h_eq (env1 := [.d v, .u, .u]) rfl ?_
  cases v with
  | tuple ds =>
    refine h_guard (pb_of (pw_orD (pb_not (pb_val (pd_isi (ty := "tuple") "tuple" true T.isinstance T.tuple (pd_var 0 rfl)))) fun _ => pw_one (pb_cmp (pd_callB f_lenT T.len (pad_cons (pd_var 0 rfl) pad_nil)) pd_int c_neI) (.inr rfl))) (fun hk => ?_) (fun hk => ?_)
    · refine h_ret pd_str ?_
      show PyData.str "whole" = _
      match ds, hk with
      | [], _ => rfl
      | [_], _ => rfl
      | [_, _], hk => simp at hk
      | _ :: _ :: _ :: _, _ => rfl
    · obtain ⟨a, p, rfl⟩ : ∃ a b, ds = [a, b] := by
        match ds, hk with
        | [], hk => simp at hk
        | [_], hk => simp at hk
        | [a, b], _ => exact ⟨a, b, rfl⟩
        | _ :: _ :: _ :: _, hk => simp at hk; omega
      refine h_one (hs_asg (pd_var 0 rfl) (gd_tup rfl (gds_cons (gd_name 1 scWrong.nd) (gds_cons (gd_name 2 scWrong.nd) gds_nil)))) ?_
      refine h_guard (pb_not (pb_val (pd_my C hr (pad_cons (pd_var 1 rfl) (pad_cons pd_int (pad_cons (pd_gInt M) pad_nil))) ⟨a, 1, 60, rfl, rfl⟩))) (fun hk2 => ?_) (fun hk2 => ?_)
      · refine h_ret pd_str ?_
        show PyData.str "halls" = _
        cases a with
        | int n =>
          have hk3 : numOk (.int n) 1 60 = false := by simpa using hk2
          show _ = if numOk (.int n) 1 60 = true then _ else _
          rw [hk3]
          rfl
        | none => rfl
        | bool b => rfl
        | str b => rfl
        | list b => rfl
        | tuple b => rfl
        | dict b => rfl
      · cases a with
        | int n =>
          have hk3 : numOk (.int n) 1 60 = true := by simpa using hk2
          refine h_guard (pb_not (pb_val (pd_my C2 hr (pad_cons (pd_var 1 rfl) (pad_cons (pd_var 2 rfl) pad_nil)) ⟨n, p, rfl, rfl⟩))) (fun hk4 => ?_) (fun hk4 => ?_)
          · refine h_ret pd_str ?_
            show PyData.str "pairs" = if numOk (.int n) 1 60 = true then (if arePairsD n p = true then _ else _) else _
            rw [hk3, if_pos rfl, if_neg (by simpa using hk4)]
          · refine h_ret pd_non ?_
            show PyData.none = if numOk (.int n) 1 60 = true then (if arePairsD n p = true then _ else _) else _
            rw [hk3, if_pos rfl, if_pos (by simpa using hk4)]
        | none => cases hk2
        | bool b => cases hk2
        | str b => cases hk2
        | list b => cases hk2
        | tuple b => cases hk2
        | dict b => cases hk2
  | none => exact h_guard (k := true) (pb_of (pw_orD (k1 := true) (k2 := false) (pb_not (pb_val (pd_isi "tuple" false T.isinstance T.tuple (pd_var 0 rfl)))) (fun q => nomatch q))) (fun _ => h_ret pd_str rfl) (fun q => nomatch q)
  | bool v => exact h_guard (k := true) (pb_of (pw_orD (k1 := true) (k2 := false) (pb_not (pb_val (pd_isi "tuple" false T.isinstance T.tuple (pd_var 0 rfl)))) (fun q => nomatch q))) (fun _ => h_ret pd_str rfl) (fun q => nomatch q)
  | int v => exact h_guard (k := true) (pb_of (pw_orD (k1 := true) (k2 := false) (pb_not (pb_val (pd_isi "tuple" false T.isinstance T.tuple (pd_var 0 rfl)))) (fun q => nomatch q))) (fun _ => h_ret pd_str rfl) (fun q => nomatch q)
  | str v => exact h_guard (k := true) (pb_of (pw_orD (k1 := true) (k2 := false) (pb_not (pb_val (pd_isi "tuple" false T.isinstance T.tuple (pd_var 0 rfl)))) (fun q => nomatch q))) (fun _ => h_ret pd_str rfl) (fun q => nomatch q)
  | list v => exact h_guard (k := true) (pb_of (pw_orD (k1 := true) (k2 := false) (pb_not (pb_val (pd_isi "tuple" false T.isinstance T.tuple (pd_var 0 rfl)))) (fun q => nomatch q))) (fun _ => h_ret pd_str rfl) (fun q => nomatch q)
  | dict v => exact h_guard (k := true) (pb_of (pw_orD (k1 := true) (k2 := false) (pb_not (pb_val (pd_isi "tuple" false T.isinstance T.tuple (pd_var 0 rfl)))) (fun q => nomatch q))) (fun _ => h_ret pd_str rfl) (fun q => nomatch q)
theorem scCkNet : FnScope ["value", "part"] ["value"] (defScope sCkNet) := ⟨rfl, rfl, rfl, by decide +kernel, rfl, by decide +kernel, by decide +kernel⟩
theorem ok_ckNet (T : Nam mg) (C : Cal P w K mg base "wrong_part" 4 ["value"] (spD K 1 RWrong)) (D : Dfn K mg "check_net" sCkNet ["value"]) : Cal P w K mg base "check_net" 5 ["value"] (spD K 1 RWrong) := D.cal fun f fd F => by
  refine fnD (m := 1) F scCkNet rfl rfl fun cdv A outer s H E hr ds d hR => ?_
  obtain ⟨n, ps, N, rfl, rfl⟩ := hR
  refine h_eq (env1 := [.d (netD n ps), .u]) rfl ?_
  refine h_one (hs_set 1 scCkNet.nd (pd_my C hr (pad_cons (pd_var 0 rfl) pad_nil) ⟨n, ps, N, rfl, rfl⟩)) ?_
  exact h_skip (pb_is (pb_cmp (pd_var 1 rfl) pd_non c_notN) rfl) (h_nil rfl)
end K09

set_option Elab.async false
set_option linter.all false
set_option maxRecDepth 100000
set_option maxHeartbeats 4000000
namespace K09
open PySem L2 Evl NB LW LP NBI LM LG FM LS LO FW LTX TL LE9
variable {P : Program} {w : World} {K : PySem.W.Frag} {mg : Str → Option Value} {base : Heap}
theorem scRows : FnScope ["net", "halls", "pairs", "rows", "one", "other", "_"] ["net"] (defScope sRows) := ⟨rfl, rfl, rfl, by decide +kernel, rfl, by decide +kernel, by decide +kernel⟩
theorem ok_rows (T : Nam mg) (D : Dfn K mg "friend_rows" sRows ["net"]) : Cal P w K mg base "friend_rows" 1 ["net"] (spD K 1 RRows) := D.cal fun f fd F => by
  refine fnD (m := 6) F scRows rfl rfl fun cdv A outer s H E hr ds d hR => ?_
  obtain ⟨n, ps, N, hl, rfl, rfl⟩ := hR
  refine h_eq (env1 := [.d (netD n ps), .u, .u, .u, .u, .u, .u]) rfl ?_
  have n1 := N.n1
  have n60 := N.n60
  have hrl : (rgD 0 n).length = n.toNat := by rw [rgD_len]; omega
  refine h_one (hs_asg (pd_var 0 rfl) (gd_tup rfl (gds_cons (gd_name 1 scRows.nd) (gds_cons (gd_name 2 scRows.nd) gds_nil)))) ?_
  refine h_one (hs_lcE 6 3 rfl scRows.nd (it_rng1 T.range (pd_var 1 rfl) ⟨by omega, by omega⟩) (blkOk_by (N := ["net", "halls", "pairs", "rows", "one", "other", "_"]) (sc := defScope sRows) (by decide +kernel)) (fun s H C cl fp => pg_name (i := 6) scRows.nd rfl (Or.inl rfl)) (by simp) (by rw [hrl]; omega)) ?_
  have hpl : (pD ps).length = ps.length := by simp [pD]
  refine h_eq (env1 := [.d (netD n ps), .d (.int n), .d (.tuple (pD ps)), .y (rws n []), .u, .u, .u]) (by rw [rws_nil n _ hrl]; rfl) ?_
  refine h_cons (fun e => e = [.d (netD n ps), .d (.int n), .d (.tuple (pD ps)), .y (rws n ps), .u, .u, .u]) (hs_for (B := fun _ => False) PassesOwn.never rfl (it_tup (pd_var 2 rfl))
    (fun i => [.d (netD n ps), .d (.int n), .d (.tuple (pD ps)), .y (rws n (ps.take i)), .u, .u, .u]) (Le.of_eq rfl)
    (env0 := fun i d => match d with | .tuple [x, y] => [.d (netD n ps), .d (.int n), .d (.tuple (pD ps)), .y (rws n (ps.take i)), .d x, .d y, .u] | _ => [])
    (fun i d h => ?_) (fun i d h => ?_) ?_ (fun _ q => q.elim)) fun e he => ?_
  · obtain ⟨p, hp, rfl⟩ := pD_get h
    exact gd_tup rfl (gds_cons (gd_name 4 scRows.nd) (gds_cons (gd_name 5 scRows.nd) gds_nil))
  · obtain ⟨p, hp, rfl⟩ := pD_get h
    obtain ⟨k0, k1, k2⟩ := N.pr p (List.mem_of_getElem? hp)
    have e1 : ps.take (i + 1) = ps.take i ++ [p] := by rw [List.take_add_one, hp]; rfl
    have ha : p.1 = ((p.1.toNat : Nat) : Int) := by omega
    have hb : p.2 = ((p.2.toNat : Nat) : Int) := by omega
    have lt : (ps.take i).length ≤ ps.length := by rw [List.length_take]; omega
    have r1 := rowM_len (ps.take i) p.1
    have r2 := rowM_len (ps.take i) p.2
    refine h_eq (env1 := [.d (netD n ps), .d (.int n), .d (.tuple (pD ps)), .y (rws n (ps.take i)), .d (.int p.1), .d (.int p.2), .u]) rfl ?_
    refine h_one (hs_rowApp 3 4 5 (rows := rws n (ps.take i)) (k := p.1.toNat) (v := p.2) (by rw [← ha]; rfl) rfl rfl (by rw [rws_len]; omega) (by rw [rws_getD (by omega), ← ha]; omega)) ?_
    have e2 : ((rws n (ps.take i)).set p.1.toNat ((rws n (ps.take i)).getD p.1.toNat [] ++ [p.2])).getD p.2.toNat [] = rowM (ps.take i) p.2 := by
      rw [List.getD_eq_getElem?_getD, List.getElem?_set_ne (by omega), rws_get (by omega), ← hb]
      rfl
    refine h_one (hs_rowApp 3 5 4 (rows := (rws n (ps.take i)).set p.1.toNat ((rws n (ps.take i)).getD p.1.toNat [] ++ [p.2])) (k := p.2.toNat) (v := p.1) (by rw [← hb]; rfl) rfl rfl (by rw [List.length_set, rws_len]; omega) (by rw [e2]; omega)) (h_nil ?_)
    rw [rws_step k0 k1 k2, e1]
    exact le_cons (.inr rfl) (le_cons (.inr rfl) (le_cons (.inr rfl) (le_cons (.inr rfl) (le_cons (.inl rfl) (le_cons (.inl rfl) (le_cons (.inl rfl) le_nil))))))
  · dsimp only
    rw [hpl, List.take_length]
  · subst he
    refine h_freezeY 3 rfl (h_ret (pd_is (pd_var 3 rfl) ?_) rfl)
    unfold rowsD rws
    rw [List.map_map]
    congr 1
    refine List.map_congr_left fun h _ => ?_
    show PyData.list ((rowM ps h).map .int) = _
    rw [rowM_fri N]
    rfl
end K09

set_option Elab.async false
set_option linter.all false
set_option maxRecDepth 100000
set_option maxHeartbeats 4000000
namespace K09
open PySem L2 Evl NB LW LP NBI LM LG FM LS LO FW LTX TL LE9
variable {P : Program} {w : World} {K : PySem.W.Frag} {mg : Str → Option Value} {base : Heap}
theorem scWrite : FnScope ["net", "lines", "hall", "row", "above", "friend"] ["net"] (defScope sWrite) := ⟨rfl, rfl, rfl, by decide +kernel, rfl, by decide +kernel, by decide +kernel⟩
def abC (h : Int) (d : PyData) : Bool := match d with | .int f => decide (h < f) | _ => false
def abY (d : PyData) : PyData := match d with | .int f => .str (wI f) | _ => .none
theorem ok_write (T : Nam mg) (C1 : Cal P w K mg base "check_net" 5 ["value"] (spD K 1 RWrong)) (C3 : Cal P w K mg base "friend_rows" 1 ["net"] (spD K 1 RRows)) (D : Dfn K mg "write_net" sWrite ["net"]) : Cal P w K mg base "write_net" 6 ["net"] (spD K 1 RWrite) := D.cal fun f fd F => by
  refine fnD (m := 5) F scWrite rfl rfl fun cdv A outer s H E hr ds d hR => ?_
  obtain ⟨n, ps, N, hl, rfl, rfl⟩ := hR
  have n1 := N.n1
  have n60 := N.n60
  refine h_eq (env1 := [.d (netD n ps), .u, .u, .u, .u, .u]) rfl ?_
  refine h_one (hs_expr (pd_my C1 hr (pad_cons (pd_var 0 rfl) pad_nil) ⟨n, ps, N, rfl, rfl⟩)) ?_
  have fit : FitJ Str.empty ["halls ", wI n] := by
    have h1 := wI_len (i := n) (by omega) (by omega)
    refine ⟨by decide, ?_, trivial⟩
    rw [TL.len_tl, TL.tl_append, List.length_append, ← TL.len_tl, ← TL.len_tl]
    have : (Str.empty ++ ("halls " : Str)).length = 6 := rfl
    unfold sizeLine
    omega
  refine h_one (hs_setL 1 scWrite.nd (pf_lst (pad_cons (pd_joined (.cons pd_str (.cons (pd_fmt (pd_ix (pd_var 0 rfl) pd_int (ix_T rfl)) (log1000 (by omega) (by omega))) .nil)) fit) pad_nil))) ?_
  refine h_cons (fun e => e = [.d (netD n ps), .l (sD (headM n :: ((upto 0 n).take (upto 0 n).length).filterMap (lineM n ps))), .u, .u, .u, .u]) (hs_for (B := fun _ => False) PassesOwn.never rfl (ds := (hubT n ps).map tpD) (by rw [← en_rows]; exact it_enum T.enumerate (pd_my C3 hr (pad_cons (pd_var 0 rfl) pad_nil) ⟨n, ps, N, hl, rfl, rfl⟩))
    (fun i => [.d (netD n ps), .l (sD (headM n :: ((upto 0 n).take i).filterMap (lineM n ps))), .u, .u, .u, .u]) (Le.of_eq rfl)
    (env0 := fun i d => match d with | .tuple [x, y] => [.d (netD n ps), .l (sD (headM n :: ((upto 0 n).take i).filterMap (lineM n ps))), .d x, .d y, .u, .u] | _ => [])
    (fun i d h => ?_) (fun i d h => ?_) ?_ (fun _ q => q.elim)) fun e he => ?_
  · obtain ⟨rfl, _⟩ := hub_get h
    exact gd_tup rfl (gds_cons (gd_name 2 scWrite.nd) (gds_cons (gd_name 3 scWrite.nd) gds_nil))
  · obtain ⟨rfl, hi, ht⟩ := hub_get h
    have fl := fri60 N (i : Nat)
    have ab := above_bd N (i : Nat)
    have lb := line_bd N (h := (i : Nat)) (by omega) hi
    have tl : (((upto 0 n).take i).filterMap (lineM n ps)).length ≤ 60 := by
      have a1 := List.length_filterMap_le (lineM n ps) ((upto 0 n).take i)
      have a2 : ((upto 0 n).take i).length ≤ (upto 0 n).length := by rw [List.length_take]; omega
      rw [upto_len] at a2
      omega
    have sn : headM n :: ((upto 0 n).take (i + 1)).filterMap (lineM n ps) = (headM n :: ((upto 0 n).take i).filterMap (lineM n ps)) ++ (lineM n ps (i : Nat)).toList := by
      rw [ht, List.filterMap_append]
      cases q : lineM n ps (i : Nat) <;> simp [q]
    rw [sn]
    generalize hL : (headM n :: ((upto 0 n).take i).filterMap (lineM n ps)) = L
    have ll : L.length ≤ 61 := by rw [← hL]; simp; omega
    refine h_eq (env1 := [.d (netD n ps), .l (sD L), .d (.int (i : Nat)), .d (.list (iD (fri n ps (i : Nat)))), .u, .u]) rfl ?_
    refine h_one (hs_lc1 5 4 (abC (i : Nat)) abY rfl scWrite.nd (it_list (pd_var 3 rfl)) (blkOk_by (N := ["net", "lines", "hall", "row", "above", "friend"]) (sc := defScope sWrite) (by decide +kernel))
      (fun s H C cl fp d hd => ?_) (fun s H C cl fp d hd _ => ?_) (fun s H C cl fp => pg_name (i := 5) scWrite.nd rfl (Or.inl rfl)) (by simp) (by simp) (by simp [iD]; omega)) ?_
    · obtain ⟨k, hk, rfl⟩ := mem_iD hd
      exact pts1 (pb_cmp (pd_var 5 rfl) (pd_var 2 rfl) c_gt)
    · obtain ⟨k, hk, rfl⟩ := mem_iD hd
      have := fri_in hk
      exact pd_callTy (f_strI (log1000 (by omega) (by omega))) T.str (pad_cons (pd_var 5 rfl) pad_nil)
    refine h_eq (env1 := [.d (netD n ps), .l (sD L), .d (.int (i : Nat)), .d (.list (iD (fri n ps (i : Nat)))), .d (.list (sD ((aboveM n ps (i : Nat)).map wI))), .u]) (by rw [← filt_above]; rfl) ?_
    refine h_last (hs_if (k := !decide (aboveM n ps (i : Nat) = [])) (pb_is (pb_cmp (pd_callB f_lenL T.len (pad_cons (pd_var 4 rfl) pad_nil)) pd_int c_gt) ?_) (fun hk => ?_) (fun hk => ?_))
    · cases aboveM n ps (i : Nat) <;> simp [sD]
    · have ne : aboveM n ps (i : Nat) ≠ [] := by simpa using hk
      have el : lineM n ps (i : Nat) = some (Txt.join spS (lineW (i : Nat) (aboveM n ps (i : Nat)))) := if_neg ne
      refine h_one (hs_app 1 (pd_join (ys := lineW (i : Nat) (aboveM n ps (i : Nat))) pd_str (pd_op (pf_d (pf_lst (pad_cons (pd_callTy (f_strI (log1000 (by omega) (by omega))) T.str (pad_cons (pd_var 2 rfl) pad_nil)) (pad_cons pd_str pad_nil)))) (pd_var 4 rfl) (b_catL (by simp [sD]; omega))) (Nat.le_trans lb (by decide))) rfl rfl (by simp [sD]; omega)) (h_nil ?_)
      dsimp only
      rw [el]
      exact le_cons (.inr rfl) (le_cons (.inr (by simp [sD])) (le_cons (.inl rfl) (le_cons (.inl rfl) (le_cons (.inl rfl) (le_cons (.inl rfl) le_nil)))))
    · have e0 : aboveM n ps (i : Nat) = [] := by simpa using hk
      have el : lineM n ps (i : Nat) = none := if_pos e0
      refine h_nil ?_
      dsimp only
      rw [el]
      exact le_cons (.inr rfl) (le_cons (.inr (by simp)) (le_cons (.inl rfl) (le_cons (.inl rfl) (le_cons (.inl rfl) (le_cons (.inl rfl) le_nil)))))
  · have e : ((hubT n ps).map tpD).length = (upto 0 n).length := by simp [hubT]
    dsimp only
    rw [e]
  · subst he
    have tb := text_bd N
    refine h_freeze 1 rfl ?_
    refine h_ret (pd_join (ys := headM n :: (upto 0 n).filterMap (lineM n ps)) pd_str (pd_is (pd_var 1 rfl) (by rw [List.take_length])) (Nat.le_trans tb (by decide))) rfl
theorem scWords : FnScope ["line", "word"] ["line"] (defScope sWords) := ⟨rfl, rfl, rfl, by decide +kernel, rfl, by decide +kernel, by decide +kernel⟩
def woC (d : PyData) : Bool := match d with | .str w => !decide (w = "") | _ => false
theorem filt_words (l : List Str) : ((sD l).filter woC).map (fun d => d) = sD (l.filter fun w => !decide (w = "")) := by
  unfold sD
  rw [List.filter_map, List.map_map]
  rfl
theorem ok_words (D : Dfn K mg "words_of" sWords ["line"]) : Cal P w K mg base "words_of" 1 ["line"] (spD K 1 RWords) := D.cal fun f fd F => by
  refine fnD (m := 1) F scWords rfl rfl fun cdv A outer s H E hr ds d hR => ?_
  obtain ⟨line, hl, rfl, rfl⟩ := hR
  refine h_eq (env1 := [.d (.str line), .u]) rfl ?_
  have sl : (Txt.split line (Str.ofString " ")).length ≤ line.length + 2 := PyProof.Rows.split_le line spS
  refine h_ret (pd_is (pf_d (pf_lc1 1 woC (fun d => d) rfl scWords.nd (it_list (pf_d (pf_split (pd_var 0 rfl) pd_str (by decide) (by omega)))) (blkOk_by (N := ["line", "word"]) (sc := defScope sWords) (by decide +kernel))
    (fun s H C cl fp d hd => ?_) (fun s H C cl fp d hd _ => pd_var 1 rfl) (fun s H C cl fp => pg_name (i := 1) scWords.nd rfl (Or.inl rfl)) (by simp) (by simp [sD]; omega))) (by rw [filt_words]; rfl)) rfl
  obtain ⟨x, hx, rfl⟩ := mem_sD hd
  exact pts1 (pb_cmp (pd_var 1 rfl) pd_str c_neS)
theorem scWordAt : FnScope ["line", "words", "place", "allowed"] ["line", "words", "place", "allowed"] (defScope sWordAt) := ⟨rfl, rfl, rfl, by decide +kernel, rfl, by decide +kernel, by decide +kernel⟩
theorem ok_wordAt (T : Nam mg) (D : Dfn K mg "word_at" sWordAt ["line", "words", "place", "allowed"]) : Cal P w K mg base "word_at" 1 ["line", "words", "place", "allowed"] (spD K 4 RWordAt) := D.cal fun f fd F => by
  refine fnD (m := 0) F scWordAt rfl rfl fun cdv A outer s H E hr ds d hR => ?_
  obtain ⟨l, p, ws, al, x, p1, p2, hx, ha, rfl, rfl⟩ := hR
  refine h_eq (env1 := [.d (.int l), .d (.list (sD ws)), .d (.int p), .d (.list (sD al))]) rfl ?_
  have at_ := sD_at p1 hx
  refine h_skip (pb_is (pb_of (pw_orD (k1 := false) (k2 := false) (pb_is (pb_cmp (pd_var 2 rfl) (pd_callB f_lenL T.len (pad_cons (pd_var 1 rfl) pad_nil)) c_gt) ?_) fun _ => pw_one (pb_is (pb_cmp (pd_ix (pd_var 1 rfl) (pd_op (pd_var 2 rfl) pd_int b_sub) (ix_L at_)) (pd_var 3 rfl) c_ninS) (by simp [ha])) (.inr rfl))) rfl) ?_
  · simp [sD]
    omega
  · exact h_ret (pd_ix (pd_var 1 rfl) (pd_op (pd_var 2 rfl) pd_int b_sub) (ix_L at_)) rfl
theorem ok_wordAtF {B : Addr} (T : Nam mg) (I : BadL P w K mg base B) (D : Dfn K mg "word_at" sWordAt ["line", "words", "place", "allowed"]) : CalE P w K mg base "word_at" 3 ["line", "words", "place", "allowed"] (spO K 4 B RWordF) := D.calE fun f fd F => by
  refine fnF (m := 0) F scWordAt rfl rfl fun cdv A outer s H E hr ds o hR tk => ?_
  obtain ⟨l, p, ws, al, p1, lk, rfl, rfl⟩ := hR
  refine hzf_eq (env1 := [.d (.int l), .d (.list (sD ws)), .d (.int p), .d (.list (sD al))]) rfl ?_
  rcases lack_or p1 lk with h | ⟨x, hx, p2, hn⟩
  · refine hzf_st (hzf_if (pb_is (pb_of (pw_orD (k1 := true) (k2 := false) (pb_is (pb_cmp (pd_var 2 rfl) (pd_callB f_lenL T.len (pad_cons (pd_var 1 rfl) pad_nil)) c_gt) ?_) fun q => nomatch q)) rfl) (hzf_st (hzf_badline I tk rfl hr (pad_cons (pd_var 0 rfl) (pad_cons (pd_var 2 rfl) pad_nil)))))
    simp [sD]
    omega
  · have at_ := sD_at p1 hx
    refine hzf_st (hzf_if (pb_is (pb_of (pw_orD (k1 := false) (k2 := true) (pb_is (pb_cmp (pd_var 2 rfl) (pd_callB f_lenL T.len (pad_cons (pd_var 1 rfl) pad_nil)) c_gt) ?_) fun _ => pw_one (pb_is (pb_cmp (pd_ix (pd_var 1 rfl) (pd_op (pd_var 2 rfl) pd_int b_sub) (ix_L at_)) (pd_var 3 rfl) c_ninS) (by simp [hn])) (.inr rfl))) rfl) (hzf_st (hzf_badline I tk rfl hr (pad_cons (pd_var 0 rfl) (pad_cons (pd_var 2 rfl) pad_nil)))))
    simp [sD]
    omega
theorem scNumAt : FnScope ["line", "words", "place", "least", "most", "allowed", "number"] ["line", "words", "place", "least", "most"] (defScope sNumAt) := ⟨rfl, rfl, rfl, by decide +kernel, rfl, by decide +kernel, by decide +kernel⟩
def wiY (d : PyData) : PyData := match d with | .int f => .str (wI f) | _ => .none
theorem wi_map (lo hi : Int) : ((rgD lo hi).filter fun _ => true).map wiY = sD ((upto lo hi).map wI) := by
  rw [filter_yes fun _ => rfl, rgD_eq]
  unfold iD sD
  rw [List.map_map, List.map_map]
  rfl
theorem ok_numAt (T : Nam mg) (C : Cal P w K mg base "word_at" 1 ["line", "words", "place", "allowed"] (spD K 4 RWordAt)) (D : Dfn K mg "number_at" sNumAt ["line", "words", "place", "least", "most"]) : Cal P w K mg base "number_at" 2 ["line", "words", "place", "least", "most"] (spD K 5 RNumAt) := D.cal fun f fd F => by
  refine fnD (m := 2) F scNumAt rfl rfl fun cdv A outer s H E hr ds d hR => ?_
  obtain ⟨l, p, lo, hi, v, ws, p1, p2, hx, l0, lv, vh, h1, rfl, rfl⟩ := hR
  refine h_eq (env1 := [.d (.int l), .d (.list (sD ws)), .d (.int p), .d (.int lo), .d (.int hi), .u, .u]) rfl ?_
  refine h_one (hs_lc1 6 5 (fun _ => true) wiY rfl scNumAt.nd (it_rng2 T.range (pd_var 3 rfl) (pd_op (pd_var 4 rfl) pd_int b_add) ⟨by omega, by omega⟩ ⟨by omega, by omega⟩) (blkOk_by (N := ["line", "words", "place", "least", "most", "allowed", "number"]) (sc := defScope sNumAt) (by decide +kernel))
    (fun s H C cl fp d h => pts0) (fun s H C cl fp d h _ => ?_) (fun s H C cl fp => pg_name (i := 6) scNumAt.nd rfl (Or.inl rfl)) (by simp) (by simp) (by rw [rgD_len]; omega)) ?_
  · rw [rgD_eq] at h
    obtain ⟨k, hk, rfl⟩ := mem_iD h
    have := mem_upto.mp hk
    exact pd_callTy (f_strI (log1000 (by omega) (by omega))) T.str (pad_cons (pd_var 6 rfl) pad_nil)
  refine h_eq (env1 := [.d (.int l), .d (.list (sD ws)), .d (.int p), .d (.int lo), .d (.int hi), .d (.list (sD ((upto lo (hi + 1)).map wI))), .u]) (by rw [← wi_map]; rfl) ?_
  have wl : (Str.ofString (toString v)).length ≤ 4 := wI_len (i := v) (by omega) (by omega)
  exact h_ret (pd_callTy (f_intS (PySem.W.KIN.num_reads (n := v) (by omega) (by omega)) (by omega)) T.int (pad_cons (pd_my C hr (pad_cons (pd_var 0 rfl) (pad_cons (pd_var 1 rfl) (pad_cons (pd_var 2 rfl) (pad_cons (pd_var 5 rfl) pad_nil)))) ⟨l, p, ws, _, wI v, p1, p2, hx, List.mem_map.mpr ⟨v, mem_upto.mpr ⟨lv, by omega⟩, rfl⟩, rfl, rfl⟩) pad_nil)) rfl
theorem ok_numAtF {B : Addr} (T : Nam mg) (C : CalE P w K mg base "word_at" 3 ["line", "words", "place", "allowed"] (spO K 4 B RWordF)) (D : Dfn K mg "number_at" sNumAt ["line", "words", "place", "least", "most"]) : CalE P w K mg base "number_at" 4 ["line", "words", "place", "least", "most"] (spO K 5 B RNumF) := D.calE fun f fd F => by
  refine fnF (m := 2) F scNumAt rfl rfl fun cdv A outer s H E hr ds o hR tk => ?_
  obtain ⟨l, p, lo, hi, ws, p1, l0, l1, h0, h1, lk, rfl, rfl⟩ := hR
  refine hzf_eq (env1 := [.d (.int l), .d (.list (sD ws)), .d (.int p), .d (.int lo), .d (.int hi), .u, .u]) rfl ?_
  refine hzf_one (hs_lc1 6 5 (fun _ => true) wiY rfl scNumAt.nd (it_rng2 T.range (pd_var 3 rfl) (pd_op (pd_var 4 rfl) pd_int b_add) ⟨by omega, by omega⟩ ⟨by omega, by omega⟩) (blkOk_by (N := ["line", "words", "place", "least", "most", "allowed", "number"]) (sc := defScope sNumAt) (by decide +kernel))
    (fun s H C cl fp d h => pts0) (fun s H C cl fp d h _ => ?_) (fun s H C cl fp => pg_name (i := 6) scNumAt.nd rfl (Or.inl rfl)) (by simp) (by simp) (by rw [rgD_len]; omega)) ?_
  · rw [rgD_eq] at h
    obtain ⟨k, hk, rfl⟩ := mem_iD h
    have := mem_upto.mp hk
    exact pd_callTy (f_strI (log1000 (by omega) (by omega))) T.str (pad_cons (pd_var 6 rfl) pad_nil)
  refine hzf_eq (env1 := [.d (.int l), .d (.list (sD ws)), .d (.int p), .d (.int lo), .d (.int hi), .d (.list (sD ((upto lo (hi + 1)).map wI))), .u]) (by rw [← wi_map]; rfl) ?_
  exact hzf_st (hzf_ret (pe_imp (pe_callTy call_int_str (by rfl) T.int (by decide +kernel) (paf_first (pzf_my C hr tk (pad_cons (pd_var 0 rfl) (pad_cons (pd_var 1 rfl) (pad_cons (pd_var 2 rfl) (pad_cons (pd_var 5 rfl) pad_nil)))) ⟨l, p, ws, _, p1, lk, rfl, rfl⟩) ⟨_, pa_nil⟩)) fun σ H Q h => h))
theorem scReadH : FnScope ["line", "words", "halls"] ["line", "words"] (defScope sReadH) := ⟨rfl, rfl, rfl, by decide +kernel, rfl, by decide +kernel, by decide +kernel⟩
theorem ok_readH (T : Nam mg) (M : ∃ t, mg "MOST_HALLS" = some (.int 60 t)) (C : Cal P w K mg base "word_at" 1 ["line", "words", "place", "allowed"] (spD K 4 RWordAt)) (C2 : Cal P w K mg base "number_at" 2 ["line", "words", "place", "least", "most"] (spD K 5 RNumAt)) (D : Dfn K mg "read_halls" sReadH ["line", "words"]) : Cal P w K mg base "read_halls" 3 ["line", "words"] (spD K 2 RReadH) := D.cal fun f fd F => by
  refine fnD (m := 1) F scReadH rfl rfl fun cdv A outer s H E hr ds d hR => ?_
  obtain ⟨l, n, n1, n60, rfl, rfl⟩ := hR
  refine h_eq (env1 := [.d (.int l), .d (.list (sD ["halls", wI n])), .u]) rfl ?_
  refine h_one (hs_expr (pd_my C hr (pad_cons (pd_var 0 rfl) (pad_cons (pd_var 1 rfl) (pad_cons pd_int (pad_cons (pf_d (pf_lst (pad_cons pd_str pad_nil))) pad_nil)))) ⟨l, 1, ["halls", wI n], ["halls"], "halls", by decide, by simp, rfl, by simp, rfl, rfl⟩)) ?_
  refine h_one (hs_set 2 scReadH.nd (pd_my C2 hr (pad_cons (pd_var 0 rfl) (pad_cons (pd_var 1 rfl) (pad_cons pd_int (pad_cons pd_int (pad_cons (pd_gInt M) pad_nil))))) ⟨l, 2, 1, 60, n, ["halls", wI n], by decide, by simp, rfl, by decide, n1, n60, by decide, rfl, rfl⟩)) ?_
  exact h_skip (pb_is (pb_cmp (pd_callB f_lenL T.len (pad_cons (pd_var 1 rfl) pad_nil)) pd_int c_gt) rfl) (h_ret (pd_var 2 rfl) rfl)
theorem ok_readHF {B : Addr} (T : Nam mg) (M : ∃ t, mg "MOST_HALLS" = some (.int 60 t)) (I : BadL P w K mg base B) (G : Cal P w K mg base "word_at" 1 ["line", "words", "place", "allowed"] (spD K 4 RWordAt)) (G2 : Cal P w K mg base "number_at" 2 ["line", "words", "place", "least", "most"] (spD K 5 RNumAt))
    (C : CalE P w K mg base "word_at" 3 ["line", "words", "place", "allowed"] (spO K 4 B RWordF)) (C2 : CalE P w K mg base "number_at" 4 ["line", "words", "place", "least", "most"] (spO K 5 B RNumF)) (D : Dfn K mg "read_halls" sReadH ["line", "words"]) : CalE P w K mg base "read_halls" 5 ["line", "words"] (spO K 2 B RReadHF) := D.calE fun f fd F => by
  refine fnF (m := 1) F scReadH rfl rfl fun cdv A outer s H E hr ds o hR tk => ?_
  obtain ⟨l, q, ws, b, rfl, rfl⟩ := hR
  refine hzf_eq (env1 := [.d (.int l), .d (.list (sD ws)), .u]) rfl ?_
  cases b with
  | one h => exact hzf_st (hzf_expr (pzf_my C hr tk (pad_cons (pd_var 0 rfl) (pad_cons (pd_var 1 rfl) (pad_cons pd_int (pad_cons (pf_d (pf_lst (pad_cons pd_str pad_nil))) pad_nil)))) ⟨l, 1, ws, ["halls"], by decide, h, rfl, rfl⟩))
  | @two ws h =>
    refine hzf_one (hs_expr (pd_my G hr (pad_cons (pd_var 0 rfl) (pad_cons (pd_var 1 rfl) (pad_cons pd_int (pad_cons (pf_d (pf_lst (pad_cons pd_str pad_nil))) pad_nil)))) ⟨l, 1, "halls" :: ws, ["halls"], "halls", by decide, by simp; omega, rfl, by simp, rfl, rfl⟩)) ?_
    have lk : lackB ("halls" :: ws) ((2 : Int) - 1).toNat ((upto 1 (60 + 1)).map wI) = true := h
    exact hzf_st (hzf_set 2 scReadH.nd (pzf_my C2 hr tk (pad_cons (pd_var 0 rfl) (pad_cons (pd_var 1 rfl) (pad_cons pd_int (pad_cons pd_int (pad_cons (pd_gInt M) pad_nil))))) ⟨l, 2, 1, 60, "halls" :: ws, by decide, by decide, by decide, by decide, by decide, lk, rfl, rfl⟩))
  | @three n x r h1 h2 =>
    refine hzf_one (hs_expr (pd_my G hr (pad_cons (pd_var 0 rfl) (pad_cons (pd_var 1 rfl) (pad_cons pd_int (pad_cons (pf_d (pf_lst (pad_cons pd_str pad_nil))) pad_nil)))) ⟨l, 1, "halls" :: wI n :: x :: r, ["halls"], "halls", by decide, by simp; omega, rfl, by simp, rfl, rfl⟩)) ?_
    refine hzf_one (hs_set 2 scReadH.nd (pd_my G2 hr (pad_cons (pd_var 0 rfl) (pad_cons (pd_var 1 rfl) (pad_cons pd_int (pad_cons pd_int (pad_cons (pd_gInt M) pad_nil))))) ⟨l, 2, 1, 60, n, "halls" :: wI n :: x :: r, by decide, by simp; omega, rfl, by decide, h1, h2, by decide, rfl, rfl⟩)) ?_
    exact hzf_st (hzf_if (pb_is (pb_cmp (pd_callB f_lenL T.len (pad_cons (pd_var 1 rfl) pad_nil)) pd_int c_gt) (by simp [sD]; omega)) (hzf_st (hzf_badline I tk rfl hr (pad_cons (pd_var 0 rfl) (pad_cons pd_int pad_nil)))))
theorem scReadP : FnScope ["line", "words", "least", "halls", "hall", "pairs", "friend", "place"] ["line", "words", "least", "halls"] (defScope sReadP) := ⟨rfl, rfl, rfl, by decide +kernel, rfl, by decide +kernel, by decide +kernel⟩
theorem ok_readP (T : Nam mg) (C : Cal P w K mg base "word_at" 1 ["line", "words", "place", "allowed"] (spD K 4 RWordAt)) (C2 : Cal P w K mg base "number_at" 2 ["line", "words", "place", "least", "most"] (spD K 5 RNumAt)) (D : Dfn K mg "read_pairs" sReadP ["line", "words", "least", "halls"]) : Cal P w K mg base "read_pairs" 3 ["line", "words", "least", "halls"] (spD K 4 RReadP) := D.cal fun f fd F => by
  refine fnD (m := 4) F scReadP rfl rfl fun cdv A outer s H E hr ds d hR => ?_
  obtain ⟨l, lo, n, h, fs, l0, lh, hn, n60, ne, ch, rfl, rfl⟩ := hR
  have fl := chain_len (by omega) ch hn
  have f1 : 1 ≤ fs.length := List.length_pos_iff.mpr ne
  have wl : (lineW h fs).length = fs.length + 2 := by unfold lineW; simp
  refine h_eq (env1 := [.d (.int l), .d (.list (sD (lineW h fs))), .d (.int lo), .d (.int n), .u, .u, .u, .u]) rfl ?_
  refine h_one (hs_set 4 scReadP.nd (pd_my C2 hr (pad_cons (pd_var 0 rfl) (pad_cons (pd_var 1 rfl) (pad_cons pd_int (pad_cons (pd_var 2 rfl) (pad_cons (pd_op (pd_var 3 rfl) pd_int b_sub) pad_nil))))) ⟨l, 1, lo, n - 1, h, lineW h fs, by decide, by omega, rfl, l0, lh, by omega, by omega, rfl, rfl⟩)) ?_
  refine h_one (hs_expr (pd_my C hr (pad_cons (pd_var 0 rfl) (pad_cons (pd_var 1 rfl) (pad_cons pd_int (pad_cons (pf_d (pf_lst (pad_cons pd_str pad_nil))) pad_nil)))) ⟨l, 2, lineW h fs, ["with"], "with", by decide, by omega, rfl, by simp, rfl, rfl⟩)) ?_
  refine h_one (hs_setL 5 scReadP.nd (pf_lst pad_nil)) ?_
  refine h_one (hs_set 6 scReadP.nd (pd_var 4 rfl)) ?_
  have hu := Room.u65 hr
  have mx : max 3 ((sD (lineW h fs)).length : Int) = (fs.length : Int) + 2 := by
    have : ((sD (lineW h fs)).length : Int) = fs.length + 2 := by simp [sD, wl]
    rw [this]
    omega
  have pl : (prsOf (h, fs)).length = fs.length := by simp [prsOf]
  refine h_cons (fun e => e = [.d (.int l), .d (.list (sD (lineW h fs))), .d (.int lo), .d (.int n), .d (.int h), .l (pD ((prsOf (h, fs)).take (rgD 3 ((fs.length : Int) + 2 + 1)).length)), .d (.int (lastF h fs (rgD 3 ((fs.length : Int) + 2 + 1)).length)), .u]) (hs_for (B := fun _ => False) PassesOwn.never rfl (it_rng2 T.range pd_int (pd_op (pd_is (pd_callB (f_max rfl) T.max (pad_cons pd_int (pad_cons (pd_callB f_lenL T.len (pad_cons (pd_var 1 rfl) pad_nil)) pad_nil))) (by rw [mx])) pd_int b_add) ⟨by decide, by decide⟩ ⟨by omega, by omega⟩)
    (fun i => [.d (.int l), .d (.list (sD (lineW h fs))), .d (.int lo), .d (.int n), .d (.int h), .l (pD ((prsOf (h, fs)).take i)), .d (.int (lastF h fs i)), .u]) (Le.of_eq rfl)
    (env0 := fun i d => [.d (.int l), .d (.list (sD (lineW h fs))), .d (.int lo), .d (.int n), .d (.int h), .l (pD ((prsOf (h, fs)).take i)), .d (.int (lastF h fs i)), .d d]) (fun i d h => gd_name 7 scReadP.nd) (fun i d hd => ?_) rfl (fun _ q => q.elim)) fun e he => ?_
  · have hi : i < fs.length := by
      have := (List.getElem?_eq_some_iff.mp hd).1
      rw [rgD_len] at this
      omega
    have ed : d = .int (3 + (i : Nat)) := by
      have := (List.getElem?_eq_some_iff.mp hd).2
      rw [← this]
      simp [rgD]
    subst ed
    obtain ⟨f, hf⟩ : ∃ f, fs[i]? = some f := ⟨fs[i], by simp [hi]⟩
    have c := chain_at ch hf
    have lb : h ≤ lastF h fs i := by
      unfold lastF
      split
      · exact Int.le_refl _
      · have hm : fs.getD (i - 1) 0 ∈ fs := by
          rw [List.getD_eq_getElem?_getD, List.getElem?_eq_getElem (by omega)]
          exact List.getElem_mem _
        have := chain_mem ch _ hm
        omega
    have gw : (lineW h fs)[(3 + ((i : Nat) : Int) - 1).toNat]? = some (wI f) := by
      rw [show (3 + ((i : Nat) : Int) - 1).toNat = i + 2 by omega]
      unfold lineW
      simp [hf]
    have l1 : lastF h fs (i + 1) = f := by
      unfold lastF
      rw [if_neg (by omega), Nat.add_sub_cancel, List.getD_eq_getElem?_getD, hf]
      rfl
    have tk : (prsOf (h, fs)).take (i + 1) = (prsOf (h, fs)).take i ++ [(h, f)] := by
      rw [List.take_add_one]
      congr 1
      unfold prsOf
      rw [List.getElem?_map, hf]
      rfl
    refine h_one (hs_set 6 scReadP.nd (pd_my C2 hr (pad_cons (pd_var 0 rfl) (pad_cons (pd_var 1 rfl) (pad_cons (pd_var 7 rfl) (pad_cons (pd_op (pd_var 6 rfl) pd_int b_add) (pad_cons (pd_op (pd_var 3 rfl) pd_int b_sub) pad_nil))))) ⟨l, 3 + (i : Nat), lastF h fs i + 1, n - 1, f, lineW h fs, by omega, by omega, gw, by omega, by omega, by omega, by omega, rfl, rfl⟩)) ?_
    refine h_last (hs_to (hs_app 5 (pd_tup (pad_cons (pd_var 4 rfl) (pad_cons (pd_var 6 rfl) pad_nil))) rfl rfl (by simp [pD]; omega)) ?_)
    show Le _ _
    rw [l1, tk]
    exact le_cons (.inr rfl) (le_cons (.inr rfl) (le_cons (.inr rfl) (le_cons (.inr rfl) (le_cons (.inr rfl) (le_cons (.inr (by simp [pD, prd])) (le_cons (.inr rfl) (le_cons (.inl rfl) le_nil)))))))
  · subst he
    refine h_freeze 5 rfl ?_
    refine h_ret (pd_var 5 rfl) ?_
    show PyData.list _ = _
    rw [rgD_len, List.take_of_length_le (by omega)]
theorem ok_readPF {B : Addr} (T : Nam mg) (G : Cal P w K mg base "word_at" 1 ["line", "words", "place", "allowed"] (spD K 4 RWordAt)) (G2 : Cal P w K mg base "number_at" 2 ["line", "words", "place", "least", "most"] (spD K 5 RNumAt))
    (C : CalE P w K mg base "word_at" 3 ["line", "words", "place", "allowed"] (spO K 4 B RWordF)) (C2 : CalE P w K mg base "number_at" 4 ["line", "words", "place", "least", "most"] (spO K 5 B RNumF)) (D : Dfn K mg "read_pairs" sReadP ["line", "words", "least", "halls"]) : CalE P w K mg base "read_pairs" 5 ["line", "words", "least", "halls"] (spO K 4 B RReadPF) := D.calE fun f fd F => by
  refine fnF (m := 4) F scReadP rfl rfl fun cdv A outer s H E hr ds o hR tk => ?_
  obtain ⟨l, lo, n, q, ws, l0, ln, n1, n60, wl, b, rfl, rfl⟩ := hR
  refine hzf_eq (env1 := [.d (.int l), .d (.list (sD ws)), .d (.int lo), .d (.int n), .u, .u, .u, .u]) rfl ?_
  have lkN : ∀ {ws : List Str} {i : Nat} {a : Int}, lackB ws i ((upto a n).map wI) = true → lackB ws i ((upto a (n - 1 + 1)).map wI) = true := fun h => by rw [Int.sub_add_cancel]; exact h
  cases b with
  | one h => exact hzf_st (hzf_set 4 scReadP.nd (pzf_my C2 hr tk (pad_cons (pd_var 0 rfl) (pad_cons (pd_var 1 rfl) (pad_cons pd_int (pad_cons (pd_var 2 rfl) (pad_cons (pd_op (pd_var 3 rfl) pd_int b_sub) pad_nil))))) ⟨l, 1, lo, n - 1, ws, by decide, l0, by omega, by omega, by omega, lkN h, rfl, rfl⟩))
  | @two h ws h1 h2 lk =>
    refine hzf_one (hs_set 4 scReadP.nd (pd_my G2 hr (pad_cons (pd_var 0 rfl) (pad_cons (pd_var 1 rfl) (pad_cons pd_int (pad_cons (pd_var 2 rfl) (pad_cons (pd_op (pd_var 3 rfl) pd_int b_sub) pad_nil))))) ⟨l, 1, lo, n - 1, h, wI h :: ws, by decide, by simp; try omega, rfl, l0, h1, by omega, by omega, rfl, rfl⟩)) ?_
    exact hzf_st (hzf_expr (pzf_my C hr tk (pad_cons (pd_var 0 rfl) (pad_cons (pd_var 1 rfl) (pad_cons pd_int (pad_cons (pf_d (pf_lst (pad_cons pd_str pad_nil))) pad_nil)))) ⟨l, 2, wI h :: ws, ["with"], by decide, lk, rfl, rfl⟩))
  | @more h fs tail h1 h2 ch ht lk =>
    have fl := chain_len (by omega) ch h2
    have e0 : (wI h :: "with" :: (fs.map wI ++ tail)).length = fs.length + tail.length + 2 := by simp
    refine hzf_one (hs_set 4 scReadP.nd (pd_my G2 hr (pad_cons (pd_var 0 rfl) (pad_cons (pd_var 1 rfl) (pad_cons pd_int (pad_cons (pd_var 2 rfl) (pad_cons (pd_op (pd_var 3 rfl) pd_int b_sub) pad_nil))))) ⟨l, 1, lo, n - 1, h, wI h :: "with" :: (fs.map wI ++ tail), by decide, by simp; try omega, rfl, l0, h1, by omega, by omega, rfl, rfl⟩)) ?_
    generalize hws : (wI h :: "with" :: (fs.map wI ++ tail) : List Str) = ws at e0 wl
    have el : ((sD ws).length : Int) = fs.length + tail.length + 2 := by simp [sD, e0]
    refine hzf_one (hs_expr (pd_my G hr (pad_cons (pd_var 0 rfl) (pad_cons (pd_var 1 rfl) (pad_cons pd_int (pad_cons (pf_d (pf_lst (pad_cons pd_str pad_nil))) pad_nil)))) ⟨l, 2, ws, ["with"], "with", by decide, by omega, by rw [← hws]; rfl, by simp, rfl, rfl⟩)) ?_
    refine hzf_one (hs_setL 5 scReadP.nd (pf_lst pad_nil)) ?_
    refine hzf_one (hs_set 6 scReadP.nd (pd_var 4 rfl)) ?_
    have hu := Room.u65 hr
    have tl1 : tail = [] → fs.length = 0 := fun q => by rw [ht q]; rfl
    have tl2 : tail.length = 0 → fs.length = 0 := fun q => tl1 (List.length_eq_zero_iff.mp q)
    have pl : (prsOf (h, fs)).length = fs.length := by simp [prsOf]
    have pat : ∀ i : Nat, i < fs.length + tail.length → ws[(3 + (i : Int) - 1).toNat]? = (fs.map wI ++ tail)[i]? := fun i _ => by
      rw [show (3 + (i : Int) - 1).toNat = i + 2 by omega, ← hws]
      rfl
    refine hzf_st (hzf_for (passes_of rfl) rfl (it_rng2 T.range pd_int (pd_op (pd_callB (f_max rfl) T.max (pad_cons pd_int (pad_cons (pd_callB f_lenL T.len (pad_cons (pd_var 1 rfl) pad_nil)) pad_nil))) pd_int b_add) ⟨by decide, by decide⟩ ⟨by omega, by omega⟩)
      (fun i => [.d (.int l), .d (.list (sD ws)), .d (.int lo), .d (.int n), .d (.int h), .l (pD ((prsOf (h, fs)).take i)), .d (.int (lastF h fs i)), .u]) (Le.of_eq rfl)
      (env0 := fun i d => [.d (.int l), .d (.list (sD ws)), .d (.int lo), .d (.int n), .d (.int h), .l (pD ((prsOf (h, fs)).take i)), .d (.int (lastF h fs i)), .d d]) fs.length (by rw [rgD_len, el]; omega) (fun i d _ _ => gd_name 7 scReadP.nd) (fun i d hi hd => ?_) fun d hd => ?_)
    · have ed : d = .int (3 + (i : Nat)) := by
        have := (List.getElem?_eq_some_iff.mp hd).2
        rw [← this]
        simp [rgD]
      subst ed
      obtain ⟨f', hf⟩ : ∃ f', fs[i]? = some f' := ⟨fs[i], by simp [hi]⟩
      have c := chain_at ch hf
      have lb : h ≤ lastF h fs i := by
        unfold lastF
        split
        · exact Int.le_refl _
        · have hm : fs.getD (i - 1) 0 ∈ fs := by
            rw [List.getD_eq_getElem?_getD, List.getElem?_eq_getElem (by omega)]
            exact List.getElem_mem _
          have := chain_mem ch _ hm
          omega
      have gw : ws[(3 + ((i : Nat) : Int) - 1).toNat]? = some (wI f') := by
        rw [pat i (by omega), List.getElem?_append_left (by simp; omega), List.getElem?_map, hf]
        rfl
      have l1 : lastF h fs (i + 1) = f' := by
        unfold lastF
        rw [if_neg (by omega), Nat.add_sub_cancel, List.getD_eq_getElem?_getD, hf]
        rfl
      have tk2 : (prsOf (h, fs)).take (i + 1) = (prsOf (h, fs)).take i ++ [(h, f')] := by
        rw [List.take_add_one]
        congr 1
        unfold prsOf
        rw [List.getElem?_map, hf]
        rfl
      refine h_one (hs_set 6 scReadP.nd (pd_my G2 hr (pad_cons (pd_var 0 rfl) (pad_cons (pd_var 1 rfl) (pad_cons (pd_var 7 rfl) (pad_cons (pd_op (pd_var 6 rfl) pd_int b_add) (pad_cons (pd_op (pd_var 3 rfl) pd_int b_sub) pad_nil))))) ⟨l, 3 + (i : Nat), lastF h fs i + 1, n - 1, f', ws, by omega, by omega, gw, by omega, by omega, by omega, by omega, rfl, rfl⟩)) ?_
      refine h_last (hs_to (hs_app 5 (pd_tup (pad_cons (pd_var 4 rfl) (pad_cons (pd_var 6 rfl) pad_nil))) rfl rfl (by simp [pD]; omega)) ?_)
      show Le _ _
      rw [l1, tk2]
      exact le_cons (.inr rfl) (le_cons (.inr rfl) (le_cons (.inr rfl) (le_cons (.inr rfl) (le_cons (.inr rfl) (le_cons (.inr (by simp [pD, prd])) (le_cons (.inr rfl) (le_cons (.inl rfl) le_nil)))))))
    · have ed : d = .int (3 + (fs.length : Nat)) := by
        have := (List.getElem?_eq_some_iff.mp hd).2
        rw [← this]
        simp [rgD]
      subst ed
      have lb : h ≤ lastF h fs fs.length ∧ lastF h fs fs.length < n := by
        unfold lastF
        split
        · exact ⟨Int.le_refl _, h2⟩
        · have hm : fs.getD (fs.length - 1) 0 ∈ fs := by
            rw [List.getD_eq_getElem?_getD, List.getElem?_eq_getElem (by omega)]
            exact List.getElem_mem _
          have := chain_mem ch _ hm
          omega
      have lk2 : lackB ws (3 + ((fs.length : Nat) : Int) - 1).toNat ((upto (lastF h fs fs.length + 1) (n - 1 + 1)).map wI) = true := by
        refine lkN ?_
        rw [show (3 + ((fs.length : Nat) : Int) - 1).toNat = fs.length + 2 by omega, ← hws]
        exact lk
      exact hzf_st (hzf_set 6 scReadP.nd (pzf_my C2 hr tk (pad_cons (pd_var 0 rfl) (pad_cons (pd_var 1 rfl) (pad_cons (pd_var 7 rfl) (pad_cons (pd_op (pd_var 6 rfl) pd_int b_add) (pad_cons (pd_op (pd_var 3 rfl) pd_int b_sub) pad_nil))))) ⟨l, 3 + (fs.length : Nat), lastF h fs fs.length + 1, n - 1, ws, by omega, by omega, by omega, by omega, by omega, lk2, rfl, rfl⟩))
theorem scRead : FnScope ["text", "lines", "number", "words", "rows", "halls", "pairs", "least", "line"] ["text"] (defScope sRead) := ⟨rfl, rfl, rfl, by decide +kernel, rfl, by decide +kernel, by decide +kernel⟩
def woY (d : PyData) : PyData := match d with | .str x => .list (sD (wordsM x)) | _ => .none
theorem ok_read (T : Nam mg) (C : Cal P w K mg base "words_of" 1 ["line"] (spD K 1 RWords)) (C2 : Cal P w K mg base "read_halls" 3 ["line", "words"] (spD K 2 RReadH)) (C3 : Cal P w K mg base "read_pairs" 3 ["line", "words", "least", "halls"] (spD K 4 RReadP)) (D : Dfn K mg "read_net" sRead ["text"]) : Cal P w K mg base "read_net" 4 ["text"] (spD K 1 RRead) := D.cal fun f fd F => by
  refine fnD (m := 8) F scRead rfl rfl fun cdv A outer s H E hr ds d hR => ?_
  obtain ⟨text, n, L, n1, n60, lk, tl, hrow, rfl, rfl⟩ := hR
  refine h_eq (env1 := [.d (.str text), .u, .u, .u, .u, .u, .u, .u, .u]) rfl ?_
  refine h_skip (pb_is (pb_not (pb_val (pd_isi (ty := "str") "str" true T.isinstance T.str (pd_var 0 rfl)))) rfl) ?_
  have sl : (Txt.split text (Str.ofString "\n")).length ≤ text.length + 2 := PyProof.Rows.split_le text nlS
  refine h_one (hs_lc1 8 1 (fun _ => true) woY rfl scRead.nd (it_list (pf_d (pf_split (pd_var 0 rfl) pd_str (by decide) (by omega)))) (blkOk_by (N := ["text", "lines", "number", "words", "rows", "halls", "pairs", "least", "line"]) (sc := defScope sRead) (by decide +kernel))
    (fun s H C cl fp d h => pts0) (fun s H Ca cl fp d h _ => ?_) (fun s H C cl fp => pg_name (i := 8) scRead.nd rfl (Or.inl rfl)) (by simp) (by simp) (by simp [sD]; omega)) ?_
  · obtain ⟨x, hx, rfl⟩ := mem_sD h
    have xl : x.length ≤ 90000 := by
      have := part_len hx
      omega
    exact pd_my C hr (pad_cons (pd_var 8 rfl) pad_nil) ⟨x, xl, rfl, rfl⟩
  have ew : ((sD (Txt.split text (Str.ofString "\n"))).filter fun _ => true).map woY = (rowsM text).map fun ws => PyData.list (sD ws) := by
    rw [filter_yes fun _ => rfl]
    unfold sD rowsM
    rw [List.map_map, List.map_map]
    rfl
  have rl : (rowsM text).length ≤ text.length + 2 := by unfold rowsM; rw [List.length_map]; exact sl
  refine h_eq (env1 := [.d (.str text), .d (.list ((rowsM text).map fun ws => PyData.list (sD ws))), .u, .u, .u, .u, .u, .u, .u]) (by rw [ew]; rfl) ?_
  generalize rowsM text = W at hrow rl
  refine h_one (hs_lcT 2 3 4 (x := "number") (z := "words") (ts := (enumW 1 W).map nwD) neW tpD rfl scRead.nd (by rw [← enC_W]; exact it_enumK T.enumerate (pd_var 1 rfl)) (blkOk_by (N := ["text", "lines", "number", "words", "rows", "halls", "pairs", "least", "line"]) (sc := defScope sRead) (by decide +kernel))
    (fun s H C cl fp q h => ?_) (fun s H C cl fp q h _ => ?_) (fun s H C cl fp => pg_tup rfl (pgs_cons (pg_name (i := 2) scRead.nd rfl (.inl rfl)) (pgs_cons (pg_name (i := 3) scRead.nd rfl (.inl rfl)) pgs_nil))) (by simp) (by simp) (by simp) (by rw [List.length_map, enumW_len]; omega)) ?_
  · obtain ⟨p, hp, rfl⟩ := List.mem_map.mp h
    exact pts1 (pb_cmp (pd_callB f_lenL T.len (pad_cons (pd_var 3 rfl) pad_nil)) pd_int c_gt)
  · obtain ⟨p, hp, rfl⟩ := List.mem_map.mp h
    exact pd_tup (pad_cons (pd_var 2 rfl) (pad_cons (pd_var 3 rfl) pad_nil))
  obtain ⟨ms, m1, m2⟩ := rows_filt 1 W
  rw [hrow] at m1 m2
  rw [m2]
  cases ms with
  | nil => simp at m1
  | cons m0 ms =>
  have ml : ms.length = L.length := by simpa using m1
  have ll := lines_len lk (by omega)
  rw [List.zip_cons_cons, List.map_cons]
  have lz : (ms.zip (L.map fun p => lineW p.1 p.2)).length = L.length := by simp [ml]
  generalize hdl : PyData.list (W.map fun ws => PyData.list (sD ws)) = dl
  refine h_eq (env1 := [.d (.str text), .d dl, .u, .u, .d (.list (nwT (m0, ["halls", wI n]) :: (ms.zip (L.map fun p => lineW p.1 p.2)).map nwT)), .u, .u, .u, .u]) (by rw [← hdl]; rfl) ?_
  refine h_skip (pb_is (pb_cmp (pd_callB f_lenL T.len (pad_cons (pd_var 4 rfl) pad_nil)) pd_int c_eqI) (by simp; omega)) ?_
  refine h_one (hs_asg (pd_ix (pd_var 4 rfl) pd_int (ix_L (at_zero _ _))) (gd_tup rfl (gds_cons (gd_name 2 scRead.nd) (gds_cons (gd_name 3 scRead.nd) gds_nil)))) ?_
  refine h_one (hs_set 5 scRead.nd (pd_my C2 hr (pad_cons (pd_var 2 rfl) (pad_cons (pd_var 3 rfl) pad_nil)) ⟨m0, n, n1, n60, rfl, rfl⟩)) ?_
  refine h_one (hs_setL 6 scRead.nd (pf_lst pad_nil)) ?_
  refine h_one (hs_set 7 scRead.nd pd_int) ?_
  generalize hdr : PyData.list (nwT (m0, ["halls", wI n]) :: (ms.zip (L.map fun p => lineW p.1 p.2)).map nwT) = dr
  refine h_cons (fun e => e = [.d (.str text), .d dl, .u, .u, .d dr, .d (.int n), .l (pD ((L.take L.length).flatMap prsOf)), .d (.int (lowL 0 L L.length)), .u]) (hs_for (B := fun _ => False) PassesOwn.never rfl (ds := (ms.zip (L.map fun p => lineW p.1 p.2)).map nwT) (env1 := [.d (.str text), .d dl, .d (.int m0), .d (.list (sD ["halls", wI n])), .d dr, .d (.int n), .l [], .d (.int 0), .u])
    (it_list (pf_d (pf_from1 (ds := nwT (m0, ["halls", wI n]) :: (ms.zip (L.map fun p => lineW p.1 p.2)).map nwT) (pd_is (pd_var 4 rfl) hdr.symm) pd_int)))
    (fun i => [.d (.str text), .d dl, .u, .u, .d dr, .d (.int n), .l (pD ((L.take i).flatMap prsOf)), .d (.int (lowL 0 L i)), .u]) (le_cons (.inr rfl) (le_cons (.inr rfl) (le_cons (.inl rfl) (le_cons (.inl rfl) (le_cons (.inr rfl) (le_cons (.inr rfl) (le_cons (.inr rfl) (le_cons (.inr rfl) (le_cons (.inr rfl) le_nil)))))))))
    (env0 := fun i d => match d with | .tuple [x, y] => [.d (.str text), .d dl, .d x, .d y, .d dr, .d (.int n), .l (pD ((L.take i).flatMap prsOf)), .d (.int (lowL 0 L i)), .u] | _ => [])
    (fun i d h => ?_) (fun i d hd => ?_) (by rw [List.length_map, lz]) (fun _ q => q.elim)) fun e he => ?_
  · rw [List.getElem?_map] at h
    cases q : (ms.zip (L.map fun p => lineW p.1 p.2))[i]? with
    | none => rw [q] at h; cases h
    | some v =>
      rw [q] at h
      obtain rfl := Option.some.inj h
      exact gd_tup rfl (gds_cons (gd_name 2 scRead.nd) (gds_cons (gd_name 3 scRead.nd) gds_nil))
  · have hi : i < L.length := by
      have := (List.getElem?_eq_some_iff.mp hd).1
      simpa [ml] using this
    rw [List.getElem?_map] at hd
    obtain ⟨m, hm⟩ : ∃ m, ms[i]? = some m := ⟨ms[i], by simp [ml, hi]⟩
    obtain ⟨p, hp⟩ : ∃ p, L[i]? = some p := ⟨L[i], by simp [hi]⟩
    obtain ⟨g, gs⟩ := p
    have e1 : (ms.zip (L.map fun p => lineW p.1 p.2))[i]? = some (m, lineW g gs) := by
      rw [List.getElem?_zip_eq_some, List.getElem?_map, hp, hm]
      exact ⟨rfl, rfl⟩
    rw [e1] at hd
    obtain rfl := Option.some.inj hd
    obtain ⟨q1, q2, q3, q4, q5⟩ := lines_at (by decide) lk hp
    have fl := lines_flat (by decide) n60 lk i
    have cl := chain_len (by omega) q5 q3
    obtain ⟨gs', x, rfl⟩ : ∃ gs' x, gs = gs' ++ [x] := ⟨gs.dropLast, gs.getLast q4, (List.dropLast_concat_getLast q4).symm⟩
    have tk : (L.take (i + 1)).flatMap prsOf = ((L.take i).flatMap prsOf ++ gs'.map fun f => (g, f)) ++ [(g, x)] := by
      rw [List.take_add_one, List.flatMap_append, hp]
      simp [prsOf]
    have lw : lowL 0 L (i + 1) = g + 1 := by
      unfold lowL
      rw [if_neg (by omega), Nat.add_sub_cancel, List.getD_eq_getElem?_getD, hp]
      rfl
    have el : (prsOf (g, gs' ++ [x])).length = (gs' ++ [x]).length := by simp [prsOf]
    refine h_one (hs_ext (es := pD (prsOf (g, gs' ++ [x]))) 6 (pd_my C3 hr (pad_cons (pd_var 2 rfl) (pad_cons (pd_var 3 rfl) (pad_cons (pd_var 7 rfl) (pad_cons (pd_var 5 rfl) pad_nil)))) ⟨m, lowL 0 L i, n, g, gs' ++ [x], q1, q2, q3, n60, q4, q5, rfl, rfl⟩) rfl rfl (by simp only [pD, List.length_map]; rw [el]; omega)) ?_
    have e3 : pD ((L.take i).flatMap prsOf) ++ pD (prsOf (g, gs' ++ [x])) = pD ((L.take i).flatMap prsOf ++ gs'.map fun f => (g, f)) ++ [prd (g, x)] := by simp [pD, prsOf]
    refine h_eq (env1 := [.d (.str text), .d dl, .d (.int m), .d (.list (sD (lineW g (gs' ++ [x])))), .d dr, .d (.int n), .l (pD ((L.take i).flatMap prsOf ++ gs'.map fun f => (g, f)) ++ [prd (g, x)]), .d (.int (lowL 0 L i)), .u]) (by rw [← e3]; rfl) ?_
    refine h_last (hs_to (hs_set 7 scRead.nd (pd_op (pd_ix (pd_ixO 6 (.inl rfl) (pd_neg pd_int) (atI_last _ _)) pd_int (ix_T rfl)) pd_int b_add)) ?_)
    show Le _ _
    rw [tk, lw]
    exact le_cons (.inr rfl) (le_cons (.inr rfl) (le_cons (.inl rfl) (le_cons (.inl rfl) (le_cons (.inr rfl) (le_cons (.inr rfl) (le_cons (.inr (by simp [pD])) (le_cons (.inr rfl) (le_cons (.inr rfl) le_nil))))))))
  · subst he
    refine h_freeze 6 rfl ?_
    exact h_ret (pd_tup (pad_cons (pd_var 5 rfl) (pad_cons (pd_callTy f_tupL T.tuple (pad_cons (pd_var 6 rfl) pad_nil)) pad_nil))) (by rw [List.take_length]; rfl)
theorem ok_readF {B : Addr} (T : Nam mg) (I : BadL P w K mg base B) (G : Cal P w K mg base "words_of" 1 ["line"] (spD K 1 RWords)) (G2 : Cal P w K mg base "read_halls" 3 ["line", "words"] (spD K 2 RReadH)) (G3 : Cal P w K mg base "read_pairs" 3 ["line", "words", "least", "halls"] (spD K 4 RReadP))
    (C2 : CalE P w K mg base "read_halls" 5 ["line", "words"] (spO K 2 B RReadHF)) (C3 : CalE P w K mg base "read_pairs" 5 ["line", "words", "least", "halls"] (spO K 4 B RReadPF)) (D : Dfn K mg "read_net" sRead ["text"]) : CalE P w K mg base "read_net" 6 ["text"] (spO K 1 B RReadF) := D.calE fun f fd F => by
  refine fnF (m := 8) F scRead rfl rfl fun cdv A outer s H E hr ds o hR tk => ?_
  obtain ⟨text, l, q, tl, bt, rfl, rfl⟩ := hR
  refine hzf_eq (env1 := [.d (.str text), .u, .u, .u, .u, .u, .u, .u, .u]) rfl ?_
  refine hzf_skip (pb_is (pb_not (pb_val (pd_isi (ty := "str") "str" true T.isinstance T.str (pd_var 0 rfl)))) rfl) ?_
  have sl : (Txt.split text (Str.ofString "\n")).length ≤ text.length + 2 := PyProof.Rows.split_le text nlS
  refine hzf_one (hs_lc1 8 1 (fun _ => true) woY rfl scRead.nd (it_list (pf_d (pf_split (pd_var 0 rfl) pd_str (by decide) (by omega)))) (blkOk_by (N := ["text", "lines", "number", "words", "rows", "halls", "pairs", "least", "line"]) (sc := defScope sRead) (by decide +kernel))
    (fun s H C cl fp d h => pts0) (fun s H Ca cl fp d h _ => ?_) (fun s H C cl fp => pg_name (i := 8) scRead.nd rfl (Or.inl rfl)) (by simp) (by simp) (by simp [sD]; omega)) ?_
  · obtain ⟨x, hx, rfl⟩ := mem_sD h
    have xl : x.length ≤ 90000 := by
      have := part_len hx
      omega
    exact pd_my G hr (pad_cons (pd_var 8 rfl) pad_nil) ⟨x, xl, rfl, rfl⟩
  have ew : ((sD (Txt.split text (Str.ofString "\n"))).filter fun _ => true).map woY = (rowsM text).map fun ws => PyData.list (sD ws) := by
    rw [filter_yes fun _ => rfl]
    unfold sD rowsM
    rw [List.map_map, List.map_map]
    rfl
  have rl : (rowsM text).length ≤ text.length + 2 := by unfold rowsM; rw [List.length_map]; exact sl
  refine hzf_eq (env1 := [.d (.str text), .d (.list ((rowsM text).map fun ws => PyData.list (sD ws))), .u, .u, .u, .u, .u, .u, .u]) (by rw [ew]; rfl) ?_
  generalize rowsM text = W at bt rl
  refine hzf_one (hs_lcT 2 3 4 (x := "number") (z := "words") (ts := (enumW 1 W).map nwD) neW tpD rfl scRead.nd (by rw [← enC_W]; exact it_enumK T.enumerate (pd_var 1 rfl)) (blkOk_by (N := ["text", "lines", "number", "words", "rows", "halls", "pairs", "least", "line"]) (sc := defScope sRead) (by decide +kernel))
    (fun s H C cl fp q h => ?_) (fun s H C cl fp q h _ => ?_) (fun s H C cl fp => pg_tup rfl (pgs_cons (pg_name (i := 2) scRead.nd rfl (.inl rfl)) (pgs_cons (pg_name (i := 3) scRead.nd rfl (.inl rfl)) pgs_nil))) (by simp) (by simp) (by simp) (by rw [List.length_map, enumW_len]; omega)) ?_
  · obtain ⟨p, hp, rfl⟩ := List.mem_map.mp h
    exact pts1 (pb_cmp (pd_callB f_lenL T.len (pad_cons (pd_var 3 rfl) pad_nil)) pd_int c_gt)
  · obtain ⟨p, hp, rfl⟩ := List.mem_map.mp h
    exact pd_tup (pad_cons (pd_var 2 rfl) (pad_cons (pd_var 3 rfl) pad_nil))
  rw [told_map]
  generalize hdl : PyData.list (W.map fun ws => PyData.list (sD ws)) = dl
  refine hzf_eq (env1 := [.d (.str text), .d dl, .u, .u, .d (.list ((told W).map nwT)), .u, .u, .u, .u]) (by rw [← hdl]; rfl) ?_
  cases bt with
  | none h =>
    rw [h]
    refine hzf_st (hzf_if (pb_is (pb_cmp (pd_callB f_lenL T.len (pad_cons (pd_var 4 rfl) pad_nil)) pd_int c_eqI) rfl) (hzf_st (hzf_badline I tk rfl hr (pad_cons (pd_op (pd_is (d1 := .int (W.length : Int)) (pd_callB (f_lenL (ds := W.map fun ws => PyData.list (sD ws))) T.len (pad_cons (pd_is (pd_var 1 rfl) hdl.symm) pad_nil)) (by rw [List.length_map])) pd_int b_add) (pad_cons pd_int pad_nil)))))
  | @head _ _ ws r h b =>
    rw [h, List.map_cons]
    refine hzf_skip (pb_is (pb_cmp (pd_callB f_lenL T.len (pad_cons (pd_var 4 rfl) pad_nil)) pd_int c_eqI) (by simp; omega)) ?_
    refine hzf_one (hs_asg (pd_ix (pd_var 4 rfl) pd_int (ix_L (at_zero _ _))) (gd_tup rfl (gds_cons (gd_name 2 scRead.nd) (gds_cons (gd_name 3 scRead.nd) gds_nil)))) ?_
    exact hzf_st (hzf_set 5 scRead.nd (pzf_my C2 hr tk (pad_cons (pd_var 2 rfl) (pad_cons (pd_var 3 rfl) pad_nil)) ⟨l, q, ws, b, rfl, rfl⟩))
  | @line m0 n _ _ ms L ws r n1 n60 lk ml h wl b =>
    have ll := lines_len lk (by omega)
    have lz : (ms.zip (L.map fun p => lineW p.1 p.2)).length = L.length := by simp [ml]
    rw [h, List.map_cons]
    refine hzf_skip (pb_is (pb_cmp (pd_callB f_lenL T.len (pad_cons (pd_var 4 rfl) pad_nil)) pd_int c_eqI) (by simp; omega)) ?_
    refine hzf_one (hs_asg (pd_ix (pd_var 4 rfl) pd_int (ix_L (at_zero _ _))) (gd_tup rfl (gds_cons (gd_name 2 scRead.nd) (gds_cons (gd_name 3 scRead.nd) gds_nil)))) ?_
    refine hzf_one (hs_set 5 scRead.nd (pd_my G2 hr (pad_cons (pd_var 2 rfl) (pad_cons (pd_var 3 rfl) pad_nil)) ⟨m0, n, n1, n60, rfl, rfl⟩)) ?_
    refine hzf_one (hs_setL 6 scRead.nd (pf_lst pad_nil)) ?_
    refine hzf_one (hs_set 7 scRead.nd pd_int) ?_
    generalize hT : ms.zip (L.map fun p => lineW p.1 p.2) ++ (l, ws) :: r = TT
    have tlen : L.length < TT.length := by rw [← hT, List.length_append, lz]; simp
    have tat : ∀ i v, TT[i]? = some v → i < L.length → (ms.zip (L.map fun p => lineW p.1 p.2))[i]? = some v := fun i v e hi => by rw [← hT, List.getElem?_append_left (by omega)] at e; exact e
    have tlast : TT[L.length]? = some (l, ws) := by rw [← hT, List.getElem?_append_right (by omega), lz, Nat.sub_self]; rfl
    generalize hdr : PyData.list (nwT (m0, (["halls", wI n] : List Str)) :: TT.map nwT) = dr
    refine hzf_st (hzf_for (passes_of rfl) rfl (ds := TT.map nwT) (env1 := [.d (.str text), .d dl, .d (.int m0), .d (.list (sD ["halls", wI n])), .d dr, .d (.int n), .l [], .d (.int 0), .u])
      (it_list (pf_d (pf_from1 (ds := nwT (m0, ["halls", wI n]) :: TT.map nwT) (pd_is (pd_var 4 rfl) hdr.symm) pd_int)))
      (fun i => [.d (.str text), .d dl, .u, .u, .d dr, .d (.int n), .l (pD ((L.take i).flatMap prsOf)), .d (.int (lowL 0 L i)), .u]) (le_cons (.inr rfl) (le_cons (.inr rfl) (le_cons (.inl rfl) (le_cons (.inl rfl) (le_cons (.inr rfl) (le_cons (.inr rfl) (le_cons (.inr rfl) (le_cons (.inr rfl) (le_cons (.inr rfl) le_nil)))))))))
      (env0 := fun i d => match d with | .tuple [x, y] => [.d (.str text), .d dl, .d x, .d y, .d dr, .d (.int n), .l (pD ((L.take i).flatMap prsOf)), .d (.int (lowL 0 L i)), .u] | _ => []) L.length (by rw [List.length_map]; exact tlen)
      (fun i d _ h => ?_) (fun i d hi hd => ?_) (fun d hd => ?_))
    · rw [List.getElem?_map] at h
      cases q : TT[i]? with
      | none => rw [q] at h; cases h
      | some v =>
        rw [q] at h
        obtain rfl := Option.some.inj h
        exact gd_tup rfl (gds_cons (gd_name 2 scRead.nd) (gds_cons (gd_name 3 scRead.nd) gds_nil))
    · rw [List.getElem?_map] at hd
      obtain ⟨m, hm⟩ : ∃ m, ms[i]? = some m := ⟨ms[i], by simp [ml, hi]⟩
      obtain ⟨p, hp⟩ : ∃ p, L[i]? = some p := ⟨L[i], by simp [hi]⟩
      obtain ⟨g, gs⟩ := p
      have e1 : (ms.zip (L.map fun p => lineW p.1 p.2))[i]? = some (m, lineW g gs) := by
        rw [List.getElem?_zip_eq_some, List.getElem?_map, hp, hm]
        exact ⟨rfl, rfl⟩
      cases qv : TT[i]? with
      | none => rw [qv] at hd; cases hd
      | some v =>
      rw [qv] at hd
      have := tat i v qv hi
      rw [e1] at this
      obtain rfl := Option.some.inj this
      obtain rfl := Option.some.inj hd
      obtain ⟨q1, q2, q3, q4, q5⟩ := lines_at (by decide) lk hp
      have fl := lines_flat (by decide) n60 lk i
      have cl := chain_len (by omega) q5 q3
      obtain ⟨gs', x, rfl⟩ : ∃ gs' x, gs = gs' ++ [x] := ⟨gs.dropLast, gs.getLast q4, (List.dropLast_concat_getLast q4).symm⟩
      have tk2 : (L.take (i + 1)).flatMap prsOf = ((L.take i).flatMap prsOf ++ gs'.map fun f => (g, f)) ++ [(g, x)] := by
        rw [List.take_add_one, List.flatMap_append, hp]
        simp [prsOf]
      have lw : lowL 0 L (i + 1) = g + 1 := by
        unfold lowL
        rw [if_neg (by omega), Nat.add_sub_cancel, List.getD_eq_getElem?_getD, hp]
        rfl
      have el : (prsOf (g, gs' ++ [x])).length = (gs' ++ [x]).length := by simp [prsOf]
      refine h_one (hs_ext (es := pD (prsOf (g, gs' ++ [x]))) 6 (pd_my G3 hr (pad_cons (pd_var 2 rfl) (pad_cons (pd_var 3 rfl) (pad_cons (pd_var 7 rfl) (pad_cons (pd_var 5 rfl) pad_nil)))) ⟨m, lowL 0 L i, n, g, gs' ++ [x], q1, q2, q3, n60, q4, q5, rfl, rfl⟩) rfl rfl (by simp only [pD, List.length_map]; rw [el]; omega)) ?_
      have e3 : pD ((L.take i).flatMap prsOf) ++ pD (prsOf (g, gs' ++ [x])) = pD ((L.take i).flatMap prsOf ++ gs'.map fun f => (g, f)) ++ [prd (g, x)] := by simp [pD, prsOf]
      refine h_eq (env1 := [.d (.str text), .d dl, .d (.int m), .d (.list (sD (lineW g (gs' ++ [x])))), .d dr, .d (.int n), .l (pD ((L.take i).flatMap prsOf ++ gs'.map fun f => (g, f)) ++ [prd (g, x)]), .d (.int (lowL 0 L i)), .u]) (by rw [← e3]; rfl) ?_
      refine h_last (hs_to (hs_set 7 scRead.nd (pd_op (pd_ix (pd_ixO 6 (.inl rfl) (pd_neg pd_int) (atI_last _ _)) pd_int (ix_T rfl)) pd_int b_add)) ?_)
      show Le _ _
      rw [tk2, lw]
      exact le_cons (.inr rfl) (le_cons (.inr rfl) (le_cons (.inl rfl) (le_cons (.inl rfl) (le_cons (.inr rfl) (le_cons (.inr rfl) (le_cons (.inr (by simp [pD])) (le_cons (.inr rfl) (le_cons (.inr rfl) le_nil))))))))
    · rw [List.getElem?_map, tlast] at hd
      obtain rfl := Option.some.inj hd
      have low : 0 ≤ lowL 0 L L.length ∧ lowL 0 L L.length ≤ n := by
        by_cases z : L.length = 0
        · have e : lowL 0 L 0 = 0 := rfl
          rw [z, e]
          omega
        · obtain ⟨p, hp⟩ : ∃ p, L[L.length - 1]? = some p := ⟨L[L.length - 1], by simp⟩
          obtain ⟨g, gs⟩ := p
          obtain ⟨q1, q2, q3, _, _⟩ := lines_at (by decide) lk hp
          unfold lowL
          rw [if_neg z, List.getD_eq_getElem?_getD, hp]
          show 0 ≤ g + 1 ∧ g + 1 ≤ n
          omega
      exact hzf_st (hzf_ext 6 (pzf_my C3 hr tk (pad_cons (pd_var 2 rfl) (pad_cons (pd_var 3 rfl) (pad_cons (pd_var 7 rfl) (pad_cons (pd_var 5 rfl) pad_nil)))) ⟨l, lowL 0 L L.length, n, q, ws, low.1, low.2, n1, n60, wl, b, rfl, rfl⟩) rfl)
theorem ok_readT {B : Addr} (T : Nam mg) (TT : mg "BadText" = some (.ref B) ∧ PySem.W.excIn K B [.type "ValueError", .type "Exception", .type "BaseException", .type "object"] "ValueError.__new__" = true ∧ PySem.W.keepIn K (.ref B) = true ∧ PySem.W.subIn K (.ref B) (.type "BaseException") = some true ∧ PySem.W.typeIn K (.ref B) = some (.type "type"))
    (D : Dfn K mg "read_net" sRead ["text"]) : CalE P w K mg base "read_net" 1 ["text"] (spE K 1 B RReadT) := D.calE fun f fd F => by
  refine fnE (m := 8) F scRead rfl rfl fun cdv A outer s H E hr ds hR tk => ?_
  obtain ⟨v, hv, rfl⟩ := hR
  refine hz_eq (env1 := [.d v, .u, .u, .u, .u, .u, .u, .u, .u]) rfl ?_
  have C : ExC (cxOf (L2.CX P w) P w K mg base ["text", "lines", "number", "words", "rows", "halls", "pairs", "least", "line"] "read_net" (defScope sRead) f cdv A outer s H E) "BadText" B := ⟨TT.2.1, TT.1, TT.2.2.1, TT.2.2.2.1, TT.2.2.2.2⟩
  cases v with
  | str x => exact absurd rfl (hv x)
  | none => exact hz_st (hz_if (pb_is (pb_not (pb_val (pd_isi "str" false T.isinstance T.str (pd_var 0 rfl)))) rfl) (hz_st (hz_raise tk rfl C pd_str trivial)))
  | int _ => exact hz_st (hz_if (pb_is (pb_not (pb_val (pd_isi "str" false T.isinstance T.str (pd_var 0 rfl)))) rfl) (hz_st (hz_raise tk rfl C pd_str trivial)))
  | bool _ => exact hz_st (hz_if (pb_is (pb_not (pb_val (pd_isi "str" false T.isinstance T.str (pd_var 0 rfl)))) rfl) (hz_st (hz_raise tk rfl C pd_str trivial)))
  | list _ => exact hz_st (hz_if (pb_is (pb_not (pb_val (pd_isi "str" false T.isinstance T.str (pd_var 0 rfl)))) rfl) (hz_st (hz_raise tk rfl C pd_str trivial)))
  | tuple _ => exact hz_st (hz_if (pb_is (pb_not (pb_val (pd_isi "str" false T.isinstance T.str (pd_var 0 rfl)))) rfl) (hz_st (hz_raise tk rfl C pd_str trivial)))
  | dict _ => exact hz_st (hz_if (pb_is (pb_not (pb_val (pd_isi "str" false T.isinstance T.str (pd_var 0 rfl)))) rfl) (hz_st (hz_raise tk rfl C pd_str trivial)))
end K09

set_option Elab.async false
set_option linter.all false
set_option maxRecDepth 100000
set_option maxHeartbeats 4000000
namespace K09
open PySem PySem.Spec PyProof.Rows L2 Evl NB LW LP NBI LM LG FM LS LO FW LTX TL LE9
abbrev sRefusal : Stmt := top 30
theorem scRefusal : FnScope ["text", "e"] ["text"] (defScope sRefusal) := ⟨rfl, rfl, rfl, by decide +kernel, rfl, by decide +kernel, by decide +kernel⟩
/-- the two classes -/
structure RefC (K : PySem.W.Frag) (mg : Str → Option Value) (bl bt : Addr) : Prop where
  gL : mg "BadLine" = some (.ref bl)
  gT : mg "BadText" = some (.ref bt)
  mLL : PySem.W.exmOne K (.ref bl) (.ref bl) = some true
  mTL : PySem.W.exmOne K (.ref bt) (.ref bl) = some false
  mTT : PySem.W.exmOne K (.ref bt) (.ref bt) = some true
  XL : XfC K bl
  nL : PySem.W.findIn K (.ref bl) "line" = some none
  nW : PySem.W.findIn K (.ref bl) "word" = some none
section
variable {X : Cx} {bl bt a : Addr} {oe : Obj} {pn : List (Addr × Obj)} {cls : Value} {d : Option Addr}
abbrev lineFs (l q : Int) : List (Str × V) := [("word", V.int q), ("line", V.int l)]
/-- return (e.line, e.word) -/
theorem suite_line {p1 p2 p3 p4 p5 p6 : Pos} {kk : Nat} (hs : X.N = (["text", "e"] : List Str)) (hv : Vis X.env.scope "e") (M : RefC X.K X.mg bl bt) (hz : Zc cls d oe) (hf : ∃ vs, oe.data = .fields vs) (l q : Int)
    (hb1 : attributeBase (.Name "e" p1) "line" X.env (eval (.Name "e" p1) X.env) = eval (.Name "e" p1) X.env) (hb2 : attributeBase (.Name "e" p3) "word" X.env (eval (.Name "e" p3) X.env) = eval (.Name "e" p3) X.env)
    (st : starEach [.Attribute (.Name "e" p1) "line" p2, .Attribute (.Name "e" p3) "word" p4] X.env = (false, eval (.Attribute (.Name "e" p1) "line" p2) X.env) :: starEach [.Attribute (.Name "e" p3) "word" p4] X.env)
    (st2 : starEach [.Attribute (.Name "e" p3) "word" p4] X.env = (false, eval (.Attribute (.Name "e" p3) "word" p4) X.env) :: starEach [] X.env) :
    PSs (X.suite a ((a, oe) :: pn)) [.Return (some (.Tuple [.Attribute (.Name "e" p1) "line" p2, .Attribute (.Name "e" p3) "word" p4] kk p5)) p6]
      (fun D σ H => cls = .ref bl ∧ (∃ σ0 : L2.St, σ = σ0.set 1 (some (.ref a))) ∧ ∃ dd, d = some dd ∧ H dd = some (.xd (lineFs l q)) ∧ ∀ p, H p = none → D.rt (.ref p) (upd H p (.tup [.int l, .int q]))) := by
  have h : PSs (X.suite a ((a, oe) :: pn)) [.Return (some (.Tuple [.Attribute (.Name "e" p1) "line" p2, .Attribute (.Name "e" p3) "word" p4] kk p5)) p6] _ := pss_one (ps_ret (pos := p6) (pe_tup (X := X.suite a ((a, oe) :: pn)) (pa_cons (pe_xf (X := X) M.XL M.nL hz hf (pv 1 (by rw [show (X.suite a ((a, oe) :: pn)).N = X.N from rfl, hs]; rfl) hv) hb1) (pa_cons (pe_xf (X := X) M.XL M.nW hz hf (pv 1 (by rw [show (X.suite a ((a, oe) :: pn)).N = X.N from rfl, hs]; rfl) hv) hb2) pa_nil st2) st)))
  refine ⟨fun pins s' σ H' D I h' => ?_⟩
  obtain ⟨h0, ⟨σ0, rfl⟩, dd, e, h2, k⟩ := h'
  have hl : (σ0.set 1 (some (V.ref a))).length = 2 := by
    have := I.len
    rw [this]
    show X.N.length = 2
    rw [hs]
    rfl
  rw [List.length_set] at hl
  have at1 : (σ0.set 1 (some (V.ref a)))[1]? = some (some (V.ref a)) := List.getElem?_set_self (by omega)
  exact h.run pins s' _ H' D I ⟨.ref a, at1, rfl, h0, dd, _, .int l, e, h2, rfl, .ref a, at1, rfl, h0, dd, _, .int q, e, h2, rfl, by rw [sizeLine_eq]; simp, fun p hp => k p hp⟩
end
variable {P : Program} {w : World} {K : PySem.W.Frag} {mg : Str → Option Value} {base : Heap}
theorem ok_refusal {bl bt : Addr} (M : RefC K mg bl bt) (G : Cal P w K mg base "read_net" 4 ["text"] (spD K 1 RRead)) (CF : CalE P w K mg base "read_net" 6 ["text"] (spO K 1 bl RReadF)) (CT : CalE P w K mg base "read_net" 1 ["text"] (spE K 1 bt RReadT))
    (D : Dfn K mg "_law_refusal" sRefusal ["text"]) : Cal P w K mg base "_law_refusal" 7 ["text"] (spD K 1 RRefusal) := D.cal fun f fd F => by
  refine fnD (m := 1) F scRefusal rfl rfl fun cdv A outer s H E hr ds d hR => ?_
  rcases hR with ⟨l, q, hR, rfl⟩ | ⟨hR, rfl⟩ | ⟨d', hR, rfl⟩
  · obtain ⟨text, _, _, hl, hb, rfl, e⟩ := hR
    have e1 : lineFs l q = lineFs _ _ := Option.some.inj e
    injection e1 with e1 e2
    injection e2 with e2 _
    injection e1 with _ e1
    injection e2 with _ e2
    injection e1 with e1
    injection e2 with e2
    subst e1 e2
    refine h_eq (env1 := [.d (.str text), .u]) rfl ?_
    refine pss_imp (pss_cons (ps_tryM (i := 1) (tb := fun W => tZF K w W bl (lineF l q) [.d (.str text), .u]) rfl rfl scRefusal.nd rfl rfl
      (Clauses.more ⟨rfl, by decide, .inl M.gL⟩ (fun b ob cl dd pl hz hf => suite_line (bt := bt) rfl (.inl rfl) M hz hf l q rfl rfl rfl rfl) (Clauses.more ⟨rfl, by decide, .inl M.gT⟩ (fun b ob cl dd pl hz hf => pss_one (ps_ret pe_str)) (Clauses.fin L2.takes0)))
      (fun W pl xe tk _ => hzf_st (hzf_expr (pzf_my CF hr tk (pad_cons (pd_var 0 rfl) pad_nil) ⟨text, l, q, hl, hb, rfl, rfl⟩)))) h_never) fun D σ H ⟨Γ, z, sd, k1, k2, k3, k4⟩ => ?_
    refine ⟨Γ, z, sd, fun d env' z' σ' H' ex sd' r => ⟨true, M.mLL, fun _ a na => ?_, fun q => nomatch q⟩⟩
    obtain ⟨dd, ed, hd⟩ := r
    refine ⟨rfl, ⟨σ', rfl⟩, dd, ed, cut_sub _ _ hd, fun p hp => ?_⟩
    exact k2 _ env' z' _ σ' _ rfl (ex.trans (cut_ex (Ex.new hp))) (sd'.grow (Ex.new hp)) (.tup (st_of (cut_of (sd'.zfresh hp) upd_same)) (.cons (.int l) (.cons (.int q) .nil)))
  · obtain ⟨v, hv, rfl⟩ := hR
    refine h_eq (env1 := [.d v, .u]) rfl ?_
    refine pss_imp (pss_cons (ps_tryM (i := 1) (tb := fun W => tZ K w W bt [.d v, .u] (fun _ => True)) rfl rfl scRefusal.nd rfl rfl
      (Clauses.more ⟨rfl, by decide, .inl M.gL⟩ (fun b ob cl dd pl hz hf => suite_line (bt := bt) rfl (.inl rfl) M hz hf 0 0 rfl rfl rfl rfl) (Clauses.more ⟨rfl, by decide, .inl M.gT⟩ (fun b ob cl dd pl hz hf => pss_one (ps_ret pe_str)) (Clauses.fin L2.takes0)))
      (fun W pl xe tk _ => hz_st (hz_expr (pz_my CT hr tk (pad_cons (pd_var 0 rfl) pad_nil) ⟨v, hv, rfl⟩ trivial)))) h_never) fun D σ H ⟨Γ, z, sd, k1, k2, k3, k4⟩ => ?_
    refine ⟨Γ, z, sd, fun env' z' σ' H' _ ex sd' => ⟨false, M.mTL, (fun q => nomatch q), fun _ => ⟨true, M.mTT, fun _ a na => ?_, fun q => nomatch q⟩⟩⟩
    exact k2 _ env' z' _ σ' H' rfl ex sd' (.str _)
  · obtain ⟨text, n, L, r1, r2, r3, r4, r5, rfl, e⟩ := hR
    refine h_eq (env1 := [.d (.str text), .u]) rfl ?_
    refine h_one (hs_try0 (h_one (hs_expr (pd_my G hr (pad_cons (pd_var 0 rfl) pad_nil) ⟨text, n, L, r1, r2, r3, r4, r5, rfl, e⟩)) (h_nil rfl))) (h_ret pd_str rfl)
end K09

set_option Elab.async false
set_option linter.all false
set_option maxRecDepth 100000
set_option maxHeartbeats 4000000
namespace K09
open PySem PySem.Spec PyProof.Rows L2 Evl NB LW LP NBI LM LG FM LS LO FW LTX TL LE9
abbrev sRefused : Stmt := top 31
theorem scRefused : FnScope ["rows"] [] (defScope sRefused) := ⟨rfl, rfl, rfl, by decide +kernel, rfl, by decide +kernel, by decide +kernel⟩
def dueD (o : Option (Int × Int)) : PyData := match o with
  | some (l, q) => .tuple [.int l, .int q]
  | none => .str ""
def refD (p : Str × Option (Int × Int)) : PyData := .tuple [.str p.1, dueD p.2]
def ref0 : List (Str × Option (Int × Int)) := [("", some (2, 1)), ("halls", some (1, 2)), ("hall 2", some (1, 1))]
def ref1 : List (Str × Option (Int × Int)) := [("halls 0", some (1, 2)), ("halls 61", some (1, 2)), ("halls 02", some (1, 2))]
def ref2 : List (Str × Option (Int × Int)) := [("halls 2 2", some (1, 3)), ("halls 2", none), ("halls 2\n0", some (2, 2))]
def ref3 : List (Str × Option (Int × Int)) := [("halls 2\n0 with", some (2, 3)), ("halls 2\n1 with 0", some (2, 3))]
def ref4 : List (Str × Option (Int × Int)) := [("halls 3\n0 to 1", some (2, 2)), ("halls 3\n0 with 1 1", some (2, 4))]
def ref5 : List (Str × Option (Int × Int)) := [("halls 3\n0 with 2 1", some (2, 4)), ("halls 3\n0 with 3", some (2, 3))]
def ref6 : List (Str × Option (Int × Int)) := [("halls 3\n0 with 01", some (2, 3)), ("halls 3\n0 with 1\n0 with 2", some (3, 1))]
def ref7 : List (Str × Option (Int × Int)) := [("halls 3\n1 with 2\n0 with 1", some (3, 1)), ("\n", some (3, 1))]
def ref8 : List (Str × Option (Int × Int)) := [("halls 60\n9 with 10 59\n10 with 11", none), ("\n\nhalls 3\n\n0 with x", some (5, 3))]
def ref9 : List (Str × Option (Int × Int)) := [("halls x", some (1, 2)), ("halls 3\n3 with 4", some (2, 1))]
def refAll : List (Str × Option (Int × Int)) := ref0 ++ ref1 ++ ref2 ++ ref3 ++ ref4 ++ ref5 ++ ref6 ++ ref7 ++ ref8 ++ ref9
def RRefused (ds : List PyData) (d : PyData) : Prop := ds = [] ∧ d = .list (refAll.map refD)
variable {P : Program} {w : World} {K : PySem.W.Frag} {mg : Str → Option Value} {base : Heap}
theorem ok_refused (D : Dfn K mg "_law_refused" sRefused []) : Cal P w K mg base "_law_refused" 1 [] (spD K 0 RRefused) := D.cal fun f fd F => by
  refine fnD (m := 1) F scRefused rfl rfl fun cdv A outer s H E hr ds d hR => ?_
  obtain ⟨rfl, rfl⟩ := hR
  refine h_eq (env1 := [.u]) rfl ?_
  refine h_one (hs_set 0 scRefused.nd (pf_d (pf_lst (pad_cons (pd_tup (pad_cons pd_str (pad_cons (pd_tup (pad_cons pd_int (pad_cons pd_int pad_nil))) pad_nil))) (pad_cons (pd_tup (pad_cons pd_str (pad_cons (pd_tup (pad_cons pd_int (pad_cons pd_int pad_nil))) pad_nil))) (pad_cons (pd_tup (pad_cons pd_str (pad_cons (pd_tup (pad_cons pd_int (pad_cons pd_int pad_nil))) pad_nil))) pad_nil)))))) ?_
  refine h_eq (env1 := [.d (.list (ref0.map refD))]) rfl ?_
  refine h_one (hs_set 0 scRefused.nd (pd_op (pd_var 0 rfl) (pf_d (pf_lst (pad_cons (pd_tup (pad_cons pd_str (pad_cons (pd_tup (pad_cons pd_int (pad_cons pd_int pad_nil))) pad_nil))) (pad_cons (pd_tup (pad_cons pd_str (pad_cons (pd_tup (pad_cons pd_int (pad_cons pd_int pad_nil))) pad_nil))) (pad_cons (pd_tup (pad_cons pd_str (pad_cons (pd_tup (pad_cons pd_int (pad_cons pd_int pad_nil))) pad_nil))) pad_nil))))) (b_catL (by decide)))) ?_
  refine h_eq (env1 := [.d (.list ((ref0 ++ ref1).map refD))]) rfl ?_
  refine h_one (hs_set 0 scRefused.nd (pd_op (pd_var 0 rfl) (pf_d (pf_lst (pad_cons (pd_tup (pad_cons pd_str (pad_cons (pd_tup (pad_cons pd_int (pad_cons pd_int pad_nil))) pad_nil))) (pad_cons (pd_tup (pad_cons pd_str (pad_cons pd_str pad_nil))) (pad_cons (pd_tup (pad_cons pd_str (pad_cons (pd_tup (pad_cons pd_int (pad_cons pd_int pad_nil))) pad_nil))) pad_nil))))) (b_catL (by decide)))) ?_
  refine h_eq (env1 := [.d (.list ((ref0 ++ ref1 ++ ref2).map refD))]) rfl ?_
  refine h_one (hs_set 0 scRefused.nd (pd_op (pd_var 0 rfl) (pf_d (pf_lst (pad_cons (pd_tup (pad_cons pd_str (pad_cons (pd_tup (pad_cons pd_int (pad_cons pd_int pad_nil))) pad_nil))) (pad_cons (pd_tup (pad_cons pd_str (pad_cons (pd_tup (pad_cons pd_int (pad_cons pd_int pad_nil))) pad_nil))) pad_nil)))) (b_catL (by decide)))) ?_
  refine h_eq (env1 := [.d (.list ((ref0 ++ ref1 ++ ref2 ++ ref3).map refD))]) rfl ?_
  refine h_one (hs_set 0 scRefused.nd (pd_op (pd_var 0 rfl) (pf_d (pf_lst (pad_cons (pd_tup (pad_cons pd_str (pad_cons (pd_tup (pad_cons pd_int (pad_cons pd_int pad_nil))) pad_nil))) (pad_cons (pd_tup (pad_cons pd_str (pad_cons (pd_tup (pad_cons pd_int (pad_cons pd_int pad_nil))) pad_nil))) pad_nil)))) (b_catL (by decide)))) ?_
  refine h_eq (env1 := [.d (.list ((ref0 ++ ref1 ++ ref2 ++ ref3 ++ ref4).map refD))]) rfl ?_
  refine h_one (hs_set 0 scRefused.nd (pd_op (pd_var 0 rfl) (pf_d (pf_lst (pad_cons (pd_tup (pad_cons pd_str (pad_cons (pd_tup (pad_cons pd_int (pad_cons pd_int pad_nil))) pad_nil))) (pad_cons (pd_tup (pad_cons pd_str (pad_cons (pd_tup (pad_cons pd_int (pad_cons pd_int pad_nil))) pad_nil))) pad_nil)))) (b_catL (by decide)))) ?_
  refine h_eq (env1 := [.d (.list ((ref0 ++ ref1 ++ ref2 ++ ref3 ++ ref4 ++ ref5).map refD))]) rfl ?_
  refine h_one (hs_set 0 scRefused.nd (pd_op (pd_var 0 rfl) (pf_d (pf_lst (pad_cons (pd_tup (pad_cons pd_str (pad_cons (pd_tup (pad_cons pd_int (pad_cons pd_int pad_nil))) pad_nil))) (pad_cons (pd_tup (pad_cons pd_str (pad_cons (pd_tup (pad_cons pd_int (pad_cons pd_int pad_nil))) pad_nil))) pad_nil)))) (b_catL (by decide)))) ?_
  refine h_eq (env1 := [.d (.list ((ref0 ++ ref1 ++ ref2 ++ ref3 ++ ref4 ++ ref5 ++ ref6).map refD))]) rfl ?_
  refine h_one (hs_set 0 scRefused.nd (pd_op (pd_var 0 rfl) (pf_d (pf_lst (pad_cons (pd_tup (pad_cons pd_str (pad_cons (pd_tup (pad_cons pd_int (pad_cons pd_int pad_nil))) pad_nil))) (pad_cons (pd_tup (pad_cons pd_str (pad_cons (pd_tup (pad_cons pd_int (pad_cons pd_int pad_nil))) pad_nil))) pad_nil)))) (b_catL (by decide)))) ?_
  refine h_eq (env1 := [.d (.list ((ref0 ++ ref1 ++ ref2 ++ ref3 ++ ref4 ++ ref5 ++ ref6 ++ ref7).map refD))]) rfl ?_
  refine h_one (hs_set 0 scRefused.nd (pd_op (pd_var 0 rfl) (pf_d (pf_lst (pad_cons (pd_tup (pad_cons pd_str (pad_cons pd_str pad_nil))) (pad_cons (pd_tup (pad_cons pd_str (pad_cons (pd_tup (pad_cons pd_int (pad_cons pd_int pad_nil))) pad_nil))) pad_nil)))) (b_catL (by decide)))) ?_
  refine h_eq (env1 := [.d (.list ((ref0 ++ ref1 ++ ref2 ++ ref3 ++ ref4 ++ ref5 ++ ref6 ++ ref7 ++ ref8).map refD))]) rfl ?_
  exact h_ret (pd_op (pd_var 0 rfl) (pf_d (pf_lst (pad_cons (pd_tup (pad_cons pd_str (pad_cons (pd_tup (pad_cons pd_int (pad_cons pd_int pad_nil))) pad_nil))) (pad_cons (pd_tup (pad_cons pd_str (pad_cons (pd_tup (pad_cons pd_int (pad_cons pd_int pad_nil))) pad_nil))) pad_nil)))) (b_catL (by decide))) rfl
theorem ref_c0 : RRefusal [.str ""] (.tuple [.int 2, .int 1]) := .inl ⟨2, 1, ⟨"", 2, 1, by decide +kernel, (by have e : ((rowsM "").length : Int) + 1 = 2 := (by decide +kernel); rw [← e]; exact .none (by decide +kernel)), rfl, rfl⟩, rfl⟩
theorem ref_c1 : RRefusal [.str "halls"] (.tuple [.int 1, .int 2]) := .inl ⟨1, 2, ⟨"halls", 1, 2, by decide +kernel, (.head (ws := ["halls"]) (r := []) (by decide +kernel) (.two (by decide +kernel))), rfl, rfl⟩, rfl⟩
theorem ref_c2 : RRefusal [.str "hall 2"] (.tuple [.int 1, .int 1]) := .inl ⟨1, 1, ⟨"hall 2", 1, 1, by decide +kernel, (.head (ws := ["hall", "2"]) (r := []) (by decide +kernel) (.one (by decide +kernel))), rfl, rfl⟩, rfl⟩
theorem ref_c3 : RRefusal [.str "halls 0"] (.tuple [.int 1, .int 2]) := .inl ⟨1, 2, ⟨"halls 0", 1, 2, by decide +kernel, (.head (ws := ["halls", "0"]) (r := []) (by decide +kernel) (.two (by decide +kernel))), rfl, rfl⟩, rfl⟩
theorem ref_c4 : RRefusal [.str "halls 61"] (.tuple [.int 1, .int 2]) := .inl ⟨1, 2, ⟨"halls 61", 1, 2, by decide +kernel, (.head (ws := ["halls", "61"]) (r := []) (by decide +kernel) (.two (by decide +kernel))), rfl, rfl⟩, rfl⟩
theorem ref_c5 : RRefusal [.str "halls 02"] (.tuple [.int 1, .int 2]) := .inl ⟨1, 2, ⟨"halls 02", 1, 2, by decide +kernel, (.head (ws := ["halls", "02"]) (r := []) (by decide +kernel) (.two (by decide +kernel))), rfl, rfl⟩, rfl⟩
theorem ref_c6 : RRefusal [.str "halls 2 2"] (.tuple [.int 1, .int 3]) := .inl ⟨1, 3, ⟨"halls 2 2", 1, 3, by decide +kernel, (.head (ws := ["halls", "2", "2"]) (r := []) (by decide +kernel) (.three (n := 2) (by decide) (by decide))), rfl, rfl⟩, rfl⟩
theorem ref_c7 : RRefusal [.str "halls 2"] (.str "") := .inr (.inr ⟨netD 2 (([] : List (Int × List Int)).flatMap prsOf), ⟨"halls 2", 2, [], by decide, by decide, trivial, by decide +kernel, by decide +kernel, rfl, rfl⟩, rfl⟩)
theorem ref_c8 : RRefusal [.str "halls 2\n0"] (.tuple [.int 2, .int 2]) := .inl ⟨2, 2, ⟨"halls 2\n0", 2, 2, by decide +kernel, (.line (m0 := 1) (n := 2) (ms := []) (L := []) (ws := ["0"]) (r := []) (by decide) (by decide) (trivial) rfl (by decide +kernel) (by decide) (.two (h := 0) (ws := []) (by decide) (by decide) (by decide +kernel))), rfl, rfl⟩, rfl⟩
theorem ref_c9 : RRefusal [.str "halls 2\n0 with"] (.tuple [.int 2, .int 3]) := .inl ⟨2, 3, ⟨"halls 2\n0 with", 2, 3, by decide +kernel, (.line (m0 := 1) (n := 2) (ms := []) (L := []) (ws := ["0", "with"]) (r := []) (by decide) (by decide) (trivial) rfl (by decide +kernel) (by decide) (.more (h := 0) (fs := []) (tail := []) (by decide) (by decide) (by simp [Chain]) (by simp) (by decide +kernel))), rfl, rfl⟩, rfl⟩
theorem ref_c10 : RRefusal [.str "halls 2\n1 with 0"] (.tuple [.int 2, .int 3]) := .inl ⟨2, 3, ⟨"halls 2\n1 with 0", 2, 3, by decide +kernel, (.line (m0 := 1) (n := 2) (ms := []) (L := []) (ws := ["1", "with", "0"]) (r := []) (by decide) (by decide) (trivial) rfl (by decide +kernel) (by decide) (.more (h := 1) (fs := []) (tail := ["0"]) (by decide) (by decide) (by simp [Chain]) (by simp) (by decide +kernel))), rfl, rfl⟩, rfl⟩
theorem ref_c11 : RRefusal [.str "halls 3\n0 to 1"] (.tuple [.int 2, .int 2]) := .inl ⟨2, 2, ⟨"halls 3\n0 to 1", 2, 2, by decide +kernel, (.line (m0 := 1) (n := 3) (ms := []) (L := []) (ws := ["0", "to", "1"]) (r := []) (by decide) (by decide) (trivial) rfl (by decide +kernel) (by decide) (.two (h := 0) (ws := ["to", "1"]) (by decide) (by decide) (by decide +kernel))), rfl, rfl⟩, rfl⟩
theorem ref_c12 : RRefusal [.str "halls 3\n0 with 1 1"] (.tuple [.int 2, .int 4]) := .inl ⟨2, 4, ⟨"halls 3\n0 with 1 1", 2, 4, by decide +kernel, (.line (m0 := 1) (n := 3) (ms := []) (L := []) (ws := ["0", "with", "1", "1"]) (r := []) (by decide) (by decide) (trivial) rfl (by decide +kernel) (by decide) (.more (h := 0) (fs := [1]) (tail := ["1"]) (by decide) (by decide) (by simp [Chain]) (by simp) (by decide +kernel))), rfl, rfl⟩, rfl⟩
theorem ref_c13 : RRefusal [.str "halls 3\n0 with 2 1"] (.tuple [.int 2, .int 4]) := .inl ⟨2, 4, ⟨"halls 3\n0 with 2 1", 2, 4, by decide +kernel, (.line (m0 := 1) (n := 3) (ms := []) (L := []) (ws := ["0", "with", "2", "1"]) (r := []) (by decide) (by decide) (trivial) rfl (by decide +kernel) (by decide) (.more (h := 0) (fs := [2]) (tail := ["1"]) (by decide) (by decide) (by simp [Chain]) (by simp) (by decide +kernel))), rfl, rfl⟩, rfl⟩
theorem ref_c14 : RRefusal [.str "halls 3\n0 with 3"] (.tuple [.int 2, .int 3]) := .inl ⟨2, 3, ⟨"halls 3\n0 with 3", 2, 3, by decide +kernel, (.line (m0 := 1) (n := 3) (ms := []) (L := []) (ws := ["0", "with", "3"]) (r := []) (by decide) (by decide) (trivial) rfl (by decide +kernel) (by decide) (.more (h := 0) (fs := []) (tail := ["3"]) (by decide) (by decide) (by simp [Chain]) (by simp) (by decide +kernel))), rfl, rfl⟩, rfl⟩
theorem ref_c15 : RRefusal [.str "halls 3\n0 with 01"] (.tuple [.int 2, .int 3]) := .inl ⟨2, 3, ⟨"halls 3\n0 with 01", 2, 3, by decide +kernel, (.line (m0 := 1) (n := 3) (ms := []) (L := []) (ws := ["0", "with", "01"]) (r := []) (by decide) (by decide) (trivial) rfl (by decide +kernel) (by decide) (.more (h := 0) (fs := []) (tail := ["01"]) (by decide) (by decide) (by simp [Chain]) (by simp) (by decide +kernel))), rfl, rfl⟩, rfl⟩
theorem ref_c16 : RRefusal [.str "halls 3\n0 with 1\n0 with 2"] (.tuple [.int 3, .int 1]) := .inl ⟨3, 1, ⟨"halls 3\n0 with 1\n0 with 2", 3, 1, by decide +kernel, (.line (m0 := 1) (n := 3) (ms := [2]) (L := [(0, [1])]) (ws := ["0", "with", "2"]) (r := []) (by decide) (by decide) (by simp [LinesOk, Chain]) rfl (by decide +kernel) (by decide) (.one (by decide +kernel))), rfl, rfl⟩, rfl⟩
theorem ref_c17 : RRefusal [.str "halls 3\n1 with 2\n0 with 1"] (.tuple [.int 3, .int 1]) := .inl ⟨3, 1, ⟨"halls 3\n1 with 2\n0 with 1", 3, 1, by decide +kernel, (.line (m0 := 1) (n := 3) (ms := [2]) (L := [(1, [2])]) (ws := ["0", "with", "1"]) (r := []) (by decide) (by decide) (by simp [LinesOk, Chain]) rfl (by decide +kernel) (by decide) (.one (by decide +kernel))), rfl, rfl⟩, rfl⟩
theorem ref_c18 : RRefusal [.str "\n"] (.tuple [.int 3, .int 1]) := .inl ⟨3, 1, ⟨"\n", 3, 1, by decide +kernel, (by have e : ((rowsM "\n").length : Int) + 1 = 3 := (by decide +kernel); rw [← e]; exact .none (by decide +kernel)), rfl, rfl⟩, rfl⟩
theorem ref_c19 : RRefusal [.str "halls 60\n9 with 10 59\n10 with 11"] (.str "") := .inr (.inr ⟨netD 60 (([(9, [10, 59]), (10, [11])] : List (Int × List Int)).flatMap prsOf), ⟨"halls 60\n9 with 10 59\n10 with 11", 60, [(9, [10, 59]), (10, [11])], by decide, by decide, by simp [LinesOk, Chain], by decide +kernel, by decide +kernel, rfl, rfl⟩, rfl⟩)
theorem ref_c20 : RRefusal [.str "\n\nhalls 3\n\n0 with x"] (.tuple [.int 5, .int 3]) := .inl ⟨5, 3, ⟨"\n\nhalls 3\n\n0 with x", 5, 3, by decide +kernel, (.line (m0 := 3) (n := 3) (ms := []) (L := []) (ws := ["0", "with", "x"]) (r := []) (by decide) (by decide) (trivial) rfl (by decide +kernel) (by decide) (.more (h := 0) (fs := []) (tail := ["x"]) (by decide) (by decide) (by simp [Chain]) (by simp) (by decide +kernel))), rfl, rfl⟩, rfl⟩
theorem ref_c21 : RRefusal [.str "halls x"] (.tuple [.int 1, .int 2]) := .inl ⟨1, 2, ⟨"halls x", 1, 2, by decide +kernel, (.head (ws := ["halls", "x"]) (r := []) (by decide +kernel) (.two (by decide +kernel))), rfl, rfl⟩, rfl⟩
theorem ref_c22 : RRefusal [.str "halls 3\n3 with 4"] (.tuple [.int 2, .int 1]) := .inl ⟨2, 1, ⟨"halls 3\n3 with 4", 2, 1, by decide +kernel, (.line (m0 := 1) (n := 3) (ms := []) (L := []) (ws := ["3", "with", "4"]) (r := []) (by decide) (by decide) (trivial) rfl (by decide +kernel) (by decide) (.one (by decide +kernel))), rfl, rfl⟩, rfl⟩
theorem ref_all : ∀ p ∈ refAll, RRefusal [.str p.1] (dueD p.2) := fun p hp => by
  have hp : p ∈ ref0 ++ ref1 ++ ref2 ++ ref3 ++ ref4 ++ ref5 ++ ref6 ++ ref7 ++ ref8 ++ ref9 := hp
  simp only [ref0, ref1, ref2, ref3, ref4, ref5, ref6, ref7, ref8, ref9, List.mem_append, List.mem_cons, List.not_mem_nil, or_false] at hp
  rcases hp with ((((((((((rfl | rfl | rfl) | (rfl | rfl | rfl)) | (rfl | rfl | rfl)) | (rfl | rfl)) | (rfl | rfl)) | (rfl | rfl)) | (rfl | rfl)) | (rfl | rfl)) | (rfl | rfl)) | (rfl | rfl))
  · exact ref_c0
  · exact ref_c1
  · exact ref_c2
  · exact ref_c3
  · exact ref_c4
  · exact ref_c5
  · exact ref_c6
  · exact ref_c7
  · exact ref_c8
  · exact ref_c9
  · exact ref_c10
  · exact ref_c11
  · exact ref_c12
  · exact ref_c13
  · exact ref_c14
  · exact ref_c15
  · exact ref_c16
  · exact ref_c17
  · exact ref_c18
  · exact ref_c19
  · exact ref_c20
  · exact ref_c21
  · exact ref_c22
end K09

set_option Elab.async false
set_option linter.all false
set_option maxRecDepth 100000
set_option maxHeartbeats 4000000
namespace K09
open PySem L2 Evl NB LW LP NBI LM LG FM LS LO FW LTX TL LE9
variable {P : Program} {w : World} {K : PySem.W.Frag} {mg : Str → Option Value} {base : Heap}
theorem scTaken : FnScope ["row", "many", "found", "cell"] ["row", "many"] (defScope sTaken) := ⟨rfl, rfl, rfl, by decide +kernel, rfl, by decide +kernel, by decide +kernel⟩
theorem ok_taken (T : Nam mg) (D : Dfn K mg "_law_taken" sTaken ["row", "many"]) : Cal P w K mg base "_law_taken" 1 ["row", "many"] (spR K 2 RTaken) := D.cal fun f fd F => by
  refine fnR (m := 2) F scTaken rfl rfl fun cdv A outer s H E hr row ds d row' hR => ?_
  obtain ⟨r, many, ok, h0, h1, rfl, rfl, rfl, rfl⟩ := hR
  refine h_eq (env1 := [.p (rowD r), .d (.int many), .u, .u]) rfl ?_
  refine h_guard (pb_cmp (pd_ixO 0 (.inr rfl) pd_int rfl) pd_int c_gt) (fun hk => ?_) (fun hk => ?_)
  · have hk' : 0 < r.rest := of_decide_eq_true hk
    have e : taken r many = (r.rest % many, { r with rest := r.rest / many }) := by unfold taken; rw [if_pos hk']
    refine h_one (hs_set 2 scTaken.nd (pd_op (pd_callTy f_int T.int (pad_cons (pd_ixO 0 (.inr rfl) pd_int rfl) pad_nil)) (pd_var 1 rfl) (b_mod h0))) ?_
    refine h_one (hs_setP 0 (k := 3) (pd_op (pd_ixO 0 (.inr rfl) pd_int rfl) (pd_var 1 rfl) (b_div ⟨h0, h1⟩)) pd_int) ?_
    exact h_ret (pd_var 2 rfl) ⟨by rw [e], by rw [e]; rfl⟩
  · have hk' : ¬ 0 < r.rest := of_decide_eq_false hk
    refine h_one (hs_setP 0 (k := 1) (pd_op (pd_ixO 0 (.inr rfl) pd_int rfl) pd_int b_add) pd_int) ?_
    refine h_guard (pb_cmp (pd_ixO 0 (.inr rfl) pd_int rfl) (pd_callB f_lenL T.len (pad_cons (pd_ixO 0 (.inr rfl) pd_int rfl) pad_nil)) c_gt) (fun hq => ?_) (fun hq => ?_)
    · have hq' : (r.ns.length : Int) < r.pos + 1 := by simpa using hq
      have e : taken r many = (((r.seed * 48271 + 11) % 2147483647 / 7) % many, { r with pos := r.pos + 1, seed := (r.seed * 48271 + 11) % 2147483647 }) := by unfold taken; rw [if_neg hk', if_pos hq']
      refine h_one (hs_setP 0 (k := 2) (pd_op (pd_callTy f_int T.int (pad_cons (pd_op (pd_op (pd_ixO 0 (.inr rfl) pd_int rfl) pd_int (b_mul (.inr ⟨by decide, by decide⟩))) pd_int b_add) pad_nil)) pd_int (b_mod (by decide))) pd_int) ?_
      exact h_ret (pd_op (pd_callTy f_int T.int (pad_cons (pd_op (pd_ixO 0 (.inr rfl) pd_int rfl) pd_int (b_div ⟨by decide, by decide⟩)) pad_nil)) (pd_var 1 rfl) (b_mod h0)) ⟨by rw [e], by rw [e]; rfl⟩
    · have hq' : ¬ (r.ns.length : Int) < r.pos + 1 := by simpa using hq
      have hp := ok.pos
      have hlt : r.pos.toNat < r.ns.length := by omega
      have hget : atI (r.ns.map PyData.int) (r.pos + 1 - 1) = some (.int (r.ns.getD r.pos.toNat 0)) := by
        have e1 : r.pos + 1 - 1 = ((r.pos.toNat : Nat) : Int) := by omega
        rw [e1]
        exact atI_nat (by rw [List.getElem?_map, getD_get r.ns 0 _ hlt]; rfl)
      refine h_one (hs_set 3 scTaken.nd (pd_ix (pd_ixO 0 (.inr rfl) pd_int rfl) (pd_op (pd_ixO 0 (.inr rfl) pd_int rfl) pd_int b_sub) (ix_L hget))) ?_
      refine h_one (hs_setP 0 (k := 2) (pd_op (pd_callTy f_int T.int (pad_cons (pd_op (pd_op (pd_op (pd_ixO 0 (.inr rfl) pd_int rfl) pd_int (b_mul (.inr ⟨by decide, by decide⟩))) (pd_var 3 rfl) b_add) pd_int b_add) pad_nil)) pd_int (b_mod (by decide))) pd_int) ?_
      refine h_cons (fun e => e = [.p (rowD (taken r many).2), .d (.int many), .u, .d (.int (r.ns.getD r.pos.toNat 0))]) (hs_if (pb_cmp (pd_var 3 rfl) (pd_op pd_int pd_int (b_pow ⟨by decide, by decide, by decide⟩)) c_ge) (fun hc => ?_) (fun hc => ?_)) fun e he => ?_
      · have hc' : (10 : Int) ^ (18 : Int).toNat ≤ r.ns.getD r.pos.toNat 0 := of_decide_eq_true hc
        refine h_one (hs_setP 0 (k := 3) (pd_op (pd_var 3 rfl) (pd_var 1 rfl) (b_div ⟨h0, h1⟩)) pd_int) (h_nil ?_)
        unfold taken
        rw [if_neg hk', if_neg hq', if_pos (by simpa using hc')]
        rfl
      · have hc' : ¬ (10 : Int) ^ (18 : Int).toNat ≤ r.ns.getD r.pos.toNat 0 := of_decide_eq_false hc
        refine h_nil ?_
        unfold taken
        rw [if_neg hk', if_neg hq', if_neg (by simpa using hc')]
        rfl
      · subst he
        refine h_ret (pd_op (pd_callTy f_int T.int (pad_cons (pd_var 3 rfl) pad_nil)) (pd_var 1 rfl) (b_mod h0)) ⟨?_, rfl⟩
        unfold taken
        rw [if_neg hk', if_neg hq']
theorem scPick : FnScope ["row", "things"] ["row", "things"] (defScope sPick) := ⟨rfl, rfl, rfl, by decide +kernel, rfl, by decide +kernel, by decide +kernel⟩
theorem ok_pick (T : Nam mg) (C : Cal P w K mg base "_law_taken" 1 ["row", "many"] (spR K 2 RTaken)) (D : Dfn K mg "_law_pick" sPick ["row", "things"]) : Cal P w K mg base "_law_pick" 2 ["row", "things"] (spR K 2 RPick) := D.cal fun f fd F => by
  refine fnR (m := 0) F scPick rfl rfl fun cdv A outer s H E hr row ds d row' hR => ?_
  obtain ⟨r, things, ok, hne, hlen, rfl, rfl, rfl, rfl⟩ := hR
  refine h_eq (env1 := [.p (rowD r), .d (.list things)]) rfl ?_
  have hl : 0 < things.length := List.length_pos_iff.mpr hne
  have hb := taken_ge (r := r) (many := (things.length : Int)) (by omega)
  refine h_ret (env1 := [.p (rowD (taken r things.length).2), .d (.list things)]) (pd_ix (pd_var 1 rfl) (pd_myP 0 C hr (pad_cons (pd_callB f_lenL T.len (pad_cons (pd_var 1 rfl) pad_nil)) pad_nil) (rTaken ok _ (by omega) (by omega))) (ix_L ?_)) ⟨rfl, rfl⟩
  have e : (taken r things.length).1 = (((taken r things.length).1.toNat : Nat) : Int) := by omega
  rw [e]
  exact atI_nat (getD_get things .none _ (by omega))
theorem scPairs : FnScope ["halls", "found", "one", "other"] ["halls"] (defScope sPairs) := ⟨rfl, rfl, rfl, by decide +kernel, rfl, by decide +kernel, by decide +kernel⟩
theorem ok_pairs (T : Nam mg) (D : Dfn K mg "_law_pairs" sPairs ["halls"]) : Cal P w K mg base "_law_pairs" 1 ["halls"] (spD K 1 RPairs) := D.cal fun f fd F => by
  refine fnD (m := 3) F scPairs rfl rfl fun cdv A outer s H E hr ds d hR => ?_
  obtain ⟨n, h0, h1, rfl, rfl⟩ := hR
  refine h_eq (env1 := [.d (.int n), .u, .u, .u]) rfl ?_
  refine h_one (hs_set 1 scPairs.nd (pf_d (pf_lst pad_nil))) ?_
  have hlen : (rgD 0 n).length = n.toNat := by rw [rgD_len]; omega
  refine h_cons (fun e => e = [.d (.int n), .d (.list (pD (prs n))), .u, .u]) (hs_for (B := fun _ => False) PassesOwn.never rfl (it_rng1 T.range (pd_var 0 rfl) ⟨by omega, by omega⟩) (fun i => [.d (.int n), .d (.list (pD (allPr n i))), .u, .u]) (Le.of_eq rfl)
    (fun i d h => gd_name 2 scPairs.nd) (fun i d h => ?_) ?_ (fun _ q => q.elim)) fun e he => ?_
  · rw [rgD_eq] at h
    obtain ⟨a, ha, rfl⟩ := iD_get h
    have hi : i < (n - 0).toNat := by
      have := (List.getElem?_eq_some_iff.mp ha).1
      rwa [upto_len] at this
    rw [upto_get hi] at ha
    have ha' : a = (i : Nat) := by have := Option.some.inj ha; omega
    subst ha'
    have l1 := allPr_len h1 i
    have l2 := prFrom_len (n := n) (i := (i : Nat)) (by omega) h1
    refine h_one (hs_set 1 scPairs.nd (pd_op (pd_var 1 rfl) (pf_d (pf_lc1 3 (fun _ => true) (fun d => match d with | .int j => prd ((i : Nat), j) | _ => .none) rfl scPairs.nd (it_rng2 T.range (pd_op (pd_var 2 rfl) pd_int b_add) (pd_var 0 rfl) ⟨by omega, by omega⟩ ⟨by omega, by omega⟩) (blkOk_by (N := ["halls", "found", "one", "other"]) (sc := defScope sPairs) (by decide +kernel)) (fun s H C cl fp d h => pts0) (fun s H C cl fp d h _ => ?_) (fun s H C cl fp => pg_name (i := 3) scPairs.nd rfl (Or.inl rfl)) (by simp) ?_)) (b_catL ?_))) (h_nil ?_)
    · rw [rgD_eq] at h
      obtain ⟨j, hj, rfl⟩ := mem_iD h
      exact pd_tup (pad_cons (pd_var 2 rfl) (pad_cons (pd_var 3 rfl) pad_nil))
    · rw [rgD_len]
      omega
    · simp only [pD, List.length_map, rgD_eq, iD, filter_yes (fun _ => rfl)]
      rw [upto_len]
      omega
    · refine le_cons (.inr rfl) (le_cons (.inr ?_) (le_cons (.inl rfl) (le_cons (.inr rfl) le_nil)))
      rw [filter_yes (fun _ => rfl), rgD_eq]
      simp only [pD, allPr, List.map_append, prFrom, iD, List.map_map]
      rfl
  · rw [hlen]
    rfl
  · subst he
    exact h_ret (pd_var 1 rfl) rfl
theorem scAlike : FnScope ["found", "due", "k"] ["found", "due"] (defScope sAlike) := ⟨rfl, rfl, rfl, by decide +kernel, rfl, by decide +kernel, by decide +kernel⟩
theorem ok_alike (T : Nam mg) (D : Dfn K mg "_law_alike" sAlike ["found", "due"]) : ∀ n : Nat, Cal P w K mg base "_law_alike" (n + 1) ["found", "due"] (spD K 2 (RAlike n))
  | n => by
    have ih : ∀ m, n = m + 1 → Cal P w K mg base "_law_alike" n ["found", "due"] (spD K 2 (RAlike m)) := fun m h => by
      subst h
      exact ok_alike T D m
    refine D.cal fun f fd F => ?_
    refine fnD (m := 1) F scAlike rfl rfl fun cdv A outer s H E hr ds d hR => ?_
    obtain ⟨x, hx, rfl, rfl⟩ := hR
    refine h_eq (env1 := [.d x, .d x, .u]) rfl ?_
    have hu := Room.u64 hr
    cases x with
    | tuple xs =>
      obtain ⟨m, rfl, hlen, hall⟩ := al_tuple_inv hx
      refine h_guard (pb_val (pd_isi2 "tuple" "list" true false T.isinstance T.tuple T.list (pd_var 1 rfl))) (fun _ => ?_) (fun q => by cases q)
      refine h_skip (pb_is (pb_of (pw_orD (pb_not (pb_val (pd_isi2 "tuple" "list" true false T.isinstance T.tuple T.list (pd_var 0 rfl)))) (fun _ => pw_one (pb_cmp (pd_isi "list" false T.isinstance T.list (pd_var 0 rfl)) (pd_isi "list" false T.isinstance T.list (pd_var 1 rfl)) c_neB) (.inr rfl)))) rfl) ?_
      refine h_skip (pb_is (pb_cmp (pd_callB f_lenT T.len (pad_cons (pd_var 0 rfl) pad_nil)) (pd_callB f_lenT T.len (pad_cons (pd_var 1 rfl) pad_nil)) c_neI) (by simp)) ?_
      refine h_ret (pd_is (pd_cmp (pf_d (pf_lc1 2 (fun _ => false) (fun d => d) rfl scAlike.nd (it_rng1 T.range (pd_callB f_lenT T.len (pad_cons (pd_var 1 rfl) pad_nil)) ⟨by omega, by omega⟩) (blkOk_by (N := ["found", "due", "k"]) (sc := defScope sAlike) (by decide +kernel))
        (fun s H C cl fp d h => ?_) (fun s H C cl fp d h q => by cases q) (fun s H C cl fp => pg_name (i := 2) scAlike.nd rfl (Or.inl rfl)) (by simp) (by rw [rgD_len]; omega))) (pf_d (pf_lst pad_nil)) (c_eqD hu (fl_list (n := 0) ?_).sh (fl_list (n := 0) ?_).sh)) ?_) rfl
      · obtain ⟨k, h0, h1, rfl⟩ := al_rg h
        have hk := getD_get xs .none k.toNat (by omega)
        have hk' : atI xs k = some (xs.getD k.toNat .none) := by
          have e : k = ((k.toNat : Nat) : Int) := by omega
          rw [e]
          exact atI_nat hk
        exact pts1 (pb_is (pb_not (pb_val (pd_my (ih m rfl) hr (pad_cons (pd_ix (pd_var 0 rfl) (pd_var 2 rfl) (ix_T hk')) (pad_cons (pd_ix (pd_var 1 rfl) (pd_var 2 rfl) (ix_T hk')) pad_nil)) ⟨_, hall _ (List.mem_of_getElem? hk), rfl, rfl⟩ (Nat.le_refl _)))) rfl)
      · simp
      · simp
      · rw [filter_no fun _ _ => rfl]
        exact congrArg PyData.bool eqv_nil
    | list xs =>
      obtain ⟨m, rfl, hlen, hall⟩ := al_list_inv hx
      refine h_guard (pb_val (pd_isi2 "tuple" "list" false true T.isinstance T.tuple T.list (pd_var 1 rfl))) (fun _ => ?_) (fun q => by cases q)
      refine h_skip (pb_is (pb_of (pw_orD (pb_not (pb_val (pd_isi2 "tuple" "list" false true T.isinstance T.tuple T.list (pd_var 0 rfl)))) (fun _ => pw_one (pb_cmp (pd_isi "list" true T.isinstance T.list (pd_var 0 rfl)) (pd_isi "list" true T.isinstance T.list (pd_var 1 rfl)) c_neB) (.inr rfl)))) rfl) ?_
      refine h_skip (pb_is (pb_cmp (pd_callB f_lenL T.len (pad_cons (pd_var 0 rfl) pad_nil)) (pd_callB f_lenL T.len (pad_cons (pd_var 1 rfl) pad_nil)) c_neI) (by simp)) ?_
      refine h_ret (pd_is (pd_cmp (pf_d (pf_lc1 2 (fun _ => false) (fun d => d) rfl scAlike.nd (it_rng1 T.range (pd_callB f_lenL T.len (pad_cons (pd_var 1 rfl) pad_nil)) ⟨by omega, by omega⟩) (blkOk_by (N := ["found", "due", "k"]) (sc := defScope sAlike) (by decide +kernel))
        (fun s H C cl fp d h => ?_) (fun s H C cl fp d h q => by cases q) (fun s H C cl fp => pg_name (i := 2) scAlike.nd rfl (Or.inl rfl)) (by simp) (by rw [rgD_len]; omega))) (pf_d (pf_lst pad_nil)) (c_eqD hu (fl_list (n := 0) ?_).sh (fl_list (n := 0) ?_).sh)) ?_) rfl
      · obtain ⟨k, h0, h1, rfl⟩ := al_rg h
        have hk := getD_get xs .none k.toNat (by omega)
        have hk' : atI xs k = some (xs.getD k.toNat .none) := by
          have e : k = ((k.toNat : Nat) : Int) := by omega
          rw [e]
          exact atI_nat hk
        exact pts1 (pb_is (pb_not (pb_val (pd_my (ih m rfl) hr (pad_cons (pd_ix (pd_var 0 rfl) (pd_var 2 rfl) (ix_L hk')) (pad_cons (pd_ix (pd_var 1 rfl) (pd_var 2 rfl) (ix_L hk')) pad_nil)) ⟨_, hall _ (List.mem_of_getElem? hk), rfl, rfl⟩ (Nat.le_refl _)))) rfl)
      · simp
      · simp
      · rw [filter_no fun _ _ => rfl]
        exact congrArg PyData.bool eqv_nil
    | none =>
      refine h_skip (pb_val (pd_isi2 "tuple" "list" false false T.isinstance T.tuple T.list (pd_var 1 rfl))) ?_
      refine h_guard (k := true) (pb_is (pb_of (pw_orD (k1 := true) (k2 := false) (pb_is (pb_cmp (pd_var 1 rfl) pd_non c_isN) rfl) (fun q => by cases q))) rfl) (fun _ => ?_) (fun q => by cases q)
      exact h_ret (pd_is (pd_and (pd_cmp (pd_var 0 rfl) (pd_var 1 rfl) (c_eqD hu (fl_non 0).sh (fl_non 0).sh)) (fun _ => pd_one (pd_cmp (pd_isi "str" false T.isinstance T.str (pd_var 0 rfl)) (pd_isi "str" false T.isinstance T.str (pd_var 1 rfl)) c_eqB))) (by simp [PyData.eqv])) rfl
    | bool b =>
      refine h_skip (pb_val (pd_isi2 "tuple" "list" false false T.isinstance T.tuple T.list (pd_var 1 rfl))) ?_
      refine h_skip (pb_is (pb_of (pw_orD (pb_cmp (pd_var 1 rfl) pd_non c_isN) (fun _ => pw_one (pb_val (pd_isi "str" false T.isinstance T.str (pd_var 1 rfl))) (.inr rfl)))) rfl) ?_
      exact h_ret (pd_is (pd_and (pd_isi "int" true T.isinstance T.int (pd_var 0 rfl)) (fun _ => pd_and (pd_cmp (pd_isi "bool" true T.isinstance T.bool (pd_var 0 rfl)) (pd_isi "bool" true T.isinstance T.bool (pd_var 1 rfl)) c_eqB) (fun _ => pd_one (pd_cmp (pd_var 0 rfl) (pd_var 1 rfl) c_eqB)))) (by simp)) rfl
    | int b =>
      refine h_skip (pb_val (pd_isi2 "tuple" "list" false false T.isinstance T.tuple T.list (pd_var 1 rfl))) ?_
      refine h_skip (pb_is (pb_of (pw_orD (pb_cmp (pd_var 1 rfl) pd_non c_isN) (fun _ => pw_one (pb_val (pd_isi "str" false T.isinstance T.str (pd_var 1 rfl))) (.inr rfl)))) rfl) ?_
      exact h_ret (pd_is (pd_and (pd_isi "int" true T.isinstance T.int (pd_var 0 rfl)) (fun _ => pd_and (pd_cmp (pd_isi "bool" false T.isinstance T.bool (pd_var 0 rfl)) (pd_isi "bool" false T.isinstance T.bool (pd_var 1 rfl)) c_eqB) (fun _ => pd_one (pd_cmp (pd_var 0 rfl) (pd_var 1 rfl) c_eqI)))) (by simp)) rfl
    | str z =>
      have hz := al_str hx
      refine h_skip (pb_val (pd_isi2 "tuple" "list" false false T.isinstance T.tuple T.list (pd_var 1 rfl))) ?_
      refine h_guard (k := true) (pb_is (pb_of (pw_orD (pb_cmp (pd_var 1 rfl) pd_non c_isN) (fun _ => pw_one (pb_val (pd_isi "str" true T.isinstance T.str (pd_var 1 rfl))) (.inr rfl)))) rfl) (fun _ => ?_) (fun q => by cases q)
      exact h_ret (pd_is (pd_and (pd_cmp (pd_var 0 rfl) (pd_var 1 rfl) (c_eqD hu (fl_str 0 hz).sh (fl_str 0 hz).sh)) (fun _ => pd_one (pd_cmp (pd_isi "str" true T.isinstance T.str (pd_var 0 rfl)) (pd_isi "str" true T.isinstance T.str (pd_var 1 rfl)) c_eqB))) (by simp [PyData.eqv])) rfl
    | dict kvs => exact (al_dict hx).elim
theorem scNet : FnScope ["row", "most", "halls", "pair"] ["row", "most"] (defScope sNet) := ⟨rfl, rfl, rfl, by decide +kernel, rfl, by decide +kernel, by decide +kernel⟩
theorem ok_net (T : Nam mg) (C : Cal P w K mg base "_law_taken" 1 ["row", "many"] (spR K 2 RTaken)) (C2 : Cal P w K mg base "_law_pairs" 1 ["halls"] (spD K 1 RPairs)) (D : Dfn K mg "_law_net" sNet ["row", "most"]) : Cal P w K mg base "_law_net" 2 ["row", "most"] (spR K 2 RNet) := D.cal fun f fd F => by
  refine fnR (m := 2) F scNet rfl rfl fun cdv A outer s H E hr row ds d row' hR => ?_
  obtain ⟨r, most, ok, h0, h1, rfl, rfl, rfl, rfl⟩ := hR
  refine h_eq (env1 := [.p (rowD r), .d (.int most), .u, .u]) rfl ?_
  have hb := taken_ge (r := r) (many := most) h0
  refine h_one (hs_set 2 scNet.nd (pd_op pd_int (pd_myP 0 C hr (pad_cons (pd_var 1 rfl) pad_nil) (rTaken ok most h0 (by omega))) b_add)) ?_
  generalize hn : 1 + (taken r most).1 = n
  generalize hr2 : (taken r most).2 = r2
  have ok2 : RowOk r2 := hr2 ▸ taken_ok ok most
  have hn0 : 0 ≤ n ∧ n ≤ 60 := by omega
  have hlen : (pD (prs n)).length = (prs n).length := by simp [pD]
  have hl2 := prs_len (n := n) (by omega)
  have okI : ∀ i, RowOk (drawF r2 ((prs n).take i)).2 := fun i => drawF_ok ok2
  refine h_ret (pd_is (pd_tup (pad_cons (pd_var 2 rfl) (pad_cons (pd_callTy f_tupL T.tuple (pad_cons (pf_d (pf_lc (ds := pD (prs n)) [("pair", 3)] (gName 3) rfl scNet.nd (it_list (pd_my C2 hr (pad_cons (pd_var 2 rfl) pad_nil) ⟨n, by omega, by omega, rfl, rfl⟩)) (blkOk_by (N := ["row", "most", "halls", "pair"]) (sc := defScope sNet) (by decide +kernel))
    (fun i => [.p (rowD (drawF r2 ((prs n).take i)).2), .d (.int most), .d (.int n), .u]) (fun i => pD (drawF r2 ((prs n).take i)).1)
    (fun i d => [.p (rowD (drawF r2 ((prs n).take i)).2), .d (.int most), .d (.int n), .d d]) (fun i d => [.p (rowD (taken (drawF r2 ((prs n).take i)).2 2).2), .d (.int most), .d (.int n), .d d]) (fun i d => [.p (rowD (taken (drawF r2 ((prs n).take i)).2 2).2), .d (.int most), .d (.int n), .d d])
    (fun i d => decide ((taken (drawF r2 ((prs n).take i)).2 2).1 = 0)) (fun i d => d) (fun s H C cl fp => pg_name (i := 3) scNet.nd rfl (Or.inl rfl))
    (fun s H Ca cl fp i d h => pts1 (pb_cmp (pd_myP 0 C hr (pad_cons pd_int pad_nil) (rTaken (okI i) 2)) pd_int c_eqI)) (fun s H Ca cl fp i d h _ => pd_var 3 rfl) (fun i d h => gt_name 3 rfl (by simp [wipeE])) (Le.of_eq rfl) (by simp [drawF, pD]) (fun i d h => ?_) (fun i hi => ?_))) pad_nil)) pad_nil))) ?_) ⟨rfl, ?_⟩
  · obtain ⟨p, hp, rfl⟩ := pD_get h
    have e : (prs n).take (i + 1) = (prs n).take i ++ [p] := by rw [List.take_add_one, hp]; rfl
    constructor
    · rw [e, drawF_snoc]
      by_cases q : (taken (drawF r2 ((prs n).take i)).2 2).1 = 0
      · simp [q, pD]
      · simp [q, pD]
    · rw [e, drawF_snoc]
      have e2 : ∀ b : Bool, (if b = true then ([.p (rowD (taken (drawF r2 ((prs n).take i)).2 2).2), .d (.int most), .d (.int n), .d (prd p)] : En) else [.p (rowD (taken (drawF r2 ((prs n).take i)).2 2).2), .d (.int most), .d (.int n), .d (prd p)]) = [.p (rowD (taken (drawF r2 ((prs n).take i)).2 2).2), .d (.int most), .d (.int n), .d (prd p)] := fun b => by cases b <;> rfl
      rw [e2]
      exact Le.of_eq rfl
  · have := (drawF_sub ((prs n).take i) r2).length_le
    have l3 : ((prs n).take i).length ≤ (prs n).length := by rw [List.length_take]; omega
    simp only [pD, List.length_map]
    omega
  · rw [hlen, List.take_length]
    unfold drawN
    rw [hn, hr2]
    rfl
  · rw [hlen, List.take_length]
    unfold drawN
    rw [hn, hr2]
    rfl
end K09

set_option Elab.async false
set_option linter.all false
set_option maxRecDepth 100000
set_option maxHeartbeats 4000000
/-! a text with spaces and void lines put in: the same words in the same lines -/
namespace LX9
open PySem L2 Evl NB LW LP NBI LM LG LO LS FM FW TL LTX
/-! ### lists of signs: words and lines told sign by sign -/
abbrev Wd := List Nat
abbrev Ln := List Wd × Wd
def fin (s : Ln) : List Wd := if s.2 = [] then s.1 else s.1 ++ [s.2]
def stp (s : Ln) (c : Nat) : Ln := if c = 32 then (fin s, []) else (s.1, s.2 ++ [c])
def one (r : List Wd) : List (List Wd) := if r = [] then [] else [r]
def nrm : Ln → List Nat → List (List Wd)
  | s, [] => one (fin s)
  | s, c :: r => if c = 10 then one (fin s) ++ nrm ([], []) r else nrm (stp s c) r
theorem nrm_nil (s : Ln) : nrm s [] = one (fin s) := by rw [nrm]
theorem nrm_lf (s : Ln) (r : List Nat) : nrm s (10 :: r) = one (fin s) ++ nrm ([], []) r := by rw [nrm, if_pos rfl]
theorem nrm_sign (s : Ln) {c : Nat} (r : List Nat) (h : c ≠ 10) : nrm s (c :: r) = nrm (stp s c) r := by rw [nrm, if_neg h]
theorem fin_stp (s : Ln) : fin (stp s 32) = fin s := by
  unfold stp
  rw [if_pos rfl]
  rfl
theorem stp_two (s : Ln) : stp (stp s 32) 32 = stp s 32 := by
  have e : stp s 32 = (fin s, []) := by unfold stp; rw [if_pos rfl]
  have e2 : stp (fin s, []) 32 = (fin (fin s, []), []) := by unfold stp; rw [if_pos rfl]
  rw [e, e2]
  rfl
theorem fin_void : fin (([], []) : Ln) = [] := rfl
theorem stp_void : stp (([], []) : Ln) 32 = ([], []) := rfl
theorem one_void : one [] = [] := rfl
/-- each sign c by one or more -/
def byL (c : Nat) (z : List Nat) (d : Nat) : List Nat := if d = c then z else [d]
def SpaceBy (z : List Nat) : Prop := z = [32] ∨ z = [32, 32, 32]
def LineBy (z : List Nat) : Prop := z = [10] ∨ z = [32, 10] ∨ z = [10, 10] ∨ z = [10, 32, 32]
def Ahead (z : List Nat) : Prop := z = [] ∨ z = [32] ∨ z = [10] ∨ z = [32, 10, 32]
def Behind (z : List Nat) : Prop := z = [] ∨ z = [32] ∨ z = [10]
theorem nrm_space {z : List Nat} (hz : SpaceBy z) : ∀ (l : List Nat) (s : Ln), nrm s (l.flatMap (byL 32 z)) = nrm s l
  | [], s => rfl
  | c :: r, s => by
    rw [List.flatMap_cons]
    unfold byL
    by_cases q : c = 32
    · subst q
      rw [if_pos rfl, nrm_sign s r (by decide)]
      rcases hz with rfl | rfl
      · show nrm s (32 :: r.flatMap (byL 32 [32])) = _
        rw [nrm_sign s _ (by decide)]
        exact nrm_space (.inl rfl) r _
      · show nrm s (32 :: 32 :: 32 :: r.flatMap (byL 32 [32, 32, 32])) = _
        rw [nrm_sign s _ (by decide), nrm_sign _ _ (by decide), nrm_sign _ _ (by decide), stp_two, stp_two]
        exact nrm_space (.inr rfl) r _
    · rw [if_neg q]
      show nrm s (c :: r.flatMap (byL 32 z)) = _
      by_cases t : c = 10
      · subst t
        rw [nrm_lf, nrm_lf, nrm_space hz r]
      · rw [nrm_sign s _ t, nrm_sign s _ t, nrm_space hz r]
theorem nrm_line {z : List Nat} (hz : LineBy z) : ∀ (l : List Nat) (s : Ln), nrm s (l.flatMap (byL 10 z)) = nrm s l
  | [], s => rfl
  | c :: r, s => by
    have ih := nrm_line hz r
    have hd : byL 10 z c = if c = 10 then z else [c] := rfl
    rw [List.flatMap_cons, hd]
    generalize r.flatMap (byL 10 z) = T at ih
    by_cases q : c = 10
    · subst q
      rw [if_pos rfl, nrm_lf]
      rcases hz with rfl | rfl | rfl | rfl
      · show nrm s (10 :: T) = _
        rw [nrm_lf, ih]
      · show nrm s (32 :: 10 :: T) = _
        rw [nrm_sign s _ (by decide), nrm_lf, fin_stp, ih]
      · show nrm s (10 :: 10 :: T) = _
        rw [nrm_lf, nrm_lf, fin_void, one_void, List.nil_append, ih]
      · show nrm s (10 :: 32 :: 32 :: T) = _
        rw [nrm_lf, nrm_sign _ _ (by decide), nrm_sign _ _ (by decide), stp_void, stp_void, ih]
    · rw [if_neg q]
      show nrm s (c :: T) = _
      rw [nrm_sign s _ q, nrm_sign s _ q, ih]
theorem nrm_ahead {z : List Nat} (hz : Ahead z) (l : List Nat) : nrm ([], []) (z ++ l) = nrm ([], []) l := by
  rcases hz with rfl | rfl | rfl | rfl
  · rfl
  · show nrm _ (32 :: l) = _
    rw [nrm_sign _ _ (by decide), stp_void]
  · show nrm _ (10 :: l) = _
    rw [nrm_lf, fin_void, one_void, List.nil_append]
  · show nrm _ (32 :: 10 :: 32 :: l) = _
    rw [nrm_sign _ _ (by decide), stp_void, nrm_lf, fin_void, one_void, List.nil_append, nrm_sign _ _ (by decide), stp_void]
theorem nrm_behind {z : List Nat} (hz : Behind z) : ∀ (l : List Nat) (s : Ln), nrm s (l ++ z) = nrm s l
  | [], s => by
    rcases hz with rfl | rfl | rfl
    · rfl
    · show nrm s [32] = _
      rw [nrm_sign _ _ (by decide), nrm_nil, nrm_nil, fin_stp]
    · show nrm s [10] = _
      rw [nrm_lf, nrm_nil, nrm_nil, fin_void, one_void, List.append_nil]
  | c :: r, s => by
    rw [List.cons_append]
    by_cases t : c = 10
    · subst t
      rw [nrm_lf, nrm_lf, nrm_behind hz r]
    · rw [nrm_sign s _ t, nrm_sign s _ t, nrm_behind hz r]
/-! ### .. is what split tells -/
theorem spl_eq (c : Nat) (acc r : List Nat) : spl [c] 0 acc (c :: r) = acc :: spl [c] 0 [] r := spl_hit (by simp [pre])
theorem spl_other {c d : Nat} (acc r : List Nat) (h : d ≠ c) : spl [c] 0 acc (d :: r) = spl [c] 0 (acc ++ [d]) r := spl_miss (by simp [pre, h])
def neW9 (w : Wd) : Bool := !decide (w = [])
def neR9 (r : List Wd) : Bool := !decide (r = [])
theorem words_fin : ∀ (l cur : List Nat) (row : List Wd), row ++ (spl [32] 0 cur l).filter neW9 = fin (l.foldl stp (row, cur))
  | [], cur, row => by
    rw [spl_nil, List.foldl_nil]
    unfold fin neW9
    by_cases q : cur = []
    · simp [q]
    · simp [q]
  | c :: r, cur, row => by
    rw [List.foldl_cons]
    by_cases q : c = 32
    · subst q
      rw [spl_eq]
      have e : stp (row, cur) 32 = (fin (row, cur), []) := by unfold stp; rw [if_pos rfl]
      rw [e, ← words_fin r [] (fin (row, cur)), List.filter_cons]
      unfold fin neW9
      by_cases t : cur = []
      · simp [t]
      · simp [t]
    · rw [spl_other _ _ q]
      have e : stp (row, cur) c = (row, cur ++ [c]) := by unfold stp; rw [if_neg q]
      rw [e, ← words_fin r (cur ++ [c]) row]
def wl (l : List Nat) : List Wd := (spl [32] 0 [] l).filter neW9
theorem wl_fin (l : List Nat) : wl l = fin (l.foldl stp ([], [])) := by
  have := words_fin l [] []
  rw [List.nil_append] at this
  exact this
theorem lines_nrm : ∀ (l acc : List Nat), ((spl [10] 0 acc l).map wl).filter neR9 = nrm (acc.foldl stp ([], [])) l
  | [], acc => by
    rw [spl_nil, nrm_nil, ← wl_fin]
    unfold one neR9
    by_cases q : wl acc = []
    · simp [q]
    · simp [q]
  | c :: r, acc => by
    by_cases q : c = 10
    · subst q
      rw [spl_eq, nrm_lf, ← wl_fin, List.map_cons, List.filter_cons, lines_nrm r []]
      unfold one neR9
      by_cases t : wl acc = []
      · simp [t]
      · simp [t]
    · rw [spl_other _ _ q, nrm_sign _ _ q, lines_nrm r (acc ++ [c]), List.foldl_append]
      rfl
theorem tl_inj {x y : Str} (h : tl x = tl y) : x = y := by
  obtain ⟨⟨x⟩⟩ := x
  obtain ⟨⟨y⟩⟩ := y
  have h' : x = y := h
  rw [h']
theorem tl_nil {w : Str} : tl w = [] ↔ w = "" := ⟨fun h => tl_inj h, fun h => by rw [h]; rfl⟩
theorem words_tl (line : Str) : (wordsM line).map tl = wl (tl line) := by
  unfold wordsM wl
  have e := split_spl line spS (by decide) (kind_ok (by decide +kernel))
  have e32 : tl spS = [32] := by decide +kernel
  rw [e32] at e
  rw [← e, List.filter_map]
  congr 1
  refine List.filter_congr fun w _ => ?_
  show (!decide (w = "")) = !decide (tl w = [])
  congr 1
  exact decide_eq_decide.mpr tl_nil.symm
theorem rows_tl (x : Str) : ((rowsM x).filter fun ws => !decide (ws = [])).map (·.map tl) = nrm ([], []) (tl x) := by
  have h := lines_nrm (tl x) []
  rw [List.foldl_nil] at h
  rw [← h]
  have e := split_spl x nlS (by decide) (kind_ok (by decide +kernel))
  have e10 : tl nlS = [10] := by decide +kernel
  rw [e10] at e
  unfold rowsM
  rw [← e, List.map_map]
  have m : (Txt.split x nlS).map (wl ∘ tl) = ((Txt.split x nlS).map wordsM).map (·.map tl) := by
    rw [List.map_map]
    exact List.map_congr_left fun l _ => (words_tl l).symm
  rw [m]
  generalize (Txt.split x nlS).map wordsM = W
  rw [List.filter_map]
  congr 1
  refine List.filter_congr fun ws _ => ?_
  show (!decide (ws = [])) = !decide (ws.map tl = [])
  cases ws <;> rfl
theorem rows_same {x y : Str} (h : nrm ([], []) (tl x) = nrm ([], []) (tl y)) : ((rowsM x).filter fun ws => !decide (ws = [])) = ((rowsM y).filter fun ws => !decide (ws = [])) := by
  rw [← rows_tl, ← rows_tl] at h
  exact List.map_inj_right (fun a b e => List.map_inj_right (fun u v q => tl_inj q) |>.mp e) |>.mp h
/-! ### the text -/
theorem replL_one (c : Nat) (z : List Nat) : ∀ l : List Nat, StrLaws.replL [c] z l = l.flatMap (byL c z)
  | [] => by rw [StrLaws.replL_nil]; rfl
  | d :: r => by
    rw [List.flatMap_cons]
    unfold byL
    by_cases q : d = c
    · subst q
      rw [StrLaws.replL_hit (by simp) (by simp), if_pos rfl]
      show z ++ StrLaws.replL [d] z r = _
      rw [replL_one d z r]
      rfl
    · rw [StrLaws.replL_miss (by simp [q]), if_neg q, replL_one c z r]
      rfl
theorem tl_repl {x y z : Str} {c : Nat} (h : tl y = [c]) : tl (Txt.replace x y z) = (tl x).flatMap (byL c (tl z)) := by
  have hl : 1 ≤ y.length := by rw [len_tl, h]; exact Nat.le_refl 1
  have e := StrLaws.replace_list (x := x) (y := y) (z := z) hl
  show (Txt.replace x y z).cps.toList = _
  rw [e]
  have h' : y.cps.toList = [c] := h
  rw [h', replL_one]
/-- what the length comes to -/
def wt (l : List Nat) : Nat := (l.map fun c => if c = 10 then 3 else 1).sum
theorem wt_app (a b : List Nat) : wt (a ++ b) = wt a + wt b := by simp [wt]
theorem len_line {z : List Nat} (hz : LineBy z) : ∀ l : List Nat, (l.flatMap (byL 10 z)).length ≤ wt l
  | [] => Nat.le_refl 0
  | c :: r => by
    have ih := len_line hz r
    rw [List.flatMap_cons, List.length_append]
    have e : wt (c :: r) = (if c = 10 then 3 else 1) + wt r := rfl
    rw [e]
    unfold byL
    by_cases q : c = 10
    · rw [if_pos q, if_pos q]
      have : z.length ≤ 3 := by rcases hz with rfl | rfl | rfl | rfl <;> decide
      unfold byL at ih
      omega
    · rw [if_neg q, if_neg q]
      unfold byL at ih
      simp only [List.length_cons, List.length_nil]
      omega
theorem wt_space {z : List Nat} (hz : SpaceBy z) : ∀ l : List Nat, wt (l.flatMap (byL 32 z)) ≤ 3 * l.length
  | [] => Nat.le_refl 0
  | c :: r => by
    have ih := wt_space hz r
    rw [List.flatMap_cons, wt_app, List.length_cons]
    have : wt (byL 32 z c) ≤ 3 := by
      unfold byL
      by_cases q : c = 32
      · rw [if_pos q]
        rcases hz with rfl | rfl <;> decide
      · rw [if_neg q]
        show (if c = 10 then 3 else 1) + 0 ≤ 3
        split <;> omega
    omega
theorem len_space {z : List Nat} (hz : SpaceBy z) : ∀ l : List Nat, (l.flatMap (byL 32 z)).length ≤ 3 * l.length
  | [] => Nat.le_refl 0
  | c :: r => by
    have ih := len_space hz r
    rw [List.flatMap_cons, List.length_append, List.length_cons]
    have : (byL 32 z c).length ≤ 3 := by
      unfold byL
      by_cases q : c = 32
      · rw [if_pos q]
        rcases hz with rfl | rfl <;> decide
      · rw [if_neg q]
        show 1 ≤ 3
        omega
    omega
end LX9

set_option Elab.async false
set_option linter.all false
set_option maxRecDepth 100000
set_option maxHeartbeats 4000000
namespace LX9
open PySem L2 Evl NB LW LP NBI LM LG LO LS FM FW TL LTX
def a9 : List Str := ["", " ", "\n", " \n "]
def b9 : List Str := [" ", "   "]
def c9 : List Str := ["\n", " \n", "\n\n", "\n  "]
def e9 : List Str := ["", " ", "\n"]
theorem a9_ok : ∀ k : Fin 4, Ahead (tl (a9.getD k.val "")) := by unfold Ahead; decide +kernel
theorem b9_ok : ∀ k : Fin 2, SpaceBy (tl (b9.getD k.val "")) := by unfold SpaceBy; decide +kernel
theorem c9_ok : ∀ k : Fin 4, LineBy (tl (c9.getD k.val "")) := by unfold LineBy; decide +kernel
theorem e9_ok : ∀ k : Fin 3, Behind (tl (e9.getD k.val "")) := by unfold Behind; decide +kernel
/-- which of m -/
def nth (r : LW.Row) (m : Int) : Nat := (taken r m).1.toNat
theorem nth_lt (r : LW.Row) {m : Nat} (h : 0 < m) : nth r m < m := by
  have := taken_ge (r := r) (many := (m : Int)) (by omega)
  unfold nth
  omega
def l1 (r : LW.Row) (x : Str) : Str := a9.getD (nth r 4) "" ++ Txt.replace x " " (b9.getD (nth (taken r 4).2 2) "")
def r2 (r : LW.Row) : LW.Row := (taken (taken r 4).2 2).2
def looseM (r : LW.Row) (x : Str) : Str := Txt.replace (l1 r x) "\n" (c9.getD (nth (r2 r) 4) "") ++ e9.getD (nth (taken (r2 r) 4).2 3) ""
def r4 (r : LW.Row) : LW.Row := (taken (taken (r2 r) 4).2 3).2
def RLoose (row ds : List PyData) (d : PyData) (row' : List PyData) : Prop := ∃ (r : LW.Row) (x : Str), RowOk r ∧ x.length ≤ 20000 ∧ row = rowD r ∧ ds = [.str x] ∧ d = .str (looseM r x) ∧ row' = rowD (r4 r)
variable (r : LW.Row) (x : Str)
theorem aA : Ahead (tl (a9.getD (nth r 4) "")) := a9_ok ⟨nth r 4, nth_lt r (m := 4) (by decide)⟩
theorem bB : SpaceBy (tl (b9.getD (nth r 2) "")) := b9_ok ⟨nth r 2, nth_lt r (m := 2) (by decide)⟩
theorem cC : LineBy (tl (c9.getD (nth r 4) "")) := c9_ok ⟨nth r 4, nth_lt r (m := 4) (by decide)⟩
theorem eE : Behind (tl (e9.getD (nth r 3) "")) := e9_ok ⟨nth r 3, nth_lt r (m := 3) (by decide)⟩
theorem tlS : tl (" " : Str) = [32] := by decide +kernel
theorem tlN : tl ("\n" : Str) = [10] := by decide +kernel
theorem aLen {z : List Nat} (h : Ahead z) : z.length ≤ 3 ∧ wt z ≤ 5 := by rcases h with rfl | rfl | rfl | rfl <;> decide
theorem eLen {z : List Nat} (h : Behind z) : z.length ≤ 1 := by rcases h with rfl | rfl | rfl <;> decide
theorem bLen {z : List Nat} (h : SpaceBy z) : z.length ≤ 3 := by rcases h with rfl | rfl <;> decide
theorem cLen {z : List Nat} (h : LineBy z) : z.length ≤ 3 := by rcases h with rfl | rfl | rfl | rfl <;> decide
theorem l1_len : (l1 r x).length ≤ 3 * x.length + 3 := by
  unfold l1
  rw [len_tl, tl_append, List.length_append, tl_repl tlS, len_tl x]
  have := len_space (bB (taken r 4).2) (tl x)
  have := (aLen (aA r)).1
  omega
theorem l1_wt : wt (tl (l1 r x)) ≤ 3 * x.length + 5 := by
  unfold l1
  rw [tl_append, wt_app, tl_repl tlS, len_tl x]
  have := wt_space (bB (taken r 4).2) (tl x)
  have := (aLen (aA r)).2
  omega
theorem rep_len : (Txt.replace (l1 r x) "\n" (c9.getD (nth (r2 r) 4) "")).length ≤ 3 * x.length + 5 := by
  rw [len_tl, tl_repl tlN]
  exact Nat.le_trans (len_line (cC (r2 r)) _) (l1_wt r x)
theorem loose_len : (looseM r x).length ≤ 3 * x.length + 6 := by
  unfold looseM
  rw [len_tl, tl_append, List.length_append, ← len_tl, ← len_tl]
  have := rep_len r x
  have := eLen (eE (taken (r2 r) 4).2)
  rw [← len_tl] at this
  omega
theorem loose_nrm : nrm ([], []) (tl (looseM r x)) = nrm ([], []) (tl x) := by
  unfold looseM
  rw [tl_append, nrm_behind (eE _), tl_repl tlN, nrm_line (cC _)]
  unfold l1
  rw [tl_append, nrm_ahead (aA r), tl_repl tlS, nrm_space (bB _)]
theorem loose_read {d : PyData} (h : RRead [.str x] d) (hl : x.length ≤ 20000) : RRead [.str (looseM r x)] d := by
  obtain ⟨text, n, L, n1, n60, lk, tlen, hrow, e, hd⟩ := h
  injection e with e _
  injection e with e
  subst e
  have ll := loose_len r x
  exact ⟨looseM r x, n, L, n1, n60, lk, by omega, (rows_same (loose_nrm r x)).trans hrow, rfl, hd⟩
theorem getD_sD {xs : List Str} {k : Nat} (h : k < xs.length) : (sD xs).getD k .none = .str (xs.getD k "") := by
  rw [List.getD_eq_getElem?_getD, List.getD_eq_getElem?_getD]
  unfold sD
  rw [List.getElem?_map, List.getElem?_eq_getElem h]
  rfl
end LX9

set_option Elab.async false
set_option linter.all false
set_option maxRecDepth 100000
set_option maxHeartbeats 4000000
/-! a def's call told with the very value that it returns; text.replace of a text that was picked -/
namespace NB
open PySem PySem.Spec L2 Evl PyProof.Rows LW
section
variable {P : Program} {w : World} {K : PySem.W.Frag} {mg : Str → Option Value} {base : Heap}
abbrev RV := Value → VK
/-- how such a call ends -/
def RawEnd (outer : List Env) (P : Program) (w : World) (H : Hp) (s : Shared) (Q : RV) (r : Result) (s' : Shared) : Prop := match r with
  | .ok (.ret u) => CE outer P w H s (Q u) u s'
  | .ok _ => False
  | .error _ => False
def RawOk (P : Program) (w : World) (K : PySem.W.Frag) (mg : Str → Option Value) (base : Heap) (k : Nat) (f : Addr) (fd : FuncData) (ps : List Str) (sp : List V → Hp → RV → Prop) : Prop :=
  ∀ (A : Around) (outer : List Env) (s : Shared) (H : Hp) (us : List Value) (vs : List V) (Q : RV), Room k A → Env0 P w K mg base A outer s H → BindsTo s fd ⟨us, []⟩ (ps.zip us) → Vals vs us → sp vs H Q →
    codeAny (model P w) A (.call (.ref f) ⟨us, []⟩) (RawEnd outer P w H s Q) s
theorem fn_raw {x qual : Str} {st : Stmt} {f : Addr} {fd : FuncData} {N ps : List Str} {k : Nat} {sp : List V → Hp → RV → Prop} (F : Fun K x qual st f fd) (S : FnScope N ps (defScope st)) (len : ∀ vs H Q, sp vs H Q → vs.length = ps.length)
    (body : ∀ (cdv : Value) (A : Around) (outer : List Env) (s : Shared) (H : Hp) (vs : List V) (Q : RV) (s1 : Shared), Room k (A.deeper (envOfC qual (defScope st) s.heap.objs.size f cdv)) → sp vs H Q → Inv (cxOf CX0 P w K mg base N qual (defScope st) f cdv A outer s H E0) [] (start N vs) H s1 →
      wpAny (model P w) (A.deeper (envOfC qual (defScope st) s.heap.objs.size f cdv)) (execs (defBody st) (envOfC qual (defScope st) s.heap.objs.size f cdv))
        (fun fl s' => ∃ u v σ' H', fl = .ret u ∧ Inv (cxOf CX0 P w K mg base N qual (defScope st) f cdv A outer s H E0) [] σ' H' s' ∧ RelV v u ∧ Q u v H') (cxOf CX0 P w K mg base N qual (defScope st) f cdv A outer s H E0).xe s1) : RawOk P w K mg base (k + 1) f fd ps sp := by
  obtain ⟨oc, od, kV, doc, pm, an, cdv, ct, osl, rfl, lk, hcd⟩ := F.ex
  intro A outer s H us vs Q hr e0 hb rv hsp
  have lim : s.heap.NoLimit := e0.mod.nolimit.keeps fun b o e => (e0.bs b o e).1
  have kin : K.In s.heap := e0.mod.kin.keeps fun b o e => (e0.bs b o e).1
  have kinds : ∀ y ∈ ps.zip us, (defScope st).names.lookup y.1 = some .local ∨ ((defScope st).names.lookup y.1 = some .cell ∧ ((cellsFrom (s.heap.objs.size + 1) (defScope st).names []).lookup y.1).isSome = true) := fun ⟨n, v⟩ hy =>
    (S.par n (List.of_mem_zip hy).1).imp id fun q => ⟨q, PySem.W.cellsFrom_some _ _ _ (.inl q)⟩
  refine codeAny_call_function hr.depth (kin _ _ lk) rfl S.co S.gen rfl (PySem.W.codeRec_of kin hcd) (hb _ _ _ _ (wpAny_newFunctionEnv_cells S.kind kinds fun env he s1 x => ?_))
  subst he
  refine ⟨lim.keeps x.toInCall.keep, codeAny_func (wpAny_mono (body cdv A outer s H vs Q s1 (hr.deeper _) hsp (inv_start S hr.hd e0 (len _ _ _ hsp) rv x)) (fun fl s' out => ?_) fun e s' bad => bad)⟩
  obtain ⟨u, v, σ', H', rfl, J, r, q⟩ := out
  exact ⟨v, H', J.os, J.bare, J.base, J.hok, r, q⟩
end
/-! ### one of some written texts: the very object of the list -/
/-- its items, the texts xs, each made since t -/
structure Made (t : Nat) (xs : List Str) (its : Array Value) : Prop where
  vals : Vals (xs.map V.str) its.toList
  since : ∀ (i : Nat) (u : Value), its[i]? = some u → ∃ x tk, u = .str x tk ∧ t ≤ tk
def spPick (K : PySem.W.Frag) : List V → Hp → RV → Prop := fun vs H Q => ∃ (z : Addr → Bool) (r L : Addr) (us : List V) (row : LW.Row) (xs : List Str) (o : Obj) (its : Array Value) (n : Nat), vs = [.ref r, .ref L] ∧ (∀ a, z a = true → H a ≠ none) ∧ z r = true ∧ H r = some (.lst us) ∧ DpAll K (cut H z) us (rowD row) ∧ RowOk row ∧
  z L = false ∧ H L = some (.frz o (.lst (xs.map V.str))) ∧ o.cls = .type "list" ∧ o.data = .seq its n ∧ Vals (xs.map V.str) its.toList ∧ 0 < xs.length ∧ xs.length < 1000 ∧
  ∀ u H' us', its[(taken row xs.length).1.toNat]? = some u → (∀ a o, a ≠ r → H a = some o → H' a = some o) → H' r = some (.lst us') → DpAll K (cut H' z) us' (rowD (taken row xs.length).2) → Q u (.str (xs.getD (taken row xs.length).1.toNat "")) H'
section
variable {X : Cx} {pins : List (Addr × Obj)} {σ : L2.St} {H : Hp} {s : Shared} {Γ : Fr} {z : Addr → Bool} {env : En} {lpos p pos : Pos}
/-- a written list of texts: its object is known, its items made since -/
def RList (X : Cx) (es : List Expr) (pos : Pos) (xs : List Str) : Prop := ∀ (pins : List (Addr × Obj)) (s : Shared) (σ : L2.St) (H : Hp) (Q : Value → Shared → Prop), Inv X pins σ H s →
  (∀ (L : Addr) (o : Obj) (its : Array Value) (s' : Shared), H L = none → Inv X pins σ (upd H L (.frz o (.lst (xs.map V.str)))) s' → o.cls = .type "list" → o.data = .seq its 0 → Made s.toks xs its → Q (.ref L) s') →
  wpAny (model X.prog X.w) X.A (eval (.List es pos) X.env) Q X.xe s
theorem rlist2 {y1 y2 : Str} {j1 j2 : Nat} {c1 c2 : Pos} (h1 : starEach [.Constant (.str y1) j1 c1, .Constant (.str y2) j2 c2] X.env = [(false, eval (.Constant (.str y1) j1 c1) X.env), (false, eval (.Constant (.str y2) j2 c2) X.env)] := by rfl) : RList X [.Constant (.str y1) j1 c1, .Constant (.str y2) j2 c2] lpos [y1, y2] := by
  intro pins s σ H Q I k
  refine wpAny_List_spliced ?_
  rw [h1]
  show wpAny _ _ (spliced [(false, eval (.Constant (.str y1) j1 c1) X.env), (false, eval (.Constant (.str y2) j2 c2) X.env)]) _ _ s
  refine Calls.spliced_cons (Calls.Constant_str (Calls.spliced_cons (Calls.Constant_str (Calls.spliced_nil ?_))))
  have few : (2 : Nat) ≤ sizeLine := by decide
  have vals : Vals ([y1, y2].map V.str) [Value.str y1 s.toks, .str y2 (s.toks + 1)] := .cons ⟨_, rfl⟩ (.cons ⟨_, rfl⟩ .nil)
  refine ⟨few, k _ { cls := .type "list", data := .seq #[.str y1 s.toks, .str y2 (s.toks + 1)] 0 } #[.str y1 s.toks, .str y2 (s.toks + 1)] _ (I.hok.fresh (Nat.le_refl _)) ?_ rfl rfl ⟨vals, fun i u hu => ?_⟩⟩
  · exact I.laid (t' := s.toks + 1 + 1) (fun b u e => Heap.get?_push_of_some _ e) (Nat.le_refl _) ⟨Heap.get?_push_size _ rfl, few, [.str y1 s.toks, .str y2 (s.toks + 1)], 0, vals, Heap.get?_push_size _ rfl⟩
  · match i, hu with
    | 0, hu => exact ⟨y1, s.toks, (Option.some.inj hu).symm, Nat.le_refl _⟩
    | 1, hu => exact ⟨y2, s.toks + 1, (Option.some.inj hu).symm, by omega⟩
    | i + 2, hu => simp at hu
theorem rlist4 {y1 y2 y3 y4 : Str} {j1 j2 j3 j4 : Nat} {c1 c2 c3 c4 : Pos} (h1 : starEach [.Constant (.str y1) j1 c1, .Constant (.str y2) j2 c2, .Constant (.str y3) j3 c3, .Constant (.str y4) j4 c4] X.env = [(false, eval (.Constant (.str y1) j1 c1) X.env), (false, eval (.Constant (.str y2) j2 c2) X.env), (false, eval (.Constant (.str y3) j3 c3) X.env), (false, eval (.Constant (.str y4) j4 c4) X.env)] := by rfl) :
    RList X [.Constant (.str y1) j1 c1, .Constant (.str y2) j2 c2, .Constant (.str y3) j3 c3, .Constant (.str y4) j4 c4] lpos [y1, y2, y3, y4] := by
  intro pins s σ H Q I k
  refine wpAny_List_spliced ?_
  rw [h1]
  show wpAny _ _ (spliced [(false, eval (.Constant (.str y1) j1 c1) X.env), (false, eval (.Constant (.str y2) j2 c2) X.env), (false, eval (.Constant (.str y3) j3 c3) X.env), (false, eval (.Constant (.str y4) j4 c4) X.env)]) _ _ s
  refine Calls.spliced_cons (Calls.Constant_str (Calls.spliced_cons (Calls.Constant_str (Calls.spliced_cons (Calls.Constant_str (Calls.spliced_cons (Calls.Constant_str (Calls.spliced_nil ?_))))))))
  have few : (4 : Nat) ≤ sizeLine := by decide
  have vals : Vals ([y1, y2, y3, y4].map V.str) [Value.str y1 s.toks, .str y2 (s.toks + 1), .str y3 (s.toks + 1 + 1), .str y4 (s.toks + 1 + 1 + 1)] := .cons ⟨_, rfl⟩ (.cons ⟨_, rfl⟩ (.cons ⟨_, rfl⟩ (.cons ⟨_, rfl⟩ .nil)))
  refine ⟨few, k _ { cls := .type "list", data := .seq #[.str y1 s.toks, .str y2 (s.toks + 1), .str y3 (s.toks + 1 + 1), .str y4 (s.toks + 1 + 1 + 1)] 0 } #[.str y1 s.toks, .str y2 (s.toks + 1), .str y3 (s.toks + 1 + 1), .str y4 (s.toks + 1 + 1 + 1)] _ (I.hok.fresh (Nat.le_refl _)) ?_ rfl rfl ⟨vals, fun i u hu => ?_⟩⟩
  · exact I.laid (t' := s.toks + 1 + 1 + 1 + 1) (fun b u e => Heap.get?_push_of_some _ e) (Nat.le_refl _) ⟨Heap.get?_push_size _ rfl, few, [.str y1 s.toks, .str y2 (s.toks + 1), .str y3 (s.toks + 1 + 1), .str y4 (s.toks + 1 + 1 + 1)], 0, vals, Heap.get?_push_size _ rfl⟩
  · match i, hu with
    | 0, hu => exact ⟨y1, s.toks, (Option.some.inj hu).symm, Nat.le_refl _⟩
    | 1, hu => exact ⟨y2, s.toks + 1, (Option.some.inj hu).symm, by omega⟩
    | 2, hu => exact ⟨y3, s.toks + 1 + 1, (Option.some.inj hu).symm, by omega⟩
    | 3, hu => exact ⟨y4, s.toks + 1 + 1 + 1, (Option.some.inj hu).symm, by omega⟩
    | i + 4, hu => simp at hu
/-- the def, where it stands -/
structure PickAt (X : Cx) (k : Nat) : Prop where
  ex : ∃ f fd, RawOk X.prog X.w X.K X.mg X.base k f fd ["row", "things"] (spPick X.K) ∧ X.mg "_law_pick" = some (.ref f) ∧ PySem.W.keepIn X.K (.ref f) = true ∧ Binds X.K fd ["row", "things"] []
/-- _law_pick(row, [texts]), in a frame whose row is its caller's -/
theorem eval_pick {k j : Nat} {es : List Expr} {xs : List Str} {row : LW.Row} {ir : Nat} {xr : Str} {pr : Pos} {Q : Value → Shared → Prop} (R : PickAt X k) (hr : Room j X.A) (hkj : k ≤ j) (hl : RList X es lpos xs) (ok : RowOk row) (x0 : 0 < xs.length) (x1 : xs.length < 1000) (I : Inv X pins σ H s) (sd : SD X.K X.w Γ z H σ env) (hrow : env[ir]? = some (.p (rowD row)))
    (hN : X.N[ir]? = some xr) (hv : Vis X.env.scope xr) (fin : ∀ (u : Value) (tk : Tok) (s' : Shared) (H' : Hp), u = .str (xs.getD (taken row xs.length).1.toNat "") tk → s.toks ≤ tk → Inv X pins σ H' s' → SD X.K X.w Γ z H' σ (env.set ir (.p (rowD (taken row xs.length).2))) → Ex (cut H z) (cut H' z) → Q u s')
    (hg : Gl X "_law_pick") (hs1 : starEach [.Name xr pr, .List es lpos] X.env = (false, eval (.Name xr pr) X.env) :: starEach [.List es lpos] X.env) (hs2 : starEach [.List es lpos] X.env = [(false, eval (.List es lpos) X.env)]) (hpl : (backTo pos (starEach [.List es lpos] X.env)).any (·.1) = false)
    (hb1 : (xr == ("__debug__" : Str)) = false) (hcd : (xr == ("__classdict__" : Str)) = false) : wpAny (model X.prog X.w) X.A (eval (.Call (.Name "_law_pick" p) [.Name xr pr, .List es lpos] [] pos) X.env) Q X.xe s := by
  obtain ⟨f, fd, run, hm, hk, hb⟩ := R.ex
  obtain ⟨r, us0, e1, _⟩ := sd.own (.inr hrow)
  refine wpAny_Call_Name_kw (ld_glob I hg hm ?_ (by decide))
  refine PySem.W.callWith_K (h₀ := X.base) I.ok.mod.kin hk ?_ hs1 hpl
  rw [hs1]
  show wpAny _ _ (spliced ((false, eval (.Name xr pr) X.env) :: backTo pos (starEach [.List es lpos] X.env))) _ _ s
  refine Calls.spliced_cons (raw_name hN hv I e1 (fun v rv => ?_) hb1 hcd)
  obtain rfl : v = Value.ref r := rv
  rw [hs2]
  show wpAny _ _ (spliced [(false, eval (.List es lpos) X.env)]) _ _ s
  refine Calls.spliced_cons (hl pins s σ H _ I fun L o its s1 hL I1 oc od mk => Calls.spliced_nil ⟨I1.kIn, ?_⟩)
  have sd1 := sd.grow (Ex.new (o := .frz o (.lst (xs.map V.str))) hL)
  obtain ⟨r', us, e2, zr, hr', hd'⟩ := sd1.own (.inr hrow)
  rw [e1] at e2
  cases e2
  have zL := sd.zfresh hL
  refine wpAny_call (codeAny_mono (run X.A X.stack s1 _ [.ref r, .ref L] [.ref r, .ref L] (fun u v H' => v = .str (xs.getD (taken row xs.length).1.toNat "") ∧ (∃ i : Nat, its[i]? = some u) ∧ SD X.K X.w Γ z H' σ (env.set ir (.p (rowD (taken row xs.length).2))) ∧ Ex (cut H z) (cut H' z)) (hr.mono hkj) I1.env0 (by have := hb s1 [.ref r, .ref L] I1.kIn rfl; rwa [List.append_nil] at this) (.cons rfl (.cons rfl .nil))
    ⟨z, r, L, us, row, xs, o, its, 0, rfl, sd1.zd, zr, hr', hd', ok, zL, upd_same, oc, od, mk.vals, x0, x1, fun u H' us' hu hx hr2 hd2 => ?_⟩) fun res s' hq => ?_)
  · obtain ⟨sd2, e3⟩ := sd1.chP hrow e1 hx hr2 fun _ => hd2
    exact ⟨rfl, ⟨_, hu⟩, sd2, (cut_ex (Ex.new hL)).trans e3⟩
  · cases res with
    | error e => exact hq.elim
    | ok fl =>
      cases fl with
      | next => exact hq.elim
      | brk => exact hq.elim
      | cont => exact hq.elim
      | ret u =>
        obtain ⟨v, H', I2, rv, ev, ⟨i, hi⟩, sd2, ex2⟩ := I1.after (Q := fun v H' => v = .str (xs.getD (taken row xs.length).1.toNat "") ∧ (∃ i : Nat, its[i]? = some u) ∧ SD X.K X.w Γ z H' σ (env.set ir (.p (rowD (taken row xs.length).2))) ∧ Ex (cut H z) (cut H' z)) hq
        subst ev
        obtain ⟨t, rfl⟩ := rv
        obtain ⟨x, tk, e, le⟩ := mk.since i _ hi
        cases e
        exact fin _ _ _ _ rfl le I2 sd2 ex2
end
end NB

set_option Elab.async false
set_option linter.all false
set_option maxRecDepth 100000
set_option maxHeartbeats 4000000
/-! text.replace(sign, a picked text); what is told of a state behind at least one token -/
namespace NB
open PySem PySem.Spec L2 Evl PyProof.Rows LW
theorem b_addS {X : Cx} {x y : Str} (h : x.length + y.length ≤ sizeLine) : BinD X (binaryOp .Add) (.str x) (.str y) (.str (x ++ y)) := bin_of op_add_str fun z v u H Q zd h1 h2 k => by
  cases h1; cases h2
  exact ⟨x, y, rfl, rfl, h, k _ H (Ex.refl _) (.str _)⟩
/-- an expression's value, where a token is out -/
abbrev PDT (X : Cx) (e : Expr) (env : En) (d : PyData) (env' : En) : Prop := PET X e (tD X.K X.w env d env')
abbrev HDT1 (X : Cx) (st : Stmt) (env : En) (P : Post) : Prop := PST X st (tS X.K X.w env P)
abbrev HDT (X : Cx) (st : List Stmt) (env : En) (P : Post) : Prop := PSsT X st (tS X.K X.w env P)
section
variable {X : Cx} {env env1 env2 : En} {d d1 d2 d3 : PyData} {e a b : Expr} {pos : Pos} {st : Stmt} {rest : List Stmt} {P : Post}
theorem pdt (h : PD X e env d env1) : PDT X e env d env1 := CwR.PET.of h
theorem pet_imp {t t' : TE} (h : PET X e t) (i : ∀ σ H Q, t' σ H Q → t σ H Q) : PET X e t' := fun pins s σ H Q h0 I q => h pins s σ H Q h0 I (i σ H Q q)
theorem pst_imp {t t' : TS} (h : PST X st t) (i : ∀ D σ H, t' D σ H → t D σ H) : PST X st t' := fun pins s σ H D h0 I q => h pins s σ H D h0 I (i D σ H q)
theorem psst_imp {t t' : TS} (h : PSsT X rest t) (i : ∀ D σ H, t' D σ H → t D σ H) : PSsT X rest t' := fun pins s σ H D h0 I q => h pins s σ H D h0 I (i D σ H q)
theorem pdt_op {op : Operator} (ha : PDT X a env d1 env1) (hb : PDT X b env1 d2 env2) (ho : BinD X (binaryOp op) d1 d2 d3) : PDT X (.BinOp a op b pos) env d3 env2 :=
  pet_imp (CwR.pet_op ho ha hb) (two_run seq2 fun _ _ _ _ h => h)
theorem pdt_is (h : PDT X e env d env1) (q : d = d1) : PDT X e env d1 env1 := q ▸ h
theorem pdt_to (h : PDT X e env d env1) (q : d = d1) (l : env1 = env2) : PDT X e env d1 env2 := l ▸ q ▸ h
theorem hst_ret (he : PDT X e env d env1) (h : P.rt d env1) : HDT1 X (.Return (some e) pos) env P :=
  pst_imp (CwR.pst_ret he) fun D σ H ⟨Γ, z, sd, _, k, _⟩ => ⟨Γ, z, sd, fun v H' ex sd' hd => k _ _ z v σ H' h ex sd' hd⟩
theorem hst_set (i : Nat) {x : Str} {px : Pos} (hN : X.N.Nodup) (he : PDT X e env d env1) (hl : i < env1.length := by simp) (hi : X.N[i]? = some x := by rfl) (hx : Loc X.env.scope x := by first | exact Or.inl rfl | exact Or.inr rfl)
    (hs : swapsWith e (some (.Name x px)) pos.line X.env = pure false := by rfl) (hf : X.fn x = true ∨ X.env.scope.names.lookup x = some .local := by first | exact .inl rfl | exact .inr rfl) : HDT1 X (.Assign [.Name x px] e pos) env { nx := fun e => e = env1.set i (.d d) } := by
  intro pins s σ H D h0 I ⟨Γ, z, sd, k, _⟩
  refine wpAny_Assign_Name (wpAny_mono (he pins s σ H (fun v H' => D.nx (σ.set i (some v)) H') h0 I ⟨Γ, z, sd, fun v H' ex sd' hd => k _ z _ H' rfl ex (sd'.setD hd hl)⟩) (fun u s1 out => ?_) fun _ _ q => q) hs
  obtain ⟨v, H1, I1, r, q⟩ := out
  exact store_ok I1 hN hi hx r (fun s2 I2 => ⟨_, _, I2, q⟩) hf
theorem ht_one (h1 : PST X st (tS X.K X.w env { nx := fun e => e = env1 })) (h2 : HDT X rest env1 P) : HDT X (st :: rest) env P :=
  psst_imp (psst_cons h1 h2) fun D σ H ⟨Γ, z, sd, k1, k2, k3, k4⟩ => ⟨Γ, z, sd, fun env' z' σ' H' q ex sd' => by
    have q2 : env' = env1 := q
    subst q2
    exact ⟨Γ, z', sd', fun e1 z1 σ1 H1 q1 ex1 => k1 e1 z1 σ1 H1 q1 (ex.trans ex1), fun d1 e1 z1 v1 σ1 H1 q1 ex1 => k2 d1 e1 z1 v1 σ1 H1 q1 (ex.trans ex1), fun e1 z1 σ1 H1 q1 ex1 => k3 e1 z1 σ1 H1 q1 (ex.trans ex1), fun e1 z1 σ1 H1 q1 ex1 => k4 e1 z1 σ1 H1 q1 (ex.trans ex1)⟩, fun _ _ _ _ _ _ q => q.elim, fun _ _ _ _ q => q.elim, fun _ _ _ _ q => q.elim⟩
theorem ht_last (h : HDT1 X st env P) : HDT X [st] env P := CwR.psst_one h
theorem ht_eq (l : env = env1) (h : HDT X rest env1 P) : HDT X rest env P := l ▸ h
theorem booked {pins : List (Addr × Obj)} {σ : L2.St} {H : Hp} {s : Shared} (hn : NoneBooked X.base) (I : Inv X pins σ H s) : NoneBooked s.heap := by
  obtain ⟨mc, h1, h2⟩ := hn
  exact ⟨mc, h1.keepsP I.bk, h2⟩
/-- text.replace(sign, _law_pick(row, [texts])) -/
theorem pdt_repl {k j : Nat} {es : List Expr} {xs : List Str} {row : LW.Row} {x y : Str} {xt xr : Str} {jc : Nat} {p1 p2 c0 lpos ppos apos : Pos} {pr : Pos} (it ir : Nat) (hn : NoneBooked X.base) (R : PickAt X k) (hr : Room j X.A) (ok : RowOk row) (hl : RList X es lpos xs)
    (ht : env[it]? = some (.d (.str x))) (hrow : env[ir]? = some (.p (rowD row))) (x0 : 0 < xs.length) (x1 : xs.length < 1000) (few : x.length + (x.length + 1) * (xs.getD (taken row xs.length).1.toNat "").length ≤ 16777216) (hkj : k ≤ j := by decide)
    (hNt : X.N[it]? = some xt := by rfl) (hvt : Vis X.env.scope xt := by first | exact Or.inl rfl | exact Or.inr (Or.inl rfl)) (hNr : X.N[ir]? = some xr := by rfl) (hvr : Vis X.env.scope xr := by first | exact Or.inl rfl | exact Or.inr (Or.inl rfl)) (hg : Gl X "_law_pick" := by rfl)
    (hst : starEach [.Constant (.str y) jc c0, .Call (.Name "_law_pick" p2) [.Name xr pr, .List es lpos] [] ppos] X.env = [(false, eval (.Constant (.str y) jc c0) X.env), (false, eval (.Call (.Name "_law_pick" p2) [.Name xr pr, .List es lpos] [] ppos) X.env)] := by rfl)
    (hbase : attributeBase (.Name xt p1) "replace" X.env (eval (.Name xt p1) X.env) = eval (.Name xt p1) X.env := by rfl) (hline : (apos.endLine == pos.line) = true := by rfl)
    (hs1 : starEach [.Name xr pr, .List es lpos] X.env = (false, eval (.Name xr pr) X.env) :: starEach [.List es lpos] X.env := by rfl) (hs2 : starEach [.List es lpos] X.env = [(false, eval (.List es lpos) X.env)] := by rfl) (hpl : (backTo ppos (starEach [.List es lpos] X.env)).any (·.1) = false := by rfl)
    (hd1 : (xt == ("__debug__" : Str)) = false := by decide) (hd2 : (xt == ("__classdict__" : Str)) = false := by decide) (hd3 : (xr == ("__debug__" : Str)) = false := by decide) (hd4 : (xr == ("__classdict__" : Str)) = false := by decide) :
    PDT X (.Call (.Attribute (.Name xt p1) "replace" apos) [.Constant (.str y) jc c0, .Call (.Name "_law_pick" p2) [.Name xr pr, .List es lpos] [] ppos] [] pos) env (.str (Txt.replace x y (xs.getD (taken row xs.length).1.toNat ""))) (env.set ir (.p (rowD (taken row xs.length).2))) := by
  intro pins s σ H Q h0 I ⟨Γ, z, sd, kk⟩
  obtain ⟨v, e1, e2⟩ := sd.var ht
  cases e2
  refine PySem.Call_method2 hbase hst hline (raw_name hNt hvt I e1 (fun v rv => ?_) hd1 hd2)
  obtain ⟨tx, rfl⟩ := rv
  have args : wpAny (model X.prog X.w) X.A (spliced [(false, eval (.Constant (.str y) jc c0) X.env), (false, eval (.Call (.Name "_law_pick" p2) [.Name xr pr, .List es lpos] [] ppos) X.env)])
      (fun us s' => wpAny (model X.prog X.w) X.A (call (.builtin "str.replace") (.str x tx :: us)) (EP X pins σ Q) X.xe s') X.xe s := by
    refine Calls.spliced_cons (Calls.Constant_str (Calls.spliced_cons ?_))
    refine eval_pick (s := { s with toks := s.toks + 1 }) R hr hkj hl ok x0 x1 (I.tok (s.toks + 1)) sd hrow hNr hvr (fun u tk s' H' eu le I' sd' ex => Calls.spliced_nil ?_) hg hs1 hs2 hpl hd3 hd4
    subst eu
    have le' : s.toks + 1 ≤ tk := le
    have t1 : (s.toks : Nat) ≠ 0 := by omega
    have t2 : (tk : Nat) ≠ 0 := fun z => by rw [z] at le'; omega
    have t3 : (s.toks : Nat) ≠ tk := fun z => by rw [← z] at le'; omega
    exact PySem.SC.replaceA t1 t2 t3 few (fun t' k' => ⟨.str _, H', I'.tok k', ⟨t', rfl⟩, kk _ H' ex sd' (.str _)⟩) (booked hn I')
  exact ⟨"str", _, PySem.F.plainAttrs_str, PySem.F.slot_str_replace, PySem.F.type_str_replace, typeIs_str _ _ _, (fun _ ne => nomatch ne), Calls.callWith_builtin rfl (Calls.evalArgs_plain args)⟩
end
section
variable {X : Cx} {env env1 : En} {ds : List PyData} {a b : Expr} {pos : Pos}
/-- [..] * k -/
theorem pf_times {k : Int} (ha : PF X a env ds env1) (hb : PD X b env1 (.int k) env1) (h0 : 0 ≤ k) (h1 : k ≤ 100) (hl : ds.length ≤ 100) : PF X (.BinOp a .Mult b pos) env (List.replicate k.toNat ds).flatten env1 :=
  pe_imp (pe_op op_rep ha hb) fun σ H Q ⟨Γ, z, sd, kk⟩ => ⟨Γ, z, sd, fun p H1 H2 us e1 s1 e2 hp hl2 hd => ⟨Γ, z, s1.grow e2, fun v H3 e3 s3 hv => by
    cases hv
    have zp : z p = false := s1.zfresh hp
    have hp3 : H3 p = some (.lst us) := (cut_some (e3 p _ (cut_of zp hl2))).2
    have lu := dpa_len hd
    refine ⟨p, k, us, rfl, rfl, hp3, by omega, by omega, ?_, fun q hq => ?_⟩
    · have e : us.length * k.toNat ≤ 100 * 100 := Nat.mul_le_mul (by omega) (by omega)
      rw [sizeLine_eq]
      omega
    · have e13 : Ex (cut H1 z) (cut H3 z) := (cut_ex e2).trans e3
      refine kk q H3 _ _ (e1.trans e13) s3 (Ex.new hq) hq upd_same ?_
      have : ∀ n : Nat, DpAll X.K (cut H3 z) (List.replicate n us).flatten (List.replicate n ds).flatten := fun n => by
        induction n with
        | zero => exact .nil
        | succ n ih =>
          rw [List.replicate_succ, List.flatten_cons, List.replicate_succ, List.flatten_cons]
          exact dpa_app (Dpam e13 hd) ih
      exact this _⟩⟩
end
/-! ### a def whose body is told so -/
section
variable {P : Program} {w : World} {K : PySem.W.Frag} {mg : Str → Option Value} {base : Heap}
theorem fnRT {x qual : Str} {st : Stmt} {f : Addr} {fd : FuncData} {N ps : List Str} {k n m : Nat} {R : List PyData → List PyData → PyData → List PyData → Prop} (F : Fun K x qual st f fd) (S : FnScope N ps (defScope st)) (hn : n = ps.length) (hm : m = N.length - n) (hp : 1 ≤ ps.length) (hc : ∀ y ∈ (defScope st).names, y.2 ≠ .cell)
    (hbody : ∀ (cdv : Value) (A : Around) (outer : List Env) (s : Shared) (H : Hp) (E : XK), Room k (A.deeper (PyProof.Rows.envOfC qual (defScope st) s.heap.objs.size f cdv)) → ∀ row ds d row', R row ds d row' →
      HDT (cxOf CX0 P w K mg base N qual (defScope st) f cdv A outer s H E) (defBody st) (.p row :: startE ds m) { rt := fun d' env => d' = d ∧ env[0]? = some (.p row') }) : FnOk P w K mg base CX0 (k + 1) f fd ps (spR K n R) := by
  obtain ⟨oc, od, kV, doc, pm, an, cdv, ct, osl, rfl, lk, hcd⟩ := F.ex
  refine fn_ofT lk hcd S hc hp (fun vs H Q E h => by rw [h.1, hn]) fun A outer s H vs Q E hr h => ?_
  obtain ⟨hl, z, r, vs', us, ds, row, d, row', rfl, zd, zr, hr', hu, ha, hR, kk⟩ := h
  refine ⟨_, hbody cdv A outer s H E hr row ds d row' hR, ?_⟩
  have sd := sd_startR (w := w) (N := N) (m := m) zd zr hr' hu ha (by rw [hm, ← hl]; rfl)
  refine ⟨_, z, sd, fun _ _ _ _ q => q.elim, fun d' env' z' v σ' H' q ex sd' hv => ?_, fun _ _ _ _ q => q.elim, fun _ _ _ _ q => q.elim⟩
  obtain ⟨rfl, q3⟩ := q
  obtain ⟨fp, f1, _, _⟩ := sd'.sl
  obtain ⟨a, us', _, _, k3, k4, k5⟩ := f1 0 _ q3
  obtain rfl : a = r := by simpa using k3
  exact kk v H' us' (fun b o nb q' => sd'.ext b o (by simp [nb]) q') k4 (Dpam (ex_back sd') k5) (Dpm (ex_back sd') hv)
end
end NB

set_option Elab.async false
set_option linter.all false
set_option maxRecDepth 100000
set_option maxHeartbeats 4000000
/-! the law's start, with what is told of the statics there: no reader has booked a token -/
namespace NB
open PySem PySem.W PySem.Spec L2 PyProof.Rows
/-- what is read off at the law's start: the written part, and that no token is booked -/
def bookHook (K : Params → Frag) (as : List Addr) (e : ∀ P, as = (K P).map (·.1)) (_ : Unit) : Hook where
  α := List (Option Obj) × Bool
  obs := fun s => (as.map s.heap.get?, s.heap.isNs cStatics && (s.heap.nsMap cStatics sharingNotToldKey).isNone)
  val := fun w => ((K w.params).map fun p => some p.2, true)
  says := fun w h => InK K w h ∧ NoneBooked h
  of := fun w s q => by
    obtain ⟨q1, q2⟩ := Prod.mk.inj q
    obtain ⟨n1, n2⟩ := Bool.and_eq_true_iff.mp q2
    exact ⟨InK.of e w s q1, _, Heap.Ns.of_isNs n1, Option.isNone_iff_eq_none.mp n2⟩
  keeps := fun w h h' q k => ⟨InK.keeps w h h' q.1 k, let ⟨mc, a, b⟩ := q.2; ⟨mc, a.keepsP k, b⟩⟩
section
variable {P : Program} {w : World} {K : Frag} {mg mb : Str → Option Value} {k : Nat} {fa a : Addr} {fd : FuncData} {x : Str} {sp : Sp} {s : Shared} {vs : List Value} {ns : List Int}
theorem law_booked (KX : K.In s.heap) (hns : s.heap.Ns mainGlobals mg) (hb : s.heap.Ns builtinsNs mb) (hbb : ∀ x : Str, x ≠ "__name__" → mb x = bootBuiltins x) (lim : s.heap.NoLimit) (bk : NoneBooked s.heap) (hg : s.gens = #[])
    (ha : s.heap.get? a = some { cls := .type "list", data := .seq vs.toArray }) (hi : IntsAre vs ns) (few : ns.length ≤ sizeLine) (hr : Room k callerA)
    (F : ∀ base : Heap, K.In base → base.Ns mainGlobals mg → NoneBooked base → FnOk P w K mg base CX0 k fa fd [x] sp) (hbind : ∀ (s : Shared) (u : Value), BindsTo s fd ⟨[u], []⟩ [(x, u)])
    (hsp : ∀ H : Hp, SqL K H a (ns.map V.int) → sp [.ref a] H (fun v _ => v = .bl true) fun _ _ _ => False) :
    codeAny (model P w) callerA (.call (.ref fa) ⟨[.ref a], []⟩) (fun r s' => r = .ok (.ret (.bool true)) ∧ OldK s.heap s'.heap ∧ s'.os = s.os ∧ AllBare s'.gens) s := by
  have rv := vals_ints hi
  have lenV := hi.length
  obtain ⟨T, only, sq, ok, apart⟩ : ∃ T : Hp, (∀ b u, T b = some u → b = a ∧ u = .frz { cls := .type "list", data := .seq vs.toArray } (.lst (ns.map V.int))) ∧ SqL K T a (ns.map V.int) ∧ HOk P w T s.heap ∧ (T a ≠ none → K.lookup a = none) := by
    cases hk : K.lookup a with
    | some o =>
      have e := KX a o hk
      rw [ha] at e
      cases e
      exact ⟨fun _ => none, (fun b u q => nomatch q), .inr ⟨_, vs.toArray, _, hk, rfl, rfl, rfl, by rw [List.size_toArray, lenV]; exact few, by simpa using rv⟩, (fun b u z => by have z' : (none : Option HO) = some u := z; cases z'), fun q => absurd rfl q⟩
    | none =>
      refine ⟨fun b => if b = a then some (.frz { cls := .type "list", data := .seq vs.toArray } (.lst (ns.map V.int))) else none, fun b u q => ?_, .inl (.inr ⟨{ cls := .type "list", data := .seq vs.toArray }, if_pos rfl⟩), fun b u q => ?_, fun _ => rfl⟩
      · by_cases c : b = a
        · exact ⟨c, (Option.some.inj ((if_pos c).symm.trans q)).symm⟩
        · exact nomatch (if_neg c).symm.trans q
      · by_cases c : b = a
        · have e := (if_pos c).symm.trans q
          cases e
          subst c
          exact ⟨ha, by rw [List.length_map]; exact few, vs, _, rv, ha⟩
        · exact nomatch (if_neg c).symm.trans q
  have hidden : ∀ {b : Addr} {o : Obj}, s.heap.get? b = some o → (b = a → T a = none) → (hidT s.heap T).get? b = some o := fun {b o} e n => hidT_get e (by
    cases q : T b with
    | none => rfl
    | some u =>
      have c := (only b u q).1
      subst c
      rw [n rfl] at q
      cases q)
  have spaces : ∀ {b : Addr} {m : Str → Option Value}, s.heap.Ns b m → (hidT s.heap T).Ns b m := fun {b m} ⟨o, es, ep, e, d, r⟩ => ⟨o, es, ep, hidden e (fun c => by
    subst c
    rw [ha] at e
    cases e
    exact nomatch d), d, r⟩
  have hK : K.In (hidT s.heap T) := fun b o e => hidden (KX b o e) fun c => by
    subst c
    cases q : T b with
    | none => rfl
    | some u =>
      rw [apart (by rw [q]; exact fun z => nomatch z)] at e
      cases e
  have md : Mod K mg (hidT s.heap T) := ⟨hK, spaces hns, ⟨mb, spaces hb, hbb⟩, let ⟨mc, h1, h2⟩ := lim; ⟨mc, spaces h1, h2⟩⟩
  have bk' : NoneBooked (hidT s.heap T) := let ⟨mc, h1, h2⟩ := bk; ⟨mc, spaces h1, h2⟩
  have start : Env0 P w K mg (hidT s.heap T) callerA [] s T := ⟨rfl, md, fun b o e => of_hidT e, Nat.le_of_eq (hidT_size _ _), trivial, fun b q => (nomatch q), ok, .of_eq hg⟩
  refine codeAny_mono ((F _ hK (spaces hns) bk').run callerA [] s T ⟨[.ref a], []⟩ [.ref a] [.ref a] _ _ hr start (hbind s (.ref a)) (.cons rfl .nil) (hsp T sq)) fun r s' out => ?_
  cases r with
  | error e => exact out.elim
  | ok fl =>
    cases fl with
    | ret u =>
      obtain ⟨v, H', os, bare, un, ok', r', rfl⟩ := out
      obtain rfl : u = Value.bool true := r'
      refine ⟨rfl, OldK.of_keep fun b o e => ?_, os, bare⟩
      cases q : T b with
      | none => exact un.keep b o e q (fun z => nomatch z) (fun z => nomatch z)
      | some u =>
        obtain ⟨rfl, rfl⟩ := only b u q
        obtain ⟨e1, _⟩ := ok b _ q
        obtain ⟨e2, _⟩ := ok' b _ (un.frzs b _ _ q)
        rw [e] at e1
        cases e1
        exact e2
    | next => exact out.elim
    | brk => exact out.elim
    | cont => exact out.elim
end
end NB

set_option Elab.async false
set_option linter.all false
set_option maxRecDepth 100000
set_option maxHeartbeats 4000000
namespace K09
open PySem PySem.Spec PyProof.Rows L2 Evl NB LW LP NBI LM LG FM LS LO FW LTX TL LE9 LX9
abbrev sLoose : Stmt := top 29
theorem scLoose : FnScope ["row", "text", "loose"] ["row", "text"] (defScope sLoose) := ⟨rfl, rfl, rfl, by decide +kernel, rfl, by decide +kernel, by decide +kernel⟩
variable {P : Program} {w : World} {K : PySem.W.Frag} {mg : Str → Option Value} {base : Heap}
abbrev PickEx (P : Program) (w : World) (K : PySem.W.Frag) (mg : Str → Option Value) (base : Heap) : Prop := ∃ f fd, RawOk P w K mg base 2 f fd ["row", "things"] (spPick K) ∧ mg "_law_pick" = some (.ref f) ∧ PySem.W.keepIn K (.ref f) = true ∧ Binds K fd ["row", "things"] []
theorem pick_raw (T : Nam mg) (C : Cal P w K mg base "_law_taken" 1 ["row", "many"] (spR K 2 RTaken)) (D : Dfn K mg "_law_pick" sPick ["row", "things"]) : PickEx P w K mg base := by
  obtain ⟨f, fd, F, hm, hb⟩ := D.ex
  refine ⟨f, fd, fn_raw (k := 1) F scPick (fun vs H Q ⟨z, r, L, us, row, xs, o, its, n, e, _⟩ => by rw [e]; rfl) fun cdv A outer s H vs Q s1 hr h I => ?_, hm, F.kp, hb⟩
  obtain ⟨z, r, L, us, row, xs, o, its, n, rfl, zd, zr, hr', hu, ok, zL, hL, oc, od, vl, x0, x1, kk⟩ := h
  have sqL : SqL K (cut H z) L (xs.map V.str) := .inl (.inr ⟨o, cut_of zL hL⟩)
  have sd := sd_startR (w := w) (N := (["row", "things"] : List Str)) (m := 0) (ds := [.list (sD xs)]) zd zr hr' hu (.cons (.lst sqL dpa_strs) .nil) rfl
  have hl : (sD xs).length = xs.length := by simp [sD]
  have b := taken_ge (r := row) (many := (xs.length : Int)) (by omega)
  refine wpAny_execs_cons (wpAny_Return_some (Subscript_ (raw_name (i := 1) (v := V.ref L) rfl (.inl rfl) I rfl (fun v rv => ?_))))
  obtain rfl : v = Value.ref L := rv
  refine wpAny_mono ((pd_myP (env := [.p (rowD row), .d (.list (sD xs))]) (env' := [.p (rowD (taken row xs.length).2), .d (.list (sD xs))]) 0 C hr (pad_cons (pd_is (d1 := .int (xs.length : Int)) (pd_callB f_lenL T.len (pad_cons (pd_var 1 rfl) pad_nil)) (by rw [hl])) pad_nil) (rTaken ok (xs.length : Int) (by omega) (by omega))).run [] s1 _ H
    (fun v H' => v = .int (taken row xs.length).1 ∧ Ex (cut H z) (cut H' z) ∧ SD K w (⟨H, fun a => decide (a = r), z, fun _ => none⟩ : Fr) z H' (start ["row", "things"] [V.ref r, .ref L]) [.p (rowD (taken row xs.length).2), .d (.list (sD xs))]) I ⟨(⟨H, fun a => decide (a = r), z, fun _ => none⟩ : Fr), z, sd, fun v H' ex sd' hd => ?_⟩) (fun iv s2 out => ?_) fun _ _ q => q
  · cases hd
    exact ⟨rfl, ex, sd'⟩
  · obtain ⟨v, H2, I2, rv, rfl, ex, sd2⟩ := out
    obtain ⟨tk, rfl⟩ := rv
    have hL2 : H2 L = some (.frz o (.lst (xs.map V.str))) := (cut_some (ex _ _ (cut_of zL hL))).2
    obtain ⟨there, _⟩ := I2.hok L _ hL2
    have isl : s2.heap.IsList L its := ⟨o, there, oc, n, od⟩
    have il : its.toList.length = xs.length := by rw [← vl.length, List.length_map]
    have lt : (taken row xs.length).1.toNat < its.size := by rw [← Array.length_toList]; omega
    have hx : its[(taken row xs.length).1.toNat]? = some its[(taken row xs.length).1.toNat] := Array.getElem?_eq_getElem lt
    refine item_listR isl b.1 (by omega) hx ?_
    have xat : (xs.map V.str)[(taken row xs.length).1.toNat]? = some (.str (xs.getD (taken row xs.length).1.toNat "")) := by
      rw [List.getElem?_map, List.getD_eq_getElem?_getD, List.getElem?_eq_getElem (by omega)]
      rfl
    obtain ⟨u, hu2, ru⟩ := vl.get xat
    rw [Array.getElem?_toList, hx] at hu2
    obtain rfl := Option.some.inj hu2
    obtain ⟨fp, f1, _, _⟩ := sd2.sl
    obtain ⟨a, us', _, _, k3, k4, k5⟩ := f1 0 _ rfl
    obtain rfl : a = r := by simpa using k3.symm
    exact ⟨_, _, _, _, rfl, I2, ru, kk _ H2 us' hx (fun b o nb q' => sd2.ext b o (by simp [nb]) q') k4 (Dpam (ex_back sd2) k5)⟩
theorem ok_loose (R : PickEx P w K mg base) (hn : NoneBooked base) (C : Cal P w K mg base "_law_pick" 2 ["row", "things"] (spR K 2 RPick)) (D : Dfn K mg "_law_loose" sLoose ["row", "text"]) : Cal P w K mg base "_law_loose" 3 ["row", "text"] (spR K 2 RLoose) := D.cal fun f fd F => by
  refine fnRT (m := 1) F scLoose rfl rfl (by decide) (by decide +kernel) fun cdv A outer s H E hr row ds d row' hR => ?_
  obtain ⟨r, x, ok, xl, rfl, rfl, rfl, rfl⟩ := hR
  have ok1 := taken_ok ok 4
  have ok2 := taken_ok ok1 2
  have ok3 := taken_ok ok2 4
  have sz : sizeLine = 16777216 := sizeLine_eq
  refine ht_eq (env1 := [.p (rowD r), .d (.str x), .u]) rfl ?_
  have q1 := l1_len r x
  have q2 := rep_len r x
  have zb := bLen (bB (taken r 4).2)
  have zc := cLen (cC (r2 r))
  have za := (aLen (aA r)).1
  have ze := eLen (eE (taken (r2 r) 4).2)
  rw [← len_tl] at zb zc za ze
  have few1 : x.length + (x.length + 1) * (b9.getD (nth (taken r 4).2 2) "").length ≤ 16777216 := by
    have := Nat.mul_le_mul_left (x.length + 1) zb
    omega
  have few2 : (l1 r x).length + ((l1 r x).length + 1) * (c9.getD (nth (r2 r) 4) "").length ≤ 16777216 := by
    have := Nat.mul_le_mul_left ((l1 r x).length + 1) zc
    omega
  have q3 : (Txt.replace x " " (b9.getD (nth (taken r 4).2 2) "")).length ≤ 3 * x.length := by
    rw [len_tl, tl_repl tlS, len_tl x]
    exact len_space (bB (taken r 4).2) (tl x)
  refine ht_one (hst_set (d := .str (l1 r x)) (env1 := [.p (rowD (r2 r)), .d (.str x), .u]) 2 scLoose.nd (pdt_op (env1 := [.p (rowD (taken r 4).2), .d (.str x), .u]) (pdt (env := [.p (rowD r), .d (.str x), .u]) (env1 := [.p (rowD (taken r 4).2), .d (.str x), .u]) (d := .str (a9.getD (nth r 4) "")) (pd_myP 0 C hr (pad_cons (pf_d (pf_lst (pad_cons pd_str (pad_cons pd_str (pad_cons pd_str (pad_cons pd_str pad_nil)))))) pad_nil) ⟨r, sD a9, ok, by decide, by decide, rfl, rfl, (by rw [show ((sD a9).length : Int) = 4 from rfl]; exact (getD_sD (nth_lt r (m := 4) (by decide))).symm), rfl⟩))
    (pdt_to (d1 := .str (Txt.replace x " " (b9.getD (nth (taken r 4).2 2) ""))) (pdt_repl (xs := [" ", "   "]) 1 0 hn ⟨R⟩ hr ok1 rlist2 rfl rfl (by decide) (by decide) few1) rfl rfl) (b_addS (by omega)))) ?_
  refine ht_eq (env1 := [.p (rowD (r2 r)), .d (.str x), .d (.str (l1 r x))]) rfl ?_
  refine ht_last (hst_ret (d := .str (looseM r x)) (env1 := [.p (rowD (r4 r)), .d (.str x), .d (.str (l1 r x))]) (pdt_op (env1 := [.p (rowD (taken (r2 r) 4).2), .d (.str x), .d (.str (l1 r x))]) (pdt_to (d1 := .str (Txt.replace (l1 r x) "
" (c9.getD (nth (r2 r) 4) ""))) (env2 := [.p (rowD (taken (r2 r) 4).2), .d (.str x), .d (.str (l1 r x))]) (pdt_repl (env := [.p (rowD (r2 r)), .d (.str x), .d (.str (l1 r x))]) (x := l1 r x) (xs := ["
", " 
", "

", "
  "]) 2 0 hn ⟨R⟩ hr ok2 rlist4 rfl rfl (by decide) (by decide) few2) rfl rfl)
    (pdt (env := [.p (rowD (taken (r2 r) 4).2), .d (.str x), .d (.str (l1 r x))]) (env1 := [.p (rowD (r4 r)), .d (.str x), .d (.str (l1 r x))]) (d := .str (e9.getD (nth (taken (r2 r) 4).2 3) "")) (pd_myP 0 C hr (pad_cons (pf_d (pf_lst (pad_cons pd_str (pad_cons pd_str (pad_cons pd_str pad_nil))))) pad_nil) ⟨(taken (r2 r) 4).2, sD e9, ok3, by decide, by decide, rfl, rfl, (by rw [show ((sD e9).length : Int) = 3 from rfl]; exact (getD_sD (nth_lt (taken (r2 r) 4).2 (m := 3) (by decide))).symm), rfl⟩)) (b_addS (by omega))) ⟨rfl, rfl⟩)
end K09

set_option Elab.async false
set_option linter.all false
set_option maxRecDepth 100000
set_option maxHeartbeats 4000000
namespace LX9
open PySem L2 Evl NB LW LP NBI LM LG LO LS FM FW TL LTX LFM
section
variable {n : Int} {ps : List Pr}
theorem filt_one (N : Net n ps) (h : Int) : ps.filter (fun p => decide (p.1 = h)) = (aboveM n ps h).map fun f => (h, f) := by
  refine asc_unique (N.asc.filter _) ?_ fun p => ?_
  · rw [List.pairwise_map]
    unfold aboveM
    exact ((fri_lt n ps h).filter _).imp fun {x y} l => .inr ⟨rfl, l⟩
  · obtain ⟨a, b⟩ := p
    rw [List.mem_filter, List.mem_map, decide_eq_true_eq]
    constructor
    · rintro ⟨m, rfl⟩
      have q := N.pr _ m
      have q' : 0 ≤ a ∧ a < b ∧ b < n := q
      refine ⟨b, ?_, rfl⟩
      unfold aboveM
      rw [List.mem_filter, mem_fri, decide_eq_true_eq]
      refine ⟨⟨by omega, ?_⟩, q'.2.1⟩
      rw [show min a b = a by omega, show max a b = b by omega]
      exact m
    · rintro ⟨f, m, e⟩
      injection e with e1 e2
      subst e1 e2
      unfold aboveM at m
      rw [List.mem_filter, mem_fri, decide_eq_true_eq] at m
      obtain ⟨⟨_, m⟩, l⟩ := m
      rw [show min h f = h by omega, show max h f = f by omega] at m
      exact ⟨m, rfl⟩
def oneC (h : Int) (q : PyData × PyData) : Bool := decide ((prT2 q).1 = h)
def othY (q : PyData × PyData) : PyData := .str (wI (prT2 q).2)
theorem later_eq (N : Net n ps) (h : Int) : ((ps.map t2).filter (oneC h)).map othY = sD ((aboveM n ps h).map wI) := by
  rw [List.filter_map, List.map_map]
  have e : (oneC h ∘ t2) = fun p : Pr => decide (p.1 = h) := rfl
  rw [e, filt_one N h, List.map_map]
  unfold sD
  rw [List.map_map]
  rfl
theorem head_eq (n : Int) : ("halls " : Str) ++ wI n = headM n := by
  refine tl_inj ?_
  unfold headM catJ
  simp only [List.foldl_cons, List.foldl_nil]
  rw [tl_append, tl_append, tl_append]
  rfl
theorem eqv_sD_nil (l : List Str) : PyData.eqv (.list (sD l)) (.list []) = decide (l = []) := by
  cases l <;> simp [sD, PyData.eqv, PyData.eqvAll]
/-! what may stand in a text -/
def Small (x : Str) : Prop := ∀ c ∈ tl x, c < 256
theorem small_ok {x : Str} (h : Small x) : PyData.strOk x = true := by
  unfold PyData.strOk
  rw [← Array.all_toList, List.all_eq_true]
  intro c hc
  have := h c hc
  exact decide_eq_true (by omega)
theorem small_join {y : Str} {l : List Str} (hy : Small y) (hl : ∀ x ∈ l, Small x) : Small (Txt.join y l) := fun c hc => by
  rw [join_eq, tl_join] at hc
  rcases mem_joinL hc with h | ⟨p, hp, h⟩
  · exact hy c h
  · obtain ⟨x, hx, rfl⟩ := List.mem_map.mp hp
    exact hl x hx c h
theorem wI_small {i : Int} (h0 : 0 ≤ i) (h1 : i ≤ 60) : Small (wI i) := fun c hc => by
  have f := wI_free ⟨i.toNat, by omega⟩
  simp only at f
  rw [show ((i.toNat : Nat) : Int) = i by omega, List.all_eq_true] at f
  have := of_decide_eq_true (f.1 c hc)
  omega
theorem wI_ok {i : Int} (h0 : 0 ≤ i) (h1 : i ≤ 60) : PyData.strOk (wI i) = true := small_ok (wI_small h0 h1)
theorem lineW_small {h : Int} {fs : List Int} (h0 : 0 ≤ h) (h1 : h ≤ 60) (hf : ∀ f ∈ fs, 0 ≤ f ∧ f ≤ 60) : ∀ x ∈ lineW h fs, Small x := fun x hx => by
  unfold lineW at hx
  rcases List.mem_cons.mp hx with rfl | hx
  · exact wI_small h0 h1
  · rcases List.mem_cons.mp hx with rfl | hx
    · intro c hc
      have : ∀ c ∈ tl ("with" : Str), c < 256 := by decide +kernel
      exact this c hc
    · obtain ⟨f, m, rfl⟩ := List.mem_map.mp hx
      exact wI_small (hf f m).1 (hf f m).2
theorem head_small (h0 : 0 ≤ n) (h1 : n ≤ 60) : Small (headM n) := by
  rw [← head_eq]
  intro c hc
  rw [tl_append] at hc
  rcases List.mem_append.mp hc with h | h
  · have : ∀ c ∈ tl ("halls " : Str), c < 256 := by decide +kernel
    exact this c h
  · exact wI_small h0 h1 c h
theorem write_ok (N : Net n ps) : PyData.strOk (writeM n ps) = true := by
  have n1 := N.n1
  have n60 := N.n60
  refine small_ok (small_join (by have : ∀ c ∈ tl nlS, c < 256 := by decide +kernel
                                  exact this) fun x hx => ?_)
  rcases List.mem_cons.mp hx with rfl | hx
  · exact head_small (by omega) n60
  · obtain ⟨h, hm, e⟩ := List.mem_filterMap.mp hx
    have hb := mem_upto.mp hm
    unfold lineM at e
    split at e
    · cases e
    · obtain rfl := Option.some.inj e
      refine small_join (by have : ∀ c ∈ tl spS, c < 256 := by decide +kernel
                            exact this) (lineW_small hb.1 (by omega) fun f hf => ?_)
      have := (above_bd N h).2 f hf
      omega
end
theorem nb16 : Net 16 (boardM 4) := net_sub (by decide) (by decide) List.filter_sublist
/-- the law's net -/
theorem picked9 (r : LW.Row) (k : Nat) (hk : k < 2) : ∃ n ps, ([netD (drawN r 13).1 (drawN r 13).2.1, .tuple [.int 16, .tuple (pD (boardM 4))]] : List PyData).getD k .none = netD n ps ∧ Net n ps ∧ n ≤ 16 ∧ ps.length ≤ 4000 := by
  have few : ∀ {n : Int} {ps : List Pr}, Net n ps → n ≤ 16 → ps.length ≤ 4000 := fun {n ps} N h => by
    have e : ps = (prs n).filter fun p => decide (p ∈ ps) := asc_unique N.asc ((prs_asc n).filter _) fun p => by
      rw [List.mem_filter, decide_eq_true_eq]
      exact ⟨fun m => ⟨mem_prs.mpr (N.pr p m), m⟩, fun m => m.2⟩
    have a := List.length_filter_le (fun p => decide (p ∈ ps)) (prs n)
    have b := prs60 N.n60
    rw [← e] at a
    omega
  match k, hk with
  | 0, _ =>
    have N := drawN_net r (most := 13) (by decide) (by decide)
    have h : (drawN r 13).1 ≤ 16 := by
      have b := taken_ge (r := r) (many := 13) (by decide)
      have e : (drawN r 13).1 = 1 + (taken r 13).1 := rfl
      omega
    exact ⟨_, _, rfl, N, h, few N h⟩
  | 1, _ => exact ⟨16, boardM 4, rfl, nb16, by decide, few nb16 (by decide)⟩
end LX9

set_option Elab.async false
set_option linter.all false
set_option maxRecDepth 100000
set_option maxHeartbeats 16000000
namespace K09
open PySem L2 Evl NB LW LP NBI LM LG FM LS LO FW LTX TL LE9 LX9 LFM
variable {P : Program} {w : World} {K : PySem.W.Frag} {mg : Str → Option Value} {base : Heap}
/-- the defs that the law calls -/
structure Hs (P : Program) (w : World) (K : PySem.W.Frag) (mg : Str → Option Value) (base : Heap) : Prop where
  pick : Cal P w K mg base "_law_pick" 2 ["row", "things"] (spR K 2 RPick)
  net : Cal P w K mg base "_law_net" 2 ["row", "most"] (spR K 2 RNet)
  board : Cal P w K mg base "_law_board" 2 ["side"] (spD K 1 RBoard)
  write : Cal P w K mg base "write_net" 6 ["net"] (spD K 1 RWrite)
  read : Cal P w K mg base "read_net" 4 ["text"] (spD K 1 RRead)
  loose : Cal P w K mg base "_law_loose" 3 ["row", "text"] (spR K 2 RLoose)
  alike : Cal P w K mg base "_law_alike" 6 ["found", "due"] (spD K 2 (RAlike 5))
  refusal : Cal P w K mg base "_law_refusal" 7 ["text"] (spD K 1 RRefusal)
  refused : Cal P w K mg base "_law_refused" 1 [] (spD K 0 RRefused)
theorem scLaw : FnScope ["script", "row", "net", "lines", "hall", "later", "text", "told", "one", "other", "some", "due", "value"] ["script"] (defScope sLaw) := ⟨rfl, rfl, rfl, by decide +kernel, rfl, by decide +kernel, by decide +kernel⟩
theorem due_sh (o : Option (Int × Int)) : SeqAt.shaped (dueD o) = true ∧ PyData.eqv (dueD o) (dueD o) = true := by
  cases o with
  | none => exact ⟨(fl_str 0 (by decide +kernel)).sh, by decide +kernel⟩
  | some p => exact ⟨(fl_prd p).sh, (eqv_pr p p).trans (decide_eq_true rfl)⟩
def refT (p : Str × Option (Int × Int)) : PyData × PyData := (.str p.1, dueD p.2)
theorem refT_tp (l : List (Str × Option (Int × Int))) : (l.map refT).map tpD = l.map refD := by
  rw [List.map_map]
  rfl
theorem al_s (m : Nat) {s : Str} (h : PyData.strOk s = true) : Al m (.str s) := by cases m <;> exact h
theorem ok_law (T : Nam mg) (S : Hs P w K mg base) {f : Addr} {fd : FuncData} (F : Fun K "law" "law" sLaw f fd) : FnOk P w K mg base CX0 9 f fd ["script"] (spD K 1 RLaw) := by
  refine fnD (m := 12) F scLaw rfl rfl fun cdv A outer s H E hr ds d hR => ?_
  obtain ⟨ns, hns, rfl, rfl⟩ := hR
  have hu := Room.u65 hr
  have hu0 := Room.u64 hr
  have ok0 := row0_ok 6009 ns (by decide)
  refine h_eq (env1 := [.d (.list (iD ns)), .u, .u, .u, .u, .u, .u, .u, .u, .u, .u, .u, .u]) rfl ?_
  refine h_one (hs_setL 1 scLaw.nd (pf_lst (pad_cons (pd_var 0 rfl) (pad_cons pd_int (pad_cons pd_int (pad_cons pd_int pad_nil)))))) ?_
  generalize hr0 : row0 6009 ns = r0 at ok0
  generalize hsc : PyData.list (iD ns) = sc
  refine h_eq (env1 := [.d sc, .l (rowD r0), .u, .u, .u, .u, .u, .u, .u, .u, .u, .u, .u]) (by rw [← hr0, ← hsc]; rfl) ?_
  -- net
  have ok1 := drawN_ok ok0 13
  generalize hr1 : (drawN r0 13).2.2 = r1 at ok1
  have b1 := taken_ge (r := r1) (many := 2) (by decide)
  obtain ⟨n, ps, hd, N, n16, few⟩ := picked9 r0 (taken r1 2).1.toNat (by omega)
  have ok2 := taken_ok ok1 2
  have n1 := N.n1
  generalize hr2 : (taken r1 2).2 = r2 at ok2
  have sl : (([netD (drawN r0 13).1 (drawN r0 13).2.1, .tuple [.int 16, .tuple (pD (boardM 4))]] : List PyData).length : Int) = 2 := rfl
  refine h_one (hs_set (env1 := [.d sc, .l (rowD r2), .u, .u, .u, .u, .u, .u, .u, .u, .u, .u, .u]) (d := netD n ps) 2 scLaw.nd (pd_is (pd_myL2 (row0 := rowD r0) (env1 := [.d sc, .l (rowD r1), .u, .u, .u, .u, .u, .u, .u, .u, .u, .u, .u]) 1 S.pick hr (pad_cons (pf_d (pf_lst (pad_cons (pd_myL (env' := [.d sc, .l (rowD r1), .u, .u, .u, .u, .u, .u, .u, .u, .u, .u, .u]) 1 S.net hr (pad_cons pd_int pad_nil) ⟨r0, 13, ok0, by decide, by decide, rfl, rfl, rfl, rfl⟩ (he' := by rw [← hr1]; rfl)) (pad_cons (pd_tup (pad_cons pd_int (pad_cons (pd_my S.board hr (pad_cons pd_int pad_nil) ⟨4, by decide, by decide, rfl, rfl⟩) pad_nil))) pad_nil)))) pad_nil)
    ⟨r1, [netD (drawN r0 13).1 (drawN r0 13).2.1, .tuple [.int 16, .tuple (pD (boardM 4))]], ok1, by simp, by simp, rfl, rfl, rfl, rfl⟩ (he' := by rw [sl, ← hr2]; rfl)) (by rw [sl, hd]))) ?_
  refine h_eq (env1 := [.d sc, .l (rowD r2), .d (netD n ps), .u, .u, .u, .u, .u, .u, .u, .u, .u, .u]) rfl ?_
  have hl : ps.length < 100000 := by omega
  have sz : sizeLine = 16777216 := sizeLine_eq
  have hwl : (wI n).length ≤ 4 := wI_len (i := n) (by omega) (by omega)
  have h6 : ("halls " : Str).length = 6 := rfl
  -- lines
  refine h_one (hs_set 3 scLaw.nd (pf_d (pf_lst (pad_cons (pd_op pd_str (pd_callTy (f_strI (log1000 (by omega) (by omega))) T.str (pad_cons (pd_ix (pd_var 2 rfl) pd_int (ix_T rfl)) pad_nil)) (b_addS (by show ("halls " : Str).length + (wI n).length ≤ sizeLine; omega))) pad_nil)))) ?_
  refine h_eq (env1 := [.d sc, .l (rowD r2), .d (netD n ps), .d (.list (sD (headM n :: ((upto 0 n).take 0).filterMap (lineM n ps)))), .u, .u, .u, .u, .u, .u, .u, .u, .u]) (by rw [← head_eq]; rfl) ?_
  refine h_cons (fun e => e = [.d sc, .l (rowD r2), .d (netD n ps), .d (.list (sD (headM n :: ((upto 0 n).take (rgD 0 n).length).filterMap (lineM n ps)))), .u, .u, .u, .u, .u, .u, .u, .u, .u]) (hs_for (B := fun _ => False) PassesOwn.never rfl (it_rng1 T.range (pd_ix (pd_var 2 rfl) pd_int (ix_T rfl)) ⟨by omega, by omega⟩)
    (fun i => [.d sc, .l (rowD r2), .d (netD n ps), .d (.list (sD (headM n :: ((upto 0 n).take i).filterMap (lineM n ps)))), .u, .u, .u, .u, .u, .u, .u, .u, .u]) (Le.of_eq rfl) (env0 := fun i d => [.d sc, .l (rowD r2), .d (netD n ps), .d (.list (sD (headM n :: ((upto 0 n).take i).filterMap (lineM n ps)))), .d d, .u, .u, .u, .u, .u, .u, .u, .u]) (fun i d h => gd_name 4 scLaw.nd) (fun i d h => ?_) rfl (fun _ q => q.elim)) fun e he => ?_
  · have hi : i < n.toNat := by
      have := (List.getElem?_eq_some_iff.mp h).1
      rw [rgD_len] at this
      omega
    have hin : ((i : Nat) : Int) < n := by omega
    have ed : d = .int (i : Nat) := by
      have := (List.getElem?_eq_some_iff.mp h).2
      rw [← this]
      simp [rgD]
    subst ed
    have ab := above_bd N (i : Nat)
    have lb := line_bd N (h := (i : Nat)) (by omega) hin
    have ti : (upto 0 n).take (i + 1) = (upto 0 n).take i ++ [((i : Nat) : Int)] := by
      rw [List.take_add_one]
      have q := upto_get (lo := 0) (hi := n) (i := i) (by omega)
      rw [q]
      simp
    have tl9 : (((upto 0 n).take i).filterMap (lineM n ps)).length ≤ 60 := by
      have a1 := List.length_filterMap_le (lineM n ps) ((upto 0 n).take i)
      have a2 : ((upto 0 n).take i).length ≤ (upto 0 n).length := by rw [List.length_take]; omega
      rw [upto_len] at a2
      omega
    have sn : headM n :: ((upto 0 n).take (i + 1)).filterMap (lineM n ps) = (headM n :: ((upto 0 n).take i).filterMap (lineM n ps)) ++ (lineM n ps (i : Nat)).toList := by
      rw [ti, List.filterMap_append]
      cases q : lineM n ps (i : Nat) <;> simp [q]
    rw [sn]
    generalize hL : (headM n :: ((upto 0 n).take i).filterMap (lineM n ps)) = LL
    have ll : LL.length ≤ 61 := by rw [← hL]; simp; omega
    refine h_one (hs_lcT 8 9 5 (x := "one") (z := "other") (ts := ps.map t2) (oneC (i : Nat)) othY rfl scLaw.nd (by rw [t2_tp]; exact it_tup (pd_ix (pd_var 2 rfl) pd_int (ix_T rfl))) (blkOk_by (N := ["script", "row", "net", "lines", "hall", "later", "text", "told", "one", "other", "some", "due", "value"]) (sc := defScope sLaw) (by decide +kernel))
      (fun s H C cl fp q hq => ?_) (fun s H C cl fp q hq _ => ?_) (fun s H C cl fp => pg_tup rfl (pgs_cons (pg_name (i := 8) scLaw.nd rfl (by first | exact .inl rfl | exact .inr rfl)) (pgs_cons (pg_name (i := 9) scLaw.nd rfl (by first | exact .inl rfl | exact .inr rfl)) pgs_nil))) (by simp) (by simp) (by simp) (by rw [List.length_map]; omega)) ?_
    · obtain ⟨p, hp, rfl⟩ := List.mem_map.mp hq
      exact pts1 (pb_cmp (pd_var 8 rfl) (pd_var 4 rfl) c_eqI)
    · obtain ⟨p, hp, rfl⟩ := List.mem_map.mp hq
      have b := N.pr p hp
      exact pd_callTy (f_strI (log1000 (show 0 ≤ p.2 by omega) (show p.2 ≤ 1000 by omega))) T.str (pad_cons (pd_var 9 rfl) pad_nil)
    rw [later_eq N]
    have shl : SeqAt.shaped (.list (sD ((aboveM n ps (i : Nat)).map wI))) = true := (fl_list (n := 1) fun d hd => by
      obtain ⟨x, hx, rfl⟩ := mem_sD hd
      obtain ⟨k, hk, rfl⟩ := List.mem_map.mp hx
      have := ab.2 k hk
      exact fl_str 1 (wI_ok (by omega) (by omega))).sh
    refine h_last (hs_to (hs_set (env1 := [.d sc, .l (rowD r2), .d (netD n ps), .d (.list (sD LL)), .d (.int (i : Nat)), .d (.list (sD ((aboveM n ps (i : Nat)).map wI))), .u, .u, .u, .u, .u, .u, .u]) 3 scLaw.nd (pd_op (d2 := .list (sD (lineM n ps (i : Nat)).toList)) (pd_var 3 rfl) (pd_if (k := !decide (aboveM n ps (i : Nat) = [])) (pb_is (pb_cmp (pd_var 5 rfl) (pf_d (pf_lst pad_nil)) (c_neD hu0 shl rfl)) (by rw [eqv_sD_nil]; simp)) (fun hk => ?_) (fun hk => ?_)) (b_catL (by simp [sD]; cases lineM n ps (i : Nat) <;> simp <;> omega)))) ?_)
    · have ne : aboveM n ps (i : Nat) ≠ [] := by simpa using hk
      have el : lineM n ps (i : Nat) = some (Txt.join spS (lineW (i : Nat) (aboveM n ps (i : Nat)))) := if_neg ne
      exact pd_is (pf_d (pf_lst (pad_cons (pd_join (ys := lineW (i : Nat) (aboveM n ps (i : Nat))) pd_str (pd_op (pf_d (pf_lst (pad_cons (pd_callTy (f_strI (log1000 (by omega) (by omega))) T.str (pad_cons (pd_var 4 rfl) pad_nil)) (pad_cons pd_str pad_nil)))) (pd_var 5 rfl) (b_catL (by simp [sD]; omega))) (Nat.le_trans lb (by decide))) pad_nil))) (by rw [el]; rfl)
    · have e0 : aboveM n ps (i : Nat) = [] := by simpa using hk
      have el : lineM n ps (i : Nat) = none := if_pos e0
      exact pd_is (pf_d (pf_lst pad_nil)) (by rw [el]; rfl)
    · show Le _ _
      have es : sD LL ++ sD (lineM n ps (i : Nat)).toList = sD (LL ++ (lineM n ps (i : Nat)).toList) := by simp [sD]
      rw [← es]
      exact le_cons (.inr rfl) (le_cons (.inr rfl) (le_cons (.inr rfl) (le_cons (.inr rfl) (le_cons (.inl rfl) (le_cons (.inl rfl) (le_cons (.inr rfl) (le_cons (.inr rfl) (le_cons (.inr rfl) (le_cons (.inr rfl) (le_cons (.inr rfl) (le_cons (.inr rfl) (le_cons (.inr rfl) (le_nil)))))))))))))
  subst he
  have tb := text_bd N
  have wln := write_len N
  have ek : (upto 0 n).take (rgD 0 n).length = upto 0 n := List.take_of_length_le (by rw [rgD_len, upto_len]; omega)
  rw [ek]
  generalize hld : PyData.list (sD (headM n :: (upto 0 n).filterMap (lineM n ps))) = ld
  -- text, told
  refine h_one (hs_set 6 scLaw.nd (pd_join (ys := headM n :: (upto 0 n).filterMap (lineM n ps)) pd_str (pd_is (pd_var 3 rfl) hld.symm) (Nat.le_trans tb (by decide)))) ?_
  refine h_eq (env1 := [.d sc, .l (rowD r2), .d (netD n ps), .d ld, .u, .u, .d (.str (writeM n ps)), .u, .u, .u, .u, .u, .u]) rfl ?_
  refine h_one (hs_set (env1 := [.d sc, .l (rowD (r4 r2)), .d (netD n ps), .d ld, .u, .u, .d (.str (writeM n ps)), .u, .u, .u, .u, .u, .u]) 7 scLaw.nd (pf_d (pf_lst (env1 := [.d sc, .l (rowD (r4 r2)), .d (netD n ps), .d ld, .u, .u, .d (.str (writeM n ps)), .u, .u, .u, .u, .u, .u]) (pad_cons (env1 := [.d sc, .l (rowD r2), .d (netD n ps), .d ld, .u, .u, .d (.str (writeM n ps)), .u, .u, .u, .u, .u, .u]) (pd_my S.write hr (pad_cons (pd_var 2 rfl) pad_nil) ⟨n, ps, N, hl, rfl, rfl⟩) (pad_cons (env1 := [.d sc, .l (rowD r2), .d (netD n ps), .d ld, .u, .u, .d (.str (writeM n ps)), .u, .u, .u, .u, .u, .u]) (pd_my S.read hr (pad_cons (pd_var 6 rfl) pad_nil) (read_write N))
    (pad_cons (pd_my S.read hr (pad_cons (pd_myL (env' := [.d sc, .l (rowD (r4 r2)), .d (netD n ps), .d ld, .u, .u, .d (.str (writeM n ps)), .u, .u, .u, .u, .u, .u]) 1 S.loose hr (pad_cons (pd_var 6 rfl) pad_nil) ⟨r2, writeM n ps, ok2, wln, rfl, rfl, rfl, rfl⟩) pad_nil) (loose_read r2 (writeM n ps) (read_write N) wln)) pad_nil)))))) ?_
  refine h_eq (env1 := [.d sc, .l (rowD (r4 r2)), .d (netD n ps), .d ld, .u, .u, .d (.str (writeM n ps)), .d (.list [.str (writeM n ps), netD n ps, netD n ps]), .u, .u, .u, .u, .u]) rfl ?_
  refine h_skip (pb_is (k := false) (pb_is (pb_not (pb_val (pd_my S.alike hr (pad_cons (pd_var 7 rfl) (pad_cons (pf_d (pf_lst (pad_cons (pd_var 6 rfl) (pad_cons (pd_var 2 rfl) (pad_cons (pd_var 2 rfl) pad_nil))))) pad_nil)) ⟨(.list [.str (writeM n ps), netD n ps, netD n ps]), ?_, rfl, rfl⟩))) rfl) rfl) ?_
  · refine al_lst (n := 4) (fun d hd => ?_) (by simp)
    have an := al_net 1 n (ps := ps) (by omega)
    rcases List.mem_cons.mp hd with rfl | hd
    · exact al_s 4 (write_ok N)
    · rcases List.mem_cons.mp hd with rfl | hd
      · exact an
      · rw [List.mem_singleton.mp hd]
        exact an
  -- refused texts
  refine h_skip (pb_is (k := false) (pb_cmp (pd_is (d1 := .list []) (pf_d (pf_lcT 10 11 (x := "some") (z := "due") (ts := refAll.map refT) (fun _ => false) (fun _ => .int 1) rfl scLaw.nd (by rw [refT_tp]; exact it_list (pd_my0 S.refused hr ⟨rfl, rfl⟩)) (blkOk_by (N := ["script", "row", "net", "lines", "hall", "later", "text", "told", "one", "other", "some", "due", "value"]) (sc := defScope sLaw) (by decide +kernel))
      (fun s H C cl fp q hq => ?_) (fun s H C cl fp q hq hc => nomatch hc) (fun s H C cl fp => pg_tup rfl (pgs_cons (pg_name (i := 10) scLaw.nd rfl (by first | exact .inl rfl | exact .inr rfl)) (pgs_cons (pg_name (i := 11) scLaw.nd rfl (by first | exact .inl rfl | exact .inr rfl)) pgs_nil))) (by simp) (by simp) (by decide))) (by simp))
    (pf_d (pf_lst pad_nil)) (c_neD hu0 rfl rfl)) (by simp [PyData.eqv, PyData.eqvAll])) ?_
  · obtain ⟨p, hp, rfl⟩ := List.mem_map.mp hq
    exact pts1 (pb_is (pb_cmp (pd_my S.refusal hr (pad_cons (pd_var 10 rfl) pad_nil) (ref_all p hp)) (pd_var 11 rfl) (c_neD hu0 (due_sh _).1 (due_sh _).1)) (by show (!PyData.eqv (dueD p.2) (dueD p.2)) = false; rw [(due_sh _).2]; rfl))
  -- no texts
  refine h_ret (pd_is (pd_cmp (pd_is (d1 := .list [.str "text", .str "text", .str "text", .str "text", .str "text"]) (pf_d (pf_lc1 12 (fun _ => true) (fun _ => .str "text") rfl scLaw.nd (it_list (pf_d (pf_lst (pad_cons pd_non (pad_cons pd_int (pad_cons (pd_tup (pad_cons (pd_var 6 rfl) pad_nil)) (pad_cons pd_bl (pad_cons pd_dict0 pad_nil)))))))) (blkOk_by (N := ["script", "row", "net", "lines", "hall", "later", "text", "told", "one", "other", "some", "due", "value"]) (sc := defScope sLaw) (by decide +kernel))
      (fun s H C cl fp d hd => pts0) (fun s H C cl fp d hd _ => pd_my S.refusal hr (pad_cons (pd_var 12 rfl) pad_nil) (.inr (.inl ⟨⟨d, fun x e => ?_, rfl⟩, rfl⟩))) (fun s H C cl fp => pg_name (i := 12) scLaw.nd rfl (by first | exact .inl rfl | exact .inr rfl)) (by simp) (by simp))) rfl)
    (pd_is (d1 := .list [.str "text", .str "text", .str "text", .str "text", .str "text"]) (pf_d (pf_times (pf_lst (pad_cons pd_str pad_nil)) pd_int (by decide) (by decide) (by simp))) rfl) (c_eqD hu0 (by decide +kernel) (by decide +kernel))) (congrArg PyData.bool (by decide +kernel))) rfl
  subst e
  simp at hd
end K09

set_option Elab.async false
set_option linter.all false
set_option maxRecDepth 100000
set_option maxHeartbeats 4000000
namespace K09
open PySem L2 Evl NB LW LP NBI LM LG FM LS LO FW LTX TL LE9 LX9 PyProof.Rows
/-- where a def of the top stands -/
structure At (K : PySem.W.Frag) (x : Str) (st : Stmt) (f : Addr) (fd : FuncData) : Prop where
  ns : PySem.W.nsIn K mainGlobals x = some (some (.ref f))
  fn : Fun K x x st f fd
theorem at_mk {K : PySem.W.Frag} {x : Str} {st : Stmt} {f : Addr} {c0 : Value} {d0 a0 : Option Addr} {s0 : Array (Option Value)} {k0 e0 p0 g0 t0 : Value} (a : PySem.W.nsIn K mainGlobals x = some (some (.ref f)))
    (l : K.lookup f = some ⟨c0, d0, .func (PySem.W.fnOf x x (defArgs st) (defBody st) (defScope st) .none k0 e0 p0 a0 g0 t0), s0⟩) (c : PySem.W.codeIn K g0 x = true) (k : PySem.W.keepIn K (.ref f) = true) : At K x st f (PySem.W.fnOf x x (defArgs st) (defBody st) (defScope st) .none k0 e0 p0 a0 g0 t0) := ⟨a, fun_mk (st := st) l c k⟩
theorem At.dfn {K : PySem.W.Frag} {x : Str} {st : Stmt} {f : Addr} {fd : FuncData} {h : Heap} {mg : Str → Option Value} {ps : List Str} (A : At K x st f fd) (X : K.In h) (G : h.Ns mainGlobals mg)
    (hb : ∀ (kV doc pm : Value) (an : Option Addr) (cdv ct : Value) (us : List Value), us.length = ps.length → bindArgs (PySem.W.fnOf x x (defArgs st) (defBody st) (defScope st) .none kV doc pm an cdv ct) ⟨us, []⟩ = pure (ps.zip us)) : Dfn K mg x st ps :=
  ⟨f, fd, A.fn, PySem.W.mg_of X G A.ns, A.fn.binds hb⟩
theorem exm_me {K : PySem.W.Frag} {S : Addr} (h1 : PySem.W.subIn K (.ref S) (.type "BaseException") = some true) (h2 : PySem.W.isClsIn K S = true) (h3 : PySem.W.typeIn K (.ref S) = some (.type "type")) (h4 : PySem.W.subIn K (.ref S) (.ref S) = some true) : PySem.W.exmOne K (.ref S) (.ref S) = some true := by
  unfold PySem.W.exmOne
  rw [h1, if_pos (by rfl)]
  show (if ((PySem.W.clsIn K S).isSome && PySem.W.typeIn K (.ref S) == some (.type "type")) = true then PySem.W.subIn K (.ref S) (.ref S) else none) = some true
  rw [show (PySem.W.clsIn K S).isSome = true from h2, h3, if_pos (by rfl)]
  exact h4
def sInit : Stmt := match top 4 with
  | .ClassDef (body := b) .. => b.getD 0 (.Pass ⟨0, 0, 0, 0⟩)
  | _ => .Pass ⟨0, 0, 0, 0⟩
theorem scInit : FnScope ["self", "line", "word"] ["self", "line", "word"] (defScope sInit) := ⟨rfl, rfl, rfl, by decide +kernel, rfl, by decide +kernel, by decide +kernel⟩
abbrev exB : List Value := [.type "ValueError", .type "Exception", .type "BaseException", .type "object"]
theorem all_mk {l : PySem.W.OpenLaw} {w : World} {K : PySem.W.Frag} {h : Heap} {mg : Str → Option Value} {fa fL : Addr} (X : K.In h) (G : h.Ns mainGlobals mg) (hfa : mg "law" = some (.ref fa))
    {f7 : Addr} {d7 : FuncData} (A7 : At K "is_number" (top 7) f7 d7)
    {f8 : Addr} {d8 : FuncData} (A8 : At K "is_pair" (top 8) f8 d8)
    {f9 : Addr} {d9 : FuncData} (A9 : At K "are_pairs" (top 9) f9 d9)
    {f10 : Addr} {d10 : FuncData} (A10 : At K "wrong_part" (top 10) f10 d10)
    {f11 : Addr} {d11 : FuncData} (A11 : At K "check_net" (top 11) f11 d11)
    {f13 : Addr} {d13 : FuncData} (A13 : At K "friend_rows" (top 13) f13 d13)
    {f15 : Addr} {d15 : FuncData} (A15 : At K "write_net" (top 15) f15 d15)
    {f16 : Addr} {d16 : FuncData} (A16 : At K "words_of" (top 16) f16 d16)
    {f17 : Addr} {d17 : FuncData} (A17 : At K "word_at" (top 17) f17 d17)
    {f18 : Addr} {d18 : FuncData} (A18 : At K "number_at" (top 18) f18 d18)
    {f19 : Addr} {d19 : FuncData} (A19 : At K "read_halls" (top 19) f19 d19)
    {f20 : Addr} {d20 : FuncData} (A20 : At K "read_pairs" (top 20) f20 d20)
    {f21 : Addr} {d21 : FuncData} (A21 : At K "read_net" (top 21) f21 d21)
    {f23 : Addr} {d23 : FuncData} (A23 : At K "_law_taken" (top 23) f23 d23)
    {f24 : Addr} {d24 : FuncData} (A24 : At K "_law_pick" (top 24) f24 d24)
    {f25 : Addr} {d25 : FuncData} (A25 : At K "_law_alike" (top 25) f25 d25)
    {f26 : Addr} {d26 : FuncData} (A26 : At K "_law_pairs" (top 26) f26 d26)
    {f27 : Addr} {d27 : FuncData} (A27 : At K "_law_net" (top 27) f27 d27)
    {f28 : Addr} {d28 : FuncData} (A28 : At K "_law_board" (top 28) f28 d28)
    {f29 : Addr} {d29 : FuncData} (A29 : At K "_law_loose" (top 29) f29 d29)
    {f30 : Addr} {d30 : FuncData} (A30 : At K "_law_refusal" (top 30) f30 d30)
    {f31 : Addr} {d31 : FuncData} (A31 : At K "_law_refused" (top 31) f31 d31)
    {c0 : Value} {d0 a0 : Option Addr} {s0 : Array (Option Value)} {k0 e0 p0 g0 t0 : Value} (al : PySem.W.nsIn K mainGlobals "law" = some (some (.ref fL)))
    (ll : K.lookup fL = some ⟨c0, d0, .func (PySem.W.fnOf "law" "law" (defArgs sLaw) (defBody sLaw) (defScope sLaw) .none k0 e0 p0 a0 g0 t0), s0⟩) (cl : PySem.W.codeIn K g0 "law" = true) (kl : PySem.W.keepIn K (.ref fL) = true)
    {tMOST_HALLS : Tok} (zMOST_HALLS : PySem.W.nsIn K mainGlobals "MOST_HALLS" = some (some (.int 60 tMOST_HALLS)))
    {bBadText : Addr} (gBadText : PySem.W.nsIn K mainGlobals "BadText" = some (some (.ref bBadText))) (xBadText : PySem.W.excIn K bBadText exB "ValueError.__new__" = true) (pBadText : PySem.W.keepIn K (.ref bBadText) = true) (sBadText : PySem.W.subIn K (.ref bBadText) (.type "BaseException") = some true) (yBadText : PySem.W.typeIn K (.ref bBadText) = some (.type "type")) (iBadText : PySem.W.isClsIn K bBadText = true) (mBadText : PySem.W.subIn K (.ref bBadText) (.ref bBadText) = some true)
    {bL : Addr} (gL : PySem.W.nsIn K mainGlobals "BadLine" = some (some (.ref bL)))
    {nmB qB : Str} {NsB : Addr} {bsB bmB : List Value} {snB : List Str} {subB : List Value} {abB : Bool} {colB : Option Bool} {ddB : Option Addr} {kB0 kB1 kB2 kB3 kB5 : Option Value}
    (lL : K.lookup bL = some (excClassObj nmB qB bL NsB bsB bmB true snB subB abB colB ddB kB0 kB1 kB2 kB3 kB5 "ValueError.__new__")) (rL : PySem.HandSPX.refsVE bmB = true)
    (aL : PySem.W.findIn K (.ref bL) "__setattr__" = some (some (.builtin "object.__setattr__"))) (sL : PySem.W.subIn K (.ref bL) (.type "BaseException") = some true) (yL : PySem.W.typeIn K (.ref bL) = some (.type "type")) (pL : PySem.W.keepIn K (.ref bL) = true)
    (iL : PySem.W.isClsIn K bL = true) (mL : PySem.W.subIn K (.ref bL) (.ref bL) = some true) (uTL : PySem.W.subIn K (.ref bBadText) (.ref bL) = some false)
    {fI : Addr} (nL : PySem.W.findIn K (.ref bL) "__init__" = some (some (.ref fI))) (tL : PySem.W.typeIn K (.ref fI) = some (.type "function")) {cI : Value} {dI anI : Option Addr} {slI : Array (Option Value)} {kI eI pI gI ctI : Value}
    (lIn : K.lookup fI = some ⟨cI, dI, .func (PySem.W.fnOf "__init__" "BadLine.__init__" (defArgs sInit) (defBody sInit) (defScope sInit) .none kI eI pI anI gI ctI), slI⟩) (cIn : PySem.W.codeIn K gI "BadLine.__init__" = true) (kIn : PySem.W.keepIn K (.ref fI) = true)
    (oLine : PySem.W.findIn K (.ref bL) "line" = some none) (oWord : PySem.W.findIn K (.ref bL) "word" = some none)
    (hgL : PySem.W.findIn K (.ref bL) "__getattribute__" = some (some (.builtin "BaseException.__getattribute__"))) (hkL : PySem.W.findIn K (.ref bL) "__getattr__" = some none) (hdL : PySem.W.hasDictIn K bL = true)
    (zlen : PySem.W.nsIn K mainGlobals "len" = some none) (zint : PySem.W.nsIn K mainGlobals "int" = some none) (zrange : PySem.W.nsIn K mainGlobals "range" = some none) (zlist : PySem.W.nsIn K mainGlobals "list" = some none) (ztuple : PySem.W.nsIn K mainGlobals "tuple" = some none) (zmin : PySem.W.nsIn K mainGlobals "min" = some none) (zmax : PySem.W.nsIn K mainGlobals "max" = some none) (zset : PySem.W.nsIn K mainGlobals "set" = some none) (zsorted : PySem.W.nsIn K mainGlobals "sorted" = some none) (zisinstance : PySem.W.nsIn K mainGlobals "isinstance" = some none) (zstr : PySem.W.nsIn K mainGlobals "str" = some none) (zbool : PySem.W.nsIn K mainGlobals "bool" = some none) (zall : PySem.W.nsIn K mainGlobals "all" = some none) (zsum : PySem.W.nsIn K mainGlobals "sum" = some none) (zenumerate : PySem.W.nsIn K mainGlobals "enumerate" = some none) :
    ∃ fd : FuncData, (∀ (s : Shared) (v : Value), BindsTo s fd ⟨[v], []⟩ [("script", v)]) ∧ ∀ base : Heap, K.In base → base.Ns mainGlobals mg → NoneBooked base → FnOk l.prog w K mg base CX0 9 fa fd ["script"] (spD K 1 RLaw) := by
  have e := hfa.symm.trans (PySem.W.mg_of X G al)
  cases e
  have T : Nam mg := ⟨PySem.W.mg_none_of X G zlen, PySem.W.mg_none_of X G zint, PySem.W.mg_none_of X G zrange, PySem.W.mg_none_of X G zlist, PySem.W.mg_none_of X G ztuple, PySem.W.mg_none_of X G zmin, PySem.W.mg_none_of X G zmax, PySem.W.mg_none_of X G zset, PySem.W.mg_none_of X G zsorted, PySem.W.mg_none_of X G zisinstance, PySem.W.mg_none_of X G zstr, PySem.W.mg_none_of X G zbool, PySem.W.mg_none_of X G zall, PySem.W.mg_none_of X G zsum, PySem.W.mg_none_of X G zenumerate⟩
  have MMOST_HALLS : ∃ t, mg "MOST_HALLS" = some (.int 60 t) := ⟨_, PySem.W.mg_of X G zMOST_HALLS⟩
  have GBadText := PySem.W.mg_of X G gBadText
  have EBadText := exm_me sBadText iBadText yBadText mBadText
  have TBadText := And.intro GBadText (And.intro xBadText (And.intro pBadText (And.intro sBadText yBadText)))
  have D_is_number : Dfn K mg "is_number" (top 7) ["value", "least", "most"] := A7.dfn X G fun _ _ _ _ _ _ us hl => match us, hl with | [_, _, _], _ => rfl
  have D_is_pair : Dfn K mg "is_pair" (top 8) ["halls", "value"] := A8.dfn X G fun _ _ _ _ _ _ us hl => match us, hl with | [_, _], _ => rfl
  have D_are_pairs : Dfn K mg "are_pairs" (top 9) ["halls", "value"] := A9.dfn X G fun _ _ _ _ _ _ us hl => match us, hl with | [_, _], _ => rfl
  have D_wrong_part : Dfn K mg "wrong_part" (top 10) ["value"] := A10.dfn X G fun _ _ _ _ _ _ us hl => match us, hl with | [_], _ => rfl
  have D_check_net : Dfn K mg "check_net" (top 11) ["value"] := A11.dfn X G fun _ _ _ _ _ _ us hl => match us, hl with | [_], _ => rfl
  have D_friend_rows : Dfn K mg "friend_rows" (top 13) ["net"] := A13.dfn X G fun _ _ _ _ _ _ us hl => match us, hl with | [_], _ => rfl
  have D_write_net : Dfn K mg "write_net" (top 15) ["net"] := A15.dfn X G fun _ _ _ _ _ _ us hl => match us, hl with | [_], _ => rfl
  have D_words_of : Dfn K mg "words_of" (top 16) ["line"] := A16.dfn X G fun _ _ _ _ _ _ us hl => match us, hl with | [_], _ => rfl
  have D_word_at : Dfn K mg "word_at" (top 17) ["line", "words", "place", "allowed"] := A17.dfn X G fun _ _ _ _ _ _ us hl => match us, hl with | [_, _, _, _], _ => rfl
  have D_number_at : Dfn K mg "number_at" (top 18) ["line", "words", "place", "least", "most"] := A18.dfn X G fun _ _ _ _ _ _ us hl => match us, hl with | [_, _, _, _, _], _ => rfl
  have D_read_halls : Dfn K mg "read_halls" (top 19) ["line", "words"] := A19.dfn X G fun _ _ _ _ _ _ us hl => match us, hl with | [_, _], _ => rfl
  have D_read_pairs : Dfn K mg "read_pairs" (top 20) ["line", "words", "least", "halls"] := A20.dfn X G fun _ _ _ _ _ _ us hl => match us, hl with | [_, _, _, _], _ => rfl
  have D_read_net : Dfn K mg "read_net" (top 21) ["text"] := A21.dfn X G fun _ _ _ _ _ _ us hl => match us, hl with | [_], _ => rfl
  have D__law_taken : Dfn K mg "_law_taken" (top 23) ["row", "many"] := A23.dfn X G fun _ _ _ _ _ _ us hl => match us, hl with | [_, _], _ => rfl
  have D__law_pick : Dfn K mg "_law_pick" (top 24) ["row", "things"] := A24.dfn X G fun _ _ _ _ _ _ us hl => match us, hl with | [_, _], _ => rfl
  have D__law_alike : Dfn K mg "_law_alike" (top 25) ["found", "due"] := A25.dfn X G fun _ _ _ _ _ _ us hl => match us, hl with | [_, _], _ => rfl
  have D__law_pairs : Dfn K mg "_law_pairs" (top 26) ["halls"] := A26.dfn X G fun _ _ _ _ _ _ us hl => match us, hl with | [_], _ => rfl
  have D__law_net : Dfn K mg "_law_net" (top 27) ["row", "most"] := A27.dfn X G fun _ _ _ _ _ _ us hl => match us, hl with | [_, _], _ => rfl
  have D__law_board : Dfn K mg "_law_board" (top 28) ["side"] := A28.dfn X G fun _ _ _ _ _ _ us hl => match us, hl with | [_], _ => rfl
  have D__law_loose : Dfn K mg "_law_loose" (top 29) ["row", "text"] := A29.dfn X G fun _ _ _ _ _ _ us hl => match us, hl with | [_, _], _ => rfl
  have D__law_refusal : Dfn K mg "_law_refusal" (top 30) ["text"] := A30.dfn X G fun _ _ _ _ _ _ us hl => match us, hl with | [_], _ => rfl
  have D__law_refused : Dfn K mg "_law_refused" (top 31) [] := A31.dfn X G fun _ _ _ _ _ _ us hl => match us, hl with | [], _ => rfl
  refine ⟨PySem.W.fnOf "law" "law" (defArgs sLaw) (defBody sLaw) (defScope sLaw) .none k0 e0 p0 a0 g0 t0, fun s v => .of_eq rfl, fun base _ _ bk => ?_⟩
  have GBL := PySem.W.mg_of X G gL
  have fIn : Fun K "__init__" "BadLine.__init__" sInit fI _ := fun_mk (st := sInit) lIn cIn kIn
  have oexB : OexC K bL := ⟨⟨_, _, _, _, _, _, _, _, _, _, _, _, _, _, _, lL, rL⟩, aL, sL, yL, pL⟩
  have IBL : BadL l.prog w K mg base bL := ⟨oexB, GBL, fI, _, nL, tL, ok_in2 fIn scInit oexB oLine oWord rfl (by decide) (by decide) (by decide) (by decide) rfl rfl rfl, fIn.binds fun _ _ _ _ _ _ us hl => match us, hl with | [_, _, _], _ => rfl⟩
  have MR : RefC K mg bL bBadText := ⟨GBL, GBadText, exm_me sL iL yL mL, PySem.W.exm_ref sL hdL yL uTL, EBadText, ⟨hgL, hkL, sL, hdL⟩, oLine, oWord⟩
  have cnumG := ok_numG (P := l.prog) (w := w) (base := base) T D_is_number
  have cNum := cnumG.imp fun _ _ h => rNum h
  have cpair := ok_pair T cNum D_is_pair
  have care := ok_are T cpair D_are_pairs
  have cwrong := ok_wrong T MMOST_HALLS cNum care D_wrong_part
  have cckNet := ok_ckNet T cwrong D_check_net
  have crows := ok_rows (P := l.prog) (w := w) (base := base) T D_friend_rows
  have cwrite := ok_write T cckNet crows D_write_net
  have cwords := ok_words (P := l.prog) (w := w) (base := base) D_words_of
  have cwordAt := ok_wordAt (P := l.prog) (w := w) (base := base) T D_word_at
  have cwordAtF := ok_wordAtF (P := l.prog) (w := w) (base := base) T IBL D_word_at
  have cnumAt := ok_numAt T cwordAt D_number_at
  have cnumAtF := ok_numAtF T cwordAtF D_number_at
  have creadH := ok_readH T MMOST_HALLS cwordAt cnumAt D_read_halls
  have creadHF := ok_readHF T MMOST_HALLS IBL cwordAt cnumAt cwordAtF cnumAtF D_read_halls
  have creadP := ok_readP T cwordAt cnumAt D_read_pairs
  have creadPF := ok_readPF T cwordAt cnumAt cwordAtF cnumAtF D_read_pairs
  have cread := ok_read T cwords creadH creadP D_read_net
  have creadF := ok_readF T IBL cwords creadH creadP creadHF creadPF D_read_net
  have creadT := ok_readT (P := l.prog) (w := w) (base := base) T TBadText D_read_net
  have ctaken := ok_taken (P := l.prog) (w := w) (base := base) T D__law_taken
  have cpick := ok_pick T ctaken D__law_pick
  have calike := ok_alike (P := l.prog) (w := w) (base := base) T D__law_alike 5
  have cpairs := ok_pairs (P := l.prog) (w := w) (base := base) T D__law_pairs
  have cnet := ok_net T ctaken cpairs D__law_net
  have cboard := ok_board T cpairs D__law_board
  have cpickR := pick_raw T ctaken D__law_pick
  have cloose := ok_loose cpickR bk cpick D__law_loose
  have crefused := ok_refused (P := l.prog) (w := w) (base := base) D__law_refused
  have crefusal := ok_refusal MR cread creadF creadT D__law_refusal
  exact ok_law T ⟨cpick, cnet, cboard, cwrite, cread, cloose, calike, crefusal, crefused⟩ (fun_mk (st := sLaw) ll cl kl)
theorem law_says {K : PySem.W.Frag} {H : Hp} {a : Addr} {ns : List Int} (hl : ns.length ≤ 63) (hs : SqL K H a (ns.map V.int)) {E : XK} : spD K 1 RLaw [.ref a] H (fun v _ => v = .bl true) E := by
  have e : cut H (fun _ => false) = H := by
    funext b
    unfold cut
    rw [if_neg Bool.false_ne_true]
  refine ⟨rfl, fun _ => false, [.list (iD ns)], .bool true, fun b q => (by cases q), .cons (.lst (by rw [e]; exact hs) dpa_ints) .nil, ⟨ns, hl, rfl, rfl⟩, fun v H' _ hv => ?_⟩
  cases hv
  rfl
theorem walk {l : PySem.W.OpenLaw} {q : Program} {loose : List Str} {XP : (Str → Option Value) → Heap → Prop} {YP : World → Heap → Prop} {d : DefRec} {K : Params → PySem.W.Frag} (hn : l.most = some 63) (hdf : d.params.defaults = [])
    (hY : ∀ (w : World) (h : Heap), YP w h → (K w.params).In h ∧ NoneBooked h)
    (F : ∀ (w : World) (mg : Str → Option Value) (fa : Addr) (h : Heap), (K w.params).In h → h.Ns mainGlobals mg → mg d.name = some (.ref fa) →
      ∃ fd : FuncData, (∀ (s : Shared) (u : Value), BindsTo s fd ⟨[u], []⟩ [("script", u)]) ∧ ∀ base : Heap, (K w.params).In base → base.Ns mainGlobals mg → NoneBooked base → FnOk l.prog w (K w.params) mg base CX0 9 fa fd ["script"] (spD (K w.params) 1 RLaw)) :
    PySem.W.WalkO q loose XP YP l.row.toRowW d [] (fun f vs => PySem.call f vs) := by
  refine Att.attach_call hn hdf fun w sA sB mg mb fa ob pm cd doc at0 vals ns Gr Yh e1 e2 e3 named e5 e6 short clean => ?_
  obtain ⟨KX, bk⟩ := hY w _ Yh
  obtain ⟨fd, bind, ok⟩ := F w mg fa _ KX Gr.T.g named
  exact law_booked KX Gr.T.g Gr.T.b Gr.T.builtins Gr.T.nolimit bk clean e5 e6 (Nat.le_trans short (by decide)) ⟨rfl, by decide, by decide⟩ ok bind fun H hS => law_says short hS
end K09

set_option Elab.async false
set_option linter.all false
local macro_rules | `(tactic| o_head ($_h:ident $k:term $a:term $e:term)) => `(tactic| o_head (NB.bookHook $k $a $e ()))
open PySem PySem.W PyProof.Rows in
set_option maxRecDepth 100000 in
set_option maxHeartbeats 0 in
theorem PySem.Challenge.cw_onefriend_k09_whole_texts_holds : PySem.Challenge.rw_onefriend_k09_whole_texts.Holds := by
  w_on; o_law; k_head; (case hw => w_witness2)
  k_fill
  refine K09.walk (l := PySem.Challenge.rw_onefriend_k09_whole_texts) rfl rfl (fun w h Y => Y) ?F
  case F =>
    intro w mg fa h KX G hmg
    refine' K09.all_mk KX G hmg (K09.at_mk ?a7 ?l7 ?c7 ?k7) (K09.at_mk ?a8 ?l8 ?c8 ?k8) (K09.at_mk ?a9 ?l9 ?c9 ?k9) (K09.at_mk ?a10 ?l10 ?c10 ?k10) (K09.at_mk ?a11 ?l11 ?c11 ?k11) (K09.at_mk ?a13 ?l13 ?c13 ?k13) (K09.at_mk ?a15 ?l15 ?c15 ?k15) (K09.at_mk ?a16 ?l16 ?c16 ?k16) (K09.at_mk ?a17 ?l17 ?c17 ?k17) (K09.at_mk ?a18 ?l18 ?c18 ?k18) (K09.at_mk ?a19 ?l19 ?c19 ?k19) (K09.at_mk ?a20 ?l20 ?c20 ?k20) (K09.at_mk ?a21 ?l21 ?c21 ?k21) (K09.at_mk ?a23 ?l23 ?c23 ?k23) (K09.at_mk ?a24 ?l24 ?c24 ?k24) (K09.at_mk ?a25 ?l25 ?c25 ?k25) (K09.at_mk ?a26 ?l26 ?c26 ?k26) (K09.at_mk ?a27 ?l27 ?c27 ?k27) (K09.at_mk ?a28 ?l28 ?c28 ?k28) (K09.at_mk ?a29 ?l29 ?c29 ?k29) (K09.at_mk ?a30 ?l30 ?c30 ?k30) (K09.at_mk ?a31 ?l31 ?c31 ?k31) ?al ?ll ?cl ?kl ?zMOST_HALLS ?gBadText ?xBadText ?pBadText ?sBadText ?yBadText ?iBadText ?mBadText ?gL ?lL ?rL ?aL ?sL ?yL ?pL ?iL ?mL ?uTL ?nL ?tL ?lIn ?cIn ?kIn ?oLine ?oWord ?hgL ?hkL ?hdL ?zlen ?zint ?zrange ?zlist ?ztuple ?zmin ?zmax ?zset ?zsorted ?zisinstance ?zstr ?zbool ?zall ?zsum ?zenumerate
    (case a7 => k_is)
    (case l7 => k_is)
    (case c7 => k_is)
    (case k7 => k_is)
    (case a8 => k_is)
    (case l8 => k_is)
    (case c8 => k_is)
    (case k8 => k_is)
    (case a9 => k_is)
    (case l9 => k_is)
    (case c9 => k_is)
    (case k9 => k_is)
    (case a10 => k_is)
    (case l10 => k_is)
    (case c10 => k_is)
    (case k10 => k_is)
    (case a11 => k_is)
    (case l11 => k_is)
    (case c11 => k_is)
    (case k11 => k_is)
    (case a13 => k_is)
    (case l13 => k_is)
    (case c13 => k_is)
    (case k13 => k_is)
    (case a15 => k_is)
    (case l15 => k_is)
    (case c15 => k_is)
    (case k15 => k_is)
    (case a16 => k_is)
    (case l16 => k_is)
    (case c16 => k_is)
    (case k16 => k_is)
    (case a17 => k_is)
    (case l17 => k_is)
    (case c17 => k_is)
    (case k17 => k_is)
    (case a18 => k_is)
    (case l18 => k_is)
    (case c18 => k_is)
    (case k18 => k_is)
    (case a19 => k_is)
    (case l19 => k_is)
    (case c19 => k_is)
    (case k19 => k_is)
    (case a20 => k_is)
    (case l20 => k_is)
    (case c20 => k_is)
    (case k20 => k_is)
    (case a21 => k_is)
    (case l21 => k_is)
    (case c21 => k_is)
    (case k21 => k_is)
    (case a23 => k_is)
    (case l23 => k_is)
    (case c23 => k_is)
    (case k23 => k_is)
    (case a24 => k_is)
    (case l24 => k_is)
    (case c24 => k_is)
    (case k24 => k_is)
    (case a25 => k_is)
    (case l25 => k_is)
    (case c25 => k_is)
    (case k25 => k_is)
    (case a26 => k_is)
    (case l26 => k_is)
    (case c26 => k_is)
    (case k26 => k_is)
    (case a27 => k_is)
    (case l27 => k_is)
    (case c27 => k_is)
    (case k27 => k_is)
    (case a28 => k_is)
    (case l28 => k_is)
    (case c28 => k_is)
    (case k28 => k_is)
    (case a29 => k_is)
    (case l29 => k_is)
    (case c29 => k_is)
    (case k29 => k_is)
    (case a30 => k_is)
    (case l30 => k_is)
    (case c30 => k_is)
    (case k30 => k_is)
    (case a31 => k_is)
    (case l31 => k_is)
    (case c31 => k_is)
    (case k31 => k_is)
    (case al => k_is)
    (case ll => k_is)
    (case cl => k_is)
    (case kl => k_is)
    (case zMOST_HALLS => k_is)
    (case gBadText => k_is)
    (case xBadText => k_exc)
    (case pBadText => k_is)
    (case sBadText => k_is)
    (case yBadText => k_is)
    (case iBadText => k_is)
    (case mBadText => first | rfl | k_is)
    (case gL => k_is)
    (case lL => k_is)
    (case rL => first | rfl | decide +kernel | k_is)
    (case aL => k_is)
    (case sL => k_is)
    (case yL => k_is)
    (case pL => k_is)
    (case iL => k_is)
    (case mL => k_is)
    (case uTL => k_is)
    (case nL => k_is)
    (case tL => k_is)
    (case lIn => k_is)
    (case cIn => k_is)
    (case kIn => k_is)
    (case oLine => k_is)
    (case oWord => k_is)
    (case hgL => k_is)
    (case hkL => k_is)
    (case hdL => k_is)
    (case zlen => k_is)
    (case zint => k_is)
    (case zrange => k_is)
    (case zlist => k_is)
    (case ztuple => k_is)
    (case zmin => k_is)
    (case zmax => k_is)
    (case zset => k_is)
    (case zsorted => k_is)
    (case zisinstance => k_is)
    (case zstr => k_is)
    (case zbool => k_is)
    (case zall => k_is)
    (case zsum => k_is)
    (case zenumerate => k_is)

