import PyProof.Rows.All
import Wide.All
import OpenK.AllK
import Wide.FinOn
import PyProof.EqAt
import PyProof.EqKinds
import PyProof.TupleCall
import HandS.ForMost
import HandS.Property
import HandS.Star
import HandS.IsInst
import HandS.Zip
import HandS.ExcInit
import HandS.ExcValue
import HandS.Lambda
import HandS.SlotsOwn
import HandS.ClsMeth
import KE.GoesMore
import HandS.TupAny
import HandS.TupMul
import KE.KDictZip
import HandS.Style
import HandS.ExcField
import HandS.ExcIs
import KE.KExcInit
import KE.KExcIs
import HandS.MakeKw
import HandS.MakeKwOnly
import HandS.Ends
import HandS.Iter
import HandS.Wide
import HandS.RaiseMore
import HandS.TryMany
import HandS.WordsExc
import HandS.EndTab
import OpenK.KMeth
import OpenK.KOps
import PyProof.P3In
import HandS.Deep
import HandS.GenBody
import HandS.GenYield
import HandS.GenCall
import HandS.GenList
import PyProof.StrOps2
import HandS.SetFor
import HandS.Strs
import HandS.SortKw
import HandS.Rev
import HandS.DictComp
import KE.DatumIndex
import KE.SortData
import HandS.TupSets
import HandS.Defaults
import PySem.Challenge.RW_leastreads_k05_whole_spaces_joined_and_m
import KE.RegKIsAll
set_option Elab.async false
set_option linter.all false
set_option maxRecDepth 100000
/-! Readings over pure data: values without addresses; changeable objects by number. -/
namespace Pd
open PySem PySem.Spec PyProof.Rows L2

/-- data; mut k is the k-th changeable object; ob a an object of the text (a class, a def) -/
inductive D where
  | non | bl (b : Bool) | int (i : Int) | str (x : Str) | lst (ds : List D) | tup (ds : List D) | ins (C : Addr) (fs : List (Str × D)) | mu (k : Nat) | ob (a : Addr)
  | ty (n : String) | exc (C : Addr) (fs : List (Str × D)) | dic (ks : List Key) (ds : List D) | dit (ks : List (List Key)) (ds : List D) | tfz (ns : List Int)
/-- what a changeable object holds -/
inductive MO where
  | lst (ds : List D) | ins (C : Addr) (fs : List (Str × D)) | tab (P : Addr) (q : Str) | dic (ks : List Key) (ds : List D) | dit (ks : List (List Key)) (ds : List D)
abbrev Ms := List MO
abbrev Rho := List (Option D)

section
variable (K : PySem.W.Frag) (as : List Addr) (H : Hp)
mutual
inductive Rp : V → D → Prop
  | non : Rp .non .non
  | bl (b : Bool) : Rp (.bl b) (.bl b)
  | int (i : Int) : Rp (.int i) (.int i)
  | str (x : Str) : Rp (.str x) (.str x)
  | lst {a : Addr} {xs : List V} {ds : List D} : SqL K H a xs → RpA xs ds → Rp (.ref a) (.lst ds)
  | tup {a : Addr} {xs : List V} {ds : List D} : SqT K H a xs → RpA xs ds → Rp (.ref a) (.tup ds)
  | ins {a C dx : Addr} {fs : List (Str × V)} {gs : List (Str × D)} : H a = some (.ins C dx fs) → RpF fs gs → Rp (.ref a) (.ins C gs)
  | mu {a : Addr} {k : Nat} : as[k]? = some a → Rp (.ref a) (.mu k)
  | ob (a : Addr) : Rp (.ref a) (.ob a)
  | ty (n : String) : Rp (.ty n) (.ty n)
  | exc {a C dx : Addr} {fs : List (Str × V)} {gs : List (Str × D)} : H a = some (exo a C (some dx)) → H dx = some (exd dx fs) → RpF fs gs → Rp (.ref a) (.exc C gs)
  | exc0 {a C : Addr} : H a = some (ExO (.ref C) a) → Rp (.ref a) (.exc C [])
  | dic {a : Addr} {ks : List Key} {vs : List V} {ds : List D} : (∃ o, H a = some (.frz o (.dK (ks.zip vs)))) → ks.length = vs.length → RpA vs ds → Rp (.ref a) (.dic ks ds)
  | dit {a : Addr} {ks : List (List Key)} {vs : List V} {ds : List D} : H a = some (.dT (ks.zip vs)) → ks.length = vs.length → RpA vs ds → Rp (.ref a) (.dit ks ds)
  | tfz {a : Addr} {ns : List Int} : (∃ o, H a = some (.frz o (.tup (ns.map V.int))) ∧ o.cls = .type "tuple" ∧ o.dict = none) → Rp (.ref a) (.tfz ns)
inductive RpA : List V → List D → Prop
  | nil : RpA [] []
  | cons {v : V} {vs : List V} {d : D} {ds : List D} : Rp v d → RpA vs ds → RpA (v :: vs) (d :: ds)
inductive RpF : List (Str × V) → List (Str × D) → Prop
  | nil : RpF [] []
  | cons {f : Str} {v : V} {fs : List (Str × V)} {d : D} {gs : List (Str × D)} : Rp v d → RpF fs gs → RpF ((f, v) :: fs) ((f, d) :: gs)
end
end

/-- all that is known stays -/
def Ex (H H' : Hp) : Prop := ∀ a o, H a = some o → H' a = some o
theorem Ex.refl (H : Hp) : Ex H H := fun _ _ h => h
theorem Ex.trans {H H1 H2 : Hp} (a : Ex H H1) (b : Ex H1 H2) : Ex H H2 := fun x o h => b x o (a x o h)
theorem Ex.new {H : Hp} {p : Addr} {o : HO} (h : H p = none) : Ex H (upd H p o) := fun a u e => by
  rw [upd_ne (ne_of_none e h)]
  exact e
theorem ex_rd {H H' : Hp} {a : Addr} {u : HO} (e : Ex H H') (h : Rd H a u) : Rd H' a u := by
  rcases h with h | ⟨o, h⟩
  · exact Or.inl (e a _ h)
  · exact Or.inr ⟨o, e a _ h⟩
theorem ex_l {K : PySem.W.Frag} {H H' : Hp} {a : Addr} {xs : List V} (e : Ex H H') (h : SqL K H a xs) : SqL K H' a xs := by
  rcases h with h | h
  · exact Or.inl (ex_rd e h)
  · exact Or.inr h
theorem ex_t {K : PySem.W.Frag} {H H' : Hp} {a : Addr} {xs : List V} (e : Ex H H') (h : SqT K H a xs) : SqT K H' a xs := by
  rcases h with h | h
  · exact Or.inl (ex_rd e h)
  · exact Or.inr h

section
variable {K : PySem.W.Frag} {as bs : List Addr} {H H' : Hp}
/-- more changeable objects stand behind -/
def Pre (as bs : List Addr) : Prop := ∀ (k : Nat) (a : Addr), as[k]? = some a → bs[k]? = some a
theorem Pre.refl (as : List Addr) : Pre as as := fun _ _ h => h
theorem Pre.trans {as bs cs : List Addr} (a : Pre as bs) (b : Pre bs cs) : Pre as cs := fun k x h => b k x (a k x h)
mutual
theorem Rp.mono (e : Ex H H') (p : Pre as bs) : ∀ {v : V} {d : D}, Rp K as H v d → Rp K bs H' v d
  | _, _, .non => .non
  | _, _, .bl b => .bl b
  | _, _, .int i => .int i
  | _, _, .str x => .str x
  | _, _, .lst h r => .lst (ex_l e h) (RpA.mono e p r)
  | _, _, .tup h r => .tup (ex_t e h) (RpA.mono e p r)
  | _, _, .ins h r => .ins (e _ _ h) (RpF.mono e p r)
  | _, _, .mu h => .mu (p _ _ h)
  | _, _, .ob a => .ob a
  | _, _, .ty n => .ty n
  | _, _, .exc h1 h2 r => .exc (e _ _ h1) (e _ _ h2) (RpF.mono e p r)
  | _, _, .exc0 h => .exc0 (e _ _ h)
  | _, _, .dic h l r => .dic (let ⟨o, q⟩ := h; ⟨o, e _ _ q⟩) l (RpA.mono e p r)
  | _, _, .dit h l r => .dit (e _ _ h) l (RpA.mono e p r)
  | _, _, .tfz h => .tfz (let ⟨o, q, n⟩ := h; ⟨o, e _ _ q, n⟩)
theorem RpA.mono (e : Ex H H') (p : Pre as bs) : ∀ {vs : List V} {ds : List D}, RpA K as H vs ds → RpA K bs H' vs ds
  | _, _, .nil => .nil
  | _, _, .cons r t => .cons (Rp.mono e p r) (RpA.mono e p t)
theorem RpF.mono (e : Ex H H') (p : Pre as bs) : ∀ {fs : List (Str × V)} {gs : List (Str × D)}, RpF K as H fs gs → RpF K bs H' fs gs
  | _, _, .nil => .nil
  | _, _, .cons r t => .cons (Rp.mono e p r) (RpF.mono e p t)
end
theorem RpA.length : ∀ {vs : List V} {ds : List D}, RpA K as H vs ds → vs.length = ds.length
  | _, _, .nil => rfl
  | _, _, .cons _ t => congrArg (· + 1) t.length
theorem RpA.get : ∀ {vs : List V} {ds : List D} {i : Nat} {d : D}, RpA K as H vs ds → ds[i]? = some d → ∃ v, vs[i]? = some v ∧ Rp K as H v d
  | _, _, _, _, .nil, e => by simp at e
  | _, _, 0, _, .cons r _, e => by simp at e; subst e; exact ⟨_, rfl, r⟩
  | _, _, i + 1, d, .cons _ t, e => by
    obtain ⟨v, h1, h2⟩ := RpA.get (i := i) (d := d) t (by simpa using e)
    exact ⟨v, by simpa using h1, h2⟩
theorem RpA.getV : ∀ {vs : List V} {ds : List D} {i : Nat} {v : V}, RpA K as H vs ds → vs[i]? = some v → ∃ d, ds[i]? = some d ∧ Rp K as H v d
  | _, _, _, _, .nil, e => by simp at e
  | _, _, 0, _, .cons r _, e => by simp at e; subst e; exact ⟨_, rfl, r⟩
  | _, _, i + 1, d, .cons _ t, e => by
    obtain ⟨v, h1, h2⟩ := RpA.getV (i := i) (v := d) t (by simpa using e)
    exact ⟨v, by simpa using h1, h2⟩
theorem RpA.append : ∀ {vs ws : List V} {ds es : List D}, RpA K as H vs ds → RpA K as H ws es → RpA K as H (vs ++ ws) (ds ++ es)
  | _, _, _, _, .nil, s => s
  | _, _, _, _, .cons r t, s => .cons r (RpA.append t s)
theorem RpA.one {v : V} {d : D} (r : Rp K as H v d) : RpA K as H [v] [d] := .cons r .nil
theorem RpF.look : ∀ {fs : List (Str × V)} {gs : List (Str × D)} {f : Str} {d : D}, RpF K as H fs gs → gs.lookup f = some d → ∃ v, fs.lookup f = some v ∧ Rp K as H v d
  | _, _, _, _, .nil, e => by simp at e
  | (g, v) :: fs, _, f, d, .cons (gs := gs) (d := dd) r t, e => by
    rw [List.lookup_cons] at e ⊢
    cases q : f == g with
    | true => rw [q] at e; cases e; exact ⟨_, rfl, r⟩
    | false => rw [q] at e; exact RpF.look t e
theorem RpF.lookN : ∀ {fs : List (Str × V)} {gs : List (Str × D)} {f : Str}, RpF K as H fs gs → gs.lookup f = none → fs.lookup f = none
  | _, _, _, .nil, e => rfl
  | (g, v) :: fs, _, f, .cons (gs := gs) (d := dd) r t, e => by
    rw [List.lookup_cons] at e ⊢
    cases q : f == g with
    | true => rw [q] at e; cases e
    | false => rw [q] at e; exact RpF.lookN t e
theorem RpF.length : ∀ {fs : List (Str × V)} {gs : List (Str × D)}, RpF K as H fs gs → fs.length = gs.length
  | _, _, .nil => rfl
  | _, _, .cons _ t => congrArg (· + 1) t.length
end

/-- the object at o holds m -/
inductive Ro (K : PySem.W.Frag) (as : List Addr) (H : Hp) : HO → MO → Prop
  | lst {xs : List V} {ds : List D} : RpA K as H xs ds → Ro K as H (.lst xs) (.lst ds)
  | ins {C dx : Addr} {fs : List (Str × V)} {gs : List (Str × D)} : RpF K as H fs gs → Ro K as H (.ins C dx fs) (.ins C gs)
  | tab {ps : Array Value} {P : Addr} {q : Str} : Ro K as H (.tbl ps) (.tab P q)
  | dic {ks : List Key} {vs : List V} {ds : List D} : ks.length = vs.length → RpA K as H vs ds → Ro K as H (.dK (ks.zip vs)) (.dic ks ds)
  | dit {ks : List (List Key)} {vs : List V} {ds : List D} : ks.length = vs.length → RpA K as H vs ds → Ro K as H (.dT (ks.zip vs)) (.dit ks ds)
theorem Ro.mono {K : PySem.W.Frag} {as bs : List Addr} {H H' : Hp} {o : HO} {m : MO} (e : Ex H H') (p : Pre as bs) (r : Ro K as H o m) : Ro K bs H' o m := by
  cases r with
  | lst r => exact .lst (r.mono e p)
  | ins r => exact .ins (r.mono e p)
  | tab => exact .tab
  | dic l r => exact .dic l (r.mono e p)
  | dit l r => exact .dit l (r.mono e p)

/-- the table of code objects at a: what it tells bears the name q -/
def TabOk (H : Hp) (a : Addr) : HO → MO → Prop
  | .tbl ps, .tab P q => a = P ∧ TriplesOk ps.toList ∧ ∀ (pos : Pos) (cv : Value), codeAmong pos ps.toList = some cv → ∃ c, cv = .ref c ∧ H c = some (LamX.CodeO c q)
  | _, _ => True
/-- code objects stay -/
def KeepC (H H' : Hp) : Prop := ∀ c q, H c = some (LamX.CodeO c q) → H' c = some (LamX.CodeO c q)
theorem KeepC.refl (H : Hp) : KeepC H H := fun _ _ h => h
theorem KeepC.trans {H H1 H2 : Hp} (a : KeepC H H1) (b : KeepC H1 H2) : KeepC H H2 := fun c q h => b c q (a c q h)
theorem KeepC.of {H H' : Hp} (e : ∀ a o, H a = some o → H' a = some o) : KeepC H H' := fun c q h => e c _ h
theorem KeepC.new {H : Hp} {p : Addr} {o : HO} (h : H p = none) : KeepC H (upd H p o) := fun c q e => by
  rw [upd_ne (ne_of_none e h)]; exact e
def isExt : HO → Bool | .ext _ => true | _ => false
theorem KeepC.over {H : Hp} {p : Addr} {o u : HO} (h : H p = some u) (n : isExt u = false) : KeepC H (upd H p o) := fun c q e => by
  refine (upd_ne fun z => ?_).trans e
  rw [z, h] at e
  cases e
  cases n
theorem TabOk.keep {H H' : Hp} {a : Addr} {o : HO} {m : MO} (k : KeepC H H') (h : TabOk H a o m) : TabOk H' a o m := by
  cases o with
  | tbl ps =>
    cases m with
    | tab P q =>
      obtain ⟨h1, h2, h3⟩ := h
      refine ⟨h1, h2, fun pos cv hc => ?_⟩
      obtain ⟨c, h4, h5⟩ := h3 pos cv hc
      exact ⟨c, h4, k _ _ h5⟩
    | _ => trivial
  | _ => trivial
theorem Ro.noExt {K : PySem.W.Frag} {as : List Addr} {H : Hp} {o : HO} {m : MO} (r : Ro K as H o m) : isExt o = false := by cases r <;> rfl
def NoTab (L : Hp) : Prop := ∀ a ps, L a ≠ some (.tbl ps)
theorem NoTab.new {L : Hp} {p : Addr} {o : HO} (n : NoTab L) (h : ∀ ps, o ≠ .tbl ps) : NoTab (upd L p o) := fun a ps e => by
  by_cases z : a = p
  · rw [z, upd_same] at e; cases e; exact h ps rfl
  · rw [upd_ne z] at e; exact n a ps e
/-- L: what is known for good; H: the heap; as: where the changeable objects stand, M: what they hold -/
structure At (K : PySem.W.Frag) (as : List Addr) (M : Ms) (L H : Hp) : Prop where
  low : Ex L H
  len : as.length = M.length
  nd : as.Nodup
  mo : ∀ (k : Nat) (a : Addr) (m : MO), as[k]? = some a → M[k]? = some m → L a = none ∧ ∃ o, H a = some o ∧ Ro K as L o m ∧ TabOk H a o m
  nt : NoTab L
theorem At.held {K : PySem.W.Frag} {as : List Addr} {M : Ms} {L H : Hp} (A : At K as M L H) {a : Addr} (h : a ∈ as) : L a = none ∧ H a ≠ none := by
  obtain ⟨k, hk, e⟩ := List.getElem_of_mem h
  have e1 : as[k]? = some a := by rw [List.getElem?_eq_getElem hk, e]
  have hm : k < M.length := by rw [← A.len]; exact hk
  obtain ⟨h1, o, h2, _⟩ := A.mo k a _ e1 (List.getElem?_eq_getElem hm)
  exact ⟨h1, by rw [h2]; simp⟩

/-- a step: known things stay, hidden things stay hidden; bs: the changeable objects behind it -/
structure Step (as : List Addr) (L H : Hp) (bs : List Addr) (L' H' : Hp) : Prop where
  up : ∀ a o, a ∉ as → H a = some o → H' a = some o
  k : Ex L L'
  hid : ∀ a, L a = none → H a ≠ none → L' a = none
  pre : Pre as bs
  new : ∀ a ∈ bs, a ∈ as ∨ H a = none
theorem Step.refl {as : List Addr} {L H : Hp} : Step as L H as L H := ⟨fun _ _ _ h => h, Ex.refl _, fun _ h _ => h, Pre.refl _, fun _ h => .inl h⟩
theorem Step.trans {K : PySem.W.Frag} {as bs cs : List Addr} {M1 : Ms} {L H L1 H1 L2 H2 : Hp} (s : Step as L H bs L1 H1) (A1 : At K bs M1 L1 H1) (t : Step bs L1 H1 cs L2 H2) : Step as L H cs L2 H2 := by
  have there : ∀ a, H a ≠ none → H1 a ≠ none := fun a h => by
    by_cases ha : a ∈ as
    · obtain ⟨k, hk, e⟩ := List.getElem_of_mem ha
      have e1 : as[k]? = some a := by rw [List.getElem?_eq_getElem hk, e]
      have e2 := s.pre k a e1
      exact (A1.held (List.mem_of_getElem? e2)).2
    · cases q : H a with
      | none => exact absurd q h
      | some o => rw [s.up a o ha q]; simp
  refine ⟨fun a o ha h => ?_, s.k.trans t.k, fun a h h' => t.hid a (s.hid a h h') (there a h'), s.pre.trans t.pre, fun a ha => ?_⟩
  · have h1 := s.up a o ha h
    refine t.up a o (fun hb => ?_) h1
    rcases s.new a hb with z | z
    · exact ha z
    · rw [h] at z; cases z
  · rcases t.new a ha with z | z
    · exact s.new a z
    · right
      cases q : H a with
      | none => rfl
      | some o => exact absurd z (there a (by rw [q]; simp))
theorem Step.sub {as bs : List Addr} {L H L1 H1 : Hp} (s : Step as L H bs L1 H1) : Step as L H as L1 H1 := ⟨s.up, s.k, s.hid, Pre.refl _, fun _ h => .inl h⟩

/-- a new thing that is known for good -/
theorem At.know {K : PySem.W.Frag} {as : List Addr} {M : Ms} {L H : Hp} {p : Addr} {o : HO} (A : At K as M L H) (hp : H p = none) (ho : ∀ ps, o ≠ .tbl ps := by first | (intro ps z; cases z) | (intro ps z; unfold exo at z; cases z) | (intro ps z; unfold exd at z; cases z) | (intro ps z; unfold ExO at z; cases z)) : At K as M (upd L p o) (upd H p o) := by
  refine ⟨fun a u h => ?_, A.len, A.nd, fun k a m h1 h2 => ?_, A.nt.new ho⟩
  · by_cases e : a = p
    · subst e; rw [upd_same] at h ⊢; exact h
    · rw [upd_ne e] at h ⊢; exact A.low a u h
  · obtain ⟨h3, o', h4, h5⟩ := A.mo k a m h1 h2
    have e : a ≠ p := ne_of_none h4 hp
    have lp : L p = none := by
      cases q : L p with
      | none => rfl
      | some u => rw [A.low p u q] at hp; cases hp
    exact ⟨by rw [upd_ne e]; exact h3, o', by rw [upd_ne e]; exact h4, h5.1.mono (Ex.new lp) (Pre.refl _), h5.2.keep (KeepC.new hp)⟩
theorem Step.know {K : PySem.W.Frag} {as : List Addr} {M : Ms} {L H : Hp} {p : Addr} {o : HO} (A : At K as M L H) (hp : H p = none) : Step as L H as (upd L p o) (upd H p o) := by
  have lp : L p = none := by
    cases q : L p with
    | none => rfl
    | some u => rw [A.low p u q] at hp; cases hp
  refine ⟨fun a u _ h => ?_, Ex.new lp, fun a h h' => ?_, Pre.refl _, fun _ h => .inl h⟩
  · rw [upd_ne (ne_of_none h hp)]; exact h
  · have e : a ≠ p := fun z => h' (by rw [z]; exact hp)
    rw [upd_ne e]; exact h

/-- the slots -/
structure En (K : PySem.W.Frag) (as : List Addr) (L : Hp) (σ : L2.St) (ρ : Rho) : Prop where
  len : σ.length = ρ.length
  at_ : ∀ (i : Nat) (d : D), ρ[i]? = some (some d) → ∃ v, σ[i]? = some (some v) ∧ Rp K as L v d
theorem En.mono {K : PySem.W.Frag} {as bs : List Addr} {L L' : Hp} {σ : L2.St} {ρ : Rho} (e : Ex L L') (p : Pre as bs) (h : En K as L σ ρ) : En K bs L' σ ρ :=
  ⟨h.len, fun i d q => let ⟨v, h1, h2⟩ := h.at_ i d q; ⟨v, h1, h2.mono e p⟩⟩
theorem En.set {K : PySem.W.Frag} {as : List Addr} {L : Hp} {σ : L2.St} {ρ : Rho} {v : V} {d : D} (i : Nat) (h : En K as L σ ρ) (r : Rp K as L v d) : En K as L (σ.set i (some v)) (ρ.set i (some d)) := by
  refine ⟨by rw [List.length_set, List.length_set]; exact h.len, fun j e q => ?_⟩
  rw [List.getElem?_set] at q ⊢
  by_cases hj : i = j
  · subst hj
    rw [if_pos rfl] at q ⊢
    rw [h.len]
    split at q
    · rename_i hl
      rw [if_pos hl]
      cases q
      exact ⟨v, rfl, r⟩
    · cases q
  · rw [if_neg hj] at q ⊢
    exact h.at_ j e q

/-! ### readings over data -/
abbrev DE := Rho → Ms → (D → Ms → Prop) → Prop
abbrev DT := Rho → Ms → (Bool → Ms → Prop) → Prop
abbrev DA := Rho → Ms → (List D → Ms → Prop) → Prop
def SimE (K : PySem.W.Frag) (te : TE) (t : DE) : Prop := ∀ as σ ρ L H M P Q, En K as L σ ρ → At K as M L H → t ρ M P →
  (∀ v d L' H' M', Step as L H as L' H' → At K as M' L' H' → P d M' → Rp K as L' v d → Q v H') → te σ H Q
def SimT (K : PySem.W.Frag) (te : TT) (t : DT) : Prop := ∀ as σ ρ L H M P Q, En K as L σ ρ → At K as M L H → t ρ M P →
  (∀ b L' H' M', Step as L H as L' H' → At K as M' L' H' → P b M' → Q b H') → te σ H Q
def SimA (K : PySem.W.Frag) (te : TA) (t : DA) : Prop := ∀ as σ ρ L H M P Q, En K as L σ ρ → At K as M L H → t ρ M P →
  (∀ vs ds L' H' M', Step as L H as L' H' → At K as M' L' H' → P ds M' → RpA K as L' vs ds → Q vs H') → te σ H Q
structure PD (X : Cx) (e : Expr) (t : DE) : Prop where
  ex : ∃ te, PE X e te ∧ SimE X.K te t
structure PDT (X : Cx) (e : Expr) (t : DT) : Prop where
  ex : ∃ te, PT X e te ∧ SimT X.K te t
structure PDW (X : Cx) (e : Expr) (t : DT) : Prop where
  ex : ∃ te, PW X e te ∧ SimT X.K te t
structure PDA (X : Cx) (es : List Expr) (t : DA) : Prop where
  ex : ∃ te, PA X es te ∧ SimA X.K te t

section
variable {X : Cx} {a b c e : Expr} {es : List Expr} {ta tb tc : DE} {pos : Pos}
@[simp] def dVar (i : Nat) : DE := fun ρ M P => ∃ d, ρ[i]? = some (some d) ∧ P d M
theorem pd_name (i : Nat) {x : Str} (hN : X.N[i]? = some x := by rfl) (hv : Vis X.env.scope x := by first | exact Or.inl rfl | exact Or.inr (Or.inl rfl) | exact Or.inr (Or.inr rfl)) (hd : (x == ("__debug__" : Str)) = false := by decide)
    (hcd : (x == ("__classdict__" : Str)) = false := by decide) : PD X (.Name x pos) (dVar i) :=
  ⟨_, pv i hN hv hd hcd, fun as σ ρ L H M P Q hE A ⟨d, hd, p⟩ q => by
    obtain ⟨v, h1, h2⟩ := hE.at_ i d hd
    exact ⟨v, h1, q v d L H M .refl A p h2⟩⟩
@[simp] def dC (d : D) : DE := fun _ M P => P d M
theorem pd_int {i j} : PD X (.Constant (.int i) j pos) (dC (.int i)) := ⟨_, pe_int, fun as σ ρ L H M P Q hE A p q => q _ _ L H M .refl A p (.int i)⟩
theorem pd_bl {b j} : PD X (.Constant (.bool b) j pos) (dC (.bl b)) := ⟨_, pe_bl, fun as σ ρ L H M P Q hE A p q => q _ _ L H M .refl A p (.bl b)⟩
theorem pd_non {j} : PD X (.Constant .none j pos) (dC .non) := ⟨_, pe_non, fun as σ ρ L H M P Q hE A p q => q _ _ L H M .refl A p .non⟩
theorem pd_str {x j} : PD X (.Constant (.str x) j pos) (dC (.str x)) := ⟨_, pe_str, fun as σ ρ L H M P Q hE A p q => q _ _ L H M .refl A p (.str x)⟩

/-! two-place operations -/
abbrev D2 := D → D → Ms → (D → Ms → Prop) → Prop
abbrev D1 := D → Ms → (D → Ms → Prop) → Prop
abbrev DC := List D → Ms → (D → Ms → Prop) → Prop
def SimR (K : PySem.W.Frag) (r : R2) (o : D2) : Prop := ∀ as L H M x y d e P Q, At K as M L H → Rp K as L x d → Rp K as L y e → o d e M P →
  (∀ v z L' H' M', Step as L H as L' H' → At K as M' L' H' → P z M' → Rp K as L' v z → Q v H') → r x y H Q
def SimU (K : PySem.W.Frag) (r : V → Hp → VK → Prop) (o : D1) : Prop := ∀ as L H M x d P Q, At K as M L H → Rp K as L x d → o d M P →
  (∀ v z L' H' M', Step as L H as L' H' → At K as M' L' H' → P z M' → Rp K as L' v z → Q v H') → r x H Q
def SimC (K : PySem.W.Frag) (r : List V → Hp → VK → Prop) (o : DC) : Prop := ∀ as L H M xs ds P Q, At K as M L H → RpA K as L xs ds → o ds M P →
  (∀ v z L' H' M', Step as L H as L' H' → At K as M' L' H' → P z M' → Rp K as L' v z → Q v H') → r xs H Q
@[simp] def d2 (o : D2) (ta tb : DE) : DE := fun ρ M P => ta ρ M fun x M1 => tb ρ M1 fun y M2 => o x y M2 P
@[simp] def d1 (o : D1) (ta : DE) : DE := fun ρ M P => ta ρ M fun x M1 => o x M1 P
theorem sim_op {K : PySem.W.Frag} {r : R2} {o : D2} {ua ub : TE} (hr : SimR K r o) (ha : SimE K ua ta) (hb : SimE K ub tb) : SimE K (tOp r ua ub) (d2 o ta tb) := by
  intro as σ ρ L H M P Q hE A h q
  refine ha as σ ρ L H M _ _ hE A h fun x d L1 H1 M1 s1 A1 h1 r1 => ?_
  refine hb as σ ρ L1 H1 M1 _ _ (hE.mono s1.k s1.pre) A1 h1 fun y e L2 H2 M2 s2 A2 h2 r2 => ?_
  refine hr as L2 H2 M2 x y d e P Q A2 (r1.mono s2.k s2.pre) r2 h2 fun v z L3 H3 M3 s3 A3 h3 r3 => ?_
  exact q v z L3 H3 M3 (s1.trans A1 (s2.trans A2 s3)) A3 h3 r3
theorem sim_un {K : PySem.W.Frag} {r : V → Hp → VK → Prop} {o : D1} {ua : TE} (hr : SimU K r o) (ha : SimE K ua ta) : SimE K (tUn r ua) (d1 o ta) := by
  intro as σ ρ L H M P Q hE A h q
  refine ha as σ ρ L H M _ _ hE A h fun x d L1 H1 M1 s1 A1 h1 r1 => ?_
  refine hr as L1 H1 M1 x d P Q A1 r1 h1 fun v z L3 H3 M3 s3 A3 h3 r3 => ?_
  exact q v z L3 H3 M3 (s1.trans A1 s3) A3 h3 r3
theorem pd_op {op : Operator} {r : R2} {o : D2} (ho : OpR X (binaryOp op) r) (hr : SimR X.K r o) (ha : PD X a ta) (hb : PD X b tb) : PD X (.BinOp a op b pos) (d2 o ta tb) := by
  obtain ⟨ua, pa, sa⟩ := ha.ex
  obtain ⟨ub, pb, sb⟩ := hb.ex
  exact ⟨_, pe_op ho pa pb, sim_op hr sa sb⟩
theorem pd_un {op : UnaryOp} {r : V → Hp → VK → Prop} {o : D1} (ho : UnR X (unaryOp op) r) (hr : SimU X.K r o) (ha : PD X a ta) : PD X (.UnaryOp op a pos) (d1 o ta) := by
  obtain ⟨ua, pa, sa⟩ := ha.ex
  exact ⟨_, pe_un ho pa, sim_un hr sa⟩
theorem pd_cmp {op : CmpOp} {r : R2} {o : D2} (ho : OpR X (compareOp op) r) (hr : SimR X.K r o) (ha : PD X a ta) (hb : PD X b tb) (hm : behindInMarks op b = false) : PD X (.Compare a [op] [b] pos) (d2 o ta tb) := by
  obtain ⟨ua, pa, sa⟩ := ha.ex
  obtain ⟨ub, pb, sb⟩ := hb.ex
  exact ⟨_, pe_cmpR ho pa pb hm, sim_op hr sa sb⟩
/-- as a test -/
@[simp] def dTest (t : DE) : DT := fun ρ M P => t ρ M fun x M1 => ∃ k, x = .bl k ∧ P k M1
theorem sim_test {K : PySem.W.Frag} {u : TE} {t : DE} (h : SimE K u t) : SimT K (tTest u) (dTest t) := by
  intro as σ ρ L H M P Q hE A h1 q
  refine h as σ ρ L H M _ _ hE A h1 fun x d L1 H1 M1 s1 A1 h2 r1 => ?_
  obtain ⟨k, rfl, p⟩ := h2
  cases r1
  exact ⟨k, rfl, q k L1 H1 M1 s1 A1 p⟩
theorem pdt_cmp {op : CmpOp} {r : R2} {o : D2} (ho : OpR X (compareOp op) r) (hr : SimR X.K r o) (ha : PD X a ta) (hb : PD X b tb) (hm : behindInMarks op b = false) : PDT X (.Compare a [op] [b] pos) (dTest (d2 o ta tb)) := by
  obtain ⟨ua, pa, sa⟩ := ha.ex
  obtain ⟨ub, pb, sb⟩ := hb.ex
  exact ⟨_, pt_cmpR ho pa pb hm, sim_test (sim_op hr sa sb)⟩
theorem pdt_val {t : DE} (h : PD X e t) (he : ∀ whole, isTrue e X.env whole = (do let v ← whole; standAt e.pos; holding [v] (truthy v)) := by intro _; rfl) : PDT X e (dTest t) := by
  obtain ⟨u, p, s⟩ := h.ex
  exact ⟨_, pt_val p he, sim_test s⟩
/-- a < b < c -/
@[simp] def dChain (o o' : D2) (ta tb tc : DE) : DE := fun ρ M P => ta ρ M fun x M1 => tb ρ M1 fun y M2 => o x y M2 fun z M3 => ∃ k, z = .bl k ∧ if k = true then tc ρ M3 fun w M4 => o' y w M4 P else P (.bl false) M3
end
end Pd

set_option Elab.async false
set_option linter.all false
set_option maxRecDepth 100000
namespace Pd
open PySem PySem.Spec PyProof.Rows L2

section
variable {X : Cx} {a b c e : Expr} {es : List Expr} {ta tb tc t : DE} {tA tB' : DT} {tl : DA} {pos : Pos}
theorem pd_chain {op op' : CmpOp} {r r' : R2} {o o' : D2} (ho : OpR X (compareOp op) r) (hr : SimR X.K r o) (ho' : OpR X (compareOp op') r') (hr' : SimR X.K r' o') (ha : PD X a ta) (hb : PD X b tb) (hc : PD X c tc)
    (hm : lastMarks [op, op'] [b, c] = false := by with_unfolding_all rfl) : PD X (.Compare a [op, op'] [b, c] pos) (dChain o o' ta tb tc) := by
  obtain ⟨ua, pa, sa⟩ := ha.ex
  obtain ⟨ub, pb, sb⟩ := hb.ex
  obtain ⟨uc, pc, sc⟩ := hc.ex
  refine ⟨_, pe_chain ho ho' pa pb pc hm, ?_⟩
  intro as σ ρ L H M P Q hE A h q
  refine sa as σ ρ L H M _ _ hE A h fun x d L1 H1 M1 s1 A1 h1 r1 => ?_
  refine sb as σ ρ L1 H1 M1 _ _ (hE.mono s1.k s1.pre) A1 h1 fun y e L2 H2 M2 s2 A2 h2 r2 => ?_
  refine hr as L2 H2 M2 x y d e _ _ A2 (r1.mono s2.k s2.pre) r2 h2 fun v z L3 H3 M3 s3 A3 h3 r3 => ?_
  obtain ⟨k, rfl, h3⟩ := h3
  cases r3
  have s13 := s1.trans A1 (s2.trans A2 s3)
  refine ⟨k, rfl, ?_⟩
  cases k with
  | false =>
    rw [if_neg Bool.false_ne_true] at h3 ⊢
    exact q _ _ L3 H3 M3 s13 A3 h3 (.bl false)
  | true =>
    rw [if_pos rfl] at h3 ⊢
    refine sc as σ ρ L3 H3 M3 _ _ (hE.mono s13.k s13.pre) A3 h3 fun w' f L4 H4 M4 s4 A4 h4 r4 => ?_
    refine hr' as L4 H4 M4 y w' e f P Q A4 (r2.mono (s3.k.trans s4.k) (s3.pre.trans s4.pre)) r4 h4 fun v z L5 H5 M5 s5 A5 h5 r5 => ?_
    exact q v z L5 H5 M5 (s13.trans A3 (s4.trans A4 s5)) A5 h5 r5

/-! ### and, or, not, if -/
@[simp] def dAnd (t u : DT) : DT := fun ρ M P => t ρ M fun c M1 => if c = true then u ρ M1 P else P false M1
@[simp] def dOr (t u : DT) : DT := fun ρ M P => t ρ M fun c M1 => if c = true then P true M1 else u ρ M1 P
@[simp] def dNot (t : DT) : DT := fun ρ M P => t ρ M fun c M1 => P (!c) M1
theorem pdw_and1 (ha : PDT X a tA) : PDW X (.BoolOp .And [a] pos) tA := by
  obtain ⟨u, p, s⟩ := ha.ex
  exact ⟨u, pw_and1 p, s⟩
theorem pdw_or1 (ha : PDT X a tA) : PDW X (.BoolOp .Or [a] pos) tA := by
  obtain ⟨u, p, s⟩ := ha.ex
  exact ⟨u, pw_or1 p, s⟩
theorem pdw_and {rest : List Expr} (ha : PDT X a tA) (hb : PDW X (.BoolOp .And (b :: rest) pos) tB') : PDW X (.BoolOp .And (a :: b :: rest) pos) (dAnd tA tB') := by
  obtain ⟨u, p, s⟩ := ha.ex
  obtain ⟨u', p', s'⟩ := hb.ex
  refine ⟨_, pw_and p p', ?_⟩
  intro as σ ρ L H M P Q hE A h q
  refine s as σ ρ L H M _ _ hE A h fun k L1 H1 M1 s1 A1 h1 => ?_
  cases k with
  | true =>
    rw [if_pos rfl] at h1 ⊢
    exact s' as σ ρ L1 H1 M1 _ _ (hE.mono s1.k s1.pre) A1 h1 fun b L2 H2 M2 s2 A2 h2 => q b L2 H2 M2 (s1.trans A1 s2) A2 h2
  | false =>
    rw [if_neg Bool.false_ne_true] at h1 ⊢
    exact q false L1 H1 M1 s1 A1 h1
theorem pdw_or {rest : List Expr} (ha : PDT X a tA) (hb : PDW X (.BoolOp .Or (b :: rest) pos) tB') : PDW X (.BoolOp .Or (a :: b :: rest) pos) (dOr tA tB') := by
  obtain ⟨u, p, s⟩ := ha.ex
  obtain ⟨u', p', s'⟩ := hb.ex
  refine ⟨_, pw_or p p', ?_⟩
  intro as σ ρ L H M P Q hE A h q
  refine s as σ ρ L H M _ _ hE A h fun k L1 H1 M1 s1 A1 h1 => ?_
  cases k with
  | true =>
    rw [if_pos rfl] at h1 ⊢
    exact q true L1 H1 M1 s1 A1 h1
  | false =>
    rw [if_neg Bool.false_ne_true] at h1 ⊢
    exact s' as σ ρ L1 H1 M1 _ _ (hE.mono s1.k s1.pre) A1 h1 fun b L2 H2 M2 s2 A2 h2 => q b L2 H2 M2 (s1.trans A1 s2) A2 h2
theorem pdt_w (h : PDW X e tA) : PDT X e tA := by
  obtain ⟨u, p, s⟩ := h.ex
  exact ⟨u, p.pt, s⟩
theorem pdt_not (ha : PDT X a tA) : PDT X (.UnaryOp .Not a pos) (dNot tA) := by
  obtain ⟨u, p, s⟩ := ha.ex
  refine ⟨_, pt_not p, ?_⟩
  intro as σ ρ L H M P Q hE A h q
  exact s as σ ρ L H M _ _ hE A h fun k L1 H1 M1 s1 A1 h1 => q (!k) L1 H1 M1 s1 A1 h1
@[simp] def dAndV (ta tb : DE) : DE := fun ρ M P => ta ρ M fun x M1 => ∃ c, x = .bl c ∧ if c = true then tb ρ M1 P else P (.bl false) M1
@[simp] def dOrV (ta tb : DE) : DE := fun ρ M P => ta ρ M fun x M1 => ∃ c, x = .bl c ∧ if c = true then P (.bl true) M1 else tb ρ M1 P
@[simp] def dNotV (ta : DE) : DE := fun ρ M P => ta ρ M fun x M1 => ∃ c, x = .bl c ∧ P (.bl (!c)) M1
theorem pd_one {op} (h : PD X a t) : PD X (.BoolOp op [a] pos) t := by
  obtain ⟨u, p, s⟩ := h.ex
  exact ⟨u, pe_one p, s⟩
theorem pd_and {rest : List Expr} (ha : PD X a ta) (hb : PD X (.BoolOp .And (b :: rest) pos) tb) : PD X (.BoolOp .And (a :: b :: rest) pos) (dAndV ta tb) := by
  obtain ⟨u, p, s⟩ := ha.ex
  obtain ⟨u', p', s'⟩ := hb.ex
  refine ⟨_, pe_and p p', ?_⟩
  intro as σ ρ L H M P Q hE A h q
  refine s as σ ρ L H M _ _ hE A h fun x d L1 H1 M1 s1 A1 h1 r1 => ?_
  obtain ⟨k, rfl, h1⟩ := h1
  cases r1
  refine ⟨k, rfl, ?_⟩
  cases k with
  | true =>
    rw [if_pos rfl] at h1 ⊢
    exact s' as σ ρ L1 H1 M1 _ _ (hE.mono s1.k s1.pre) A1 h1 fun v z L2 H2 M2 s2 A2 h2 => q v z L2 H2 M2 (s1.trans A1 s2) A2 h2
  | false =>
    rw [if_neg Bool.false_ne_true] at h1 ⊢
    exact q _ _ L1 H1 M1 s1 A1 h1 (.bl false)
theorem pd_or {rest : List Expr} (ha : PD X a ta) (hb : PD X (.BoolOp .Or (b :: rest) pos) tb) : PD X (.BoolOp .Or (a :: b :: rest) pos) (dOrV ta tb) := by
  obtain ⟨u, p, s⟩ := ha.ex
  obtain ⟨u', p', s'⟩ := hb.ex
  refine ⟨_, pe_or p p', ?_⟩
  intro as σ ρ L H M P Q hE A h q
  refine s as σ ρ L H M _ _ hE A h fun x d L1 H1 M1 s1 A1 h1 r1 => ?_
  obtain ⟨k, rfl, h1⟩ := h1
  cases r1
  refine ⟨k, rfl, ?_⟩
  cases k with
  | true =>
    rw [if_pos rfl] at h1 ⊢
    exact q _ _ L1 H1 M1 s1 A1 h1 (.bl true)
  | false =>
    rw [if_neg Bool.false_ne_true] at h1 ⊢
    exact s' as σ ρ L1 H1 M1 _ _ (hE.mono s1.k s1.pre) A1 h1 fun v z L2 H2 M2 s2 A2 h2 => q v z L2 H2 M2 (s1.trans A1 s2) A2 h2
theorem pd_not (ha : PD X a ta) : PD X (.UnaryOp .Not a pos) (dNotV ta) := by
  obtain ⟨u, p, s⟩ := ha.ex
  refine ⟨_, pe_not p, ?_⟩
  intro as σ ρ L H M P Q hE A h q
  refine s as σ ρ L H M _ _ hE A h fun x d L1 H1 M1 s1 A1 h1 r1 => ?_
  obtain ⟨k, rfl, h1⟩ := h1
  cases r1
  exact ⟨k, rfl, q _ _ L1 H1 M1 s1 A1 h1 (.bl (!k))⟩
@[simp] def dIf (t : DT) (ta tb : DE) : DE := fun ρ M P => t ρ M fun c M1 => if c = true then ta ρ M1 P else tb ρ M1 P
theorem pd_ifExp (hc : PDT X c tA) (ha : PD X a ta) (hb : PD X b tb) : PD X (.IfExp c a b pos) (dIf tA ta tb) := by
  obtain ⟨u, p, s⟩ := hc.ex
  obtain ⟨u1, p1, s1⟩ := ha.ex
  obtain ⟨u2, p2, s2⟩ := hb.ex
  refine ⟨_, pe_ifExp p p1 p2, ?_⟩
  intro as σ ρ L H M P Q hE A h q
  refine s as σ ρ L H M _ _ hE A h fun k L1 H1 M1 st A1 h1 => ?_
  cases k with
  | true =>
    rw [if_pos rfl] at h1 ⊢
    exact s1 as σ ρ L1 H1 M1 _ _ (hE.mono st.k st.pre) A1 h1 fun v z L2 H2 M2 s2 A2 h2 => q v z L2 H2 M2 (st.trans A1 s2) A2 h2
  | false =>
    rw [if_neg Bool.false_ne_true] at h1 ⊢
    exact s2 as σ ρ L1 H1 M1 _ _ (hE.mono st.k st.pre) A1 h1 fun v z L2 H2 M2 s2 A2 h2 => q v z L2 H2 M2 (st.trans A1 s2) A2 h2

/-! ### arguments, displays -/
@[simp] def dNil : DA := fun _ M P => P [] M
@[simp] def dCons (ta : DE) (tl : DA) : DA := fun ρ M P => ta ρ M fun x M1 => tl ρ M1 fun xs M2 => P (x :: xs) M2
theorem pda_nil : PDA X [] dNil := ⟨_, pa_nil, fun as σ ρ L H M P Q hE A h q => q [] [] L H M .refl A h .nil⟩
theorem pda_cons (ha : PD X e ta) (hr : PDA X es tl) (hs : starEach (e :: es) X.env = (false, eval e X.env) :: starEach es X.env := by rfl) : PDA X (e :: es) (dCons ta tl) := by
  obtain ⟨u, p, s⟩ := ha.ex
  obtain ⟨u', p', s'⟩ := hr.ex
  refine ⟨_, pa_cons p p' hs, ?_⟩
  intro as σ ρ L H M P Q hE A h q
  refine s as σ ρ L H M _ _ hE A h fun x d L1 H1 M1 s1 A1 h1 r1 => ?_
  exact s' as σ ρ L1 H1 M1 _ _ (hE.mono s1.k s1.pre) A1 h1 fun vs ds L2 H2 M2 s2 A2 h2 r2 => q _ _ L2 H2 M2 (s1.trans A1 s2) A2 h2 (.cons (r1.mono s2.k s2.pre) r2)
@[simp] def dTup (tl : DA) : DE := fun ρ M P => tl ρ M fun ds M1 => ds.length ≤ sizeLine ∧ P (.tup ds) M1
@[simp] def dLst (tl : DA) : DE := fun ρ M P => tl ρ M fun ds M1 => ds.length ≤ sizeLine ∧ P (.lst ds) M1
theorem lowfree {K : PySem.W.Frag} {as : List Addr} {M : Ms} {L H : Hp} {p : Addr} (A : At K as M L H) (hp : H p = none) : L p = none := by
  cases q : L p with
  | none => rfl
  | some u => rw [A.low p u q] at hp; cases hp
theorem pd_tup {x1} (h : PDA X es tl) : PD X (.Tuple es x1 pos) (dTup tl) := by
  obtain ⟨u, p, s⟩ := h.ex
  refine ⟨_, pe_tup p, ?_⟩
  intro as σ ρ L H M P Q hE A h q
  refine s as σ ρ L H M _ _ hE A h fun vs ds L1 H1 M1 s1 A1 h1 r1 => ⟨by rw [r1.length]; exact h1.1, fun p hp => ?_⟩
  exact q _ _ _ _ M1 (s1.trans A1 (Step.know A1 hp)) (A1.know hp) h1.2 (.tup (.inl (.inl upd_same)) (r1.mono (Ex.new (lowfree A1 hp)) (Pre.refl _)))
theorem pd_lst (h : PDA X es tl) : PD X (.List es pos) (dLst tl) := by
  obtain ⟨u, p, s⟩ := h.ex
  refine ⟨_, pe_lst p, ?_⟩
  intro as σ ρ L H M P Q hE A h q
  refine s as σ ρ L H M _ _ hE A h fun vs ds L1 H1 M1 s1 A1 h1 r1 => ⟨by rw [r1.length]; exact h1.1, fun p hp => ?_⟩
  exact q _ _ _ _ M1 (s1.trans A1 (Step.know A1 hp)) (A1.know hp) h1.2 (.lst (.inl (.inl upd_same)) (r1.mono (Ex.new (lowfree A1 hp)) (Pre.refl _)))

/-! ### calls -/
/-- what a def promises, over data -/
def spD (n : Nat) (W : DC) : PySem.W.Frag → Sp := fun K vs H Q _ => vs.length = n ∧ ∃ as M L ds P, RpA K as L vs ds ∧ At K as M L H ∧ W ds M P ∧
  ∀ v d L' H' M', Step as L H as L' H' → At K as M' L' H' → P d M' → Rp K as L' v d → Q v H'
@[simp] def dCall (n : Nat) (W : DC) (tl : DA) : DE := fun ρ M P => tl ρ M fun ds M1 => ds.length = n ∧ W ds M1 P
theorem sim_call {n : Nat} {W : DC} {u : TA} {K : PySem.W.Frag} {E : XK} (s : SimA K u tl) : SimE K (tCall (spD n W K) [] E u) (dCall n W tl) := by
  intro as σ ρ L H M P Q hE A h q
  refine s as σ ρ L H M _ _ hE A h fun vs ds L1 H1 M1 s1 A1 h1 r1 => ?_
  rw [List.append_nil]
  exact ⟨by rw [r1.length]; exact h1.1, as, M1, L1, ds, P, r1, A1, h1.2, fun v d L2 H2 M2 s2 A2 h2 r2 => q v d L2 H2 M2 (s1.trans A1 s2) A2 h2 r2⟩
theorem pd_call {k : Nat} {f : Addr} {fd : FuncData} {ps : List Str} {n : Nat} {W : DC} {x : Str} {p : Pos} (F : FnOk X.prog X.w X.K X.mg X.base CX0 k f fd ps (spD n W X.K)) (hr : Room k X.A) (hg : Gl X x) (hm : X.mg x = some (.ref f)) (hk : PySem.W.keepIn X.K (.ref f) = true)
    (hb : Binds X.K fd ps []) (ha : PDA X (e :: es) tl) (hdb : (x == ("__debug__" : Str)) = false := by decide) (he : starEach (e :: es) X.env = (false, eval e X.env) :: starEach es X.env := by rfl) (hpl : (backTo pos (starEach es X.env)).any (·.1) = false := by rfl) :
    PD X (.Call (.Name x p) (e :: es) [] pos) (dCall n W tl) := by
  obtain ⟨u, pa, s⟩ := ha.ex
  exact ⟨_, pe_call F hr hg hm hk hb .nil pass0 pa hdb he hpl, sim_call s⟩
@[simp] def dCB (o : DC) (tl : DA) : DE := fun ρ M P => tl ρ M fun ds M1 => o ds M1 P
theorem sim_cb {r : List V → Hp → VK → Prop} {o : DC} {u : TA} {K : PySem.W.Frag} (hr : SimC K r o) (s : SimA K u tl) : SimE K (tCB r u) (dCB o tl) := by
  intro as σ ρ L H M P Q hE A h q
  refine s as σ ρ L H M _ _ hE A h fun vs ds L1 H1 M1 s1 A1 h1 r1 => ?_
  exact hr as L1 H1 M1 vs ds P Q A1 r1 h1 fun v z L2 H2 M2 s2 A2 h2 r2 => q v z L2 H2 M2 (s1.trans A1 s2) A2 h2 r2
theorem pd_callB {id : String} {r : List V → Hp → VK → Prop} {o : DC} {x : Str} {p : Pos} (hc : CallR X (.builtin id) r) (hs : SimC X.K r o) (hg : Gl X x) (hm : X.mg x = none) (hv : bootBuiltins x = some (.builtin id)) (ha : PDA X (e :: es) tl) (hn : x ≠ "__name__" := by decide)
    (hdb : (x == ("__debug__" : Str)) = false := by decide) (he : starEach (e :: es) X.env = (false, eval e X.env) :: starEach es X.env := by rfl) (hpl : (backTo pos (starEach es X.env)).any (·.1) = false := by rfl) : PD X (.Call (.Name x p) (e :: es) [] pos) (dCB o tl) := by
  obtain ⟨u, pa, s⟩ := ha.ex
  exact ⟨_, pe_callB hc hg hm hv pa hn hdb he hpl, sim_cb hs s⟩
theorem pd_callTy {T : String} {r : List V → Hp → VK → Prop} {o : DC} {x : Str} {p : Pos} (hc : CallR X (.type T) r) (hs : SimC X.K r o) (hg : Gl X x) (hm : X.mg x = none) (hv : bootBuiltins x = some (.type T)) (ha : PDA X (e :: es) tl) (hn : x ≠ "__name__" := by decide)
    (hdb : (x == ("__debug__" : Str)) = false := by decide) (he : starEach (e :: es) X.env = (false, eval e X.env) :: starEach es X.env := by rfl) (hpl : (backTo pos (starEach es X.env)).any (·.1) = false := by rfl) : PD X (.Call (.Name x p) (e :: es) [] pos) (dCB o tl) := by
  obtain ⟨u, pa, s⟩ := ha.ex
  exact ⟨_, pe_callTy hc hg hm hv pa hn hdb he hpl, sim_cb hs s⟩
theorem pd_ix {r : R2} {o : D2} (hi : IxR X r) (hr : SimR X.K r o) (ha : PD X a ta) (hb : PD X b tb) (hs : PlainIx b := by exact fun _ _ => rfl) : PD X (.Subscript a b pos) (d2 o ta tb) := by
  obtain ⟨ua, pa, sa⟩ := ha.ex
  obtain ⟨ub, pb, sb⟩ := hb.ex
  exact ⟨_, pe_ix hi pa pb hs, sim_op hr sa sb⟩

/-! ### statements -/
structure DEnds where
  nx : Rho → Ms → Prop
  rt : D → Ms → Prop
  bk : Rho → Ms → Prop := fun _ _ => False
  ct : Rho → Ms → Prop := fun _ _ => False
abbrev DS := DEnds → Rho → Ms → Prop
def EndN (K : PySem.W.Frag) (as : List Addr) (L H : Hp) (d : Rho → Ms → Prop) (v : L2.St → Hp → Prop) : Prop := ∀ σ' ρ' L' H' M', Step as L H as L' H' → At K as M' L' H' → En K as L' σ' ρ' → d ρ' M' → v σ' H'
structure Comp (K : PySem.W.Frag) (as : List Addr) (L H : Hp) (De : DEnds) (D : Ends) : Prop where
  nx : EndN K as L H De.nx D.nx
  rt : ∀ v d L' H' M', Step as L H as L' H' → At K as M' L' H' → De.rt d M' → Rp K as L' v d → D.rt v H'
  bk : EndN K as L H De.bk D.bk
  ct : EndN K as L H De.ct D.ct
theorem EndN.step {K : PySem.W.Frag} {as : List Addr} {L H L1 H1 : Hp} {M1 : Ms} {d : Rho → Ms → Prop} {v : L2.St → Hp → Prop} (s : Step as L H as L1 H1) (A1 : At K as M1 L1 H1) (h : EndN K as L H d v) : EndN K as L1 H1 d v :=
  fun σ' ρ' L' H' M' s' A' e' q => h σ' ρ' L' H' M' (s.trans A1 s') A' e' q
theorem Comp.step {K : PySem.W.Frag} {as : List Addr} {L H L1 H1 : Hp} {M1 : Ms} {De : DEnds} {D : Ends} (s : Step as L H as L1 H1) (A1 : At K as M1 L1 H1) (h : Comp K as L H De D) : Comp K as L1 H1 De D :=
  ⟨h.nx.step s A1, fun v d L' H' M' s' A' q r => h.rt v d L' H' M' (s.trans A1 s') A' q r, h.bk.step s A1, h.ct.step s A1⟩
def SimS (K : PySem.W.Frag) (ts : TS) (t : DS) : Prop := ∀ as σ ρ L H M De D, En K as L σ ρ → At K as M L H → t De ρ M → Comp K as L H De D → ts D σ H
structure PDS (X : Cx) (st : Stmt) (t : DS) : Prop where
  ex : ∃ ts, PS X st ts ∧ SimS X.K ts t
structure PDSs (X : Cx) (st : List Stmt) (t : DS) : Prop where
  ex : ∃ ts, PSs X st ts ∧ SimS X.K ts t
variable {st : Stmt} {sts : List Stmt} {s1 s2 : DS}
@[simp] def sNext : DS := fun D ρ M => D.nx ρ M
@[simp] def sSeq (t u : DS) : DS := fun D ρ M => t { D with nx := fun ρ' M' => u D ρ' M' } ρ M
theorem pdss_nil : PDSs X [] sNext := ⟨_, pss_nil, fun as σ ρ L H M De D hE A h c => c.nx σ ρ L H M .refl A hE h⟩
theorem pdss_cons (h1 : PDS X st s1) (h2 : PDSs X sts s2) : PDSs X (st :: sts) (sSeq s1 s2) := by
  obtain ⟨u, p, s⟩ := h1.ex
  obtain ⟨u', p', s'⟩ := h2.ex
  refine ⟨_, pss_cons p p', ?_⟩
  intro as σ ρ L H M De D hE A h c
  refine s as σ ρ L H M _ _ hE A h ⟨fun σ1 ρ1 L1 H1 M1 st1 A1 e1 q1 => ?_, c.rt, c.bk, c.ct⟩
  exact s' as σ1 ρ1 L1 H1 M1 De D e1 A1 q1 (c.step st1 A1)
theorem pdss_one (h1 : PDS X st s1) : PDSs X [st] s1 := by
  obtain ⟨u, p, s⟩ := h1.ex
  exact ⟨_, pss_one p, s⟩
@[simp] def sDrop (t : DE) : DS := fun D ρ M => t ρ M fun _ M1 => D.nx ρ M1
theorem pds_expr (he : PD X e t) (hs : swapsWith e none pos.line X.env = pure false := by rfl) : PDS X (.Expr e pos) (sDrop t) := by
  obtain ⟨u, p, s⟩ := he.ex
  exact ⟨_, ps_expr p hs, fun as σ ρ L H M De D hE A h c => s as σ ρ L H M _ _ hE A h fun v d L1 H1 M1 st A1 q _ => c.nx σ ρ L1 H1 M1 st A1 (hE.mono st.k st.pre) q⟩
@[simp] def sRet (t : DE) : DS := fun D ρ M => t ρ M D.rt
theorem pds_ret (he : PD X e t) : PDS X (.Return (some e) pos) (sRet t) := by
  obtain ⟨u, p, s⟩ := he.ex
  exact ⟨_, ps_ret p, fun as σ ρ L H M De D hE A h c => s as σ ρ L H M _ _ hE A h fun v d L1 H1 M1 st A1 q r => c.rt v d L1 H1 M1 st A1 q r⟩
@[simp] def sIf (c : DT) (t u : DS) : DS := fun D ρ M => c ρ M fun b M1 => if b = true then t D ρ M1 else u D ρ M1
theorem pds_if {a b : List Stmt} (hc : PDT X c tA) (ha : PDSs X a s1) (hb : PDSs X b s2) : PDS X (.If c a b pos) (sIf tA s1 s2) := by
  obtain ⟨u, p, s⟩ := hc.ex
  obtain ⟨u1, p1, z1⟩ := ha.ex
  obtain ⟨u2, p2, z2⟩ := hb.ex
  refine ⟨_, ps_if p p1 p2, ?_⟩
  intro as σ ρ L H M De D hE A h c
  refine s as σ ρ L H M _ _ hE A h fun k L1 H1 M1 st A1 h1 => ?_
  cases k with
  | true =>
    rw [if_pos rfl] at h1 ⊢
    exact z1 as σ ρ L1 H1 M1 De D (hE.mono st.k st.pre) A1 h1 (c.step st A1)
  | false =>
    rw [if_neg Bool.false_ne_true] at h1 ⊢
    exact z2 as σ ρ L1 H1 M1 De D (hE.mono st.k st.pre) A1 h1 (c.step st A1)
@[simp] def sNever : DS := fun _ _ _ => False
theorem pds_never : PDS X st sNever := ⟨_, ps_never, fun _ _ _ _ _ _ _ _ _ _ h _ => h.elim⟩
theorem pdss_never : PDSs X sts sNever := ⟨_, pss_never, fun _ _ _ _ _ _ _ _ _ _ h _ => h.elim⟩

/-! ### targets -/
abbrev DG := D → Rho → (Rho → Prop) → Prop
abbrev DGs := List D → Rho → (Rho → Prop) → Prop
/-- ts: the slots that are stored -/
def SimG (K : PySem.W.Frag) (g : TG) (t : DG) (ts : List Nat) : Prop := ∀ as L H v d σ ρ M P Q, En K as L σ ρ → At K as M L H → Rp K as L v d → t d ρ P →
  (∀ σ' ρ', En K as L σ' ρ' → P ρ' → (∀ vs, (∀ i ∈ ts, i ∈ vs) → wipe σ' vs = wipe σ vs) → Q σ' H) → g v σ H Q
def SimGs (K : PySem.W.Frag) (g : TGs) (t : DGs) (ts : List Nat) : Prop := ∀ as L H vs ds σ ρ M P Q, En K as L σ ρ → At K as M L H → RpA K as L vs ds → t ds ρ P →
  (∀ σ' ρ', En K as L σ' ρ' → P ρ' → (∀ vs, (∀ i ∈ ts, i ∈ vs) → wipe σ' vs = wipe σ vs) → Q σ' H) → g vs σ H Q
structure PDG (X : Cx) (tg : Expr) (t : DG) (ts : List Nat) : Prop where
  ex : ∃ g, PG X tg g ∧ SimG X.K g t ts
structure PDGs (X : Cx) (tg : List Expr) (t : DGs) (ts : List Nat) : Prop where
  ex : ∃ g, PGs X tg g ∧ SimGs X.K g t ts
theorem wipe_set {σ : L2.St} {i : Nat} {x : Option V} : ∀ {vs : List Nat}, i ∈ vs → wipe (σ.set i x) vs = wipe σ vs
  | [], h => by simp at h
  | v :: vs, h => by
    unfold wipe
    by_cases hi : i ∈ vs
    · rw [wipe_set hi]
    · have e : i = v := by
        rcases List.mem_cons.mp h with z | z
        · exact z
        · exact absurd z hi
      subst e
      have : ∀ {us : List Nat}, i ∉ us → wipe (σ.set i x) us = (wipe σ us).set i x := by
        intro us
        induction us with
        | nil => intro _; rfl
        | cons u us ih =>
          intro hu
          unfold wipe
          have h1 : i ≠ u := fun z => hu (by rw [z]; exact List.mem_cons_self)
          rw [ih fun z => hu (List.mem_cons_of_mem _ z), List.set_comm _ _ h1]
      rw [this hi, List.set_set]
@[simp] def gN (i : Nat) : DG := fun d ρ P => P (ρ.set i (some d))
theorem sim_gN {K : PySem.W.Frag} (i : Nat) : SimG K (gName i) (gN i) [i] := fun as L H v d σ ρ M P Q hE A r p q => q _ _ (hE.set i r) p fun vs h => wipe_set (h i List.mem_cons_self)
theorem pdg_name (i : Nat) {x : Str} (hN : X.N.Nodup) (hi : X.N[i]? = some x := by rfl) (hx : Loc X.env.scope x := by first | exact Or.inl rfl | exact Or.inr rfl) (hf : X.fn x = true ∨ X.env.scope.names.lookup x = some .local := by first | exact .inl rfl | exact .inr rfl | assumption) : PDG X (.Name x pos) (gN i) [i] :=
  ⟨_, pg_name hN hi hx hf, sim_gN i⟩
@[simp] def gNi : DGs := fun ds ρ P => ds = [] ∧ P ρ
@[simp] def gCo (t : DG) (u : DGs) : DGs := fun ds ρ P => ∃ d r, ds = d :: r ∧ t d ρ fun ρ' => u r ρ' P
theorem pdgs_nil : PDGs X [] gNi [] := ⟨_, pgs_nil, fun as L H vs ds σ ρ M P Q hE A r ⟨e, p⟩ q => by
  subst e
  cases r
  exact ⟨rfl, q σ ρ hE p fun _ _ => rfl⟩⟩
theorem pdgs_cons {t : DG} {u : DGs} {us vs : List Nat} (h1 : PDG X e t us) (h2 : PDGs X es u vs) (hs : (assignEach (e :: es) X.env).map (·.2) = assign e X.env :: (assignEach es X.env).map (·.2) := by rfl) : PDGs X (e :: es) (gCo t u) (us ++ vs) := by
  obtain ⟨g, p, s⟩ := h1.ex
  obtain ⟨g', p', s'⟩ := h2.ex
  refine ⟨_, pgs_cons p p' hs, ?_⟩
  intro as L H ws ds σ ρ M P Q hE A r h q
  obtain ⟨d, rr, rfl, h⟩ := h
  cases r with
  | cons r1 r2 =>
    refine ⟨_, _, rfl, s as L H _ _ σ ρ M _ _ hE A r1 h fun σ1 ρ1 e1 h1 w1 => ?_⟩
    exact s' as L H _ _ σ1 ρ1 M _ _ e1 A r2 h1 fun σ2 ρ2 e2 h2 w2 => q σ2 ρ2 e2 h2 fun vs hv => (w2 vs fun i hi => hv i (List.mem_append_right _ hi)).trans (w1 vs fun i hi => hv i (List.mem_append_left _ hi))
@[simp] def gTu (n : Nat) (t : DGs) : DG := fun d ρ P => ∃ ds, d = .tup ds ∧ ds.length = n ∧ t ds ρ P
theorem pdg_tup {k : Nat} {t : DGs} {n : Nat} {us : List Nat} (hc : X.calm = true) (h : PDGs X es t us)
    (hn : (assignEach es X.env).length = n := by rfl) (hst : (assignEach es X.env).findIdx? (·.1) = none := by rfl) : PDG X (.Tuple es k pos) (gTu n t) us := by
  obtain ⟨g, p, s⟩ := h.ex
  refine ⟨_, pg_tup hc p hn hst, ?_⟩
  intro as L H v d σ ρ M P Q hE A r h q
  obtain ⟨ds, rfl, hl, h⟩ := h
  cases r with
  | tup hs ra => exact ⟨_, _, rfl, ex_t A.low hs, by rw [ra.length]; exact hl, s as L H _ _ σ ρ M _ _ hE A ra h q⟩
@[simp] def sAsg (t : DE) (g : DG) : DS := fun D ρ M => t ρ M fun d M1 => g d ρ fun ρ' => D.nx ρ' M1
theorem sim_asg {K : PySem.W.Frag} {u : TE} {g : TG} {t : DE} {dg : DG} {us : List Nat} (s : SimE K u t) (sg : SimG K g dg us) : SimS K (tAsg u g) (sAsg t dg) := by
  intro as σ ρ L H M De D hE A h c
  refine s as σ ρ L H M _ _ hE A h fun v d L1 H1 M1 s1 A1 h1 r1 => ?_
  exact sg as L1 H1 v d σ ρ M1 _ _ (hE.mono s1.k s1.pre) A1 r1 h1 fun σ' ρ' e' p' _ => c.nx σ' ρ' L1 H1 M1 s1 A1 e' p'
theorem pds_set (i : Nat) {x : Str} {p' : Pos} (hN : X.N.Nodup) (he : PD X e t) (hi : X.N[i]? = some x := by rfl) (hx : Loc X.env.scope x := by first | exact Or.inl rfl | exact Or.inr rfl) (hs : swapsWith e (some (.Name x p')) pos.line X.env = pure false := by rfl)
    (hf : X.fn x = true ∨ X.env.scope.names.lookup x = some .local := by first | exact .inl rfl | exact .inr rfl | assumption) : PDS X (.Assign [.Name x p'] e pos) (sAsg t (gN i)) := by
  obtain ⟨u, p, s⟩ := he.ex
  exact ⟨_, ps_set hN hi hx p hs hf, sim_asg s (sim_gN i)⟩
theorem pds_asg {tg : Expr} {g : DG} {us : List Nat} (he : PD X e t) (hg : PDG X tg g us) (hs : swapsWithSole [tg] e pos.line X.env = pure false := by rfl) (hw : swappedStores [tg] e X.env = pure none := by rfl)
    (h1 : (assignEach [tg] X.env).map (·.2) = [assign tg X.env] := by rfl) : PDS X (.Assign [tg] e pos) (sAsg t g) := by
  obtain ⟨u, p, s⟩ := he.ex
  obtain ⟨g', pg, sg⟩ := hg.ex
  exact ⟨_, ps_asg p pg hs hw h1, sim_asg s sg⟩
end

/-! ### what is walked -/
/-- J gives the items ds, one after the other, wherever L is known -/
def Walks (K : PySem.W.Frag) (J : It) (as : List Addr) (L0 : Hp) (ds : List D) : Prop := ∀ L H M, Ex L0 L → At K as M L H →
  (∀ i, i < ds.length → J.go i H ∧ ∀ x H', J.yld i H x H' → ∃ d L', ds[i]? = some d ∧ Step as L H as L' H' ∧ At K as M L' H' ∧ Rp K as L' x d) ∧ J.stop ds.length H
def SimI (K : PySem.W.Frag) (wi : TI) (t : DA) : Prop := ∀ as σ ρ L H M P R, En K as L σ ρ → At K as M L H → t ρ M P →
  (∀ J ds L' H' M', Step as L H as L' H' → At K as M' L' H' → P ds M' → Walks K J as L' ds → R J H') → wi σ H R
structure PDI (X : Cx) (tg iter : Expr) (t : DA) : Prop where
  ex : ∃ wi, PI X tg iter wi ∧ SimI X.K wi t
section
variable {X : Cx} {tg iter e : Expr} {es : List Expr} {t : DE} {tl : DA} {pos : Pos} {K : PySem.W.Frag}
/-- over a list; over a tuple -/
@[simp] def iLst (t : DE) : DA := fun ρ M P => t ρ M fun d M1 => ∃ ds, d = .lst ds ∧ P ds M1
@[simp] def iTpl (t : DE) : DA := fun ρ M P => t ρ M fun d M1 => ∃ ds, d = .tup ds ∧ P ds M1
theorem walks_list {as : List Addr} {L0 : Hp} {a : Addr} {xs : List V} {ds : List D} (hs : SqL K L0 a xs) (r : RpA K as L0 xs ds) : Walks K (Itl K a) as L0 ds := by
  intro L H M e A
  have h1 : SqL K H a xs := ex_l (e.trans A.low) hs
  refine ⟨fun i hi => ⟨?_, fun x H' y => ?_⟩, xs, h1, by rw [r.length]; exact Nat.le_refl _⟩
  · have hx : i < xs.length := by rw [r.length]; exact hi
    exact ⟨xs, xs[i], h1, List.getElem?_eq_getElem hx⟩
  · obtain ⟨rfl, hy⟩ := y
    obtain ⟨d, hd, rd⟩ := r.getV (hy xs h1)
    exact ⟨d, L, hd, .refl, A, rd.mono e (Pre.refl _)⟩
theorem walks_tup {as : List Addr} {L0 : Hp} {a : Addr} {xs : List V} {ds : List D} (hs : SqT K L0 a xs) (r : RpA K as L0 xs ds) : Walks K (Itt K a) as L0 ds := by
  intro L H M e A
  have h1 : SqT K H a xs := ex_t (e.trans A.low) hs
  refine ⟨fun i hi => ⟨?_, fun x H' y => ?_⟩, xs, h1, by rw [r.length]; exact Nat.le_refl _⟩
  · have hx : i < xs.length := by rw [r.length]; exact hi
    exact ⟨xs, xs[i], h1, List.getElem?_eq_getElem hx⟩
  · obtain ⟨rfl, hy⟩ := y
    obtain ⟨d, hd, rd⟩ := r.getV (hy xs h1)
    exact ⟨d, L, hd, .refl, A, rd.mono e (Pre.refl _)⟩
theorem pdi_list (h : PD X e t) : PDI X tg e (iLst t) := by
  obtain ⟨u, p, s⟩ := h.ex
  refine ⟨_, pi_list p, ?_⟩
  intro as σ ρ L H M P R hE A h q
  refine s as σ ρ L H M _ _ hE A h fun v d L1 H1 M1 s1 A1 h1 r1 => ?_
  obtain ⟨ds, rfl, h1⟩ := h1
  cases r1 with
  | lst hs ra => exact ⟨_, rfl, ⟨_, ex_l A1.low hs⟩, q _ ds L1 H1 M1 s1 A1 h1 (walks_list hs ra)⟩
theorem pdi_tup (h : PD X e t) : PDI X tg e (iTpl t) := by
  obtain ⟨u, p, s⟩ := h.ex
  refine ⟨_, pi_tup p, ?_⟩
  intro as σ ρ L H M P R hE A h q
  refine s as σ ρ L H M _ _ hE A h fun v d L1 H1 M1 s1 A1 h1 r1 => ?_
  obtain ⟨ds, rfl, h1⟩ := h1
  cases r1 with
  | tup hs ra => exact ⟨_, rfl, ⟨_, ex_t A1.low hs⟩, q _ ds L1 H1 M1 s1 A1 h1 (walks_tup hs ra)⟩
/-- lo, lo + 1, .. -/
def rng (lo : Int) (n : Nat) : List D := (List.range n).map fun i => .int (lo + (i : Nat))
theorem rng_len (lo : Int) (n : Nat) : (rng lo n).length = n := by unfold rng; rw [List.length_map, List.length_range]
theorem walks_range {as : List Addr} {L0 : Hp} (lo : Int) (n : Nat) : Walks K (Itr lo n) as L0 (rng lo n) := by
  intro L H M e A
  rw [rng_len]
  refine ⟨fun i hi => ⟨hi, fun x H' y => ?_⟩, Nat.le_refl _⟩
  obtain ⟨rfl, rfl⟩ := y
  refine ⟨.int (lo + i), L, ?_, .refl, A, .int _⟩
  unfold rng
  rw [List.getElem?_map, List.getElem?_range hi]
  rfl
@[simp] def iR1 (tl : DA) : DA := fun ρ M P => tl ρ M fun ds M1 => ∃ j : Int, ds = [.int j] ∧ -(2 ^ 62) ≤ j ∧ j < 2 ^ 62 ∧ P (rng 0 j.toNat) M1
theorem pdi_range1 {p : Pos} (hg : Gl X "range") (hm : X.mg "range" = none) (ha : PDA X [e] tl) (hs : starEach [e] X.env = [(false, eval e X.env)] := by rfl) : PDI X tg (.Call (.Name "range" p) [e] [] pos) (iR1 tl) := by
  obtain ⟨u, pa, s⟩ := ha.ex
  refine ⟨_, pi_range1 hg hm pa (hs := hs), ?_⟩
  intro as σ ρ L H M P R hE A h q
  refine s as σ ρ L H M _ _ hE A h fun vs ds L1 H1 M1 s1 A1 h1 r1 => ?_
  obtain ⟨j, rfl, h2, h3, h1⟩ := h1
  cases r1 with
  | cons r2 r3 =>
    cases r2
    cases r3
    exact ⟨j, rfl, h2, h3, q _ _ L1 H1 M1 s1 A1 h1 (walks_range 0 _)⟩
@[simp] def iR2 (tl : DA) : DA := fun ρ M P => tl ρ M fun ds M1 => ∃ i j : Int, ds = [.int i, .int j] ∧ (-(2 ^ 62) ≤ i ∧ i < 2 ^ 62 ∧ -(2 ^ 62) ≤ j ∧ j < 2 ^ 62) ∧ P (rng i (j - i).toNat) M1
theorem pdi_range2 {e2 : Expr} {p : Pos} (hg : Gl X "range") (hm : X.mg "range" = none) (ha : PDA X [e, e2] tl) (hs : starEach [e, e2] X.env = [(false, eval e X.env), (false, eval e2 X.env)] := by rfl) (hs2 : starEach [e2] X.env = [(false, eval e2 X.env)] := by rfl) : PDI X tg (.Call (.Name "range" p) [e, e2] [] pos) (iR2 tl) := by
  obtain ⟨u, pa, s⟩ := ha.ex
  refine ⟨_, pi_range2 hg hm pa (hs := hs) (hs2 := hs2), ?_⟩
  intro as σ ρ L H M P R hE A h q
  refine s as σ ρ L H M _ _ hE A h fun vs ds L1 H1 M1 s1 A1 h1 r1 => ?_
  obtain ⟨i, j, rfl, h2, h1⟩ := h1
  cases r1 with
  | cons r2 r3 =>
    cases r2
    cases r3 with
    | cons r4 r5 =>
      cases r4
      cases r5
      exact ⟨i, j, rfl, h2, q _ _ L1 H1 M1 s1 A1 h1 (walks_range i _)⟩

/-! ### for -/
def forRun (g : DG) (body : DS) (De : DEnds) : List D → Rho → Ms → Prop
  | [], ρ, M => De.nx ρ M
  | d :: r, ρ, M => g d ρ fun ρ' => body { De with nx := fun ρ2 M2 => forRun g body De r ρ2 M2, ct := fun ρ2 M2 => forRun g body De r ρ2 M2, bk := De.nx } ρ' M
@[simp] def sFor (it : DA) (g : DG) (body : DS) : DS := fun D ρ M => it ρ M fun ds M1 => forRun g body D ds ρ M1
theorem pds_for {body : List Stmt} {it : DA} {g : DG} {us : List Nat} {tb : DS} (hp : PassesOwn (model X.prog X.w) X.A X.env X.xe) (hc : X.calm = true) (hi : PDI X tg iter it) (hg : PDG X tg g us) (hb : PDSs X body tb)
    (hs : ∀ x, foldedSetIterable iter X.env x = pure x := by intro _; rfl) : PDS X (.For tg iter body [] pos) (sFor it g tb) := by
  obtain ⟨wi, p, s⟩ := hi.ex
  obtain ⟨g', pg, sg⟩ := hg.ex
  obtain ⟨ub, pb, sb⟩ := hb.ex
  refine ⟨_, ps_for hp hc p pg pb hs, ?_⟩
  intro as σ ρ L H M De D hE A h c
  refine s as σ ρ L H M _ _ hE A h fun J ds L1 H1 M1 s1 A1 h1 w1 => ?_
  refine ⟨fun i m σ H => m = ds.length - i ∧ i ≤ ds.length ∧ ∃ ρ L M, Step as L1 H1 as L H ∧ At X.K as M L H ∧ En X.K as L σ ρ ∧ forRun g tb De (ds.drop i) ρ M, ⟨ds.length, by simp, Nat.zero_le _, ρ, L1, M1, .refl, A1, hE.mono s1.k s1.pre, h1⟩, ?_⟩
  rintro i m σ H ⟨rfl, hi, ρ, L, M, st, A, hE, hf⟩
  obtain ⟨wg, ws⟩ := w1 L H M st.k A
  by_cases hlt : i < ds.length
  · obtain ⟨go, wy⟩ := wg i hlt
    rw [List.drop_eq_getElem_cons hlt] at hf
    refine .inr ⟨go, fun σ' H' => ∃ ρ L M, Step as L1 H1 as L H' ∧ At X.K as M L H' ∧ En X.K as L σ' ρ ∧ forRun g tb De (ds.drop (i + 1)) ρ M, fun σ' H' q => ⟨ds.length - (i + 1), by omega, rfl, hlt, q⟩, fun x H' y => ?_⟩
    obtain ⟨d, L', hd, s2, A2, r2⟩ := wy x H' y
    rw [List.getElem?_eq_getElem hlt] at hd
    cases hd
    refine sg as L' H' x _ σ ρ M _ _ (hE.mono s2.k s2.pre) A2 r2 hf fun σ2 ρ2 e2 p2 _ => ?_
    have s12 := st.trans A s2
    have c2 := (c.step s1 A1).step s12 A2
    refine sb as σ2 ρ2 L' H' M _ _ e2 A2 p2 ⟨fun σ3 ρ3 L3 H3 M3 s3 A3 e3 q3 => ⟨ρ3, L3, M3, s12.trans A2 s3, A3, e3, q3⟩, c2.rt, c2.nx, fun σ3 ρ3 L3 H3 M3 s3 A3 e3 q3 => ⟨ρ3, L3, M3, s12.trans A2 s3, A3, e3, q3⟩⟩
  · have e : i = ds.length := by omega
    subst e
    rw [List.drop_length] at hf
    exact .inl ⟨ws, (c.step s1 A1).nx σ ρ L H M st A hE hf⟩
end

/-! ### comprehensions -/
abbrev wipeS := @L2.wipe
theorem wipe_wipe (σ : L2.St) (us : List Nat) : L2.wipe (L2.wipe σ us) us = L2.wipe σ us := by
  have : ∀ (τ : L2.St) (ts : List Nat), (∀ i ∈ ts, i ∈ us) → L2.wipe (L2.wipe τ ts) us = L2.wipe τ us := by
    intro τ ts
    induction ts with
    | nil => intro _; rfl
    | cons t ts ih =>
      intro ht
      show L2.wipe ((L2.wipe τ ts).set t none) us = _
      rw [wipe_set (ht t List.mem_cons_self), ih fun i hi => ht i (List.mem_cons_of_mem _ hi)]
  exact this σ us fun _ h => h
def wipeR (ρ : Rho) : List Nat → Rho
  | [] => ρ
  | v :: vs => (wipeR ρ vs).set v none
theorem En.unset {K : PySem.W.Frag} {as : List Addr} {L : Hp} {σ : L2.St} {ρ : Rho} (i : Nat) (h : En K as L σ ρ) : En K as L (σ.set i none) (ρ.set i none) := by
  refine ⟨by rw [List.length_set, List.length_set]; exact h.len, fun j e q => ?_⟩
  rw [List.getElem?_set] at q ⊢
  by_cases hj : i = j
  · subst hj
    rw [if_pos rfl] at q
    split at q <;> cases q
  · rw [if_neg hj] at q ⊢
    exact h.at_ j e q
theorem En.wipe {K : PySem.W.Frag} {as : List Addr} {L : Hp} {σ : L2.St} {ρ : Rho} (h : En K as L σ ρ) : ∀ vs : List Nat, En K as L (wipeS σ vs) (wipeR ρ vs)
  | [] => h
  | v :: vs => (En.wipe h vs).unset v
structure PDTs (X : Cx) (es : List Expr) (t : DT) : Prop where
  ex : ∃ te, PTs X es te ∧ SimT X.K te t
@[simp] def dYes : DT := fun _ M P => P true M
def lcRun (g : DG) (tt : DT) (te : DE) (ρ : Rho) (P : D → Ms → Prop) : List D → List D → Ms → Prop
  | [], acc, M => P (.lst acc) M
  | d :: r, acc, M => g d ρ fun ρ' => tt ρ' M fun b M1 => if b = true then te ρ' M1 fun y M2 => acc.length < sizeLine ∧ lcRun g tt te ρ P r (acc ++ [y]) M2 else lcRun g tt te ρ P r acc M1
@[simp] def dLc (it : DA) (g : DG) (tt : DT) (te : DE) (vs : List Nat) : DE := fun ρ M P => it ρ M fun ds M1 => lcRun g tt te (wipeR ρ vs) P ds [] M1
theorem sim_lc {K : PySem.W.Frag} {wi : TI} {it : DA} {g' : TG} {g : DG} {us : List Nat} {ut : TT} {tt : DT} {ue : TE} {te : DE} {vs : List Nat} (hus : ∀ i ∈ us, i ∈ vs) (s : SimI K wi it) (sg : SimG K g' g us) (st : SimT K ut tt) (se : SimE K ue te) :
    SimE K (tLc wi g' ut ue vs) (dLc it g tt te vs) := by
  intro as σ ρ L H M P Q hE A h q
  refine s as σ ρ L H M _ _ hE A h fun J ds L1 H1 M1 s1 A1 h1 w1 => ?_
  intro D hD
  -- D stays hidden while it grows
  have base : ∀ {L' H' : Hp} {M' : Ms} {acc : List V}, At K as M' L' H' → H' D = some (.lst acc) → L' D = none → D ∉ as → ∀ acc', At K as M' L' (upd H' D (.lst acc')) := by
    intro L' H' M' acc A' hd hl hn acc'
    refine ⟨fun a o h => ?_, A'.len, A'.nd, fun k a m e1 e2 => ?_, A'.nt⟩
    · have e : a ≠ D := fun z => by rw [z, hl] at h; cases h
      rw [upd_ne e]; exact A'.low a o h
    · obtain ⟨h3, o, h4, h5⟩ := A'.mo k a m e1 e2
      have e : a ≠ D := fun z => hn (by rw [← z]; exact List.mem_of_getElem? e1)
      exact ⟨h3, o, by rw [upd_ne e]; exact h4, h5.1, h5.2.keep (KeepC.over hd rfl)⟩
  have dn : D ∉ as := fun z => (A1.held z).2 hD
  have ld : L1 D = none := lowfree A1 hD
  refine ⟨fun i m H' => m = ds.length - i ∧ i ≤ ds.length ∧ ∃ L' M' xs acc, Step as L1 H1 as L' H' ∧ At K as M' L' H' ∧ H' D = some (.lst xs) ∧ L' D = none ∧ RpA K as L' xs acc ∧ lcRun g tt te (wipeR ρ vs) P (ds.drop i) acc M',
    ⟨ds.length, by simp, Nat.zero_le _, L1, M1, [], [], ⟨fun a o _ h => ?_, Ex.refl _, fun _ h _ => h, Pre.refl _, fun _ h => .inl h⟩, ?_, upd_same, ld, .nil, h1⟩, ?_⟩
  · rw [upd_ne (ne_of_none h hD)]; exact h
  · refine ⟨fun a o h => ?_, A1.len, A1.nd, fun k a m e1 e2 => ?_, A1.nt⟩
    · rw [upd_ne (ne_of_none (A1.low a o h) hD)]; exact A1.low a o h
    · obtain ⟨h3, o, h4, h5⟩ := A1.mo k a m e1 e2
      exact ⟨h3, o, by rw [upd_ne (ne_of_none h4 hD)]; exact h4, h5.1, h5.2.keep (KeepC.new hD)⟩
  rintro i m H' ⟨rfl, hi, L', M', xs, acc, s', A', hd', ld', ra, hf⟩
  obtain ⟨wg, ws⟩ := w1 L' H' M' s'.k A'
  have upD : ∀ {L2 H2 : Hp} {M2 : Ms}, Step as L1 H1 as L2 H2 → At K as M2 L2 H2 → ∀ acc', Step as L1 H1 as L2 (upd H2 D (.lst acc')) := by
    intro L2 H2 M2 s2 A2 acc'
    exact ⟨fun a o ha h => by rw [upd_ne (ne_of_none h hD)]; exact s2.up a o ha h, s2.k, s2.hid, s2.pre, s2.new⟩
  by_cases hlt : i < ds.length
  · obtain ⟨go, wy⟩ := wg i hlt
    rw [List.drop_eq_getElem_cons hlt] at hf
    refine .inr ⟨go, fun H2 => ∃ L' M' xs acc, Step as L1 H1 as L' H2 ∧ At K as M' L' H2 ∧ H2 D = some (.lst xs) ∧ L' D = none ∧ RpA K as L' xs acc ∧ lcRun g tt te (wipeR ρ vs) P (ds.drop (i + 1)) acc M', fun H2 q => ⟨ds.length - (i + 1), by omega, rfl, hlt, q⟩, fun x H2 y => ?_⟩
    obtain ⟨d, L2, hd, s2, A2, r2⟩ := wy x H2 y
    rw [List.getElem?_eq_getElem hlt] at hd
    cases hd
    have hE2 : En K as L2 (wipeS σ vs) (wipeR ρ vs) := ((hE.mono (s1.k.trans (s'.k.trans s2.k)) (Pre.refl _)).wipe vs)
    have hd2 : H2 D = some (.lst xs) := s2.up D _ dn hd'
    have ld2 : L2 D = none := s2.hid D ld' (by rw [hd']; simp)
    refine sg as L2 H2 x _ _ _ M' _ _ hE2 A2 r2 hf fun σ3 ρ3 e3 p3 wp => ⟨?_, ?_⟩
    · have z := wp vs hus
      rw [z, wipe_wipe]
    · refine st as σ3 ρ3 L2 H2 M' _ _ e3 A2 p3 fun b L3 H3 M3 s3 A3 h3 => ?_
      have s13 := (s'.trans A' s2).trans A2 s3
      have hd3 : H3 D = some (.lst xs) := s3.up D _ dn hd2
      have ld3 : L3 D = none := s3.hid D ld2 (by rw [hd2]; simp)
      cases b with
      | false =>
        rw [if_neg Bool.false_ne_true] at h3 ⊢
        exact ⟨L3, M3, xs, acc, s13, A3, hd3, ld3, ra.mono (s2.k.trans s3.k) (Pre.refl _), h3⟩
      | true =>
        rw [if_pos rfl] at h3 ⊢
        refine se as σ3 ρ3 L3 H3 M3 _ _ (e3.mono s3.k s3.pre) A3 h3 fun v z L4 H4 M4 s4 A4 h4 r4 => ?_
        have hd4 : H4 D = some (.lst xs) := s4.up D _ dn hd3
        have ld4 : L4 D = none := s4.hid D ld3 (by rw [hd3]; simp)
        have s14 := s13.trans A3 s4
        have ra4 := ra.mono (s2.k.trans (s3.k.trans s4.k)) (Pre.refl as)
        refine ⟨xs, hd4, by rw [ra4.length]; exact h4.1, L4, M4, xs ++ [v], acc ++ [z], upD s14 A4 _, base A4 hd4 ld4 dn _, upd_same, ld4, ra4.append (.one r4), h4.2⟩
  · have e : i = ds.length := by omega
    subst e
    rw [List.drop_length] at hf
    -- the list is known for good
    refine .inl ⟨ws, q _ _ (upd L' D (.lst xs)) H' M' (s1.trans A1 ⟨s'.up, s'.k.trans (Ex.new ld'), fun a h h' => ?_, Pre.refl _, fun _ h => .inl h⟩) ⟨fun a o h => ?_, A'.len, A'.nd, fun k a m e1 e2 => ?_, A'.nt.new (fun ps z => by cases z)⟩ hf (.lst (.inl (.inl upd_same)) (ra.mono (Ex.new ld') (Pre.refl _)))⟩
    · have e : a ≠ D := fun z => h' (by rw [z]; exact hD)
      rw [upd_ne e]; exact s'.hid a h h'
    · by_cases e : a = D
      · subst e; rw [upd_same] at h; rw [hd']; exact h
      · rw [upd_ne e] at h; exact A'.low a o h
    · obtain ⟨h3, o, h4, h5⟩ := A'.mo k a m e1 e2
      have e : a ≠ D := fun z => dn (by rw [← z]; exact List.mem_of_getElem? e1)
      exact ⟨by rw [upd_ne e]; exact h3, o, h4, h5.1.mono (Ex.new ld') (Pre.refl _), h5.2⟩
end Pd

set_option Elab.async false
set_option linter.all false
set_option maxRecDepth 100000
namespace Pd
open PySem PySem.Spec PyProof.Rows L2

/-! ### one reading for all contexts over one text -/
def upE (K : PySem.W.Frag) (t : DE) : TE := fun σ H Q => ∃ as ρ L M P, En K as L σ ρ ∧ At K as M L H ∧ t ρ M P ∧ ∀ v d L' H' M', Step as L H as L' H' → At K as M' L' H' → P d M' → Rp K as L' v d → Q v H'
def upT (K : PySem.W.Frag) (t : DT) : TT := fun σ H Q => ∃ as ρ L M P, En K as L σ ρ ∧ At K as M L H ∧ t ρ M P ∧ ∀ b L' H' M', Step as L H as L' H' → At K as M' L' H' → P b M' → Q b H'
def upG (K : PySem.W.Frag) (t : DG) (ts : List Nat) : TG := fun v σ H Q => ∃ as L d ρ M P, En K as L σ ρ ∧ At K as M L H ∧ Rp K as L v d ∧ t d ρ P ∧ ∀ σ' ρ', En K as L σ' ρ' → P ρ' → (∀ vs, (∀ i ∈ ts, i ∈ vs) → L2.wipe σ' vs = L2.wipe σ vs) → Q σ' H
theorem sim_upE {K : PySem.W.Frag} (t : DE) : SimE K (upE K t) t := fun as σ ρ L H M P Q hE A h q => ⟨as, ρ, L, M, P, hE, A, h, q⟩
theorem sim_upT {K : PySem.W.Frag} (t : DT) : SimT K (upT K t) t := fun as σ ρ L H M P Q hE A h q => ⟨as, ρ, L, M, P, hE, A, h, q⟩
theorem sim_upG {K : PySem.W.Frag} (t : DG) (ts : List Nat) : SimG K (upG K t ts) t ts := fun as L H v d σ ρ M P Q hE A r h q => ⟨as, L, d, ρ, M, P, hE, A, r, h, q⟩
theorem PD.up {X : Cx} {e : Expr} {t : DE} (h : PD X e t) : PE X e (upE X.K t) := by
  obtain ⟨u, p, s⟩ := h.ex
  exact ⟨fun pins sh σ H Q I ⟨as, ρ, L, M, P, hE, A, h, q⟩ => p.run pins sh σ H Q I (s as σ ρ L H M P Q hE A h q)⟩
theorem PDTs.up {X : Cx} {es : List Expr} {t : DT} (h : PDTs X es t) : PTs X es (upT X.K t) := by
  obtain ⟨u, p, s⟩ := h.ex
  exact ⟨fun pins sh σ H Q I ⟨as, ρ, L, M, P, hE, A, h, q⟩ => p.run pins sh σ H Q I (s as σ ρ L H M P Q hE A h q)⟩
theorem PDG.up {X : Cx} {tg : Expr} {t : DG} {ts : List Nat} (h : PDG X tg t ts) : PG X tg (upG X.K t ts) := by
  obtain ⟨g, p, s⟩ := h.ex
  exact ⟨fun pins sh σ H v u Q I r ⟨as, L, d, ρ, M, P, hE, A, rp, h, q⟩ => p.run pins sh σ H v u Q I r (s as L H v d σ ρ M P Q hE A rp h q)⟩
theorem pdts_nil {X : Cx} : PDTs X [] dYes := ⟨_, pts_nil, fun as σ ρ L H M P Q hE A h q => q true L H M .refl A h⟩
theorem pdts_one {X : Cx} {c : Expr} {t : DT} (h : PDT X c t) : PDTs X [c] t := by
  obtain ⟨u, p, s⟩ := h.ex
  exact ⟨_, pts_one p, s⟩
section
variable {X : Cx}
theorem pd_lc {elt tg iter : Expr} {ifs : List Expr} {scope : Scope} (own : List (Str × Nat)) {pos : Pos} {it : DA} {g : DG} {us : List Nat} {tt : DT} {te : DE} (hc : X.calm = true) (hN : X.N.Nodup) (hi : PDI X tg iter it) (ok : BlkOk X.N X.env.scope scope own)
    (hg : ∀ (s : Shared) (H : Hp) (C : Addr) (cl : List (Str × Addr)) (fp : List Addr), PDG (X.blk s H scope (compEnvC scope cl C X.env) fp) tg g us) (ht : ∀ (s : Shared) (H : Hp) (C : Addr) (cl : List (Str × Addr)) (fp : List Addr), PDTs (X.blk s H scope (compEnvC scope cl C X.env) fp) ifs tt)
    (he : ∀ (s : Shared) (H : Hp) (C : Addr) (cl : List (Str × Addr)) (fp : List Addr), PD (X.blk s H scope (compEnvC scope cl C X.env) fp) elt te) (hu : ∀ i ∈ us, i ∈ own.map (·.2) := by decide) (hs : ∀ x, foldedSetIterable iter X.env x = pure x := by intro _; rfl) :
    PD X (.ListComp elt [⟨tg, iter, ifs, 0⟩] scope pos) (dLc it g tt te (own.map (·.2))) := by
  obtain ⟨wi, p, s⟩ := hi.ex
  exact ⟨_, pe_lc hc hN p ok (fun a b c d e => (hg a b c d e).up) (fun a b c d e => (ht a b c d e).up) (fun a b c d e => (he a b c d e).up) hs, sim_lc hu s (sim_upG g us) (sim_upT tt) (sim_upE te)⟩
/-- y = [..], y a local -/
theorem pds_setLc (i : Nat) {y : Str} {py : Pos} {elt tg iter : Expr} {ifs : List Expr} {scope : Scope} (own : List (Str × Nat)) {pos spos : Pos} {it : DA} {g : DG} {us : List Nat} {tt : DT} {te : DE} (hc : X.calm = true) (hN : X.N.Nodup) (hy : X.N[i]? = some y) (hyl : X.env.scope.names.lookup y = some .local)
    (hsw : swapsWith (.ListComp elt [⟨tg, iter, ifs, 0⟩] scope pos) (some (.Name y py)) spos.line X.env = pure true) (hi : PDI X tg iter it) (ok : BlkOk X.N X.env.scope scope own)
    (hg : ∀ (s : Shared) (H : Hp) (C : Addr) (cl : List (Str × Addr)) (fp : List Addr), PDG (X.blk s H scope (compEnvC scope cl C X.env) fp) tg g us) (ht : ∀ (s : Shared) (H : Hp) (C : Addr) (cl : List (Str × Addr)) (fp : List Addr), PDTs (X.blk s H scope (compEnvC scope cl C X.env) fp) ifs tt)
    (he : ∀ (s : Shared) (H : Hp) (C : Addr) (cl : List (Str × Addr)) (fp : List Addr), PD (X.blk s H scope (compEnvC scope cl C X.env) fp) elt te) (hu : ∀ i ∈ us, i ∈ own.map (·.2) := by decide) (hs : ∀ x, foldedSetIterable iter X.env x = pure x := by intro _; rfl) :
    PDS X (.Assign [.Name y py] (.ListComp elt [⟨tg, iter, ifs, 0⟩] scope pos) spos) (sAsg (dLc it g tt te (own.map (·.2))) (gN i)) := by
  obtain ⟨wi, p, s⟩ := hi.ex
  exact ⟨_, ps_setLc (i := i) hc hN hy hyl hsw p ok (fun a b c d e => (hg a b c d e).up) (fun a b c d e => (ht a b c d e).up) (fun a b c d e => (he a b c d e).up) hs, sim_asg (sim_lc hu s (sim_upG g us) (sim_upT tt) (sim_upE te)) (sim_gN i)⟩
end

/-! ### a def, by its body -/
def startD (N : List Str) (ds : List D) : Rho := ds.map some ++ List.replicate (N.length - ds.length) none
theorem en_start {K : PySem.W.Frag} {as : List Addr} {L : Hp} {N : List Str} {vs : List V} {ds : List D} (r : RpA K as L vs ds) : En K as L (L2.start N vs) (startD N ds) := by
  refine ⟨?_, fun i d h => ?_⟩
  · unfold L2.start startD
    rw [List.length_append, List.length_append, List.length_map, List.length_map, List.length_replicate, List.length_replicate, r.length]
  · unfold startD at h
    unfold L2.start
    by_cases hi : i < ds.length
    · rw [List.getElem?_append_left (by simpa using hi), List.getElem?_map] at h
      cases e : ds[i]? with
      | none => rw [e] at h; cases h
      | some d' =>
        rw [e] at h
        cases h
        obtain ⟨v, h1, h2⟩ := r.get e
        refine ⟨v, ?_, h2⟩
        rw [List.getElem?_append_left (by rw [List.length_map, r.length]; exact hi), List.getElem?_map, h1]
        rfl
    · rw [List.getElem?_append_right (by simpa using hi), List.getElem?_replicate] at h
      split at h <;> cases h
section
variable {P : Program} {w : World} {K : PySem.W.Frag} {mg : Str → Option Value} {base : Heap}
theorem pd_fn {x qual : Str} {st : Stmt} {f : Addr} {fd : FuncData} {N ps : List Str} {k : Nat} {W : DC} (F : Fun K x qual st f fd) (S : FnScope N ps (defScope st))
    (hbody : ∀ (cdv : Value) (A : Around) (outer : List Env) (s : Shared) (H : Hp) (E : XK), Room k (A.deeper (envOfC qual (defScope st) s.heap.objs.size f cdv)) →
      ∃ t, PDSs (cxOf CX0 P w K mg base N qual (defScope st) f cdv A outer s H E).nox (defBody st) t ∧ ∀ ds M Q, ds.length = ps.length → W ds M Q → t { nx := fun _ M' => Q .non M', rt := Q } (startD N ds) M) :
    FnOk P w K mg base CX0 (k + 1) f fd ps (spD ps.length W K) := by
  refine F.ok S (fun vs H Q E h => h.1) (fun cdv A outer s H vs Q E hr h => ?_)
  obtain ⟨hl, as, M, L, ds, P', r, A0, hw, q⟩ := h
  obtain ⟨t, ht, hb⟩ := hbody cdv A outer s H E hr
  obtain ⟨ts, pt, st'⟩ := ht.ex
  refine ⟨ts, pt, st' as (L2.start N vs) (startD N ds) L H M _ _ (en_start r) A0 (hb ds M P' (by rw [← r.length]; exact hl) hw) ⟨?_, ?_, ?_, ?_⟩⟩
  · exact fun σ' ρ' L' H' M' s1 A1 _ p => q .non .non L' H' M' s1 A1 p .non
  · exact fun v d L' H' M' s1 A1 p r => q v d L' H' M' s1 A1 p r
  · exact fun _ _ _ _ _ _ _ _ p => p.elim
  · exact fun _ _ _ _ _ _ _ _ p => p.elim
end

/-! ### operators over data -/
section
variable {K : PySem.W.Frag}
theorem RpInt {as : List Addr} {L : Hp} {x : V} {i : Int} (h : Rp K as L x (.int i)) : x = .int i := by cases h; rfl
@[simp] def oI0 (g : Int → Int → D) : D2 := fun x y M P => ∃ i j, x = .int i ∧ y = .int j ∧ P (g i j) M
@[simp] def oI (C : Int → Int → Prop) (g : Int → Int → D) : D2 := fun x y M P => ∃ i j, x = .int i ∧ y = .int j ∧ C i j ∧ P (g i j) M
@[simp] def oU (g : Int → D) : D1 := fun x M P => ∃ i, x = .int i ∧ P (g i) M
theorem sr_I0i {g : Int → Int → Int} : SimR K (rI0 fun i j => .int (g i j)) (oI0 fun i j => .int (g i j)) := by
  intro as L H M x y d e P Q A r1 r2 ⟨i, j, h1, h2, p⟩ q
  subst h1; subst h2
  cases r1; cases r2
  exact ⟨i, j, rfl, rfl, q _ _ L H M .refl A p (.int _)⟩
theorem sr_I0b {g : Int → Int → Bool} : SimR K (rI0 fun i j => .bl (g i j)) (oI0 fun i j => .bl (g i j)) := by
  intro as L H M x y d e P Q A r1 r2 ⟨i, j, h1, h2, p⟩ q
  subst h1; subst h2
  cases r1; cases r2
  exact ⟨i, j, rfl, rfl, q _ _ L H M .refl A p (.bl _)⟩
theorem sr_I {C : Int → Int → Prop} {g : Int → Int → Int} : SimR K (rI C fun i j => .int (g i j)) (oI C fun i j => .int (g i j)) := by
  intro as L H M x y d e P Q A r1 r2 ⟨i, j, h1, h2, c, p⟩ q
  subst h1; subst h2
  cases r1; cases r2
  exact ⟨i, j, rfl, rfl, c, q _ _ L H M .refl A p (.int _)⟩
theorem su_U {g : Int → Int} : SimU K (rU fun i => .int (g i)) (oU fun i => .int (g i)) := by
  intro as L H M x d P Q A r1 ⟨i, h1, p⟩ q
  subst h1
  cases r1
  exact ⟨i, rfl, q _ _ L H M .refl A p (.int _)⟩

/-! data that == may read -/
mutual
def plain : D → Bool
  | .non => true | .bl _ => true | .int _ => true | .str _ => true
  | .lst ds => plainA ds | .tup ds => plainA ds | .tfz _ => true
  | _ => false
def plainA : List D → Bool
  | [] => true
  | d :: ds => plain d && plainA ds
end
def keyP : Key → PyData
  | .inl i => .int i
  | .inr x => .str x
mutual
def toP : D → PyData
  | .non => .none | .bl b => .bool b | .int i => .int i | .str x => .str x
  | .lst ds => .list (toPA ds) | .tup ds => .tuple (toPA ds)
  | .dic ks ds => .dict ((ks.map keyP).zip (toPA ds))
  | .tfz ns => .tuple (ns.map PyData.int)
  | _ => .none
def toPA : List D → List PyData
  | [] => []
  | d :: ds => toP d :: toPA ds
end
theorem dp_ints {K : PySem.W.Frag} {H : Hp} : ∀ ns : List Int, DpAll K H (ns.map V.int) (ns.map PyData.int)
  | [] => .nil
  | n :: ns => .cons (.int n) (dp_ints ns)
mutual
theorem Rp.dp' {as : List Addr} {L H : Hp} (e : Ex L H) : ∀ (d : D) (v : V), Rp K as L v d → plain d = true → Dp K H v (toP d)
  | .non, _, h, _ => by cases h; exact .non
  | .bl b, _, h, _ => by cases h; exact .bl b
  | .int i, _, h, _ => by cases h; exact .int i
  | .str x, _, h, _ => by cases h; exact .str x
  | .lst ds, _, h, p => by
    cases h with
    | lst h1 r => exact .lst (ex_l e h1) (RpA.dp' e ds _ r p)
  | .tup ds, _, h, p => by
    cases h with
    | tup h1 r => exact .tup (ex_t e h1) (RpA.dp' e ds _ r p)
  | .ins _ _, _, _, p => by cases p
  | .mu _, _, _, p => by cases p
  | .ob _, _, _, p => by cases p
  | .ty _, _, _, p => by cases p
  | .exc _ _, _, _, p => by cases p
  | .dic _ _, _, _, p => by cases p
  | .dit _ _, _, _, p => by cases p
  | .tfz ns, _, h, _ => by
    cases h with
    | tfz h => obtain ⟨o, h, _⟩ := h; exact .tup (.inl (.inr ⟨o, e _ _ h⟩)) (dp_ints ns)
theorem RpA.dp' {as : List Addr} {L H : Hp} (e : Ex L H) : ∀ (ds : List D) (vs : List V), RpA K as L vs ds → plainA ds = true → DpAll K H vs (toPA ds)
  | [], _, h, _ => by cases h; exact .nil
  | d :: ds, _, h, p => by
    cases h with
    | cons r t =>
      have p' := Bool.and_eq_true_iff.mp p
      exact .cons (Rp.dp' e d _ r p'.1) (RpA.dp' e ds _ t p'.2)
end
theorem Rp.dp {as : List Addr} {L H : Hp} (e : Ex L H) {v : V} {d : D} (r : Rp K as L v d) (p : plain d = true) : Dp K H v (toP d) := Rp.dp' e d v r p
def eqD (d e : D) : Bool := PyData.eqv (toP d) (toP e)
def okD (d : D) : Bool := plain d && SeqAt.shaped (toP d)
@[simp] def oEq : D2 := fun x y M P => okD x = true ∧ okD y = true ∧ P (.bl (eqD x y)) M
@[simp] def oNe : D2 := fun x y M P => okD x = true ∧ okD y = true ∧ P (.bl (!eqD x y)) M
theorem sr_eq : SimR K (rEqD K) oEq := by
  intro as L H M x y d e P Q A r1 r2 ⟨h1, h2, p⟩ q
  have g1 := Bool.and_eq_true_iff.mp h1
  have g2 := Bool.and_eq_true_iff.mp h2
  exact ⟨_, _, Rp.dp A.low r1 g1.1, Rp.dp A.low r2 g2.1, g1.2, g2.2, q _ _ L H M .refl A p (.bl _)⟩
theorem sr_ne : SimR K (rNeD K) oNe := by
  intro as L H M x y d e P Q A r1 r2 ⟨h1, h2, p⟩ q
  have g1 := Bool.and_eq_true_iff.mp h1
  have g2 := Bool.and_eq_true_iff.mp h2
  exact ⟨_, _, Rp.dp A.low r1 g1.1, Rp.dp A.low r2 g2.1, g1.2, g2.2, q _ _ L H M .refl A p (.bl _)⟩
theorem eqD_refl {d : D} (h : okD d = true) : eqD d d = true := SeqAt.eqv_refl _ (SeqAt.canLay_of_shaped (Bool.and_eq_true_iff.mp h).2)

/-! subscripts -/
@[simp] def oIxL : D2 := fun x y M P => ∃ ds i v, x = .lst ds ∧ y = .int i ∧ (0 ≤ i ∧ ds[i.toNat]? = some v) ∧ P v M
@[simp] def oIxT : D2 := fun x y M P => ∃ ds i v, x = .tup ds ∧ y = .int i ∧ (0 ≤ i ∧ ds[i.toNat]? = some v) ∧ P v M
theorem at_in {as : List Addr} {L : Hp} {xs : List V} {ds : List D} {i : Int} {d : D} (r : RpA K as L xs ds) (h : 0 ≤ i ∧ ds[i.toNat]? = some d) : ∃ v, atI xs i = some v ∧ Rp K as L v d := by
  obtain ⟨v, h1, h2⟩ := r.get h.2
  exact ⟨v, at_of (by omega) h1, h2⟩
theorem sr_ixL : SimR K (rIxL K) oIxL := by
  intro as L H M x y d e P Q A r1 r2 ⟨ds, i, v, h1, h2, h3, p⟩ q
  subst h1; subst h2
  cases r2
  cases r1 with
  | lst hs ra =>
    obtain ⟨z, h4, h5⟩ := at_in ra h3
    exact ⟨_, _, i, z, rfl, rfl, ex_l A.low hs, h4, q _ _ L H M .refl A p h5⟩
theorem sr_ixT : SimR K (rIxT K) oIxT := by
  intro as L H M x y d e P Q A r1 r2 ⟨ds, i, v, h1, h2, h3, p⟩ q
  subst h1; subst h2
  cases r2
  cases r1 with
  | tup hs ra =>
    obtain ⟨z, h4, h5⟩ := at_in ra h3
    exact ⟨_, _, i, z, rfl, rfl, ex_t A.low hs, h4, q _ _ L H M .refl A p h5⟩
/-! built-ins -/
@[simp] def oLen : DC := fun xs M P => ∃ ds, (xs = [.lst ds] ∨ xs = [.tup ds]) ∧ P (.int ds.length) M
theorem sc_len : SimC K (fun xs H Q => ∃ p ys, xs = [.ref p] ∧ (SqL K H p ys ∨ SqT K H p ys) ∧ Q (.int ys.length) H) oLen := by
  intro as L H M xs ds P Q A r ⟨es, h, p⟩ q
  rcases h with h | h
  · subst h
    cases r with
    | cons r1 r2 =>
      cases r2
      cases r1 with
      | lst hs ra =>
        refine ⟨_, _, rfl, .inl (ex_l A.low hs), ?_⟩
        rw [ra.length]
        exact q _ _ L H M .refl A p (.int _)
  · subst h
    cases r with
    | cons r1 r2 =>
      cases r2
      cases r1 with
      | tup hs ra =>
        refine ⟨_, _, rfl, .inr (ex_t A.low hs), ?_⟩
        rw [ra.length]
        exact q _ _ L H M .refl A p (.int _)
theorem RpA.ints {as : List Addr} {L : Hp} : ∀ {xs : List V} {ns : List Int}, RpA K as L xs (ns.map D.int) → xs = ns.map V.int
  | _, [], .nil => rfl
  | [], _ :: _, h => by cases h
  | x :: xs, n :: ns, .cons r t => by
    cases r
    rw [RpA.ints t]
    rfl
theorem RpA.bls {as : List Addr} {L : Hp} : ∀ {xs : List V} {bs : List Bool}, RpA K as L xs (bs.map D.bl) → xs = bs.map V.bl
  | _, [], .nil => rfl
  | [], _ :: _, h => by cases h
  | x :: xs, n :: ns, .cons r t => by
    cases r
    rw [RpA.bls t]
    rfl
@[simp] def oSum : DC := fun xs M P => ∃ ns : List Int, xs = [.lst (ns.map D.int)] ∧ P (.int ns.sum) M
theorem sc_sum : SimC K (rSum K) oSum := by
  intro as L H M xs ds P Q A r ⟨ns, h, p⟩ q
  subst h
  cases r with
  | cons r1 r2 =>
    cases r2
    cases r1 with
    | lst hs ra =>
      have e := ra.ints
      subst e
      exact ⟨_, ns, rfl, ex_l A.low hs, q _ _ L H M .refl A p (.int _)⟩
@[simp] def oAll : DC := fun xs M P => ∃ bs : List Bool, xs = [.lst (bs.map D.bl)] ∧ P (.bl (bs.all id)) M
@[simp] def oAny : DC := fun xs M P => ∃ bs : List Bool, xs = [.lst (bs.map D.bl)] ∧ P (.bl (bs.any id)) M
theorem sc_all : SimC K (rAll K) oAll := by
  intro as L H M xs ds P Q A r ⟨ns, h, p⟩ q
  subst h
  cases r with
  | cons r1 r2 =>
    cases r2
    cases r1 with
    | lst hs ra =>
      have e := ra.bls
      subst e
      exact ⟨_, ns, rfl, ex_l A.low hs, q _ _ L H M .refl A p (.bl _)⟩
theorem sc_any : SimC K (rAny K) oAny := by
  intro as L H M xs ds P Q A r ⟨ns, h, p⟩ q
  subst h
  cases r with
  | cons r1 r2 =>
    cases r2
    cases r1 with
    | lst hs ra =>
      have e := ra.bls
      subst e
      exact ⟨_, ns, rfl, ex_l A.low hs, q _ _ L H M .refl A p (.bl _)⟩
@[simp] def oInt : DC := fun xs M P => (∃ i, xs = [.int i] ∧ P (.int i) M) ∨ ∃ b, xs = [.bl b] ∧ P (.int (if b then 1 else 0)) M
theorem sc_int : SimC K (fun xs H Q => (∃ i, xs = [.int i] ∧ Q (.int i) H) ∨ ∃ k, xs = [.bl k] ∧ Q (.int (if k then 1 else 0)) H) oInt := by
  intro as L H M xs ds P Q A r h q
  rcases h with ⟨i, h, p⟩ | ⟨b, h, p⟩
  · subst h
    cases r with
    | cons r1 r2 => cases r2; cases r1; exact .inl ⟨i, rfl, q _ _ L H M .refl A p (.int _)⟩
  · subst h
    cases r with
    | cons r1 r2 => cases r2; cases r1; exact .inr ⟨b, rfl, q _ _ L H M .refl A p (.int _)⟩
@[simp] def oMax : DC := fun xs M P => ∃ i j, xs = [.int i, .int j] ∧ P (.int (if j > i then j else i)) M
@[simp] def oMin : DC := fun xs M P => ∃ i j, xs = [.int i, .int j] ∧ P (.int (if j < i then j else i)) M
theorem sc_max : SimC K (fun xs H Q => ∃ i j, xs = [.int i, .int j] ∧ Q (.int (if j > i then j else i)) H) oMax := by
  intro as L H M xs ds P Q A r ⟨i, j, h, p⟩ q
  subst h
  cases r with
  | cons r1 r2 => cases r1; cases r2 with | cons r3 r4 => cases r3; cases r4; exact ⟨i, j, rfl, q _ _ L H M .refl A p (.int _)⟩
theorem sc_min : SimC K (fun xs H Q => ∃ i j, xs = [.int i, .int j] ∧ Q (.int (if j < i then j else i)) H) oMin := by
  intro as L H M xs ds P Q A r ⟨i, j, h, p⟩ q
  subst h
  cases r with
  | cons r1 r2 => cases r1; cases r2 with | cons r3 r4 => cases r3; cases r4; exact ⟨i, j, rfl, q _ _ L H M .refl A p (.int _)⟩
end
end Pd

set_option Elab.async false
set_option linter.all false
set_option maxRecDepth 100000
namespace Pd
open PySem PySem.Spec PyProof.Rows L2

/-! ### a changeable list -/
theorem At.lst {K : PySem.W.Frag} {as : List Addr} {M : Ms} {L H : Hp} {k : Nat} {a : Addr} {ds : List D} (A : At K as M L H) (h : as[k]? = some a) (hm : M[k]? = some (.lst ds)) : ∃ xs, H a = some (.lst xs) ∧ RpA K as L xs ds := by
  obtain ⟨_, o, h1, h2, _⟩ := A.mo k a _ h hm
  cases h2 with
  | lst r => exact ⟨_, h1, r⟩
theorem At.ins {K : PySem.W.Frag} {as : List Addr} {M : Ms} {L H : Hp} {k : Nat} {a C : Addr} {gs : List (Str × D)} (A : At K as M L H) (h : as[k]? = some a) (hm : M[k]? = some (.ins C gs)) : ∃ dx fs, H a = some (.ins C dx fs) ∧ RpF K as L fs gs := by
  obtain ⟨_, o, h1, h2, _⟩ := A.mo k a _ h hm
  cases h2 with
  | ins r => exact ⟨_, _, h1, r⟩
/-- the k-th object is changed -/
theorem At.put {K : PySem.W.Frag} {as : List Addr} {M : Ms} {L H : Hp} {k : Nat} {a : Addr} {o : HO} {m : MO} (A : At K as M L H) (h : as[k]? = some a) (r : Ro K as L o m) (tb : TabOk (upd H a o) a o m := by trivial) : At K as (M.set k m) L (upd H a o) := by
  have hk : k < as.length := (List.getElem?_eq_some_iff.mp h).1
  have hl := A.held (List.mem_of_getElem? h)
  have kc : KeepC H (upd H a o) := by
    have hk2 : k < M.length := by rw [← A.len]; exact hk
    obtain ⟨_, u, h2, h3, _⟩ := A.mo k a _ h (List.getElem?_eq_getElem hk2)
    exact KeepC.over h2 h3.noExt
  refine ⟨fun b u e => ?_, by rw [List.length_set]; exact A.len, A.nd, fun j b m' e1 e2 => ?_, A.nt⟩
  · have : b ≠ a := fun z => by rw [z, hl.1] at e; cases e
    rw [upd_ne this]; exact A.low b u e
  · by_cases hj : j = k
    · subst hj
      rw [h] at e1
      cases e1
      rw [List.getElem?_set, if_pos rfl] at e2
      split at e2
      · cases e2; exact ⟨hl.1, o, upd_same, r, tb⟩
      · cases e2
    · rw [List.getElem?_set, if_neg (fun z => hj z.symm)] at e2
      obtain ⟨h3, o', h4, h5⟩ := A.mo j b m' e1 e2
      have hb : b ≠ a := fun z => by
        subst z
        have := (List.getElem?_inj (List.getElem?_eq_some_iff.mp e1).1 A.nd).mp (e1.trans h.symm)
        exact hj this
      exact ⟨h3, o', by rw [upd_ne hb]; exact h4, h5.1, h5.2.keep kc⟩
theorem Step.put {as : List Addr} {L H : Hp} {a : Addr} {o : HO} (h : a ∈ as) : Step as L H as L (upd H a o) :=
  ⟨fun b u hb e => by rw [upd_ne (fun z => hb (by rw [z]; exact h))]; exact e, Ex.refl _, fun _ e _ => e, Pre.refl _, fun _ e => .inl e⟩
section
variable {K : PySem.W.Frag}
@[simp] def oIxM : D2 := fun x y M P => ∃ k ds i v, x = .mu k ∧ y = .int i ∧ M[k]? = some (.lst ds) ∧ (0 ≤ i ∧ ds[i.toNat]? = some v) ∧ P v M
theorem sr_ixM : SimR K (rIxL K) oIxM := by
  intro as L H M x y d e P Q A r1 r2 ⟨k, ds, i, v, h1, h2, hm, h3, p⟩ q
  subst h1; subst h2
  cases r2
  cases r1 with
  | mu hs =>
    obtain ⟨xs, h4, ra⟩ := A.lst hs hm
    obtain ⟨z, h5, h6⟩ := at_in ra h3
    exact ⟨_, xs, i, z, rfl, rfl, .inl (.inl h4), h5, q _ _ L H M .refl A p h6⟩
end
section
variable {X : Cx} {a b c e o i value : Expr} {es : List Expr} {t ta tb tc to ti tv : DE} {tl : DA} {pos pos' : Pos}
/-- o[i] = e, o a changeable list -/
@[simp] def sSetI (to ti te : DE) : DS := fun De ρ M => te ρ M fun v M1 => to ρ M1 fun x M2 => ti ρ M2 fun y M3 => ∃ k ds i, x = .mu k ∧ y = .int i ∧ M3[k]? = some (.lst ds) ∧ (0 ≤ i ∧ i.toNat < ds.length) ∧ De.nx ρ (M3.set k (.lst (ds.set i.toNat v)))
theorem RpA.set {K : PySem.W.Frag} {as : List Addr} {L : Hp} {v : V} {d : D} (r : Rp K as L v d) : ∀ {xs : List V} {ds : List D} (i : Nat), RpA K as L xs ds → RpA K as L (xs.set i v) (ds.set i d)
  | _, _, _, .nil => .nil
  | _, _, 0, .cons _ t => .cons r t
  | _, _, i + 1, .cons q t => .cons q (RpA.set r i t)
theorem pds_setItem (he : PD X value tv) (ho : PD X o to) (hi : PD X i ti) (ha : ∀ v, assign (.Subscript o i pos') X.env v = (do
      let ov ← holding [v] (eval o X.env)
      let iv ← holding [v, ov] (eval i X.env)
      standAt pos'
      holding [v, ov, iv] (setItem ov iv v)
      release [v, ov, iv] []) := by intro _; rfl) (hs : swapsWithSole [.Subscript o i pos'] value pos.line X.env = pure false := by rfl) (hw : swappedStores [.Subscript o i pos'] value X.env = pure none := by rfl)
    (h1 : (assignEach [.Subscript o i pos'] X.env).map (·.2) = [assign (.Subscript o i pos') X.env] := by rfl) : PDS X (.Assign [.Subscript o i pos'] value pos) (sSetI to ti tv) := by
  obtain ⟨u, p, s⟩ := he.ex
  obtain ⟨u1, p1, s1⟩ := ho.ex
  obtain ⟨u2, p2, s2⟩ := hi.ex
  refine ⟨_, ps_asg p (pg_sub p1 p2 set_list ha) hs hw h1, ?_⟩
  intro as σ ρ L H M De D hE A h c
  refine s as σ ρ L H M _ _ hE A h fun v d L1 H1 M1 t1 A1 h1 r1 => ?_
  refine s1 as σ ρ L1 H1 M1 _ _ (hE.mono t1.k t1.pre) A1 h1 fun x d2 L2 H2 M2 t2 A2 h2 r2 => ?_
  refine s2 as σ ρ L2 H2 M2 _ _ (hE.mono (t1.k.trans t2.k) (Pre.refl _)) A2 h2 fun y d3 L3 H3 M3 t3 A3 h3 r3 => ?_
  obtain ⟨k, ds, i, rfl, rfl, hm, hi, p⟩ := h3
  cases r3
  cases r2 with
  | mu hk =>
    obtain ⟨xs, g1, g2⟩ := A3.lst hk hm
    refine ⟨_, xs, i, i.toNat, rfl, rfl, g1, ?_, ?_⟩
    · unfold ixN
      rw [if_pos hi.1, if_pos (by rw [g2.length]; omega)]
    · have r1' := r1.mono (t2.k.trans t3.k) (Pre.refl as)
      refine c.nx σ ρ L3 _ _ ((t1.trans A1 (t2.trans A2 t3)).trans A3 (Step.put (List.mem_of_getElem? hk))) (A3.put hk (.lst (g2.set r1' _))) (hE.mono (t1.k.trans (t2.k.trans t3.k)) (Pre.refl _)) p

/-! ### names of the module, built-ins as values -/
theorem pd_glob {x : Str} {v : V} {u : Value} {d : D} (hg : Gl X x) (hm : X.mg x = some u) (r : RelV v u) (hd : ∀ as L, Rp X.K as L v d) (hdb : (x == ("__debug__" : Str)) = false := by decide) : PD X (.Name x pos) (dC d) :=
  ⟨_, pe_glob hg hm r hdb, fun as σ ρ L H M P Q hE A p q => q _ _ L H M .refl A p (hd as L)⟩
theorem pd_bltn {x : Str} {v : V} {u : Value} {d : D} (hg : Gl X x) (hm : X.mg x = none) (hv : bootBuiltins x = some u) (r : RelV v u) (hd : ∀ as L, Rp X.K as L v d) (hn : x ≠ "__name__" := by decide) (hdb : (x == ("__debug__" : Str)) = false := by decide) : PD X (.Name x pos) (dC d) :=
  ⟨_, pe_bltn hg hm hv r hn hdb, fun as σ ρ L H M P Q hE A p q => q _ _ L H M .refl A p (hd as L)⟩

/-! ### isinstance -/
/-- what isinstance asks of an own class -/
structure ClsI (K : PySem.W.Frag) (C : Addr) : Prop where
  cl : Cls K C
  ha : PySem.W.findIn K (.ref C) "__class__" = some (some (.builtin "object.__class__"))
  hn : PySem.W.specialIn K (.builtin "object.__class__") "__get__" = some (some (.builtin "getset_descriptor.__get__"))
  htk : PySem.W.takesIn K (.builtin "object.__class__") = some true
  hm : PySem.W.mroIn K C (.type "object") = some true
/-- the type of data -/
inductive DTy (K : PySem.W.Frag) : D → Value → Prop
  | non : DTy K .non (.type "NoneType")
  | bl (b : Bool) : DTy K (.bl b) (.type "bool")
  | int (i : Int) : DTy K (.int i) (.type "int")
  | str (x : Str) : DTy K (.str x) (.type "str")
  | lst (ds : List D) : DTy K (.lst ds) (.type "list")
  | tup (ds : List D) : DTy K (.tup ds) (.type "tuple")
  | ins {C : Addr} {fs : List (Str × D)} (h : ClsI K C) : DTy K (.ins C fs) (.ref C)
  | dic (ks : List Key) (ds : List D) : DTy K (.dic ks ds) (.type "dict")
  | dit (ks : List (List Key)) (ds : List D) : DTy K (.dit ks ds) (.type "dict")
  | tfz (ns : List Int) : DTy K (.tfz ns) (.type "tuple")
inductive DCl : D → V → Value → Prop
  | ty (n : String) : DCl (.ty n) (.ty n) (.type n)
  | ob (C : Addr) : DCl (.ob C) (.ref C) (.ref C)
theorem DTy.ty {K : PySem.W.Frag} {as : List Addr} {M : Ms} {L H : Hp} {v : V} {d : D} {t : Value} (A : At K as M L H) (r : Rp K as L v d) (h : DTy K d t) : TyX K H v t := by
  cases h with
  | non => cases r; exact .base .non
  | bl b => cases r; exact .base (.bl b)
  | int b => cases r; exact .base (.int b)
  | str b => cases r; exact .base (.str b)
  | lst ds =>
    cases r with
    | lst hs _ =>
      rcases ex_l A.low hs with (h | ⟨o, h⟩) | ⟨o, its, n, h1, h2, _⟩
      · exact .base (.lst h)
      · exact .base (.frz h)
      · exact .kList h1 h2
  | tup ds =>
    cases r with
    | tup hs _ =>
      rcases ex_t A.low hs with (h | ⟨o, h⟩) | ⟨o, its, n, h1, h2, _⟩
      · exact .base (.tup h)
      · exact .fTuple h
      · exact .kTuple h1 h2
  | ins h =>
    cases r with
    | ins hs _ => exact .base (.ins (A.low _ _ hs) h.cl h.ha h.hn h.htk h.hm)
  | dic ks ds =>
    cases r with
    | dic hs _ _ =>
      rcases ex_rd A.low (.inr hs) with h | ⟨o, h⟩
      · exact .base (.dK h)
      · exact .fDict h
  | dit ks ds =>
    cases r with
    | dit hs _ _ => exact .base (.dT (A.low _ _ hs))
  | tfz ns =>
    cases r with
    | tfz h => obtain ⟨o, h, _⟩ := h; exact .fTuple (A.low _ _ h)
@[simp] def oIsi (K : PySem.W.Frag) : DC := fun xs M P => ∃ x c t v u b, xs = [x, c] ∧ DTy K x t ∧ DCl c v u ∧ PySem.W.kitOne K t u = some b ∧ P (.bl b) M
theorem sc_isi {K : PySem.W.Frag} : SimC K (rIsi K) (oIsi K) := by
  intro as L H M xs ds P Q A r ⟨x, c, t, v, u, b, h, ht, hc, hk, p⟩ q
  subst h
  cases r with
  | cons r1 r2 =>
    cases r2 with
    | cons r3 r4 =>
      cases r4
      cases hc with
      | ty n => cases r3; exact ⟨_, _, t, _, b, rfl, .ty n, DTy.ty A r1 ht, hk, q _ _ L H M .refl A p (.bl b)⟩
      | ob C => cases r3; exact ⟨_, _, t, _, b, rfl, .own C, DTy.ty A r1 ht, hk, q _ _ L H M .refl A p (.bl b)⟩
/-- isinstance(e, (T1, T2)) -/
@[simp] def dIsi2 (K : PySem.W.Frag) (te : DE) (n1 n2 : String) : DE := fun ρ M P => te ρ M fun x M1 => ∃ t b, DTy K x t ∧ PySem.W.kitAny K t [.type n1, .type n2] = some b ∧ P (.bl b) M1
theorem pd_isi2 {n1 n2 : Str} {T1 T2 : String} {p p1 p2 tp : Pos} {k : Nat} {te : DE} (hg : Gl X "isinstance") (hm : X.mg "isinstance" = none) (he : PD X e te) (g1 : Gl X n1) (m1 : X.mg n1 = none) (v1 : bootBuiltins n1 = some (.type T1)) (g2 : Gl X n2) (m2 : X.mg n2 = none) (v2 : bootBuiltins n2 = some (.type T2))
    (d1 : n1 ≠ "__name__" := by decide) (d2 : n2 ≠ "__name__" := by decide) (e1 : (n1 == ("__debug__" : Str)) = false := by decide) (e2 : (n2 == ("__debug__" : Str)) = false := by decide)
    (hs1 : starEach [e, .Tuple [.Name n1 p1, .Name n2 p2] k tp] X.env = (false, eval e X.env) :: starEach [.Tuple [.Name n1 p1, .Name n2 p2] k tp] X.env := by rfl) (hs2 : starEach [.Tuple [.Name n1 p1, .Name n2 p2] k tp] X.env = (false, eval (.Tuple [.Name n1 p1, .Name n2 p2] k tp) X.env) :: starEach [] X.env := by rfl)
    (hs3 : starEach [.Name n1 p1, .Name n2 p2] X.env = (false, eval (.Name n1 p1) X.env) :: starEach [.Name n2 p2] X.env := by rfl) (hs4 : starEach [.Name n2 p2] X.env = (false, eval (.Name n2 p2) X.env) :: starEach [] X.env := by rfl)
    (hpl : (backTo pos (starEach [.Tuple [.Name n1 p1, .Name n2 p2] k tp] X.env)).any (·.1) = false := by rfl) (hb : bootBuiltins "isinstance" = some (.builtin "isinstance") := by decide +kernel) :
    PD X (.Call (.Name "isinstance" p) [e, .Tuple [.Name n1 p1, .Name n2 p2] k tp] [] pos) (dIsi2 X.K te T1 T2) := by
  obtain ⟨u, pe, s⟩ := he.ex
  refine ⟨_, pe_callB call_isiT hg hm hb (pa_cons pe (pa_cons (pe_tup (pa_cons (pe_bltn (v := .ty T1) g1 m1 v1 rfl d1 e1) (pa_cons (pe_bltn (v := .ty T2) g2 m2 v2 rfl d2 e2) pa_nil hs4) hs3)) pa_nil hs2) hs1) (by decide) (by decide) hs1 hpl, ?_⟩
  intro as σ ρ L H M P Q hE A h q
  refine s as σ ρ L H M _ _ hE A h fun v d L1 H1 M1 s1 A1 h1 r1 => ?_
  obtain ⟨t, b, ht, hk, p⟩ := h1
  refine ⟨by show 2 ≤ sizeLine; decide, fun pT hT => ?_⟩
  have A2 := A1.know (o := .tup [.ty T1, .ty T2]) hT
  have s2 := Step.know (o := .tup [.ty T1, .ty T2]) A1 hT
  exact ⟨v, pT, _, t, _, b, rfl, upd_same, .cons (.ty T1) (.cons (.ty T2) .nil), DTy.ty A2 (r1.mono s2.k (Pre.refl _)) ht, hk, q _ _ _ _ M1 (s1.trans A1 s2) A2 p (.bl b)⟩

/-! ### attributes -/
@[simp] def dFld (K : PySem.W.Frag) (t : DE) (f : Str) : DE := fun ρ M P => t ρ M fun x M1 => ∃ C fs v, x = .ins C fs ∧ Cls K C ∧ NoAttr K C f ∧ fs.lookup f = some v ∧ P v M1
theorem pd_fld {f : Str} (he : PD X e t) (hb : attributeBase e f X.env (eval e X.env) = eval e X.env := by rfl) : PD X (.Attribute e f pos) (dFld X.K t f) := by
  obtain ⟨u, p, s⟩ := he.ex
  refine ⟨_, pe_fld p hb, ?_⟩
  intro as σ ρ L H M P Q hE A h q
  refine s as σ ρ L H M _ _ hE A h fun v d L1 H1 M1 s1 A1 h1 r1 => ?_
  obtain ⟨C, fs, w, rfl, c, n, hl, p⟩ := h1
  cases r1 with
  | ins hs rf =>
    obtain ⟨z, h2, h3⟩ := rf.look hl
    exact ⟨_, C, _, _, z, rfl, A1.low _ _ hs, c, n, h2, q _ _ L1 H1 M1 s1 A1 p h3⟩
/-- a property -/
@[simp] def dProp (C : Addr) (W : DC) (t : DE) : DE := fun ρ M P => t ρ M fun x M1 => ∃ fs, x = .ins C fs ∧ W [x] M1 P
theorem pd_prop {C p g : Addr} {k : Nat} {f : Str} {fd : FuncData} {ps : List Str} {W : DC} (he : PD X e t) (c : Cls X.K C) (hp : PropOf X.K C f p g) (F : FnOk X.prog X.w X.K X.mg X.base CX0 k g fd ps (spD 1 W X.K)) (hr : Room (k + 1) X.A) (hb : Binds X.K fd ps [])
    (hab : attributeBase e f X.env (eval e X.env) = eval e X.env := by rfl) : PD X (.Attribute e f pos) (dProp C W t) := by
  obtain ⟨u, pp, s⟩ := he.ex
  refine ⟨_, pe_prop pp c hp F hr hb .nil (E := E0) (pass0 (X := X.nox)) hab, ?_⟩
  intro as σ ρ L H M P Q hE A h q
  refine s as σ ρ L H M _ _ hE A h fun v d L1 H1 M1 s1 A1 h1 r1 => ?_
  obtain ⟨fs, rfl, hw⟩ := h1
  have r1' := r1
  cases r1 with
  | ins hs rf => exact ⟨_, _, _, rfl, A1.low _ _ hs, rfl, as, M1, L1, _, P, .cons r1' .nil, A1, hw, fun v z L2 H2 M2 s2 A2 h2 r2 => q v z L2 H2 M2 (s1.trans A1 s2) A2 h2 r2⟩

/-! ### a new instance -/
mutual
/-- the k-th changeable object is not within -/
def apart (k : Nat) : D → Bool
  | .lst ds => apartA k ds | .tup ds => apartA k ds | .ins _ fs => apartF k fs | .exc _ fs => apartF k fs | .dic _ ds => apartA k ds | .dit _ ds => apartA k ds | .mu j => decide (j < k)
  | _ => true
def apartA (k : Nat) : List D → Bool
  | [] => true
  | d :: ds => apart k d && apartA k ds
def apartF (k : Nat) : List (Str × D) → Bool
  | [] => true
  | (_, d) :: fs => apart k d && apartF k fs
end
def apartM (k : Nat) (M : Ms) : Bool := M.all fun m => match m with
  | .lst ds => apartA k ds
  | .ins _ fs => apartF k fs
  | .tab _ _ => true
  | .dic _ ds => apartA k ds
  | .dit _ ds => apartA k ds
section
variable {K : PySem.W.Frag} {as : List Addr} {x : Addr} {L : Hp}
mutual
theorem Rp.cut : ∀ {v : V} {d : D}, Rp K (as ++ [x]) L v d → apart as.length d = true → Rp K as L v d
  | _, _, .non, _ => .non
  | _, _, .bl b, _ => .bl b
  | _, _, .int i, _ => .int i
  | _, _, .str z, _ => .str z
  | _, _, .lst h r, p => .lst h (RpA.cut r p)
  | _, _, .tup h r, p => .tup h (RpA.cut r p)
  | _, _, .ins h r, p => .ins h (RpF.cut r p)
  | _, _, .mu (k := k) h, p => .mu (by rw [List.getElem?_append_left (of_decide_eq_true p)] at h; exact h)
  | _, _, .ob a, _ => .ob a
  | _, _, .ty n, _ => .ty n
  | _, _, .exc h1 h2 r, p => .exc h1 h2 (RpF.cut r p)
  | _, _, .exc0 h, _ => .exc0 h
  | _, _, .dic h l r, p => .dic h l (RpA.cut r p)
  | _, _, .dit h l r, p => .dit h l (RpA.cut r p)
  | _, _, .tfz h, _ => .tfz h
theorem RpA.cut : ∀ {vs : List V} {ds : List D}, RpA K (as ++ [x]) L vs ds → apartA as.length ds = true → RpA K as L vs ds
  | _, _, .nil, _ => .nil
  | _, _, .cons r t, p => .cons (Rp.cut r (Bool.and_eq_true_iff.mp p).1) (RpA.cut t (Bool.and_eq_true_iff.mp p).2)
theorem RpF.cut : ∀ {fs : List (Str × V)} {gs : List (Str × D)}, RpF K (as ++ [x]) L fs gs → apartF as.length gs = true → RpF K as L fs gs
  | _, _, .nil, _ => .nil
  | _, _, .cons r t, p => .cons (Rp.cut r (Bool.and_eq_true_iff.mp p).1) (RpF.cut t (Bool.and_eq_true_iff.mp p).2)
end
end
theorem pre_app (as : List Addr) (x : Addr) : Pre as (as ++ [x]) := fun k a h => by
  rw [List.getElem?_append_left (List.getElem?_eq_some_iff.mp h).1]
  exact h
/-- C(e, ..): __init__ is given the new instance as the last changeable object -/
@[simp] def dMake (C : Addr) (n : Nat) (W : DC) (tl : DA) : DE := fun ρ M P => tl ρ M fun ds M1 => ds.length + 1 = n ∧ W (.mu M1.length :: ds) (M1 ++ [.ins C []]) fun d M2 => ∃ M3 fs, d = .non ∧ M2 = M3 ++ [.ins C fs] ∧ M3.length = M1.length ∧ apartF M1.length fs = true ∧ apartM M1.length M3 = true ∧ P (.ins C fs) M3
theorem sim_make {K : PySem.W.Frag} {C : Addr} {n : Nat} {W : DC} {u : TA} {E : XK} (s : SimA K u tl) : SimE K (tMake C (spD n W K) [] E u) (dMake C n W tl) := by
  intro as σ ρ L H M P Q hE A h q
  refine s as σ ρ L H M _ _ hE A h fun vs ds L1 H1 M1 s1 A1 h1 r1 => ?_
  intro x dx hx hdx hne
  obtain ⟨hn, hw⟩ := h1
  rw [List.append_nil]
  have xa : x ∉ as := fun z => (A1.held z).2 hx
  have lx : L1 x = none := lowfree A1 hx
  have e0 : ∀ b o, H1 b = some o → (upd (upd H1 dx (.own x)) x (.ins C dx [])) b = some o := fun b o e => by
    rw [upd_ne (ne_of_none e hx), upd_ne (ne_of_none e hdx)]
    exact e
  have A2 : At K (as ++ [x]) (M1 ++ [.ins C []]) L1 (upd (upd H1 dx (.own x)) x (.ins C dx [])) := by
    refine ⟨fun b o e => e0 b o (A1.low b o e), by rw [List.length_append, List.length_append, A1.len]; rfl, ?_, fun k a m g1 g2 => ?_, A1.nt⟩
    · rw [List.nodup_append]
      refine ⟨A1.nd, by simp, fun a ha b hb => ?_⟩
      rw [List.mem_singleton] at hb
      subst hb
      exact fun z => xa (z ▸ ha)
    · by_cases hk : k < as.length
      · rw [List.getElem?_append_left hk] at g1
        rw [List.getElem?_append_left (by rw [← A1.len]; exact hk)] at g2
        obtain ⟨h3, o, h4, h5⟩ := A1.mo k a m g1 g2
        exact ⟨h3, o, e0 a o h4, h5.1.mono (Ex.refl _) (pre_app _ _), h5.2.keep (KeepC.of e0)⟩
      · have e : k = as.length := by
          have := (List.getElem?_eq_some_iff.mp g1).1
          rw [List.length_append] at this
          simp only [List.length_cons, List.length_nil] at this
          omega
        subst e
        rw [List.getElem?_append_right (Nat.le_refl _), Nat.sub_self] at g1
        rw [A1.len, List.getElem?_append_right (Nat.le_refl _), Nat.sub_self] at g2
        cases g1
        cases g2
        exact ⟨lx, _, upd_same, .ins .nil, trivial⟩
  refine ⟨by rw [List.length_cons, r1.length]; exact hn, as ++ [x], M1 ++ [.ins C []], L1, _, _, .cons (.mu ?_) (r1.mono (Ex.refl _) (pre_app _ _)), A2, hw, fun v d L3 H3 M3 s3 A3 h3 r3 => ?_⟩
  · rw [← A1.len, List.getElem?_append_right (Nat.le_refl _), Nat.sub_self]
    rfl
  · obtain ⟨M4, fs, rfl, rfl, hl4, hap, hapM, p⟩ := h3
    cases r3
    refine ⟨rfl, ?_⟩
    have gx : (as ++ [x])[as.length]? = some x := by rw [List.getElem?_append_right (Nat.le_refl _), Nat.sub_self]; rfl
    have gm : (M4 ++ [MO.ins C fs])[as.length]? = some (.ins C fs) := by rw [A1.len, ← hl4, List.getElem?_append_right (Nat.le_refl _), Nat.sub_self]; rfl
    obtain ⟨dx', fv, g1, g2⟩ := A3.ins gx gm
    have g3 : RpF K as L3 fv fs := g2.cut (by rw [A1.len]; exact hap)
    have lx3 : L3 x = none := s3.hid x lx (by rw [upd_same]; simp)
    -- the instance is known for good
    have A4 : At K as M4 (upd L3 x (.ins C dx' fv)) H3 := by
      refine ⟨fun b o e => ?_, by rw [hl4]; exact A1.len, A1.nd, fun k a m e1 e2 => ?_, A3.nt.new (fun ps z => by cases z)⟩
      · by_cases hb : b = x
        · subst hb; rw [upd_same] at e; cases e; exact g1
        · rw [upd_ne hb] at e; exact A3.low b o e
      · have hk : k < as.length := (List.getElem?_eq_some_iff.mp e1).1
        obtain ⟨h5, o, h6, h7⟩ := A3.mo k a m (by rw [List.getElem?_append_left hk]; exact e1) (by rw [List.getElem?_append_left (by rw [hl4, ← A1.len]; exact hk)]; exact e2)
        have hax : a ≠ x := fun z => xa (by rw [← z]; exact List.mem_of_getElem? e1)
        refine ⟨by rw [upd_ne hax]; exact h5, o, h6, ?_, h7.2⟩
        have hm := List.all_eq_true.mp hapM m (List.mem_of_getElem? e2)
        cases h7.1 with
        | lst r => exact .lst ((r.cut (by rw [A1.len]; exact hm)).mono (Ex.new lx3) (Pre.refl _))
        | ins r => exact .ins ((r.cut (by rw [A1.len]; exact hm)).mono (Ex.new lx3) (Pre.refl _))
        | tab => exact .tab
        | dic l r => exact .dic l ((r.cut (by rw [A1.len]; exact hm)).mono (Ex.new lx3) (Pre.refl _))
        | dit l r => exact .dit l ((r.cut (by rw [A1.len]; exact hm)).mono (Ex.new lx3) (Pre.refl _))
    have s4 : Step as L1 H1 as (upd L3 x (.ins C dx' fv)) H3 := by
      refine ⟨fun b o hb e => ?_, fun b o e => ?_, fun b e e' => ?_, Pre.refl _, fun _ e => .inl e⟩
      · have hbx : b ≠ x := ne_of_none e hx
        refine s3.up b o (fun z => ?_) (e0 b o e)
        rcases List.mem_append.mp z with z | z
        · exact hb z
        · exact hbx (List.mem_singleton.mp z)
      · rw [upd_ne (fun z => by rw [z, lx] at e; cases e)]; exact s3.k b o e
      · have hbx : b ≠ x := fun z => e' (by rw [z]; exact hx)
        rw [upd_ne hbx]
        refine s3.hid b e ?_
        cases q2 : H1 b with
        | none => exact absurd q2 e'
        | some o => rw [e0 b o q2]; simp
    exact q _ _ _ H3 M4 (s1.trans A1 s4) A4 p (.ins upd_same (g3.mono (Ex.new lx3) (Pre.refl _)))
end
end Pd

set_option Elab.async false
set_option linter.all false
set_option maxRecDepth 100000
namespace Pd
open PySem PySem.Spec PyProof.Rows L2

/-! ### a def that hands back a new list, which the caller may change -/
abbrev DCN := List D → Ms → (List D → Ms → Prop) → Prop
def spN (n : Nat) (W : DCN) : PySem.W.Frag → Sp := fun K vs H Q _ => vs.length = n ∧ ∃ as M L ds P, RpA K as L vs ds ∧ At K as M L H ∧ W ds M P ∧
  ∀ p xs m L' H' M', Step as L H as L' H' → At K as M' L' H' → H p = none → L' p = none → H' p = some (.lst xs) → RpA K as L' xs m → P m M' → Q (.ref p) H'
section
variable {X : Cx} {e : Expr} {es : List Expr} {t : DE} {tl : DA} {pos p : Pos} {st : Stmt} {sts : List Stmt} {s1 s2 : DS}
/-- the last statement by the layer's own reading -/
theorem sim_then {K : PySem.W.Frag} {ts u : TS} {t : DS} (h : SimS K ts t) {as : List Addr} {σ : L2.St} {ρ : Rho} {L H : Hp} {M : Ms} {nx : Rho → Ms → Prop} {De : DEnds} {D : Ends} (hE : En K as L σ ρ) (A : At K as M L H) (c : Comp K as L H De D)
    (hn : ∀ σ' ρ' L' H' M', Step as L H as L' H' → At K as M' L' H' → En K as L' σ' ρ' → nx ρ' M' → u D σ' H') (ht : t { De with nx := nx } ρ M) : tSeq ts u D σ H :=
  h as σ ρ L H M _ _ hE A ht ⟨hn, c.rt, c.bk, c.ct⟩
def clean (k : Nat) (ρ : Rho) : Rho := ρ.map fun o => match o with
  | some d => if apart k d then some d else none
  | none => none
def cutE (k : Nat) (P : Rho → Ms → Prop) : Rho → Ms → Prop := fun ρ M => ∃ M3 m, M = M3 ++ [m] ∧ M3.length = k ∧ apartM k M3 = true ∧ P (clean k ρ) M3
def cutR (k : Nat) (P : D → Ms → Prop) : D → Ms → Prop := fun d M => ∃ M3 m, M = M3 ++ [m] ∧ M3.length = k ∧ apartM k M3 = true ∧ apart k d = true ∧ P d M3
theorem En.cut {K : PySem.W.Frag} {as : List Addr} {x : Addr} {L : Hp} {σ : L2.St} {ρ : Rho} (h : En K (as ++ [x]) L σ ρ) : En K as L σ (clean as.length ρ) := by
  refine ⟨by unfold clean; rw [List.length_map]; exact h.len, fun i d q => ?_⟩
  unfold clean at q
  rw [List.getElem?_map] at q
  cases e : ρ[i]? with
  | none => rw [e] at q; cases q
  | some o =>
    rw [e] at q
    cases o with
    | none => cases q
    | some d' =>
      have q' : (if apart as.length d' = true then some d' else none) = some d := Option.some.inj q
      by_cases ha : apart as.length d' = true
      · rw [if_pos ha] at q'
        cases q'
        obtain ⟨v, h1, h2⟩ := h.at_ i _ e
        exact ⟨v, h1, h2.cut ha⟩
      · rw [if_neg ha] at q'; cases q'
theorem Ro.cut {K : PySem.W.Frag} {as : List Addr} {x : Addr} {L : Hp} {o : HO} {m : MO} {M : Ms} (r : Ro K (as ++ [x]) L o m) (hm : m ∈ M) (h : apartM as.length M = true) : Ro K as L o m := by
  have hm := List.all_eq_true.mp h m hm
  cases r with
  | lst r => exact .lst (r.cut hm)
  | ins r => exact .ins (r.cut hm)
  | tab => exact .tab
  | dic l r => exact .dic l (r.cut hm)
  | dit l r => exact .dit l (r.cut hm)
theorem At.cut {K : PySem.W.Frag} {as : List Addr} {x : Addr} {M3 : Ms} {m : MO} {L H : Hp} (A : At K (as ++ [x]) (M3 ++ [m]) L H) (h : apartM as.length M3 = true) : At K as M3 L H := by
  have hl : as.length = M3.length := by
    have := A.len
    rw [List.length_append, List.length_append] at this
    simp only [List.length_cons, List.length_nil] at this
    omega
  refine ⟨A.low, hl, (List.nodup_append.mp A.nd).1, fun k a m' e1 e2 => ?_, A.nt⟩
  obtain ⟨h3, o, h4, h5⟩ := A.mo k a m' (by rw [List.getElem?_append_left (List.getElem?_eq_some_iff.mp e1).1]; exact e1) (by rw [List.getElem?_append_left (List.getElem?_eq_some_iff.mp e2).1]; exact e2)
  exact ⟨h3, o, h4, h5.1.cut (List.mem_of_getElem? e2) h, h5.2⟩
theorem At.add {K : PySem.W.Frag} {as : List Addr} {x : Addr} {M : Ms} {L H : Hp} {xs : List V} {ds : List D} (A : At K as M L H) (hx : H x = some (.lst xs)) (lx : L x = none) (xa : x ∉ as) (r : RpA K as L xs ds) : At K (as ++ [x]) (M ++ [.lst ds]) L H := by
  refine ⟨A.low, by rw [List.length_append, List.length_append, A.len]; rfl, ?_, fun k a m g1 g2 => ?_, A.nt⟩
  · rw [List.nodup_append]
    refine ⟨A.nd, by simp, fun a ha b hb => ?_⟩
    rw [List.mem_singleton] at hb
    subst hb
    exact fun z => xa (z ▸ ha)
  · by_cases hk : k < as.length
    · rw [List.getElem?_append_left hk] at g1
      rw [List.getElem?_append_left (by rw [← A.len]; exact hk)] at g2
      obtain ⟨h3, o, h4, h5⟩ := A.mo k a m g1 g2
      exact ⟨h3, o, h4, h5.1.mono (Ex.refl _) (pre_app _ _), h5.2⟩
    · have e : k = as.length := by
        have := (List.getElem?_eq_some_iff.mp g1).1
        rw [List.length_append] at this
        simp only [List.length_cons, List.length_nil] at this
        omega
      subst e
      rw [List.getElem?_append_right (Nat.le_refl _), Nat.sub_self] at g1
      rw [A.len, List.getElem?_append_right (Nat.le_refl _), Nat.sub_self] at g2
      cases g1
      cases g2
      exact ⟨lx, _, hx, .lst (r.mono (Ex.refl _) (pre_app _ _)), trivial⟩
/-- x = f(..), a new list that may be changed in the rest of the block -/
@[simp] def sNewN (i n : Nat) (W : DCN) (tl : DA) (rest : DS) : DS := fun De ρ M => tl ρ M fun ds M1 => ds.length = n ∧ W ds M1 fun m M2 => M2.length = M1.length ∧
  rest { nx := cutE M2.length De.nx, rt := cutR M2.length De.rt, bk := cutE M2.length De.bk, ct := cutE M2.length De.ct } (ρ.set i (some (.mu M2.length))) (M2 ++ [.lst m])
theorem Step.cutx {K : PySem.W.Frag} {as : List Addr} {x : Addr} {M : Ms} {L0 H0 L H L' H' : Hp} (s : Step as L0 H0 as L H) (A : At K as M L H) (hx : H0 x = none) (t : Step (as ++ [x]) L H (as ++ [x]) L' H') : Step as L0 H0 as L' H' := by
  have there : ∀ a, H0 a ≠ none → H a ≠ none := fun a h => by
    by_cases ha : a ∈ as
    · exact (A.held ha).2
    · cases q : H0 a with
      | none => exact absurd q h
      | some o => rw [s.up a o ha q]; simp
  refine ⟨fun a o ha h => ?_, s.k.trans t.k, fun a h h' => t.hid a (s.hid a h h') (there a h'), Pre.refl _, fun _ h => .inl h⟩
  refine t.up a o (fun z => ?_) (s.up a o ha h)
  rcases List.mem_append.mp z with z | z
  · exact ha z
  · rw [List.mem_singleton.mp z, hx] at h; cases h
theorem sim_rest {K : PySem.W.Frag} {ts : TS} {rest : DS} (h : SimS K ts rest) {as : List Addr} {x : Addr} {σ : L2.St} {ρ : Rho} {i : Nat} {L0 H0 L H : Hp} {M : Ms} {m : List D} {xs : List V} {De : DEnds} {D : Ends} (hE : En K as L σ ρ) (A : At K as M L H) (hx : H x = some (.lst xs)) (lx : L x = none) (xa : x ∉ as)
    (r : RpA K as L xs m) (s : Step as L0 H0 as L H) (hx0 : H0 x = none) (c : Comp K as L0 H0 De D) (hr : rest { nx := cutE M.length De.nx, rt := cutR M.length De.rt, bk := cutE M.length De.bk, ct := cutE M.length De.ct } (ρ.set i (some (.mu M.length))) (M ++ [.lst m])) : ts D (σ.set i (some (.ref x))) H := by
  have A2 := A.add hx lx xa r
  have gx : (as ++ [x])[M.length]? = some x := by rw [← A.len, List.getElem?_append_right (Nat.le_refl _), Nat.sub_self]; rfl
  have E2 : En K (as ++ [x]) L (σ.set i (some (.ref x))) (ρ.set i (some (.mu M.length))) := (hE.mono (Ex.refl _) (pre_app _ _)).set i (.mu gx)
  have fin : ∀ {d : Rho → Ms → Prop} {v : L2.St → Hp → Prop}, EndN K as L0 H0 d v → EndN K (as ++ [x]) L H (cutE M.length d) v := by
    intro d v hd σ' ρ' L' H' M' s' A' e' q
    obtain ⟨M3, m', rfl, hl, hap, q⟩ := q
    rw [← A.len] at hap q
    exact hd σ' _ L' H' M3 (s.cutx A hx0 s') (A'.cut hap) e'.cut q
  refine h (as ++ [x]) _ _ L H _ _ D E2 A2 hr ⟨fin c.nx, fun v d L' H' M' s' A' q rv => ?_, fin c.bk, fin c.ct⟩
  obtain ⟨M3, m', rfl, hl, hap, hd, q⟩ := q
  rw [← A.len] at hap hd
  exact c.rt v d L' H' M3 (s.cutx A hx0 s') (A'.cut hap) q (rv.cut hd)
theorem pdss_newN {k i n : Nat} {f : Addr} {fd : FuncData} {ps : List Str} {W : DCN} {x y : Str} {p' cp : Pos} (hN : X.N.Nodup) (F : FnOk X.prog X.w X.K X.mg X.base CX0 k f fd ps (spN n W X.K)) (hr : Room k X.A) (hg : Gl X x) (hm : X.mg x = some (.ref f)) (hk : PySem.W.keepIn X.K (.ref f) = true)
    (hb : Binds X.K fd ps []) (ha : PDA X (e :: es) tl) (hrest : PDSs X sts s2) (hi : X.N[i]? = some y := by rfl) (hy : Loc X.env.scope y := by first | exact Or.inl rfl | exact Or.inr rfl) (hs : swapsWith (.Call (.Name x p) (e :: es) [] cp) (some (.Name y p')) pos.line X.env = pure false := by rfl)
    (hf : X.fn y = true ∨ X.env.scope.names.lookup y = some .local := by first | exact .inl rfl | exact .inr rfl | assumption)
    (hdb : (x == ("__debug__" : Str)) = false := by decide) (he : starEach (e :: es) X.env = (false, eval e X.env) :: starEach es X.env := by rfl) (hpl : (backTo cp (starEach es X.env)).any (·.1) = false := by rfl) :
    PDSs X (.Assign [.Name y p'] (.Call (.Name x p) (e :: es) [] cp) pos :: sts) (sNewN i n W tl s2) := by
  obtain ⟨u, pa, sa⟩ := ha.ex
  obtain ⟨ur, pr, sr⟩ := hrest.ex
  refine ⟨_, pss_cons (ps_set hN hi hy (pe_call F hr hg hm hk hb .nil pass0 pa hdb he hpl) hs hf) pr, ?_⟩
  intro as σ ρ L H M De D hE A h c
  refine sa as σ ρ L H M _ _ hE A h fun vs ds L1 H1 M1 s1 A1 h1 r1 => ?_
  rw [List.append_nil]
  refine ⟨by rw [r1.length]; exact h1.1, as, M1, L1, ds, _, r1, A1, h1.2, fun a xs m L2 H2 M2 s2 A2 ha0 la hx rx hw => ?_⟩
  obtain ⟨hl, hw⟩ := hw
  have an : a ∉ as := fun z => (A1.held z).2 ha0
  have hH : H a = none := by
    cases q : H a with
    | none => rfl
    | some o => rw [s1.up a o an q] at ha0; cases ha0
  exact sim_rest sr (hE.mono ((s1.trans A1 s2).k) (Pre.refl _)) A2 hx la an rx (s1.trans A1 s2) hH c hw
end
end Pd

set_option Elab.async false
set_option linter.all false
set_option maxRecDepth 100000
set_option maxHeartbeats 1000000
namespace Pd
open PySem PySem.Spec PyProof.Rows L2

/-! ### a written dict with int keys -/
structure IntD (K : PySem.W.Frag) (P : Program) (w : World) (d : Addr) (f : Int → Option Int) : Prop where
  ex : ∃ es n, K.lookup d = some ⟨.type "dict", none, .dict es n, #[]⟩ ∧ KeysOf (intKind P w) es ∧ ∀ k, (findBy Value.isInt es k = none ∧ f k = none) ∨ ∃ v t, findBy Value.isInt es k = some (.int v t) ∧ f k = some v
  low : (d == sysModules) = false
section
variable {X : Cx} {d : Addr} {f : Int → Option Int}
theorem op_in_id (D : IntD X.K X.prog X.w d f) : OpR X (compareOp .In) (fun x y H Q => ∃ z, x = .int z ∧ y = .ref d ∧ Q (.bl (f z).isSome) H) := by
  intro pins s σ H x y v u Q I rx ry h
  obtain ⟨z, rfl, rfl, q⟩ := h
  obtain ⟨t, rfl⟩ := rx
  cases ry
  obtain ⟨es, n, h1, h2, h3⟩ := D.ex
  have hm : s.heap.MapOf (intKind X.prog X.w) d (fun k => findBy Value.isInt es k) := ⟨_, es, n, I.kIn _ _ h1, ⟨rfl, rfl, rfl⟩, rfl, h2, fun _ => rfl⟩
  refine wpAny_in_of (PySem.intKind_is X.prog X.w z t) D.low hm ?_
  rcases h3 z with ⟨e1, e2⟩ | ⟨a, b, e1, e2⟩
  · rw [e1]; rw [e2] at q; exact ⟨.bl false, H, I.tok _, rfl, q⟩
  · rw [e1]; rw [e2] at q; exact ⟨.bl true, H, I.tok _, rfl, q⟩
theorem ix_id (D : IntD X.K X.prog X.w d f) : IxR X (fun x y H Q => ∃ z v, x = .ref d ∧ y = .int z ∧ f z = some v ∧ Q (.int v) H) := by
  intro value slice pins s σ H x y v u Q I rx ry h hs
  obtain ⟨z, a, rfl, rfl, hf, q⟩ := h
  cases rx
  obtain ⟨t, rfl⟩ := ry
  obtain ⟨es, n, h1, h2, h3⟩ := D.ex
  have hm : s.heap.MapOf (intKind X.prog X.w) d (fun k => findBy Value.isInt es k) := ⟨_, es, n, I.kIn _ _ h1, ⟨rfl, rfl, rfl⟩, rfl, h2, fun _ => rfl⟩
  rcases h3 z with ⟨e1, e2⟩ | ⟨b, tb, e1, e2⟩
  · rw [e2] at hf; cases hf
  · rw [e2] at hf
    cases hf
    exact tail_any hm.typeIs PySem.F.slot_dict_getitem.lookup (wpAny_getItem_of (PySem.intKind_is X.prog X.w z t) hm e1 ⟨.int a, H, I.tok _, ⟨tb, rfl⟩, q⟩) hs
end
@[simp] def oInD (d : Addr) (f : Int → Option Int) : D2 := fun x y M P => ∃ z, x = .int z ∧ y = .ob d ∧ P (.bl (f z).isSome) M
theorem sr_inD {K : PySem.W.Frag} {d : Addr} {f : Int → Option Int} : SimR K (fun x y H Q => ∃ z, x = .int z ∧ y = .ref d ∧ Q (.bl (f z).isSome) H) (oInD d f) := by
  intro as L H M x y d1 e P Q A r1 r2 ⟨z, h1, h2, p⟩ q
  subst h1; subst h2
  cases r1; cases r2
  exact ⟨z, rfl, rfl, q _ _ L H M .refl A p (.bl _)⟩
@[simp] def oIxD (d : Addr) (f : Int → Option Int) : D2 := fun x y M P => ∃ z v, x = .ob d ∧ y = .int z ∧ f z = some v ∧ P (.int v) M
theorem sr_ixD {K : PySem.W.Frag} {d : Addr} {f : Int → Option Int} : SimR K (fun x y H Q => ∃ z v, x = .ref d ∧ y = .int z ∧ f z = some v ∧ Q (.int v) H) (oIxD d f) := by
  intro as L H M x y d1 e P Q A r1 r2 ⟨z, v, h1, h2, h3, p⟩ q
  subst h1; subst h2
  cases r1; cases r2
  exact ⟨z, v, rfl, rfl, h3, q _ _ L H M .refl A p (.int _)⟩

/-! ### over a list or a tuple -/
def iSeqH (K : PySem.W.Frag) (tl : TE) : TI := fun σ H R => tl σ H fun x H1 => ∃ a xs, x = .ref a ∧ ((SqL K H1 a xs ∧ R (Itl K a) H1) ∨ (SqT K H1 a xs ∧ R (Itt K a) H1))
section
variable {X : Cx} {tg l e : Expr} {es : List Expr} {pos : Pos} {t : DE} {tl : DA}
theorem pi_seq {tl : TE} (hl : PE X l tl) : PI X tg l (iSeqH X.K tl) := by
  refine ⟨fun pins s σ H R I h => ?_⟩
  refine thn (hl.run pins s σ H _ I h) fun v s1 ⟨x, H1, I1, r1, q1⟩ => ?_
  obtain ⟨a, xs, e, q⟩ := q1
  subst e
  cases r1
  have fr : ∀ b ∈ [s1.heap.objs.size], FpOk X pins H1 b := fun b hb => by
    have e : b = s1.heap.objs.size := by simpa using hb
    subst e
    exact I1.fpOk (Nat.le_refl _) (I1.hok.fresh (Nat.le_refl _))
  rcases q with ⟨hq, q⟩ | ⟨hq, q⟩
  · obtain ⟨its, rv, p, hz⟩ := I1.list hq
    refine wpAny_pyIter_list p.isList ?_
    exact ⟨s1.heap.objs.size, [s1.heap.objs.size], _, _, H1, rfl, I1.kept (t' := s1.toks) fun b o e => Heap.get?_push_of_some _ e, turn_list a _, ⟨_, Heap.get?_push_size _ rfl, rfl, rfl⟩, fr, q⟩
  · obtain ⟨its, rv, p, hz⟩ := I1.tuple hq
    refine wpAny_pyIter_tuple (show s1.heap.IsTuple a its.toArray from p) ?_
    exact ⟨s1.heap.objs.size, [s1.heap.objs.size], _, _, H1, rfl, I1.kept (t' := s1.toks) fun b o e => Heap.get?_push_of_some _ e, turn_tuple a _, ⟨_, Heap.get?_push_size _ rfl, rfl, rfl⟩, fr, q⟩
/-- a list or a tuple, its items -/
def isSeq : D → List D → Prop := fun d ds => d = .lst ds ∨ d = .tup ds
@[simp] def iSeq (t : DE) : DA := fun ρ M P => t ρ M fun d M1 => ∃ ds, isSeq d ds ∧ P ds M1
theorem pdi_seq (h : PD X e t) : PDI X tg e (iSeq t) := by
  obtain ⟨u, p, s⟩ := h.ex
  refine ⟨_, pi_seq p, ?_⟩
  intro as σ ρ L H M P R hE A h q
  refine s as σ ρ L H M _ _ hE A h fun v d L1 H1 M1 s1 A1 h1 r1 => ?_
  obtain ⟨ds, hd, h1⟩ := h1
  rcases hd with rfl | rfl
  · cases r1 with
    | lst hs ra => exact ⟨_, _, rfl, .inl ⟨ex_l A1.low hs, q _ ds L1 H1 M1 s1 A1 h1 (walks_list hs ra)⟩⟩
  · cases r1 with
    | tup hs ra => exact ⟨_, _, rfl, .inr ⟨ex_t A1.low hs, q _ ds L1 H1 M1 s1 A1 h1 (walks_tup hs ra)⟩⟩
/-! ### tuple(xs) -/
@[simp] def oTuple : DC := fun xs M P => ∃ d ds, xs = [d] ∧ isSeq d ds ∧ P (.tup ds) M
theorem sc_tuple {K : PySem.W.Frag} : SimC K (fun xs H Q => ∃ p ys, xs = [.ref p] ∧ ((SqL K H p ys ∧ ∀ l, H l = none → Q (.ref l) (upd H l (.tup ys))) ∨ (SqT K H p ys ∧ Q (.ref p) H))) oTuple := by
  intro as L H M xs ds P Q A r ⟨d, es, h, hd, p⟩ q
  subst h
  cases r with
  | cons r1 r2 =>
    cases r2
    rcases hd with rfl | rfl
    · cases r1 with
      | lst hs ra => exact ⟨_, _, rfl, .inl ⟨ex_l A.low hs, fun l hl => q _ _ _ _ M (Step.know A hl) (A.know hl) p (.tup (.inl (.inl upd_same)) (ra.mono (Ex.new (lowfree A hl)) (Pre.refl _)))⟩⟩
    · cases r1 with
      | tup hs ra => exact ⟨_, _, rfl, .inr ⟨ex_t A.low hs, q _ _ L H M .refl A p (.tup hs ra)⟩⟩
/-! ### any(t), t a tuple of ints -/
def rAnyT (K : PySem.W.Frag) : List V → Hp → VK → Prop := fun vs H Q => ∃ (a : Addr) (ns : List Int), vs = [V.ref a] ∧ SqT K H a (ns.map V.int) ∧ Q (.bl (ns.any fun n => n != 0)) H
theorem any_rangeI : ∀ bs : List Int, (List.range bs.length).any (fun i => (bs.getD i 0) != 0) = bs.any fun n => n != 0
  | [] => rfl
  | b :: bs => by
    rw [List.length_cons, List.range_succ_eq_map, List.any_cons, List.any_map, List.any_cons, ← any_rangeI bs]
    all_goals rfl
theorem ints_of_vals : ∀ {ns : List Int} {us : List Value}, Vals (ns.map V.int) us → IntsAre us ns := fun h => L2.ints_vals h
theorem cr_anyT (hc : X.calm = true) : CallR X (.builtin "any") (rAnyT X.K) := by
  intro pins s σ H vs us Q I r h
  obtain ⟨a, ns, rfl, hs, q⟩ := h
  obtain ⟨its, rv, hl, _⟩ := I.tuple hs
  rw [Vals.ref1 r]
  have hlt : a < s.heap.objs.size := by obtain ⟨o, e, _⟩ := hl; exact Heap.lt_size e
  have hlen := rv.length
  rw [List.length_map] at hlen
  refine call_any_walk (wpAny_pyIter_tuple (show s.heap.IsTuple a its.toArray from hl) ?_)
  refine ⟨_, _, _, _, _, _, fun i => (ns.getD i 0) != 0, rfl, Walks.tuple (A := X.A.in1) (I.ok.hd hc) _ a (Nat.ne_of_lt hlt) its.toArray, ⟨⟨_, Heap.get?_push_size _ rfl, rfl, rfl⟩, hl.push _⟩, fun i v s' Q' E' hv hq => ?_, fun h' tk hk => ?_⟩
  · have hv' : its[i]? = some v := by simpa using hv
    obtain ⟨n, hn⟩ : ∃ n, ns[i]? = some n := by
      have h1 : i < its.length := (List.getElem?_eq_some_iff.mp hv').1
      exact ⟨ns[i]'(by omega), List.getElem?_eq_getElem (by omega)⟩
    obtain ⟨u, hu, ru⟩ := rv.get (i := i) (x := .int n) (by rw [List.getElem?_map, hn]; rfl)
    rw [hv'] at hu
    cases hu
    obtain ⟨t, rfl⟩ := ru
    have hg : ns.getD i 0 = n := by rw [List.getD_eq_getElem?_getD, hn]; rfl
    simp only [hg] at hq
    exact PyProof.Rows.truthy_int hq
  · refine ⟨.bl _, H, I.kept fun b o eo => hk b o (fun hmem => ?_) (Heap.get?_push_of_some _ eo), ?_, q⟩
    · rcases List.mem_cons.mp hmem with e1 | hmem
      · exact absurd (e1 ▸ Heap.lt_size eo) (Nat.lt_irrefl _)
      · cases hmem
    · show Value.bool _ = Value.bool _
      rw [← any_rangeI, List.size_toArray, ← hlen]
end
end Pd

set_option Elab.async false
set_option linter.all false
set_option maxRecDepth 100000
set_option maxHeartbeats 1000000
namespace Pd
open PySem PySem.Spec PyProof.Rows L2

/-! ### zip of two sequences, each a list or a tuple -/
inductive Kd | l | t
def SqK (K : PySem.W.Frag) : Kd → Hp → Addr → List V → Prop
  | .l => SqL K
  | .t => SqT K
def IterK : Kd → Heap → Addr → Addr → Nat → Prop
  | .l => fun h it a i => h.IsListIter it a i
  | .t => fun h it a i => h.IsTupleIter it a i
def SeqAtK : Kd → Heap → Addr → Array Value → Prop
  | .l => fun h a items => h.IsList a items
  | .t => fun h a items => h.IsTuple a items
def itObj : Kd → Addr → Obj
  | .l, a => { cls := .type "list_iterator", data := .fields #[.ref a, .int 0 0] }
  | .t, a => { cls := .type "tuple_iterator", data := .fields #[.ref a, .int 0 0] }
theorem drawsK (k : Kd) {prog : Program} {w : World} {A : Around} (hh : A.handled = none) (it l : Addr) (hne : l ≠ it) (items : Array Value) :
    Draws prog w A it [it, l] items.size (fun i v => items[i]? = some v) (fun i h => IterK k h it l i ∧ SeqAtK k h l items) := by
  cases k with
  | l => exact Draws.list hh it l hne items
  | t => exact Draws.tuple hh it l hne items
theorem beginsK (k : Kd) (a : Addr) (items : Array Value) : Begins (.ref a) (itObj k a) fun h => SeqAtK k h a items := by
  cases k with
  | l => exact begins_list a items
  | t => exact begins_tuple a items
theorem iterK_at {k : Kd} {h h' : Heap} {it a : Addr} {i : Nat} (x : IterK k h it a i) (hk : ∀ o, h.get? it = some o → h'.get? it = some o) : IterK k h' it a i := by
  cases k with
  | l => exact Heap.IsListIter.at x hk
  | t => exact Heap.IsTupleIter.at x hk
theorem iterK_obj {k : Kd} {h : Heap} {it a : Addr} {i : Nat} (x : IterK k h it a i) : ∃ o, h.get? it = some o ∧ ∀ v, o.data ≠ .cell v := by
  cases k with
  | l => obtain ⟨o, e, _, d⟩ := x; exact ⟨o, e, fun v z => by rw [d] at z; cases z⟩
  | t => obtain ⟨o, e, _, d⟩ := x; exact ⟨o, e, fun v z => by rw [d] at z; cases z⟩
theorem iterK_new {k : Kd} {h : Heap} {it a : Addr} (e : h.get? it = some (itObj k a)) : IterK k h it a 0 := by
  cases k with
  | l => exact ⟨_, e, rfl, rfl⟩
  | t => exact ⟨_, e, rfl, rfl⟩
theorem sqK_at {X : Cx} {pins : List (Addr × Obj)} {σ : L2.St} {H : Hp} {s : Shared} {k : Kd} {a : Addr} {xs : List V} (I : Inv X pins σ H s) (h : SqK X.K k H a xs) : ∃ its : List Value, Vals xs its ∧ SeqAtK k s.heap a its.toArray ∧ a < s.heap.objs.size := by
  cases k with
  | l =>
    obtain ⟨its, r, p, _⟩ := I.list h
    exact ⟨its, r, p.isList, p.lt⟩
  | t =>
    obtain ⟨its, r, p, _⟩ := I.tuple h
    exact ⟨its, r, p, by obtain ⟨o, e, _⟩ := p; exact Heap.lt_size e⟩
theorem sqK_inj {X : Cx} {pins : List (Addr × Obj)} {σ : L2.St} {H : Hp} {s : Shared} {k : Kd} {a : Addr} {xs ys : List V} (I : Inv X pins σ H s) (h : SqK X.K k H a xs) (h' : SqK X.K k H a ys) : xs = ys := by
  cases k with
  | l => exact I.list_inj h h'
  | t => exact I.tuple_inj h h'
def Itz2 (K : PySem.W.Frag) (ka kb : Kd) (a b : Addr) : It :=
  ⟨fun i H => ∃ (xs ys : List V) (x y : V), SqK K ka H a xs ∧ SqK K kb H b ys ∧ xs[i]? = some x ∧ ys[i]? = some y,
    fun i H v H' => ∃ T x y, v = .ref T ∧ H T = none ∧ H' = upd H T (.tup [x, y]) ∧ (∀ xs, SqK K ka H a xs → xs[i]? = some x) ∧ ∀ ys, SqK K kb H b ys → ys[i]? = some y,
    fun i H => ∃ xs ys : List V, SqK K ka H a xs ∧ SqK K kb H b ys ∧ i = min xs.length ys.length⟩
theorem zsep {z TI TO i1 i2 a b : Addr} (D : ZipApart z TI TO i1 i2 a b) : ZipSep2 z TI TO i1 i2 [i1, a] [i2, b] where
  TIz := D.TIz
  TOz := D.TOz
  TITO := D.TITO
  TIi1 := D.TIi1
  mem1 := by simp
  zf1 := by simp; exact ⟨fun e => D.i1z e.symm, fun e => D.l1z e.symm⟩
  Tf1 := by simp; exact ⟨D.TOi1, fun e => D.l1TO e.symm⟩
  TIi2 := D.TIi2
  mem2 := by simp
  zf2 := by simp; exact ⟨fun e => D.i2z e.symm, fun e => D.l2z e.symm⟩
  Tf2 := by simp; exact ⟨D.TOi2, fun e => D.l2TO e.symm⟩
  sep1_2 := by simp; exact ⟨D.i12, fun e => D.l2i1 e.symm⟩
  sep2_1 := by simp; exact ⟨fun e => D.i12 e.symm, fun e => D.l1i2 e.symm⟩
theorem turn_z2 {P : Program} {w : World} {K : PySem.W.Frag} {elts : List Expr} {kk : Nat} {tpos : Pos} (ka kb : Kd) {a b z TI TO i1 i2 : Addr} (D : ZipApart z TI TO i1 i2 a b) :
    Turn P w K (.Tuple elts kk tpos) (Itz2 K ka kb a b) [z, TI, TO, i1, i2] z (fun i h => IsZip h z TI TO .none ∧ IsTupOf2 h TI (.ref i1) (.ref i2) ∧ (∃ x y, IsTupOf2 h TO x y) ∧ IterK ka h i1 a i ∧ IterK kb h i2 b i) where
  mem := by simp
  obj := fun i h st c hc => by
    obtain ⟨hz, hTI, ⟨x, y, hTO⟩, h1, h2⟩ := st
    have e' : c = z ∨ c = TI ∨ c = TO ∨ c = i1 ∨ c = i2 := by simpa using hc
    rcases e' with q | q | q | q | q
    · rw [q]; exact ⟨_, hz, fun v q => nomatch q⟩
    · rw [q]; exact ⟨_, hTI, fun v q => nomatch q⟩
    · rw [q]; exact ⟨_, hTO, fun v q => nomatch q⟩
    · rw [q]; exact iterK_obj h1
    · rw [q]; exact iterK_obj h2
  keep := fun i h h' st k => by
    obtain ⟨hz, hTI, ⟨x, y, hTO⟩, h1, h2⟩ := st
    exact ⟨k z (by simp) _ hz, k TI (by simp) _ hTI, ⟨x, y, k TO (by simp) _ hTO⟩, iterK_at h1 fun o q => k i1 (by simp) o q, iterK_at h2 fun o q => k i2 (by simp) o q⟩
  item := by
    intro X hP hw hK hc i pins s σ H E I hf st hg
    subst hP hw hK
    obtain ⟨hz, hTI, ⟨x0, y0, hTO⟩, h1, h2⟩ := st
    obtain ⟨xs, ys, x, y, hqx, hqy, hx, hy⟩ := hg
    obtain ⟨its, rv, p, _⟩ := sqK_at I hqx
    obtain ⟨its2, rv2, p2, _⟩ := sqK_at I hqy
    obtain ⟨u, hu, ru⟩ := rv.get hx
    obtain ⟨u2, hu2, ru2⟩ := rv2.get hy
    have hzl : z < s.heap.objs.size := Heap.lt_size hz
    have hi1 : i < its.toArray.size := by simpa using (List.getElem?_eq_some_iff.mp hu).1
    have hi2 : i < its2.toArray.size := by simpa using (List.getElem?_eq_some_iff.mp hu2).1
    refine wpAny_pyNext_zipD2_item (zsep D) (drawsK ka (A := X.A.in1) (I.ok.hd hc) i1 a D.l1i1 its.toArray) (drawsK kb (A := X.A.in1) (I.ok.hd hc) i2 b D.l2i2 its2.toArray) hz hTI hTO ⟨h1, p⟩ ⟨h2, p2⟩ hi1 hi2 fun x1 x2 h' tk g1 g2 z' TO' st1 st2 hT hsz hk => ?_
    have e1 : x1 = u := by
      have g1' : its[i]? = some x1 := by simpa using g1
      rw [hu] at g1'; exact (Option.some.inj g1').symm
    have e2 : x2 = u2 := by
      have g2' : its2[i]? = some x2 := by simpa using g2
      rw [hu2] at g2'; exact (Option.some.inj g2').symm
    subst e1; subst e2
    refine ⟨_, rfl, wpAny_letOwnedTupleGo_zip (s := { s with heap := h', toks := tk }) z' fun h'' z'' sb => ?_⟩
    have hT2 : h''.get? s.heap.objs.size = some { cls := .type "tuple", data := .seq #[x1, x2] } := (sb.2 _ (Nat.ne_of_gt hzl)).trans hT
    have new : ObjOk X.prog X.w (upd H s.heap.objs.size (.tup [x, y])) h'' s.heap.objs.size (.tup [x, y]) :=
      ⟨by show 2 ≤ sizeLine; decide, [x1, x2], .cons ru (.cons ru2 .nil), ⟨_, hT2, rfl, _, rfl⟩⟩
    have I1 : Inv X pins σ (upd H s.heap.objs.size (.tup [x, y])) { s with heap := h'', toks := tk } :=
      I.turnedNew (t' := tk) (ch := [z, TI, TO, i1, i2]) (fun c o hb q => (sb.2 c (fun q' => hb (by simp [q']))).trans (hk c o (fun q' => hb (by simp [q'])) (fun q' => hb (by simp [q'])) (fun q' => hb (by simp [q'])) (fun q' => hb (by simp [q'])) q)) hf (Nat.le_refl _) new
    refine ⟨.ref s.heap.objs.size, _, I1, rfl, ⟨_, x, y, rfl, I.hok.fresh (Nat.le_refl _), rfl, fun l hl => by rw [sqK_inj I hl hqx]; exact hx, fun l hl => by rw [sqK_inj I hl hqy]; exact hy⟩, ⟨z'', ?_, ⟨x1, x2, ?_⟩, ?_, ?_⟩, fun c hcm => ?_⟩
    · exact (sb.2 _ D.TIz).trans (hk _ _ D.TIz D.TITO D.TIi1 D.TIi2 hTI)
    · exact (sb.2 _ D.TOz).trans TO'
    · exact iterK_at st1.1 fun o q => (sb.2 _ D.i1z).trans q
    · exact iterK_at st2.1 fun o q => (sb.2 _ D.i2z).trans q
    · have hlt : c < s.heap.objs.size := by
        have e' : c = z ∨ c = TI ∨ c = TO ∨ c = i1 ∨ c = i2 := by simpa using hcm
        rcases e' with q | q | q | q | q
        · rw [q]; exact hzl
        · rw [q]; exact Heap.lt_size hTI
        · rw [q]; exact Heap.lt_size hTO
        · rw [q]; obtain ⟨_, e1, _⟩ := iterK_obj h1; exact Heap.lt_size e1
        · rw [q]; obtain ⟨_, e2, _⟩ := iterK_obj h2; exact Heap.lt_size e2
      rw [upd_ne (Nat.ne_of_lt hlt)]
      exact (hf c hcm).1
  done := by
    intro X hP hw hK hc i pins s σ H E I hf st hg
    subst hP hw hK
    obtain ⟨hz, hTI, ⟨x0, y0, hTO⟩, h1, h2⟩ := st
    obtain ⟨xs, ys, hqx, hqy, hend⟩ := hg
    obtain ⟨its, rv, p, _⟩ := sqK_at I hqx
    obtain ⟨its2, rv2, p2, _⟩ := sqK_at I hqy
    have l1 := rv.length
    have l2 := rv2.length
    refine wpAny_pyNext_zipD2_end (zsep D) (drawsK ka (A := X.A.in1) (I.ok.hd hc) i1 a D.l1i1 its.toArray) (drawsK kb (A := X.A.in1) (I.ok.hd hc) i2 b D.l2i2 its2.toArray) hz hTI hTO ⟨h1, p⟩ ⟨h2, p2⟩ (by simp; omega) (by simp; omega) (by simp; omega) fun h' tk hk => ?_
    exact ⟨rfl, I.turnedL (t' := tk) (ch := [z, TI, TO, i1, i2]) (fun c o hb q => hk c o (fun q' => hb (by simp [q'])) (fun q' => hb (by simp [q'])) (fun q' => hb (by simp [q'])) (fun q' => hb (by simp [q'])) q) hf⟩
  self := fun A i s Q E st h => wpAny_pyIter_zip st.1 h
def iZip2 (K : PySem.W.Frag) (ta : TA) : TI := fun σ H R => ta σ H fun vs H1 => ∃ ka kb a b xs ys, vs = [.ref a, .ref b] ∧ SqK K ka H1 a xs ∧ SqK K kb H1 b ys ∧ R (Itz2 K ka kb a b) H1
section
variable {X : Cx} {e e2 : Expr} {pos p tpos : Pos} {elts : List Expr} {kk : Nat} {tl : DA}
theorem pi_zip2 {ta : TA} (hg : Gl X "zip") (hm : X.mg "zip" = none) (ha : PA X [e, e2] ta)
    (hs : starEach [e, e2] X.env = (false, eval e X.env) :: starEach [e2] X.env := by rfl) (hpl : (backTo pos (starEach [e2] X.env)).any (·.1) = false := by rfl) :
    PI X (.Tuple elts kk tpos) (.Call (.Name "zip" p) [e, e2] [] pos) (iZip2 X.K ta) := by
  refine ⟨fun pins s σ H R I h => ?_⟩
  refine Call_ (ld_blt I hg hm PyProof.Rows.boot_zip (PyProof.Rows.callWith_type1 (thn (ha.run pos pins s σ H _ I h) fun us s1 ⟨vs, H1, I1, r1, q1⟩ => ?_) hs hpl))
  obtain ⟨ka, kb, a, b, xs, ys, ex, hqx, hqy, q⟩ := q1
  subst ex
  cases r1 with
  | cons r rr =>
    cases rr with
    | cons r' rr =>
      cases rr
      cases r
      cases r'
      have fresh5 : ∀ c, c ∈ [s1.heap.objs.size + 4, s1.heap.objs.size + 2, s1.heap.objs.size + 3, s1.heap.objs.size, s1.heap.objs.size + 1] → FpOk X pins H1 c := fun c hcm => by
        have e' : c = s1.heap.objs.size + 4 ∨ c = s1.heap.objs.size + 2 ∨ c = s1.heap.objs.size + 3 ∨ c = s1.heap.objs.size ∨ c = s1.heap.objs.size + 1 := by simpa using hcm
        have hle : s1.heap.objs.size ≤ c := by
          rcases e' with z | z | z | z | z
          · rw [z]; exact Nat.le_add_right _ _
          · rw [z]; exact Nat.le_add_right _ _
          · rw [z]; exact Nat.le_add_right _ _
          · rw [z]; exact Nat.le_refl _
          · rw [z]; exact Nat.le_add_right _ _
        exact I1.fpOk hle (I1.hok.fresh hle)
      obtain ⟨its, rv, p1, l1⟩ := sqK_at I1 hqx
      obtain ⟨its2, rv2, p2, l2⟩ := sqK_at I1 hqy
      refine zip_begins2 (beginsK ka a its.toArray) (beginsK kb b its2.toArray) p1 p2 fun h' hz hTI hTO h1 h2 hsz hk => wpAny_pyIter_zip hz ?_
      have I2 : Inv X pins σ H1 { s1 with heap := h' } := I1.kept (t' := s1.toks) hk
      exact ⟨s1.heap.objs.size + 4, [s1.heap.objs.size + 4, s1.heap.objs.size + 2, s1.heap.objs.size + 3, s1.heap.objs.size, s1.heap.objs.size + 1], _, _, H1, rfl, I2, turn_z2 ka kb (PySem.W.ktu_apart s1.heap.objs.size a b l1 l2), ⟨hz, hTI, ⟨_, _, hTO⟩, iterK_new h1, iterK_new h2⟩, fresh5, q⟩
/-- the pairs -/
def pairs : List D → List D → List D
  | x :: xs, y :: ys => .tup [x, y] :: pairs xs ys
  | _, _ => []
theorem pairs_get : ∀ (xs ys : List D) (i : Nat) (x y : D), xs[i]? = some x → ys[i]? = some y → (pairs xs ys)[i]? = some (.tup [x, y])
  | x :: xs, y :: ys, 0, a, b, h1, h2 => by simp at h1 h2; subst h1; subst h2; rfl
  | x :: xs, y :: ys, i + 1, a, b, h1, h2 => pairs_get xs ys i a b h1 h2
  | [], _, _, _, _, h1, _ => by simp at h1
  | _ :: _, [], _, _, _, _, h2 => by simp at h2
theorem pairs_len : ∀ (xs ys : List D), (pairs xs ys).length = min xs.length ys.length
  | [], ys => by simp [pairs]
  | _ :: _, [] => by simp [pairs]
  | x :: xs, y :: ys => by
    show (pairs xs ys).length + 1 = _
    rw [pairs_len xs ys, List.length_cons, List.length_cons]
    omega
@[simp] def iZp (tl : DA) : DA := fun ρ M P => tl ρ M fun ds M1 => ∃ d e xs ys, ds = [d, e] ∧ isSeq d xs ∧ isSeq e ys ∧ P (pairs xs ys) M1
theorem rp_seq {K : PySem.W.Frag} {as : List Addr} {L : Hp} {v : V} {d : D} {ds : List D} (r : Rp K as L v d) (h : isSeq d ds) : ∃ k a xs, v = .ref a ∧ SqK K k L a xs ∧ RpA K as L xs ds := by
  rcases h with rfl | rfl
  · cases r with | lst hs ra => exact ⟨.l, _, _, rfl, hs, ra⟩
  · cases r with | tup hs ra => exact ⟨.t, _, _, rfl, hs, ra⟩
theorem ex_k {K : PySem.W.Frag} {k : Kd} {H H' : Hp} {a : Addr} {xs : List V} (e : Ex H H') (h : SqK K k H a xs) : SqK K k H' a xs := by
  cases k with
  | l => exact ex_l e h
  | t => exact ex_t e h
theorem walks_zip {K : PySem.W.Frag} {as : List Addr} {L0 : Hp} {ka kb : Kd} {a b : Addr} {xs ys : List V} {ds es : List D} (h1 : SqK K ka L0 a xs) (r1 : RpA K as L0 xs ds) (h2 : SqK K kb L0 b ys) (r2 : RpA K as L0 ys es) : Walks K (Itz2 K ka kb a b) as L0 (pairs ds es) := by
  intro L H M e A
  have g1 := ex_k (e.trans A.low) h1
  have g2 := ex_k (e.trans A.low) h2
  refine ⟨fun i hi => ?_, xs, ys, g1, g2, by rw [pairs_len, r1.length, r2.length]⟩
  rw [pairs_len] at hi
  have i1 : i < xs.length := by rw [r1.length]; omega
  have i2 : i < ys.length := by rw [r2.length]; omega
  refine ⟨⟨xs, ys, _, _, g1, g2, List.getElem?_eq_getElem i1, List.getElem?_eq_getElem i2⟩, fun v H' y => ?_⟩
  obtain ⟨T, x, y, rfl, hT, rfl, f1, f2⟩ := y
  obtain ⟨d1, q1, w1⟩ := r1.getV (f1 xs g1)
  obtain ⟨d2, q2, w2⟩ := r2.getV (f2 ys g2)
  have lT := lowfree A hT
  exact ⟨_, upd L T (.tup [x, y]), pairs_get ds es i d1 d2 q1 q2, Step.know A hT, A.know hT, .tup (.inl (.inl upd_same)) (.cons (w1.mono (e.trans (Ex.new lT)) (Pre.refl _)) (.cons (w2.mono (e.trans (Ex.new lT)) (Pre.refl _)) .nil))⟩
theorem pdi_zip (hg : Gl X "zip") (hm : X.mg "zip" = none) (ha : PDA X [e, e2] tl)
    (hs : starEach [e, e2] X.env = (false, eval e X.env) :: starEach [e2] X.env := by rfl) (hpl : (backTo pos (starEach [e2] X.env)).any (·.1) = false := by rfl) : PDI X (.Tuple elts kk tpos) (.Call (.Name "zip" p) [e, e2] [] pos) (iZp tl) := by
  obtain ⟨u, pa, s⟩ := ha.ex
  refine ⟨_, pi_zip2 hg hm pa hs hpl, ?_⟩
  intro as σ ρ L H M P R hE A h q
  refine s as σ ρ L H M _ _ hE A h fun vs ds L1 H1 M1 s1 A1 h1 r1 => ?_
  obtain ⟨d, f, xs, ys, rfl, hd, hf, p⟩ := h1
  cases r1 with
  | cons ra rb =>
    cases rb with
    | cons rb rc =>
      cases rc
      obtain ⟨ka, a, xv, rfl, g1, w1⟩ := rp_seq ra hd
      obtain ⟨kb, b, yv, rfl, g2, w2⟩ := rp_seq rb hf
      exact ⟨ka, kb, a, b, xv, yv, rfl, ex_k A1.low g1, ex_k A1.low g2, q _ _ L1 H1 M1 s1 A1 p (walks_zip g1 w1 g2 w2)⟩
end
@[simp] def oAnyT : DC := fun xs M P => ∃ ns : List Int, xs = [.tup (ns.map D.int)] ∧ P (.bl (ns.any fun n => n != 0)) M
theorem sc_anyT {K : PySem.W.Frag} : SimC K (rAnyT K) oAnyT := by
  intro as L H M xs ds P Q A r ⟨ns, h, p⟩ q
  subst h
  cases r with
  | cons r1 r2 =>
    cases r2
    cases r1 with
    | tup hs ra =>
      have e := ra.ints
      subst e
      exact ⟨_, ns, rfl, ex_t A.low hs, q _ _ L H M .refl A p (.bl _)⟩
end Pd

set_option Elab.async false
set_option linter.all false
set_option maxRecDepth 100000
set_option maxHeartbeats 1000000
namespace Pd
open PySem PySem.Spec PyProof.Rows L2

theorem cmpback {P : Value → Shared → Prop} {z : V} {v : Value} {s' : Shared} (r : RelV z v) (h : P v s') : PySem.W.CmpBack P v s' := by
  cases z with
  | non => cases (show v = Value.none from r); exact h
  | bl b => cases (show v = Value.bool b from r); exact h
  | int i => obtain ⟨t, e⟩ := (show ∃ t, v = Value.int i t from r); cases e; exact h
  | str i => obtain ⟨t, e⟩ := (show ∃ t, v = Value.str i t from r); cases e; exact h
  | byt i => obtain ⟨t, e⟩ := (show ∃ t, v = Value.bytes i t from r); cases e; exact h
  | flt i => obtain ⟨t, e⟩ := (show ∃ t, v = Value.float i t from r); cases e; exact h
  | ref a => cases (show v = Value.ref a from r); exact h
  | ty n => cases (show v = Value.type n from r); exact h
section
variable {X : Cx} {k n : Nat} {C g : Addr} {fd : FuncData} {ps : List Str} {W : DC}
/-- a def called by the machine itself with two values -/
theorem run2 (F : FnOk X.prog X.w X.K X.mg X.base CX0 k g fd ps (spD n W X.K)) (hb : Binds X.K fd ps []) (hr : Room k X.A) {pins : List (Addr × Obj)} {σ : L2.St} {H : Hp} {s : Shared} {us : List Value} {vs : List V} {Q : VK} (I : Inv X pins σ H s) (r : Vals vs us) (h : spD n W X.K vs H Q E0) :
    wpAny (model X.prog X.w) X.A (call (.ref g) us) (EP X pins σ Q) X.xe s :=
  wpAny_call (run_fnR (F.raw hb .nil) hr pass0 I r (by rw [List.append_nil]; exact h))
/-! ### operators that the class defines -/
def rOwnI (K : PySem.W.Frag) (C : Addr) (n : Nat) (W : DC) : R2 := fun x y H Q => ∃ a dx fs b dy gs, x = .ref a ∧ y = .ref b ∧ H a = some (.ins C dx fs) ∧ H b = some (.ins C dy gs) ∧ spD n W K [x, y] H Q E0
theorem op_ownI {op : Operator} (hc : PySem.W.selfFirst X.K C = true) (hs : PySem.W.findIn X.K (.ref C) (PySem.dunder op.info.2) = some (some (.ref g))) (hf : PySem.W.isFn X.K (.ref g) = true)
    (F : FnOk X.prog X.w X.K X.mg X.base CX0 k g fd ps (spD n W X.K)) (hb : Binds X.K fd ps []) (hr : Room k X.A) : OpR X (binaryOp op) (rOwnI X.K C n W) := by
  intro pins s σ H x y v u Q I rx ry h
  obtain ⟨a, dx, fs, b, dy, gs, rfl, rfl, ha, hb', q⟩ := h
  cases (show v = Value.ref a from rx)
  cases (show u = Value.ref b from ry)
  obtain ⟨mA, O, _⟩ := ins_get I.hok ha
  obtain ⟨od, J, _⟩ := O.look
  obtain ⟨mB, O', _⟩ := ins_get I.hok hb'
  obtain ⟨od', J', _⟩ := O'.look
  obtain ⟨m, hF⟩ := I.fr
  refine PySem.W.binop_K hF I.ok.mod.kin J J'.type hc hs hf ?_
  refine wpAny_mono (run2 (us := [.ref a, .ref b]) (vs := [.ref a, .ref b]) F hb hr I (.cons rfl (.cons rfl .nil)) q) (fun w s' z => ?_) fun _ _ x => x
  obtain ⟨z', H', I', rz, qz⟩ := z
  exact cmpback rz ⟨z', H', I', rz, qz⟩
@[simp] def oOwnI (C : Addr) (W : DC) : D2 := fun x y M P => ∃ fs gs, x = .ins C fs ∧ y = .ins C gs ∧ W [x, y] M P
theorem sp_of {K : PySem.W.Frag} {as : List Addr} {L H : Hp} {M : Ms} {vs : List V} {ds : List D} {P : D → Ms → Prop} {Q : VK} {E : XK} (A : At K as M L H) (r : RpA K as L vs ds) (hn : ds.length = n) (h : W ds M P)
    (q : ∀ v z L' H' M', Step as L H as L' H' → At K as M' L' H' → P z M' → Rp K as L' v z → Q v H') : spD n W K vs H Q E := ⟨by rw [r.length]; exact hn, as, M, L, ds, P, r, A, h, q⟩
theorem sr_ownI {K : PySem.W.Frag} : SimR K (rOwnI K C 2 W) (oOwnI C W) := by
  intro as L H M x y d e P Q A r1 r2 ⟨fs, gs, h1, h2, p⟩ q
  subst h1; subst h2
  have r1' := r1
  have r2' := r2
  cases r1 with
  | ins g1 _ =>
    cases r2 with
    | ins g2 _ => exact ⟨_, _, _, _, _, _, rfl, rfl, A.low _ _ g1, A.low _ _ g2, sp_of A (.cons r1' (.cons r2' .nil)) rfl p q⟩
/-- the other operand an int -/
def rOwnN (K : PySem.W.Frag) (C : Addr) (n : Nat) (W : DC) : R2 := fun x y H Q => ∃ a dx fs i, x = .ref a ∧ y = .int i ∧ H a = some (.ins C dx fs) ∧ spD n W K [x, y] H Q E0
theorem op_ownN {op : Operator} {fo ro rc : Option Value} (hc : PySem.W.selfFirst X.K C = true) (hs : PySem.W.findIn X.K (.ref C) (PySem.dunder op.info.2) = some (some (.ref g))) (hf : PySem.W.isFn X.K (.ref g) = true)
    (hr' : PySem.W.findIn X.K (.ref C) (PySem.dunderR op.info.2) = some rc) (hp : rc = none ∨ ∃ g : Addr, rc = some (.ref g)) (h1 : PySem.W.findIn X.K (.type "int") (PySem.dunder op.info.2) = some fo) (h2 : PySem.W.findIn X.K (.type "int") (PySem.dunderR op.info.2) = some ro) (hsub : PySem.W.subIn X.K (.type "int") (.ref C) = some false)
    (F : FnOk X.prog X.w X.K X.mg X.base CX0 k g fd ps (spD n W X.K)) (hb : Binds X.K fd ps []) (hr : Room k X.A) : OpR X (binaryOp op) (rOwnN X.K C n W) := by
  intro pins s σ H x y v u Q I rx ry h
  obtain ⟨a, dx, fs, i, rfl, rfl, ha, q⟩ := h
  cases (show v = Value.ref a from rx)
  obtain ⟨t, rfl⟩ := (show ∃ t, u = Value.int i t from ry)
  obtain ⟨mA, O, _⟩ := ins_get I.hok ha
  obtain ⟨od, J, _⟩ := O.look
  obtain ⟨m, hF⟩ := I.fr
  refine PySem.W.ksp_binT (T := "int") hF I.ok.mod.kin J rfl hc hs hf hr' hp h1 h2 hsub ?_
  refine wpAny_mono (run2 (us := [.ref a, .int i t]) (vs := [.ref a, .int i]) F hb hr I (.cons rfl (.cons ⟨t, rfl⟩ .nil)) q) (fun w s' z => ?_) fun _ _ x => x
  obtain ⟨z', H', I', rz, qz⟩ := z
  exact cmpback rz ⟨z', H', I', rz, qz⟩
@[simp] def oOwnN (C : Addr) (W : DC) : D2 := fun x y M P => ∃ fs i, x = .ins C fs ∧ y = .int i ∧ W [x, y] M P
theorem sr_ownN {K : PySem.W.Frag} : SimR K (rOwnN K C 2 W) (oOwnN C W) := by
  intro as L H M x y d e P Q A r1 r2 ⟨fs, i, h1, h2, p⟩ q
  subst h1; subst h2
  have r1' := r1
  have r2' := r2
  cases r2
  cases r1 with
  | ins g1 _ => exact ⟨_, _, _, _, rfl, rfl, A.low _ _ g1, sp_of A (.cons r1' (.cons r2' .nil)) rfl p q⟩
/-- - x -/
def rOwnU (K : PySem.W.Frag) (C : Addr) (n : Nat) (W : DC) : V → Hp → VK → Prop := fun x H Q => ∃ a dx fs, x = .ref a ∧ H a = some (.ins C dx fs) ∧ spD n W K [x] H Q E0
theorem un_own (hs : PySem.W.findIn X.K (.ref C) "__neg__" = some (some (.ref g))) (hf : PySem.W.isFn X.K (.ref g) = true)
    (F : FnOk X.prog X.w X.K X.mg X.base CX0 k g fd ps (spD n W X.K)) (hb : Binds X.K fd ps []) (hr : Room k X.A) : UnR X (unaryOp .USub) (rOwnU X.K C n W) := by
  intro pins s σ H x v Q I rx h
  obtain ⟨a, dx, fs, rfl, ha, q⟩ := h
  cases (show v = Value.ref a from rx)
  obtain ⟨mA, O, _⟩ := ins_get I.hok ha
  obtain ⟨od, J, _⟩ := O.look
  obtain ⟨m, hF⟩ := I.fr
  exact PySem.W.ksp_neg hF I.ok.mod.kin J hs hf (run2 (us := [.ref a]) (vs := [.ref a]) F hb hr I (.cons rfl .nil) q)
@[simp] def oOwnU (C : Addr) (W : DC) : D1 := fun x M P => ∃ fs, x = .ins C fs ∧ W [x] M P
theorem su_own {K : PySem.W.Frag} : SimU K (rOwnU K C 1 W) (oOwnU C W) := by
  intro as L H M x d P Q A r1 ⟨fs, h1, p⟩ q
  subst h1
  have r1' := r1
  cases r1 with
  | ins g1 _ => exact ⟨_, _, _, rfl, A.low _ _ g1, sp_of A (.cons r1' .nil) rfl p q⟩
/-! ### == and != by the class's own __eq__ -/
/-- the type of a value that == may meet -/
inductive TyE (K : PySem.W.Frag) (H : Hp) : V → Value → Prop
  | non : TyE K H .non (.type "NoneType")
  | bl (b : Bool) : TyE K H (.bl b) (.type "bool")
  | int (i : Int) : TyE K H (.int i) (.type "int")
  | str (x : Str) : TyE K H (.str x) (.type "str")
  | lst {a : Addr} {xs : List V} : SqL K H a xs → TyE K H (.ref a) (.type "list")
  | tup {a : Addr} {xs : List V} : SqT K H a xs → TyE K H (.ref a) (.type "tuple")
  | ins {a C dx : Addr} {fs : List (Str × V)} : H a = some (.ins C dx fs) → TyE K H (.ref a) (.ref C)
  | dic {a : Addr} {kvs : List (Key × V)} : Rd H a (.dK kvs) → TyE K H (.ref a) (.type "dict")
  | dit {a : Addr} {kvs : List (List Key × V)} : Rd H a (.dT kvs) → TyE K H (.ref a) (.type "dict")
theorem TyE.looks {pins : List (Addr × Obj)} {σ : L2.St} {H : Hp} {s : Shared} {v : V} {u : Value} {t : Value} (I : Inv X pins σ H s) (h : TyE X.K H v t) (ru : RelV v u) : PySem.W.Looks (model X.prog X.w) s.heap (typeOf u) t := by
  cases h with
  | non => cases (show u = Value.none from ru); exact .now
  | bl b => cases (show u = Value.bool b from ru); exact .now
  | int b => obtain ⟨t, rfl⟩ := (show ∃ t, u = Value.int b t from ru); exact .now
  | str b => obtain ⟨t, rfl⟩ := (show ∃ t, u = Value.str b t from ru); exact .now
  | lst hs =>
    rename_i a xs
    cases (show u = Value.ref a from ru)
    obtain ⟨its, _, ⟨o, n, e, hc, _⟩, _⟩ := I.list hs
    exact hc ▸ (PySem.W.Looks.ld e).andThen .now
  | tup hs =>
    rename_i a xs
    cases (show u = Value.ref a from ru)
    obtain ⟨its, _, ⟨o, e, hc, _⟩, _⟩ := I.tuple hs
    exact hc ▸ (PySem.W.Looks.ld e).andThen .now
  | ins hs =>
    rename_i a _ _ _
    cases (show u = Value.ref a from ru)
    obtain ⟨mB, O', _⟩ := ins_get I.hok hs
    obtain ⟨od', J', _⟩ := O'.look
    exact J'.type
  | dic hs =>
    rename_i a kvs
    cases (show u = Value.ref a from ru)
    obtain ⟨_, _, _, _, o, _, _, e, hc, _⟩ := dk_rd I.hok hs
    exact hc.1 ▸ (PySem.W.Looks.ld e).andThen .now
  | dit hs =>
    rename_i a kvs
    cases (show u = Value.ref a from ru)
    obtain ⟨_, _, _, _, o, _, _, e, hc, _⟩ := dt_rd I.hok hs
    exact hc.1 ▸ (PySem.W.Looks.ld e).andThen .now
def rOwnE (K : PySem.W.Frag) (C : Addr) (n : Nat) (W : DC) : R2 := fun x y H Q => ∃ a dx fs t, x = .ref a ∧ H a = some (.ins C dx fs) ∧ TyE K H y t ∧ PySem.W.notFirst K C t = true ∧ spD n W K [x, y] H Q E0
theorem op_ownE (hs : PySem.W.findIn X.K (.ref C) "__eq__" = some (some (.ref g))) (hf : PySem.W.isFn X.K (.ref g) = true)
    (F : FnOk X.prog X.w X.K X.mg X.base CX0 k g fd ps (spD n W X.K)) (hb : Binds X.K fd ps []) (hr : Room k X.A) : OpR X (compareOp .Eq) (rOwnE X.K C n W) := by
  intro pins s σ H x y v u Q I rx ry h
  obtain ⟨a, dx, fs, t, rfl, ha, ht, hn, q⟩ := h
  cases (show v = Value.ref a from rx)
  obtain ⟨mA, O, _⟩ := ins_get I.hok ha
  obtain ⟨od, J, _⟩ := O.look
  obtain ⟨m, hF⟩ := I.fr
  show wpAny _ _ (richCompare .Eq _ _) _ _ _
  refine PySem.W.cmp_K (op := .Eq) (tb := t) hr.units0 hF I.ok.mod.kin J (ht.looks I ry) hn hs hf ?_
  refine wpAny_mono (run2 (us := [.ref a, u]) (vs := [.ref a, y]) F hb hr I (.cons rfl (.cons ry .nil)) q) (fun w s' z => ?_) fun _ _ x => x
  obtain ⟨z', H', I', rz, qz⟩ := z
  exact cmpback rz ⟨z', H', I', rz, qz⟩
theorem dtyE {K : PySem.W.Frag} {as : List Addr} {M : Ms} {L H : Hp} {v : V} {d : D} {t : Value} (A : At K as M L H) (r : Rp K as L v d) (h : DTy K d t) : TyE K H v t := by
  cases h with
  | non => cases r; exact .non
  | bl b => cases r; exact .bl b
  | int b => cases r; exact .int b
  | str b => cases r; exact .str b
  | lst ds => cases r with | lst hs _ => exact .lst (ex_l A.low hs)
  | tup ds => cases r with | tup hs _ => exact .tup (ex_t A.low hs)
  | ins h => cases r with | ins hs _ => exact .ins (A.low _ _ hs)
  | dic ks ds => cases r with | dic hs _ _ => exact .dic (ex_rd A.low (.inr hs))
  | dit ks ds => cases r with | dit hs _ _ => exact .dit (.inl (A.low _ _ hs))
  | tfz ns => cases r with | tfz h => obtain ⟨o, h, _⟩ := h; exact .tup (.inl (.inr ⟨o, A.low _ _ h⟩))
@[simp] def oOwnE (K : PySem.W.Frag) (C : Addr) (W : DC) : D2 := fun x y M P => ∃ fs t, x = .ins C fs ∧ DTy K y t ∧ PySem.W.notFirst K C t = true ∧ W [x, y] M P
theorem sr_ownE {K : PySem.W.Frag} : SimR K (rOwnE K C 2 W) (oOwnE K C W) := by
  intro as L H M x y d e P Q A r1 r2 ⟨fs, t, h1, h2, h3, p⟩ q
  subst h1
  have r1' := r1
  cases r1 with
  | ins g1 _ => exact ⟨_, _, _, t, rfl, A.low _ _ g1, dtyE A r2 h2, h3, sp_of A (.cons r1' (.cons r2 .nil)) rfl p q⟩
end

/-! ### obj(e, ..), C.m(e, ..) of a staticmethod, C(e, ..) -/
section
variable {X : Cx} {k n : Nat} {C g : Addr} {fd : FuncData} {ps : List Str} {W : DC} {e fe o value : Expr} {es : List Expr} {t tv : DE} {tl : DA} {pos pos' p apos : Pos}
@[simp] def dCallO (C : Addr) (n : Nat) (W : DC) (t : DE) (tl : DA) : DE := fun ρ M P => t ρ M fun x M1 => ∃ fs, x = .ins C fs ∧ tl ρ M1 fun ds M2 => ds.length + 1 = n ∧ W (x :: ds) M2 P
theorem pd_callO (hf : PD X fe t) (c : StX.CallO X.K C g) (F : FnOk X.prog X.w X.K X.mg X.base CX0 k g fd ps (spD n W X.K)) (hb : Binds X.K fd ps []) (hr : Room k X.A) (ha : PDA X (e :: es) tl)
    (ht : eval (.Call fe (e :: es) [] pos) X.env = (do callWith pos (← eval fe X.env) [] (backTo pos (starEach (e :: es) X.env)) (backToKw pos (keywordEach [] X.env))) := by rfl)
    (he : starEach (e :: es) X.env = (false, eval e X.env) :: starEach es X.env := by rfl) (hpl : (backTo pos (starEach es X.env)).any (·.1) = false := by rfl) : PD X (.Call fe (e :: es) [] pos) (dCallO C n W t tl) := by
  obtain ⟨u, pf, sf⟩ := hf.ex
  obtain ⟨ua, pa, sa⟩ := ha.ex
  refine ⟨_, StX.pe_callO pf c (F.raw hb .nil) hr (pass0 (X := X)) pa ht he hpl, ?_⟩
  intro as σ ρ L H M P Q hE A h q
  refine sf as σ ρ L H M _ _ hE A h fun v d L1 H1 M1 s1 A1 h1 r1 => ?_
  obtain ⟨fs, rfl, h1⟩ := h1
  have r0 := r1
  cases r1 with
  | ins g1 _ =>
    refine ⟨_, rfl, sa as σ ρ L1 H1 M1 _ _ (hE.mono s1.k s1.pre) A1 h1 fun vs ds L2 H2 M2 s2 A2 h2 r2 => ⟨.inr ⟨_, _, A2.low _ _ (s2.k _ _ g1)⟩, ?_⟩⟩
    have s12 := s1.trans A1 s2
    have q2 := sp_of (n := n) (W := W) (Q := Q) (E := E0) A2 (RpA.cons (r0.mono s2.k s2.pre) r2) (by rw [List.length_cons]; exact h2.1) h2.2 fun v z L3 H3 M3 s3 A3 h3 r3 => q v z L3 H3 M3 (s12.trans A2 s3) A3 h3 r3
    show spD n W X.K (V.ref _ :: vs ++ []) H2 Q E0
    rw [List.append_nil]
    exact q2
/-- C.m(e, ..), m a staticmethod whose def is at g -/
structure SMet (K : PySem.W.Frag) (C : Addr) (mc : Value) (m : Str) (p g : Addr) : Prop where
  rd : PySem.W.readsIn K C mc = true
  ga : PySem.W.specialIn K (.ref C) "__getattribute__" = some (some (.builtin "type.__getattribute__"))
  at_ : PySem.W.findCls K (.ref C) mc m = some (.get (.builtin "staticmethod.__get__") (.ref p) .none (.ref C))
  rc : ∃ rest, PySem.W.recIn K p "staticmethod" = some (.ref g :: rest)
  kp : PySem.W.keepIn K (.ref g) = true
def tSM (C : Addr) (sp : Sp) (ta : TE) (t : TA) : TE := fun σ H Q => ta σ H fun x H1 => x = .ref C ∧ t σ H1 fun vs H2 => sp vs H2 Q E0
theorem pe_smeth {m : Str} {mc : Value} {q : Addr} {sp : Sp} {ta : TE} {ta' : TA} {pl : Sem Bool} (he : PE X o ta) (c : SMet X.K C mc m q g) (F : FnOk X.prog X.w X.K X.mg X.base CX0 k g fd ps sp) (hb : Binds X.K fd ps []) (hr : Room k X.A) (ha : PA X (e :: es) ta')
    (hst : starEach (e :: es) X.env = (false, eval e X.env) :: starEach es X.env := by rfl) (hpl : (backTo pos (starEach es X.env)).any (·.1) = false := by rfl)
    (ht : eval (.Call (.Attribute o m apos) (e :: es) [] pos) X.env = (do
      let ov ← eval o X.env
      standAt apos.atName
      let (f, first) ← holding [ov] (getMethod ov m pl)
      callWith pos f first (backTo pos (starEach (e :: es) X.env)) (backToKw pos (keywordEach [] X.env))) := by rfl) :
    PE X (.Call (.Attribute o m apos) (e :: es) [] pos) (tSM C sp ta ta') := by
  refine ⟨fun pins s σ H Q I h => ?_⟩
  refine PySem.W.methodCall_KW (pl := pl) (thn (he.run pins s σ H _ I h) fun u s1 ⟨x, H1, I1, rx, ex, q⟩ => ?_) ht
  subst ex
  obtain rfl : u = Value.ref C := rx
  obtain ⟨rest, hp⟩ := c.rc
  refine PySem.W.method_cls I1.kIn c.ga (PySem.W.cls_bind I1.kIn c.rd c.at_ (wpAny_call (PySem.W.sm_get (s := { s1 with toks := s1.toks + 1 }) I1.kIn hp (PySem.W.handed_on rfl ?_))))
  have I2 := I1.tok (s1.toks + 1)
  refine PySem.W.callWith_K (first := []) (h₀ := X.base) I2.ok.mod.kin c.kp (thn (ha.run pos pins _ σ H1 _ I2 q) fun us s2 ⟨vs, H2, I3, r, q2⟩ => ⟨I3.kIn, ?_⟩) hst hpl
  exact run_fn (us := us) (vs := vs) F hr hb .nil (pass0 (X := X)) I3 r (by rw [List.append_nil]; exact q2)
@[simp] def dSM (C : Addr) (n : Nat) (W : DC) (t : DE) (tl : DA) : DE := fun ρ M P => t ρ M fun x M1 => x = .ob C ∧ tl ρ M1 fun ds M2 => ds.length = n ∧ W ds M2 P
theorem pd_smeth {m : Str} {mc : Value} {q : Addr} {pl : Sem Bool} (he : PD X o t) (c : SMet X.K C mc m q g) (F : FnOk X.prog X.w X.K X.mg X.base CX0 k g fd ps (spD n W X.K)) (hb : Binds X.K fd ps []) (hr : Room k X.A) (ha : PDA X (e :: es) tl)
    (hst : starEach (e :: es) X.env = (false, eval e X.env) :: starEach es X.env := by rfl) (hpl : (backTo pos (starEach es X.env)).any (·.1) = false := by rfl)
    (ht : eval (.Call (.Attribute o m apos) (e :: es) [] pos) X.env = (do
      let ov ← eval o X.env
      standAt apos.atName
      let (f, first) ← holding [ov] (getMethod ov m pl)
      callWith pos f first (backTo pos (starEach (e :: es) X.env)) (backToKw pos (keywordEach [] X.env))) := by rfl) :
    PD X (.Call (.Attribute o m apos) (e :: es) [] pos) (dSM C n W t tl) := by
  obtain ⟨u, pf, sf⟩ := he.ex
  obtain ⟨ua, pa, sa⟩ := ha.ex
  refine ⟨_, pe_smeth pf c F hb hr pa hst hpl ht, ?_⟩
  intro as σ ρ L H M P Q hE A h qq
  refine sf as σ ρ L H M _ _ hE A h fun v d L1 H1 M1 s1 A1 h1 r1 => ?_
  obtain ⟨rfl, h1⟩ := h1
  cases r1
  refine ⟨rfl, sa as σ ρ L1 H1 M1 _ _ (hE.mono s1.k s1.pre) A1 h1 fun vs ds L2 H2 M2 s2 A2 h2 r2 => ?_⟩
  exact sp_of A2 r2 h2.1 h2.2 fun v z L3 H3 M3 s3 A3 h3 r3 => qq v z L3 H3 M3 ((s1.trans A1 s2).trans A2 s3) A3 h3 r3
theorem pd_make {f : Addr} {x : Str} (M : Mk X.K C f) (F : FnOk X.prog X.w X.K X.mg X.base CX0 k f fd ps (spD n W X.K)) (hr : Room (k + 1) X.A) (hg : Gl X x) (hm : X.mg x = some (.ref C)) (hb : Binds X.K fd ps [])
    (ha : PDA X (e :: es) tl) (hdb : (x == ("__debug__" : Str)) = false := by decide) (he : starEach (e :: es) X.env = (false, eval e X.env) :: starEach es X.env := by rfl) (hpl : (backTo pos (starEach es X.env)).any (·.1) = false := by rfl) :
    PD X (.Call (.Name x p) (e :: es) [] pos) (dMake C n W tl) := by
  obtain ⟨ua, pa, sa⟩ := ha.ex
  exact ⟨_, pe_make M F hr hg hm hb .nil (pass0 (X := X)) pa hdb he hpl, sim_make sa⟩
/-! ### self.f = e, self the new instance -/
def putD (f : Str) (v : D) : List (Str × D) → List (Str × D)
  | [] => [(f, v)]
  | (g, x) :: r => if g = f then (g, v) :: r else (g, x) :: putD f v r
theorem RpF.put {K : PySem.W.Frag} {as : List Addr} {L : Hp} {f : Str} {v : V} {d : D} (r : Rp K as L v d) : ∀ {fs : List (Str × V)} {gs : List (Str × D)}, RpF K as L fs gs → RpF K as L (putF f v fs) (putD f d gs)
  | _, _, .nil => .cons r .nil
  | _, _, .cons (f := g) (v := w) (fs := fs) (d := dd) (gs := gs) q t => by
    show RpF K as L (if g = f then (g, v) :: fs else (g, w) :: putF f v fs) (if g = f then (g, d) :: gs else (g, dd) :: putD f d gs)
    by_cases h : g = f
    · rw [if_pos h, if_pos h]; exact .cons r t
    · rw [if_neg h, if_neg h]; exact .cons q (RpF.put r t)
@[simp] def sFldM (K : PySem.W.Frag) (f : Str) (tv to : DE) : DS := fun De ρ M => tv ρ M fun v M1 => to ρ M1 fun x M2 => ∃ j C gs, x = .mu j ∧ M2[j]? = some (.ins C gs) ∧ Cls K C ∧ NoAttr K C f ∧ gs.length < 1000 ∧ De.nx ρ (M2.set j (.ins C (putD f v gs)))
theorem pds_fldM {f : Str} (hv : PD X value tv) (ho : PD X o t) (hs : swapsWith value (some (.Attribute o f pos')) pos.line X.env = pure false := by rfl) : PDS X (.Assign [.Attribute o f pos'] value pos) (sFldM X.K f tv t) := by
  obtain ⟨u, p1, s1⟩ := hv.ex
  obtain ⟨u2, p2, s2⟩ := ho.ex
  refine ⟨_, ps_fld p2 p1 hs, ?_⟩
  intro as σ ρ L H M De D hE A h c
  refine s1 as σ ρ L H M _ _ hE A h fun v d L1 H1 M1 t1 A1 h1 r1 => ?_
  refine s2 as σ ρ L1 H1 M1 _ _ (hE.mono t1.k t1.pre) A1 h1 fun x d2 L2 H2 M2 t2 A2 h2 r2 => ?_
  obtain ⟨j, C, gs, rfl, hm, hc, hn, hl, p⟩ := h2
  cases r2 with
  | mu hk =>
    obtain ⟨dx, fs, g1, g2⟩ := A2.ins hk hm
    refine ⟨_, C, dx, fs, rfl, g1, hc, hn, by rw [g2.length]; exact hl, ?_⟩
    exact c.nx σ ρ L2 _ _ ((t1.trans A1 t2).trans A2 (Step.put (List.mem_of_getElem? hk))) (A2.put hk (.ins (g2.put (r1.mono t2.k t2.pre)))) (hE.mono (t1.k.trans t2.k) (Pre.refl _)) p
end
/-! ### lists and tuples joined, repeated -/
section
variable {K : PySem.W.Frag}
end
end Pd

set_option Elab.async false
set_option linter.all false
set_option maxRecDepth 100000
set_option maxHeartbeats 1000000
namespace Pd
open PySem PySem.Spec PyProof.Rows L2
/-! ### lists and tuples joined, a tuple repeated -/
def rCatL (K : PySem.W.Frag) : R2 := fun x y H Q => ∃ l b xs zs, x = .ref l ∧ y = .ref b ∧ SqL K H l xs ∧ SqL K H b zs ∧ xs.length + zs.length ≤ sizeLine ∧ ∀ p, H p = none → Q (.ref p) (upd H p (.lst (xs ++ zs)))
theorem op_catL {X : Cx} : OpR X (binaryOp .Add) (rCatL X.K) := by
  intro pins s σ H x y v u Q I rx ry h
  obtain ⟨l, b, xs, zs, rfl, rfl, hH, hB, hz, q⟩ := h
  cases rx
  cases ry
  obtain ⟨its, r, ⟨⟨cls, dd, data, sl⟩, n, ho, hc, hdn, hd⟩, _⟩ := I.list hH
  obtain ⟨its2, r2, ⟨⟨cls2, dd2, data2, sl2⟩, n2, ho2, hc2, hdn2, hd2⟩, _⟩ := I.list hB
  simp only at hc hd hc2 hd2
  subst hc hd hc2 hd2
  have e : its.toArray ++ its2.toArray = (its ++ its2).toArray := by simp
  have h1 := r.length
  have h2 := r2.length
  refine concat_meets ⟨_, ho, rfl⟩ ⟨_, ho2, rfl⟩ noFill_list_add seq_list_add PySem.F.slot_list_add PySem.F.entry_list_add (PySem.F.args_list_add_2 _ _) (list_addW l b its.toArray its2.toArray n n2 dd dd2 sl sl2 (by simp only [List.size_toArray]; omega)) ⟨ho, ho2, ?_⟩
  rw [e]
  exact ⟨.ref _, _, I.lnew (t' := s.toks) (r.append r2) (by rw [List.length_append]; omega), rfl, q _ I.fresh⟩
@[simp] def oCatL : D2 := fun x y M P => ∃ ds es, x = .lst ds ∧ y = .lst es ∧ ds.length + es.length ≤ sizeLine ∧ P (.lst (ds ++ es)) M
theorem sr_catL {K : PySem.W.Frag} : SimR K (rCatL K) oCatL := by
  intro as L H M x y d e P Q A r1 r2 ⟨ds, es, h1, h2, h3, p⟩ q
  subst h1; subst h2
  cases r1 with
  | lst g1 w1 =>
    cases r2 with
    | lst g2 w2 => exact ⟨_, _, _, _, rfl, rfl, ex_l A.low g1, ex_l A.low g2, by rw [w1.length, w2.length]; exact h3, fun p' hp => q _ _ _ _ M (Step.know A hp) (A.know hp) p (.lst (.inl (.inl upd_same)) ((w1.append w2).mono (Ex.new (lowfree A hp)) (Pre.refl _)))⟩
@[simp] def oCatT : D2 := fun x y M P => ∃ ds es, x = .tup ds ∧ y = .tup es ∧ ds.length + es.length ≤ sizeLine ∧ P (.tup (ds ++ es)) M
theorem sr_catT {K : PySem.W.Frag} : SimR K (rCatA K) oCatT := by
  intro as L H M x y d e P Q A r1 r2 ⟨ds, es, h1, h2, h3, p⟩ q
  subst h1; subst h2
  cases r1 with
  | tup g1 w1 =>
    cases r2 with
    | tup g2 w2 =>
      refine ⟨_, _, _, _, rfl, rfl, ex_t A.low g1, ex_t A.low g2, by rw [w1.length, w2.length]; exact h3, fun e => ?_, fun e1 e2 => ?_, fun e1 e2 p' hp => ?_⟩
      · subst e
        cases w1
        exact q _ _ L H M .refl A p (.tup g2 w2)
      · subst e2
        cases w2
        rw [List.append_nil] at p
        exact q _ _ L H M .refl A p (.tup g1 w1)
      · exact q _ _ _ _ M (Step.know A hp) (A.know hp) p (.tup (.inl (.inl upd_same)) ((w1.append w2).mono (Ex.new (lowfree A hp)) (Pre.refl _)))
/-- once: the tuple itself -/
theorem tuple_mul1 (l : Addr) (items : Array Value) (n : Nat) (dd : Option Addr) (sl : Array (Option Value)) (u : Tok) :
    Meets (Builtin.«tuple.__mul__» ⟨[.ref l, .int 1 u], []⟩) (fun _ R s => s.heap.get? l = some { cls := .type "tuple", dict := dd, data := .seq items n, slots := sl } ∧ R (.ok (.ret (Value.ref l))) s) :=
  .of_wp fun prog w A R s h => by
    obtain ⟨hp, g, d, tk, os⟩ := s
    obtain ⟨hl, h⟩ := h
    have f1 := AutoSeq1.idx_int
    wp_walk using wpAny_loadPart' hl
    repeat (first
      | (refine wpAny_ite_false (decide_eq_false (by decide)) ?_; wp_walk using wpAny_loadPart' hl)
      | (refine wpAny_ite_true (decide_eq_true (by simp)) ?_; wp_walk using wpAny_loadPart' hl))
    exact ⟨_, rfl, h⟩

def rRepA (K : PySem.W.Frag) : R2 := fun x y H Q => ∃ l k xs, x = .ref l ∧ y = .int k ∧ SqT K H l xs ∧ xs ≠ [] ∧ 1 ≤ k ∧ k ≤ 1000 ∧ xs.length ≤ 1000 ∧ (k = 1 → Q (.ref l) H) ∧ (2 ≤ k → ∀ p, H p = none → Q (.ref p) (upd H p (.tup (List.replicate k.toNat xs).flatten)))
theorem op_repA {X : Cx} : OpR X (binaryOp .Mult) (rRepA X.K) := by
  intro pins s σ H x y v u Q I rx ry h
  obtain ⟨l, k, xs, rfl, rfl, hT, hne, h1, h2, hz, q1, q2⟩ := h
  by_cases hk : k = 1
  · subst hk
    cases rx
    obtain ⟨t, rfl⟩ := ry
    obtain ⟨its, r, ⟨⟨cls, dd, data, sl⟩, ho, hc, n, hd⟩, hs⟩ := I.tuple hT
    simp only at hc hd
    subst hc hd
    refine wpAny_binaryOp_repeat_ref (T := "tuple") (U := "int") (by decide) ⟨_, ho, rfl⟩ (fun s' => typeIs_int s' 1 t) noFill_tuple_mul F.fills_int_mul F.slot_int_rmul repeat_tuple F.slot_int_index.lookup
      (call_meets F.slot_int_rmul (typeIs_int s 1 t) F.entry_int_rmul (F.args_int_rmul_2 _ _) (int_rmul_tuple 1 t l its.toArray n dd sl)
        ⟨ho, rfl, ⟨_, ho, rfl⟩, call_meets F.slot_tuple_mul ⟨_, ho, rfl⟩ F.entry_tuple_mul (F.args_tuple_mul_2 _ _) (tuple_mul1 l its.toArray n dd sl t) ⟨ho, ?_⟩⟩)
    exact ⟨.ref l, H, I, rfl, q1 rfl⟩
  · exact op_repT pins s σ H _ _ v u Q I rx ry ⟨l, k, xs, rfl, rfl, hT, hne, by omega, h2, hz, q2 (by omega)⟩
@[simp] def oRepT : D2 := fun x y M P => ∃ (ds : List D) (k : Int), x = .tup ds ∧ y = .int k ∧ ds ≠ [] ∧ 1 ≤ k ∧ k ≤ 1000 ∧ ds.length ≤ 1000 ∧ P (.tup (List.replicate k.toNat ds).flatten) M
theorem RpA.rep {K : PySem.W.Frag} {as : List Addr} {L : Hp} {xs : List V} {ds : List D} (r : RpA K as L xs ds) : ∀ n : Nat, RpA K as L (List.replicate n xs).flatten (List.replicate n ds).flatten
  | 0 => .nil
  | n + 1 => by
    rw [List.replicate_succ, List.replicate_succ, List.flatten_cons, List.flatten_cons]
    exact r.append (RpA.rep r n)
theorem sr_repT {K : PySem.W.Frag} : SimR K (rRepA K) oRepT := by
  intro as L H M x y d e P Q A r1 r2 ⟨ds, k, h1, h2, hne, hk1, hk2, hl, p⟩ q
  subst h1; subst h2
  cases r2
  cases r1 with
  | tup g1 w1 =>
    refine ⟨_, k, _, rfl, rfl, ex_t A.low g1, fun e => hne (by subst e; cases w1 <;> rfl), hk1, hk2, by rw [w1.length]; exact hl, fun e => ?_, fun _ p' hp => ?_⟩
    · subst e
      have e1 : (List.replicate (1 : Int).toNat ds).flatten = ds := by simp
      rw [e1] at p
      exact q _ _ L H M .refl A p (.tup g1 w1)
    · exact q _ _ _ _ M (Step.know A hp) (A.know hp) p (.tup (.inl (.inl upd_same)) ((w1.rep _).mono (Ex.new (lowfree A hp)) (Pre.refl _)))
/-! ### x != y of a class with __eq__ alone -/
theorem ne_own {prog : Program} {w : World} {A : Around} {E : Value → Shared → Prop} {s : Shared} {K : PySem.W.Frag} {x C L f : Addr} {h₀ : Heap} {m : Str → Option Value} {ox : Obj} {od : Option Obj} {b tb : Value} {Q : Value → Shared → Prop}
    (hu : A.units + 1 < cLine) (Fx : Fr h₀ L s.heap m) (X₀ : K.In h₀) (I : PySem.W.InstAt s.heap x ox C od) (hb : PySem.W.Looks (model prog w) s.heap (typeOf b) tb) (hn : PySem.W.notFirst K C tb = true)
    (hs : PySem.W.findIn K (.ref C) "__eq__" = some (some (.ref f))) (hf : PySem.W.isFn K (.ref f) = true) (hne : PySem.W.findIn K (.ref C) "__ne__" = some (some (.builtin "object.__ne__"))) (hm : PySem.W.mroIn K C (.type "object") = some true)
    (h : codeAny (model prog w) A.in1 (.call (.ref f) ⟨[.ref x, b], []⟩) (fun r s' => match r with | .ok (.ret v) => ∃ k, v = .bool k ∧ Q (.bool (!k)) s' | .ok _ => False | .error e => E e s') s) : wpAny (model prog w) A (richCompare .NotEq (.ref x) b) Q E s := by
  have X := X₀.keeps Fx.keep
  have body : wpAny (model prog w) A (call (.builtin "object.__ne__") [.ref x, b]) (fun v s' => ∃ k, v = .bool k ∧ Q (.bool k) s') E s := by
    refine wpAny_call (codeAny_call_builtin PySem.F.cmp_object.ne.plain PySem.F.cmpEntry_ne (PySem.W.check_slot PySem.F.cmpKind_ne PySem.F.cmpSplit_ne (I.type.andThen (PySem.W.looks_mroIn X hm)) (PySem.F.cmpArgs_ne _ _) ?_))
    unfold Builtin.«object.__ne__»
    repeat (first | with_reducible refine wpAny_cRoomFor (show A.in1.units < cLine from hu) ?_ | with_reducible refine PySem.W.ifBound_K X I hs hf ?_ | wp_step)
    refine codeAny_mono h fun r s' q => ?_
    cases r with
    | error e => exact q
    | ok fl =>
      cases fl with
      | ret v =>
        obtain ⟨k, rfl, q⟩ := q
        refine wpAny_bind (wpAny_truthy_bool ?_)
        exact wpAny_pure ⟨_, rfl, q⟩
      | next => exact q
      | brk => exact q
      | cont => exact q
  have one : wpAny (model prog w) A (tryCompare (.ref x) "__ne__" b) (fun r s' => ∃ v, r = some v ∧ Q v s') E s := by
    unfold tryCompare
    refine wpAny_bind ?_
    simp only [callSpecialIfBound?, bindSpecialIfBound?]
    refine wpAny_holding (wpAny_bind (wpAny_bind (wpAny_bind (I.type.here ((PySem.W.looks_findIn X hne).here ?_)))))
    simp only [PySem.F.cmp_object.ne.bind]
    refine wpAny_bind (wpAny_askSetting (wpAny_ite ?_))
    split
    · refine wpAny_bind (wpAny_pure (wpAny_pure ?_))
      refine wpAny_bind (wpAny_mono body (fun v s' z => ?_) fun _ _ e => e)
      obtain ⟨k, rfl, q⟩ := z
      exact wpAny_pure (wpAny_pure ⟨_, rfl, q⟩)
    · refine wpAny_tryCatch (wpAny_bind (wpAny_pure (wpAny_pure ?_)))
      refine wpAny_bind (wpAny_mono body (fun v s' z => ?_) fun _ _ e => e)
      obtain ⟨k, rfl, q⟩ := z
      exact wpAny_pure (wpAny_pure ⟨_, rfl, q⟩)
  unfold richCompare
  simp only [oneThing_ref]
  refine wpAny_holding (wpAny_bind (wpAny_cRoomFor (Nat.lt_of_le_of_lt (Nat.le_succ _) hu) ?_))
  refine wpAny_bind (I.type.here (wpAny_bind (hb.here ?_)))
  split
  · rename_i q
    have e : PySem.W.subIn K tb (.ref C) = some false := by
      rcases Bool.or_eq_true_iff.mp hn with e | e
      · rw [beq_iff_eq.mp e] at q; simp at q
      · exact beq_iff_eq.mp e
    refine wpAny_bind ((PySem.W.looks_subIn X e).here ?_)
    simp only [Bool.false_eq_true, if_false]
    refine wpAny_bind (wpAny_mono one (fun r s' z => ?_) fun _ _ e => e)
    obtain ⟨v, rfl, hq⟩ := z
    exact wpAny_pure hq
  · refine wpAny_bind (wpAny_pure ?_)
    simp only [Bool.false_eq_true, if_false]
    refine wpAny_bind (wpAny_mono one (fun r s' z => ?_) fun _ _ e => e)
    obtain ⟨v, rfl, hq⟩ := z
    exact wpAny_pure hq
section
variable {X : Cx} {k n : Nat} {C g : Addr} {fd : FuncData} {ps : List Str} {W : DC}
def rOwnNe (K : PySem.W.Frag) (C : Addr) (n : Nat) (W : DC) : R2 := fun x y H Q => ∃ a dx fs t, x = .ref a ∧ H a = some (.ins C dx fs) ∧ TyE K H y t ∧ PySem.W.notFirst K C t = true ∧ spD n W K [x, y] H (fun z H' => ∃ b, z = .bl b ∧ Q (.bl (!b)) H') E0
theorem op_ownNe (hs : PySem.W.findIn X.K (.ref C) "__eq__" = some (some (.ref g))) (hf : PySem.W.isFn X.K (.ref g) = true) (hne : PySem.W.findIn X.K (.ref C) "__ne__" = some (some (.builtin "object.__ne__"))) (hm : PySem.W.mroIn X.K C (.type "object") = some true)
    (F : FnOk X.prog X.w X.K X.mg X.base CX0 k g fd ps (spD n W X.K)) (hb : Binds X.K fd ps []) (hr : Room (k + 1) X.A) : OpR X (compareOp .NotEq) (rOwnNe X.K C n W) := by
  intro pins s σ H x y v u Q I rx ry h
  obtain ⟨a, dx, fs, t, rfl, ha, ht, hn, q⟩ := h
  cases (show v = Value.ref a from rx)
  obtain ⟨mA, O, _⟩ := ins_get I.hok ha
  obtain ⟨od, J, _⟩ := O.look
  obtain ⟨m, hF⟩ := I.fr
  show wpAny _ _ (richCompare .NotEq _ _) _ _ _
  refine ne_own (tb := t) (hu_of hr) hF I.ok.mod.kin J (ht.looks I ry) hn hs hf hne hm ?_
  have hl : ([Value.ref a, u] : List Value).length = ps.length := by rw [← F.len _ _ _ _ q]; rfl
  refine codeAny_mono (F.run X.A.in1 X.stack s H ⟨[.ref a, u], []⟩ [.ref a, u] [.ref a, y] _ E0 hr.in1 I.env0.in1 (by simpa using hb s [.ref a, u] I.kIn (by simpa using hl)) (.cons rfl (.cons ry .nil)) q) fun r s' hq => ?_
  cases r with
  | error er => exact False.elim hq
  | ok fl =>
    cases fl with
    | ret w =>
      obtain ⟨z, H', I', rz, b, rfl, q3⟩ := I.after hq
      cases rz
      exact ⟨b, rfl, .bl (!b), H', I', rfl, q3⟩
    | next => exact hq
    | brk => exact hq
    | cont => exact hq
@[simp] def oOwnNe (K : PySem.W.Frag) (C : Addr) (W : DC) : D2 := fun x y M P => ∃ fs t, x = .ins C fs ∧ DTy K y t ∧ PySem.W.notFirst K C t = true ∧ W [x, y] M fun z M' => ∃ b, z = .bl b ∧ P (.bl (!b)) M'
theorem sr_ownNe {K : PySem.W.Frag} : SimR K (rOwnNe K C 2 W) (oOwnNe K C W) := by
  intro as L H M x y d e P Q A r1 r2 ⟨fs, t, h1, h2, h3, p⟩ q
  subst h1
  have r1' := r1
  cases r1 with
  | ins g1 _ => exact ⟨_, _, _, t, rfl, A.low _ _ g1, dtyE A r2 h2, h3, sp_of A (.cons r1' (.cons r2 .nil)) rfl p fun v z L' H' M' s' A' hz rz => by
      obtain ⟨b, rfl, hp⟩ := hz
      cases rz
      exact ⟨b, rfl, q _ _ L' H' M' s' A' hp (.bl _)⟩⟩
end
end Pd

set_option Elab.async false
set_option linter.all false
set_option maxRecDepth 100000
set_option maxHeartbeats 1000000
namespace Pd
open PySem PySem.Spec PyProof.Rows L2
/-! ### zip, while the pair given out before is held -/
theorem zip_no_len : typeLookup (.type "zip") "__len__" = pure none := by rw [typeLookup_type, builtinLookup_eq_fast]; kernel_rfl
theorem zip_no_hint : typeLookup (.type "zip") "__length_hint__" = pure none := by rw [typeLookup_type, builtinLookup_eq_fast]; kernel_rfl
section
variable {prog : Program} {w : World} {A : Around} {E : Value → Shared → Prop} {s : Shared} {z TI TO i1 i2 : Addr} {fp1 fp2 : List Addr} {n1 n2 i : Nat} {P1 P2 : Nat → Value → Prop} {St1 St2 : Nat → Heap → Prop} {T : Addr} {f : Bool} {oT : Obj}
theorem zipH_item {Q : Value → Shared → Prop} (S : ZipSep2 z TI TO i1 i2 fp1 fp2) (D1 : Draws prog w A i1 fp1 n1 P1 St1) (D2 : Draws prog w A i2 fp2 n2 P2 St2)
    (hz : IsZipHeld s.heap z TI TO T f) (hT : s.heap.get? T = some oT) (hTI : IsTupOf2 s.heap TI (.ref i1) (.ref i2)) (st1 : St1 i s.heap) (st2 : St2 i s.heap) (hlt1 : i < n1) (hlt2 : i < n2)
    (hQ : ∀ x1 x2 h' tk, P1 i x1 → P2 i x2 → IsZipHeld h' z TI TO T true → St1 (i + 1) h' → St2 (i + 1) h' → IsTupOf2 h' s.heap.objs.size x1 x2 → h'.objs.size = s.heap.objs.size + 1 →
      (∀ c o, c ≠ z → c ≠ i1 → c ≠ i2 → s.heap.get? c = some o → h'.get? c = some o) → Q (.ref s.heap.objs.size) { s with heap := h', toks := tk }) :
    wpAny (model prog w) A (Builtin.«zip.__next__» ⟨[.ref z], []⟩) (fun fin s' => ∃ v, fin = .done (.ret v) ∧ Q v s') E s := by
  obtain ⟨hp, g, d, tk0, os⟩ := s
  show wpAny _ _ (field (.ref z) 2 >>= _) _ _ _
  refine wpAny_bind (wpAny_field hz rfl (x := .bool false) rfl ?_)
  show wpAny _ _ (field (.ref z) 3 >>= _) _ _ _
  refine wpAny_bind (wpAny_field hz rfl (x := .ref TI) rfl ?_)
  refine wpAny_bind (wpAny_seqItems hTI rfl ?_)
  show wpAny _ _ (Builtin.SmallTypes.ownedTupleIsFree (.ref z) >>= _) _ _ _
  refine wpAny_bind (wpAny_tupleHeld_zip hz hT fun g0 hz0 hs0 => ?_)
  replace hs0 : Heap.SameBut z hp g0 := hs0
  simp only [Bool.false_eq_true, if_false]
  refine wpAny_bind ?_
  rw [← Array.forIn_toList]
  simp only [List.forIn_cons, List.forIn_nil]
  refine wpAny_bind (wpAny_bind (wpAny_holding ?_))
  show wpAny _ _ (Builtin.SmallTypes.nextOf (.ref i1) >>= _) _ _ ⟨g0, g, d, tk0, os⟩
  refine wpAny_bind (D1.item i _ _ _ hlt1 (D1.over st1 hs0 S.zf1) fun x1 p1 tk1 hx1 sn1 hp1 => wpAny_pure ?_)
  replace hp1 : Heap.SameBut i1 g0 p1 := hp1
  refine wpAny_pure ?_
  refine wpAny_bind (wpAny_bind (wpAny_holding ?_))
  show wpAny _ _ (Builtin.SmallTypes.nextOf (.ref i2) >>= _) _ _ ⟨p1, g, d, tk1, os⟩
  refine wpAny_bind (D2.item i _ _ _ hlt2 (D2.over (D2.over st2 hs0 S.zf2) hp1 S.sep1_2) fun x2 p2 tk2 hx2 sn2 hp2 => wpAny_pure ?_)
  replace hp2 : Heap.SameBut i2 p1 p2 := hp2
  refine wpAny_pure (wpAny_pure ?_)
  show wpAny _ _ (newTuple [x1, x2] >>= _) _ _ _
  refine wpAny_bind (wpAny_newTuple ?_)
  have hsz : p2.objs.size = hp.objs.size := by rw [hp2.1, hp1.1, hs0.1]
  have hz₃ : IsZipHeld p2 z TI TO T true := hp2.extBut _ _ S.zi2 (hp1.extBut _ _ S.zi1 hz0)
  have hk : ∀ c o, c ≠ z → c ≠ i1 → c ≠ i2 → hp.get? c = some o → p2.get? c = some o := fun c o c1 c2 c3 e => hp2.extBut _ _ c3 (hp1.extBut _ _ c2 (hs0.extBut _ _ c1 e))
  have hj1 : St1 (i + 1) p2 := D1.over sn1 hp2 S.sep2_1
  refine wpAny_pure ⟨_, rfl, ?_⟩
  show Q (.ref p2.objs.size) ⟨p2.push { cls := .type "tuple", data := .seq #[x1, x2] }, g, d, tk2, os⟩
  have hq : IsTupOf2 (p2.push { cls := .type "tuple", data := .seq #[x1, x2] }) p2.objs.size x1 x2 := Heap.get?_push_size _ rfl
  have hz4 : (p2.push { cls := .type "tuple", data := .seq #[x1, x2] }).objs.size = p2.objs.size + 1 := Heap.size_push ..
  have up : ∀ c o, p2.get? c = some o → (p2.push { cls := .type "tuple", data := .seq #[x1, x2] }).get? c = some o := fun c o e => Heap.get?_push_of_some _ e
  rw [hsz] at hq hz4 ⊢
  exact hQ x1 x2 _ tk2 hx1 hx2 (up _ _ hz₃) (D1.frame _ _ _ hj1 fun b _ o e => up b o e) (D2.frame _ _ _ sn2 fun b _ o e => up b o e) hq hz4 fun c o c1 c2 c3 e => up c o (hk c o c1 c2 c3 e)
theorem zipH_end {Q : Fin → Shared → Prop} (S : ZipSep2 z TI TO i1 i2 fp1 fp2) (D1 : Draws prog w A i1 fp1 n1 P1 St1) (D2 : Draws prog w A i2 fp2 n2 P2 St2)
    (hz : IsZipHeld s.heap z TI TO T f) (hT : s.heap.get? T = some oT) (hTI : IsTupOf2 s.heap TI (.ref i1) (.ref i2)) (st1 : St1 i s.heap) (st2 : St2 i s.heap) (hle1 : i ≤ n1) (hle2 : i ≤ n2) (hend : i = n1 ∨ i = n2)
    (hE : ∀ h' tk e, (∀ c o, c ≠ z → c ≠ i1 → c ≠ i2 → s.heap.get? c = some o → h'.get? c = some o) → (∃ o, h'.get? e = some o ∧ o.cls = .type "StopIteration") → E (.ref e) { s with heap := h', toks := tk }) :
    wpAny (model prog w) A (Builtin.«zip.__next__» ⟨[.ref z], []⟩) Q E s := by
  obtain ⟨hp, g, d, tk0, os⟩ := s
  show wpAny _ _ (field (.ref z) 2 >>= _) _ _ _
  refine wpAny_bind (wpAny_field hz rfl (x := .bool false) rfl ?_)
  show wpAny _ _ (field (.ref z) 3 >>= _) _ _ _
  refine wpAny_bind (wpAny_field hz rfl (x := .ref TI) rfl ?_)
  refine wpAny_bind (wpAny_seqItems hTI rfl ?_)
  show wpAny _ _ (Builtin.SmallTypes.ownedTupleIsFree (.ref z) >>= _) _ _ _
  refine wpAny_bind (wpAny_tupleHeld_zip hz hT fun g0 hz0 hs0 => ?_)
  replace hs0 : Heap.SameBut z hp g0 := hs0
  simp only [Bool.false_eq_true, if_false]
  refine wpAny_bind ?_
  rw [← Array.forIn_toList]
  simp only [List.forIn_cons, List.forIn_nil]
  refine wpAny_bind (wpAny_bind (wpAny_holding ?_))
  show wpAny _ _ (Builtin.SmallTypes.nextOf (.ref i1) >>= _) _ _ ⟨g0, g, d, tk0, os⟩
  by_cases hlt1 : i < n1
  · refine wpAny_bind (D1.item i _ _ _ hlt1 (D1.over st1 hs0 S.zf1) fun x1 p1 tk1 hx1 sn1 hp1 => wpAny_pure ?_)
    replace hp1 : Heap.SameBut i1 g0 p1 := hp1
    refine wpAny_pure ?_
    have hi2 : i = n2 := by omega
    refine wpAny_bind (wpAny_bind (wpAny_holding ?_))
    show wpAny _ _ (Builtin.SmallTypes.nextOf (.ref i2) >>= _) _ _ ⟨p1, g, d, tk1, os⟩
    refine wpAny_bind (D2.done ⟨p1, g, d, tk1, os⟩ _ _ (by rw [← hi2]; exact (D2.over (D2.over st2 hs0 S.zf2) hp1 S.sep1_2)) fun q e hq he => ?_)
    exact hE q tk1 e (fun c o cz c1 c2 x => hq _ _ c2 (hp1.extBut _ _ c1 (hs0.extBut _ _ cz x))) he
  · have hi1 : i = n1 := by omega
    refine wpAny_bind (D1.done ⟨g0, g, d, tk0, os⟩ _ _ (by rw [← hi1]; exact (D1.over st1 hs0 S.zf1)) fun q e hq he => ?_)
    exact hE q tk0 e (fun c o cz c1 c2 x => hq _ _ c1 (hs0.extBut _ _ cz x)) he
/-- a zip, fresh or with a pair that is held -/
def ZSt (h : Heap) (L : Addr → Prop) (z TI TO i1 i2 : Addr) : Prop := IsTupOf2 h TI (.ref i1) (.ref i2) ∧ (∃ a b, IsTupOf2 h TO a b) ∧ (IsZip h z TI TO .none ∨ ∃ T f, IsZipHeld h z TI TO T f ∧ L T)
theorem zl_item {L : Addr → Prop} {Q : Option Value → Shared → Prop} (S : ZipSep2 z TI TO i1 i2 fp1 fp2) (D1 : Draws prog w A.in1 i1 fp1 n1 P1 St1) (D2 : Draws prog w A.in1 i2 fp2 n2 P2 St2)
    (hz : ZSt s.heap L z TI TO i1 i2) (hL : ∀ T, L T → ∃ o, s.heap.get? T = some o) (st1 : St1 i s.heap) (st2 : St2 i s.heap) (hlt1 : i < n1) (hlt2 : i < n2)
    (hQ : ∀ x1 x2 h' tk, P1 i x1 → P2 i x2 → ZSt h' (fun T => L T ∨ T = s.heap.objs.size) z TI TO i1 i2 → St1 (i + 1) h' → St2 (i + 1) h' → IsTupOf2 h' s.heap.objs.size x1 x2 → h'.objs.size = s.heap.objs.size + 1 →
      (∀ c o, c ≠ z → c ≠ TO → c ≠ i1 → c ≠ i2 → s.heap.get? c = some o → h'.get? c = some o) → Q (some (.ref s.heap.objs.size)) { s with heap := h', toks := tk }) :
    wpAny (model prog w) A (pyNext (.ref z)) Q E s := by
  obtain ⟨hTI, ⟨a0, b0, hTO⟩, hz⟩ := hz
  rcases hz with hz | ⟨T, f, hz, hT⟩
  · refine wpAny_pyNext_zipD2_item S D1 D2 hz hTI hTO st1 st2 hlt1 hlt2 fun x1 x2 h' tk y1 y2 b1 b2 d1 d2 b5 b6 hk => ?_
    exact hQ x1 x2 h' tk y1 y2 ⟨hk _ _ S.TIz S.TITO S.TIi1 S.TIi2 hTI, ⟨_, _, b2⟩, .inr ⟨_, false, b1, .inr rfl⟩⟩ d1 d2 b5 b6 hk
  · obtain ⟨oT, hoT⟩ := hL T hT
    have hTy : s.TypeIs (.ref z) "zip" := ⟨_, hz, rfl⟩
    unfold pyNext
    exact wpAny_bind (wpAny_attempt (wpAny_callSpecial?_slot (name := Str.ofString "__next__") hTy F.slot_zip_next
      (wpAny_call_entry F.slot_zip_next hTy F.entry_zip_next
        (zipH_item S D1 D2 hz hoT hTI st1 st2 hlt1 hlt2 fun x1 x2 h' tk y1 y2 b1 d1 d2 b5 b6 hk => wpAny_pure (hQ x1 x2 h' tk y1 y2 ⟨hk _ _ S.TIz S.TIi1 S.TIi2 hTI, ⟨_, _, hk _ _ S.TOz S.Ti1 S.Ti2 hTO⟩, .inr ⟨_, _, b1, .inl hT⟩⟩ d1 d2 b5 b6 fun c o c1 _ c3 c4 e => hk c o c1 c3 c4 e)) (F.args_zip_next_1 _))))
theorem zl_end {L : Addr → Prop} {Q : Option Value → Shared → Prop} (S : ZipSep2 z TI TO i1 i2 fp1 fp2) (D1 : Draws prog w A.in1 i1 fp1 n1 P1 St1) (D2 : Draws prog w A.in1 i2 fp2 n2 P2 St2)
    (hz : ZSt s.heap L z TI TO i1 i2) (hL : ∀ T, L T → ∃ o, s.heap.get? T = some o) (st1 : St1 i s.heap) (st2 : St2 i s.heap) (hle1 : i ≤ n1) (hle2 : i ≤ n2) (hend : i = n1 ∨ i = n2)
    (hQ : ∀ h' tk, (∀ c o, c ≠ z → c ≠ TO → c ≠ i1 → c ≠ i2 → s.heap.get? c = some o → h'.get? c = some o) → Q none { s with heap := h', toks := tk }) : wpAny (model prog w) A (pyNext (.ref z)) Q E s := by
  obtain ⟨hTI, ⟨a0, b0, hTO⟩, hz⟩ := hz
  rcases hz with hz | ⟨T, f, hz, hT⟩
  · exact wpAny_pyNext_zipD2_end S D1 D2 hz hTI hTO st1 st2 hle1 hle2 hend hQ
  · obtain ⟨oT, hoT⟩ := hL T hT
    have hTy : s.TypeIs (.ref z) "zip" := ⟨_, hz, rfl⟩
    unfold pyNext
    refine wpAny_bind (wpAny_attempt (wpAny_callSpecial?_slot (name := Str.ofString "__next__") hTy F.slot_zip_next
      (wpAny_call_entry F.slot_zip_next hTy F.entry_zip_next (zipH_end S D1 D2 hz hoT hTI st1 st2 hle1 hle2 hend fun h' tk e hk he => ?_) (F.args_zip_next_1 _))))
    obtain ⟨o, ho, hc⟩ := he
    refine wpAny_bind (wpAny_isInstance (T := "StopIteration") (b := true) ⟨o, ho, hc⟩ isSubtype_stop ?_)
    exact wpAny_pure (hQ _ _ fun c o c1 _ c3 c4 e => hk c o c1 c3 c4 e)
theorem zl_hint {b : Value} {Q : Bool → Shared → Prop} (hT : s.TypeIs (.ref z) "zip") (h : Q true s) : wpAny (model prog w) A (Builtin.List.listLengthHint (.ref z)) Q E s := by
  unfold Builtin.List.listLengthHint
  refine wpAny_bind (wpAny_specialOf hT zip_no_len ?_)
  show wpAny _ _ (specialOf (Value.ref z) (Str.ofString "__length_hint__") >>= _) _ _ _
  refine wpAny_bind (wpAny_specialOf hT zip_no_hint ?_)
  exact wpAny_pure h
end
end Pd

set_option Elab.async false
set_option linter.all false
set_option maxRecDepth 100000
set_option maxHeartbeats 1000000
namespace Pd
open PySem PySem.Spec PyProof.Rows L2
/-! ### list(zip(a, b)) -/
/-- the pairs that a list holds -/
def PairsIn (H : Hp) (ts xs ys : List V) : Prop := ∀ (j : Nat) (t : V), ts[j]? = some t → ∃ T x y, t = .ref T ∧ H T = some (.tup [x, y]) ∧ xs[j]? = some x ∧ ys[j]? = some y
theorem PairsIn.up {H H' : Hp} {ts xs ys : List V} (h : PairsIn H ts xs ys) (k : ∀ c xs, H c = some (.tup xs) → H' c = some (.tup xs)) : PairsIn H' ts xs ys := fun j t e =>
  let ⟨T, x, y, h1, h2, h3, h4⟩ := h j t e
  ⟨T, x, y, h1, k _ _ h2, h3, h4⟩
section
variable {X : Cx} {pins : List (Addr × Obj)} {σ : L2.St}
def fpz (z TI TO i1 i2 : Addr) : List Addr := [z, TI, TO, i1, i2]
theorem zl_loop {A : Around} (hh : A.handled = none) (ka kb : Kd) {a b z TI TO i1 i2 S : Addr} (D : ZipApart z TI TO i1 i2 a b) {its its2 : List Value} {xs ys : List V} (rv : Vals xs its) (rv2 : Vals ys its2) {res : Value} {R : Result → Shared → Prop} {H0 : Hp} (hS0 : H0 S = none)
    (hsz : xs.length ≤ sizeLine) (nSa : S ≠ a) (nSb : S ≠ b)
    (fin : ∀ H' ts s', Inv X pins σ H' s' → (∀ c o, H0 c = some o → H' c = some o) → H' S = some (.lst ts) → ts.length = min xs.length ys.length → PairsIn H' ts xs ys → (∀ t ∈ ts, ∀ T, t = .ref T → H0 T = none) → R (.ok (.ret res)) s') :
    ∀ (m i : Nat) (H : Hp) (s : Shared) (ts : List V), min xs.length ys.length - i = m → i ≤ min xs.length ys.length → Inv X pins σ H s → (∀ c ∈ fpz z TI TO i1 i2, FpOk X pins H c) → ZSt s.heap (fun T => ∃ u, H T = some (.tup u)) z TI TO i1 i2 →
      IterK ka s.heap i1 a i → SeqAtK ka s.heap a its.toArray → IterK kb s.heap i2 b i → SeqAtK kb s.heap b its2.toArray → (∀ c o, H0 c = some o → H c = some o) → H S = some (.lst ts) → ts.length = i → PairsIn H ts xs ys → (∀ t ∈ ts, ∀ T, t = .ref T → H0 T = none) →
      codeAny (model X.prog X.w) A (.builtin "list.extend.loop" ⟨[.ref S, .ref z, res], []⟩) R s := by
  have l1 := rv.length
  have l2 := rv2.length
  have dz := zsep D
  intro m
  induction m with
  | zero =>
    intro i H s ts hm hi I fo zs h1 q1 h2 q2 up hS hl hp hf0
    have hin : i = min xs.length ys.length := by omega
    refine codeAny_builtin F.entry_extend_loop ?_
    rw [Around.under_plainId F.plain_extend_loop _]
    show wpAny _ A.in1 (pyNext (.ref z) >>= _) _ _ s
    refine wpAny_bind (zl_end (i := i) dz (drawsK ka (A := A.in1.in1) hh i1 a D.l1i1 its.toArray) (drawsK kb (A := A.in1.in1) hh i2 b D.l2i2 its2.toArray) zs (fun T ⟨u, hu⟩ => ?_) ⟨h1, q1⟩ ⟨h2, q2⟩ (by simp; omega) (by simp; omega) (by simp; omega) fun h' tk hk => ?_)
    · obtain ⟨_, _, _, _, e, _⟩ := I.hok T _ hu
      exact ⟨_, e⟩
    · exact wpAny_pure (fin H ts _ (I.turnedL (t' := tk) (ch := fpz z TI TO i1 i2) (fun c o hb q => hk c o (fun q' => hb (by simp [q', fpz])) (fun q' => hb (by simp [q', fpz])) (fun q' => hb (by simp [q', fpz])) (fun q' => hb (by simp [q', fpz])) q) fo) up hS (by omega) hp hf0)
  | succ m ih =>
    intro i H s ts hm hi I fo zs h1 q1 h2 q2 up hS hl hp hf0
    have hi1 : i < its.toArray.size := by simp; omega
    have hi2 : i < its2.toArray.size := by simp; omega
    have hx : i < xs.length := by omega
    have hy : i < ys.length := by omega
    refine codeAny_builtin F.entry_extend_loop ?_
    rw [Around.under_plainId F.plain_extend_loop _]
    show wpAny _ A.in1 (pyNext (.ref z) >>= _) _ _ s
    refine wpAny_bind (zl_item (i := i) dz (drawsK ka (A := A.in1.in1) hh i1 a D.l1i1 its.toArray) (drawsK kb (A := A.in1.in1) hh i2 b D.l2i2 its2.toArray) zs (fun T ⟨u, hu⟩ => ?_) ⟨h1, q1⟩ ⟨h2, q2⟩ hi1 hi2 fun x1 x2 h' tk g1 g2 zs' st1 st2 hT hsz' hk => ?_)
    · obtain ⟨_, _, _, _, e, _⟩ := I.hok T _ hu
      exact ⟨_, e⟩
    obtain ⟨u, hu, ru⟩ := rv.get (i := i) (x := xs[i]) (List.getElem?_eq_getElem hx)
    obtain ⟨u2, hu2, ru2⟩ := rv2.get (i := i) (x := ys[i]) (List.getElem?_eq_getElem hy)
    have e1 : x1 = u := by
      have g1' : its[i]? = some x1 := by simpa using g1
      rw [hu] at g1'; exact (Option.some.inj g1').symm
    have e2 : x2 = u2 := by
      have g2' : its2[i]? = some x2 := by simpa using g2
      rw [hu2] at g2'; exact (Option.some.inj g2').symm
    subst e1; subst e2
    have new : ObjOk X.prog X.w (upd H s.heap.objs.size (.tup [xs[i], ys[i]])) h' s.heap.objs.size (.tup [xs[i], ys[i]]) :=
      ⟨by show 2 ≤ sizeLine; decide, [x1, x2], .cons ru (.cons ru2 .nil), ⟨_, hT, rfl, _, rfl⟩⟩
    have hTn : H s.heap.objs.size = none := I.hok.fresh (Nat.le_refl _)
    have I1 : Inv X pins σ (upd H s.heap.objs.size (.tup [xs[i], ys[i]])) { s with heap := h', toks := tk } :=
      I.turnedNew (t' := tk) (ch := fpz z TI TO i1 i2) (fun c o hb q => hk c o (fun q' => hb (by simp [q', fpz])) (fun q' => hb (by simp [q', fpz])) (fun q' => hb (by simp [q', fpz])) (fun q' => hb (by simp [q', fpz])) q) fo (Nat.le_refl _) new
    have nST : S ≠ s.heap.objs.size := ne_of_none hS hTn
    have hS1 : upd H s.heap.objs.size (.tup [xs[i], ys[i]]) S = some (.lst ts) := by rw [upd_ne nST]; exact hS
    obtain ⟨zl, itt, nn, rt, lt, et⟩ := I1.lstM hS1
    show wpAny _ A.in1 (updateSeq S (·.push (.ref s.heap.objs.size)) >>= _) _ _ _
    refine wpAny_bind ?_
    have hlts : itt.length = i := by rw [← lt]; exact hl
    refine wpAny_updateSeq et rfl (wpAny_pure ⟨plainId_quiet F.plain_extend_loop _, ?_⟩) (by simp; omega) (by simp; omega)
    have I2 : Inv X pins σ (upd (upd H s.heap.objs.size (.tup [xs[i], ys[i]])) S (.lst (ts ++ [.ref s.heap.objs.size]))) { s with heap := h'.update S (Obj.mapSeq (·.push (.ref s.heap.objs.size))), toks := tk } :=
      I1.lset (t' := tk) (its' := itt ++ [.ref s.heap.objs.size]) hS1 et (by simp) (rt.append (.cons (show RelV (.ref s.heap.objs.size) (Value.ref s.heap.objs.size) from rfl) .nil)) (by rw [List.length_append, List.length_singleton]; omega)
    have oth : ∀ c o, c ≠ S → h'.get? c = some o → (h'.update S (Obj.mapSeq (·.push (.ref s.heap.objs.size)))).get? c = some o := fun c o hb e => (Heap.get?_update_other _ _ (Ne.symm hb)).trans e
    have nSf : ∀ c ∈ fpz z TI TO i1 i2, c ≠ S := fun c hcm e => by
      have := (fo c hcm).1
      rw [e, hS] at this; cases this
    have tupsUp : ∀ c vs, H c = some (.tup vs) → (upd (upd H s.heap.objs.size (.tup [xs[i], ys[i]])) S (.lst (ts ++ [.ref s.heap.objs.size]))) c = some (.tup vs) := fun c vs e => by
      have c1 : c ≠ S := fun q => by rw [q, hS] at e; cases e
      rw [upd_ne c1, upd_ne (ne_of_none e hTn)]
      exact e
    have newT : (upd (upd H s.heap.objs.size (.tup [xs[i], ys[i]])) S (.lst (ts ++ [.ref s.heap.objs.size]))) s.heap.objs.size = some (.tup [xs[i], ys[i]]) := by rw [upd_ne (Ne.symm nST), upd_same]
    refine ih (i + 1) _ _ (ts ++ [.ref s.heap.objs.size]) (by omega) (by omega) I2 (fun c hcm => ?_) ⟨?_, ?_, ?_⟩ ?_ ?_ ?_ ?_ (fun c o e => ?_) upd_same (by rw [List.length_append, List.length_singleton]; omega) (fun j t e => ?_) (fun t ht T e => ?_)
    · obtain ⟨n0, n1, n2, n3, n4, n5⟩ := fo c hcm
      refine ⟨?_, n1, n2, n3, n4, n5⟩
      have hlt : c ≠ s.heap.objs.size := by
        have e' : c = z ∨ c = TI ∨ c = TO ∨ c = i1 ∨ c = i2 := by simpa [fpz] using hcm
        rcases e' with q | q | q | q | q
        · obtain ⟨_, _, w3⟩ := zs
          rcases w3 with w3 | ⟨_, _, w3, _⟩
          · rw [q]; exact Nat.ne_of_lt (Heap.lt_size w3)
          · rw [q]; exact Nat.ne_of_lt (Heap.lt_size w3)
        · rw [q]; exact Nat.ne_of_lt (Heap.lt_size zs.1)
        · obtain ⟨_, _, w2⟩ := zs.2.1
          rw [q]; exact Nat.ne_of_lt (Heap.lt_size w2)
        · rw [q]; obtain ⟨_, e1, _⟩ := iterK_obj h1; exact Nat.ne_of_lt (Heap.lt_size e1)
        · rw [q]; obtain ⟨_, e2, _⟩ := iterK_obj h2; exact Nat.ne_of_lt (Heap.lt_size e2)
      rw [upd_ne (nSf c hcm), upd_ne hlt]
      exact n0
    · exact oth _ _ (nSf TI (by simp [fpz])) zs'.1
    · obtain ⟨_, _, w2⟩ := zs'.2.1
      exact ⟨_, _, oth _ _ (nSf TO (by simp [fpz])) w2⟩
    · rcases zs'.2.2 with w3 | ⟨T, f, w3, w4⟩
      · exact .inl (oth _ _ (nSf z (by simp [fpz])) w3)
      · refine .inr ⟨T, f, oth _ _ (nSf z (by simp [fpz])) w3, ?_⟩
        rcases w4 with ⟨vs, w4⟩ | w4
        · exact ⟨vs, tupsUp _ _ w4⟩
        · rw [w4]; exact ⟨_, newT⟩
    · exact iterK_at st1.1 fun o q => oth _ _ (nSf i1 (by simp [fpz])) q
    · have q3 := st1.2
      cases ka with
      | l => exact Heap.IsList.at q3 fun o q => oth _ _ (Ne.symm nSa) q
      | t => exact Heap.IsTuple.at q3 fun o q => oth _ _ (Ne.symm nSa) q
    · exact iterK_at st2.1 fun o q => oth _ _ (nSf i2 (by simp [fpz])) q
    · have q3 := st2.2
      cases kb with
      | l => exact Heap.IsList.at q3 fun o q => oth _ _ (Ne.symm nSb) q
      | t => exact Heap.IsTuple.at q3 fun o q => oth _ _ (Ne.symm nSb) q
    · have e' := up c o e
      have c1 : c ≠ S := fun q => by rw [q, hS0] at e; cases e
      rw [upd_ne c1, upd_ne (ne_of_none e' hTn)]
      exact e'
    · by_cases hj : j < ts.length
      · rw [List.getElem?_append_left hj] at e
        exact (hp.up tupsUp) j t e
      · rw [List.getElem?_append_right (by omega)] at e
        have hj' : j - ts.length = 0 := by
          have := (List.getElem?_eq_some_iff.mp e).1
          simp at this
          omega
        rw [hj'] at e
        cases e
        have hji : j = i := by omega
        subst hji
        exact ⟨_, _, _, rfl, newT, List.getElem?_eq_getElem hx, List.getElem?_eq_getElem hy⟩
    · rcases List.mem_append.mp ht with ht | ht
      · exact hf0 t ht T e
      · rw [List.mem_singleton.mp ht] at e
        cases e
        cases q : H0 s.heap.objs.size with
        | none => rfl
        | some o => have := up _ _ q; rw [hTn] at this; cases this

theorem zl_init {A : Around} (hh : A.handled = none) (ka kb : Kd) {a b z TI TO i1 i2 S : Addr} (D : ZipApart z TI TO i1 i2 a b) {its its2 : List Value} {xs ys : List V} (rv : Vals xs its) (rv2 : Vals ys its2) {R : Result → Shared → Prop} {H0 H : Hp} (hS0 : H0 S = none)
    (hsz : xs.length ≤ sizeLine) (nSa : S ≠ a) (nSb : S ≠ b) {s : Shared} (I : Inv X pins σ H s) (fo : ∀ c ∈ fpz z TI TO i1 i2, FpOk X pins H c) (hz : IsZip s.heap z TI TO .none) (hTI : IsTupOf2 s.heap TI (.ref i1) (.ref i2)) (hTO : ∃ u v, IsTupOf2 s.heap TO u v)
    (h1 : IterK ka s.heap i1 a 0) (q1 : SeqAtK ka s.heap a its.toArray) (h2 : IterK kb s.heap i2 b 0) (q2 : SeqAtK kb s.heap b its2.toArray) (up : ∀ c o, H0 c = some o → H c = some o) (hS : H S = some (.lst [])) (hSo : s.heap.get? S = some { cls := .type "list", data := .seq #[] })
    (fin : ∀ H' ts s', Inv X pins σ H' s' → (∀ c o, H0 c = some o → H' c = some o) → H' S = some (.lst ts) → ts.length = min xs.length ys.length → PairsIn H' ts xs ys → (∀ t ∈ ts, ∀ T, t = .ref T → H0 T = none) → R (.ok (.ret .none)) s') :
    wpAny (model X.prog X.w) A.in1 (Builtin.«list.__init__» ⟨[.ref S, .ref z], []⟩)
      (fun fin s' => match fin with | .done f => R (.ok f) s' | .again c' => c'.quiet = true ∧ codeAny (model X.prog X.w) A c' R s') (fun e s' => R (.error e) s') s := by
  have nSf : ∀ c ∈ fpz z TI TO i1 i2, c ≠ S := fun c hcm e => by
    have := (fo c hcm).1
    rw [e, hS] at this; cases this
  have nSz : S ≠ z := Ne.symm (nSf z (by simp [fpz]))
  -- the state stands while S alone is written
  have key : ∀ (h' : Heap), (∀ c o, c ≠ S → s.heap.get? c = some o → h'.get? c = some o) → Inv X pins σ H { s with heap := h' } → codeAny (model X.prog X.w) A (.builtin "list.extend.loop" ⟨[.ref S, .ref z, .none], []⟩) R { s with heap := h' } := by
    intro h' oth I'
    refine zl_loop hh ka kb D rv rv2 hS0 hsz nSa nSb fin _ 0 H _ [] rfl (Nat.zero_le _) I' fo ⟨oth _ _ (nSf TI (by simp [fpz])) hTI, ?_, .inl (oth _ _ (nSf z (by simp [fpz])) hz)⟩ (iterK_at h1 fun o q => oth _ _ (nSf i1 (by simp [fpz])) q) ?_ (iterK_at h2 fun o q => oth _ _ (nSf i2 (by simp [fpz])) q) ?_ up hS rfl (fun j t e => by simp at e) (fun t ht => by simp at ht)
    · obtain ⟨u, v, w⟩ := hTO
      exact ⟨u, v, oth _ _ (nSf TO (by simp [fpz])) w⟩
    · cases ka with
      | l => exact Heap.IsList.at q1 fun o q => oth _ _ (Ne.symm nSa) q
      | t => exact Heap.IsTuple.at q1 fun o q => oth _ _ (Ne.symm nSa) q
    · cases kb with
      | l => exact Heap.IsList.at q2 fun o q => oth _ _ (Ne.symm nSb) q
      | t => exact Heap.IsTuple.at q2 fun o q => oth _ _ (Ne.symm nSb) q
  have hU : upd H S (.lst []) = H := by
    funext c
    by_cases e : c = S
    · subst e; rw [upd_same, hS]
    · rw [upd_ne e]
  have wr : ∀ {h : Heap} {n : Nat} {its its' : List Value} (f : Array Value → Array Value), Inv X pins σ H { s with heap := h } → h.get? S = some { cls := .type "list", data := .seq its.toArray n } → f its.toArray = its'.toArray → its' = [] → Inv X pins σ H { s with heap := h.update S (Obj.mapSeq f) } := by
    intro h n its its' f I' e hf hn
    subst hn
    have := I'.lset (t' := s.toks) (ys := []) hS e hf .nil (Nat.zero_le _)
    rwa [hU] at this
  show wpAny _ _ (do let old ← Builtin.List.listItems (.ref S); Builtin.List.listUpdate (.ref S) (fun _ => #[]); letGo old.toList.reverse; Builtin.List.listExtendWith (.ref S) (.ref z) .none) _ _ s
  refine wpAny_bind ?_
  unfold Builtin.List.listItems
  refine wpAny_bind (wpAny_seqItems hSo rfl (wpAny_pure ?_))
  show wpAny _ _ (updateSeq S (fun _ => #[]) >>= fun _ => letGo (#[] : Array Value).toList.reverse >>= fun _ => Builtin.List.listExtendWith (.ref S) (.ref z) .none) _ _ s
  refine wpAny_bind (wpAny_updateSeq hSo rfl ?_)
  have hS₂ := Heap.get?_update_self (Obj.mapSeq (fun _ => (#[] : Array Value))) hSo rfl
  have oth : ∀ b o, b ≠ S → s.heap.get? b = some o → (s.heap.update S (Obj.mapSeq (fun _ => (#[] : Array Value)))).get? b = some o :=
    fun b o hb e => (Heap.get?_update_other _ _ (Ne.symm hb)).trans e
  have I2 := wr (its := []) (its' := []) (fun _ => (#[] : Array Value)) I hSo (by simp) rfl
  refine wpAny_bind (wpAny_letGo ?_)
  have hTy : ({ s with heap := s.heap.update S (Obj.mapSeq (fun _ => (#[] : Array Value))) } : Shared).TypeIs (.ref z) "zip" := ⟨_, oth _ _ (Ne.symm nSz) hz, rfl⟩
  unfold Builtin.List.listExtendWith
  refine wpAny_bind (wpAny_typeOf hTy ?_)
  have g1 : Builtin.List.listSameRef (.ref S) (.ref z) = false := by simp [Builtin.List.listSameRef, nSz]
  have g2 : (Value.type "zip" == Value.type "list") = false := by decide
  have g3 : (Value.type "zip" == Value.type "tuple") = false := by decide
  simp only [g1, g2, g3, Bool.or_false, Bool.false_eq_true, if_false]
  refine wpAny_bind (wpAny_pyIter_zip (oth _ _ (Ne.symm nSz) hz) ?_)
  refine wpAny_bind (wpAny_holding (zl_hint (b := .none) hTy ?_))
  refine wpAny_ite_split (fun _ => ?_) (fun _ => wpAny_pure ⟨plainId_quiet PySem.F.plain_extend_loop _, key _ oth I2⟩)
  refine wpAny_bind (wpAny_rule ?_)
  refine wpAny_bind ?_
  show wpAny _ _ (updateSeq S (·.push .none) >>= fun _ => updateSeq S (·.pop)) _ _ _
  refine wpAny_bind (wpAny_updateSeq hS₂ rfl ?_)
  have hS₃ := Heap.get?_update_self (Obj.mapSeq (·.push Value.none)) hS₂ rfl
  refine wpAny_updateSeq (hz := by seq_fits) hS₃ rfl ?_
  refine wpAny_pure ⟨plainId_quiet PySem.F.plain_extend_loop _, key _ (fun b o hb e => (Heap.get?_update_other _ _ (Ne.symm hb)).trans ((Heap.get?_update_other _ _ (Ne.symm hb)).trans (oth b o hb e))) ?_⟩
  have I3 := I2.lset (t' := s.toks) (ys := [.non]) (its' := [.none]) (its := []) (f := (·.push Value.none)) hS hS₂ (by simp) (.cons rfl .nil) (by decide)
  have I4 := I3.lset (t' := s.toks) (ys := []) (its' := []) (its := [.none]) (f := (·.pop)) upd_same hS₃ (by simp) .nil (by decide)
  rw [upd_upd, hU] at I4
  exact I4
end
/-- list(zip(a, b)), a and b a list or a tuple each -/
def tZipL (K : PySem.W.Frag) (ta : TA) : TE := fun σ H Q => ta σ H fun vs H1 => ∃ ka kb a b xs ys, vs = [.ref a, .ref b] ∧ SqK K ka H1 a xs ∧ SqK K kb H1 b ys ∧
  ∀ H' S ts, (∀ c o, H1 c = some o → H' c = some o) → H1 S = none → H' S = some (.lst ts) → ts.length = min xs.length ys.length → PairsIn H' ts xs ys → (∀ t ∈ ts, ∀ T, t = .ref T → H1 T = none) → Q (.ref S) H'
section
variable {X : Cx} {e e2 : Expr} {pos p pos2 p2 : Pos} {tl : DA}
theorem pe_zipL {ta : TA} (hc : X.calm = true) (gl : Gl X "list") (ml : X.mg "list" = none) (hg : Gl X "zip") (hm : X.mg "zip" = none) (ha : PA X [e, e2] ta)
    (hs : starEach [e, e2] X.env = (false, eval e X.env) :: starEach [e2] X.env := by rfl) (hpl : (backTo pos2 (starEach [e2] X.env)).any (·.1) = false := by rfl)
    (hs0 : starEach [.Call (.Name "zip" p2) [e, e2] [] pos2] X.env = (false, eval (.Call (.Name "zip" p2) [e, e2] [] pos2) X.env) :: starEach [] X.env := by rfl) (hpl0 : (backTo pos (starEach [] X.env)).any (·.1) = false := by rfl) :
    PE X (.Call (.Name "list" p) [.Call (.Name "zip" p2) [e, e2] [] pos2] [] pos) (tZipL X.K ta) := by
  refine ⟨fun pins s σ H Q I h => ?_⟩
  refine wpAny_Call_Name_kw (ld_blt I gl ml PyProof.Rows.boot_list ?_)
  refine PyProof.Rows.callWith_type1 ?_ hs0 hpl0
  rw [hs0]
  refine Calls.spliced_cons ?_
  refine Call_ (ld_blt I hg hm PyProof.Rows.boot_zip (PyProof.Rows.callWith_type1 (thn (ha.run pos2 pins s σ H _ I h) fun us s1 ⟨vs, H1, I1, r1, q1⟩ => ?_) hs hpl))
  obtain ⟨ka, kb, a, b, xs, ys, ex, hqx, hqy, q⟩ := q1
  subst ex
  cases r1 with
  | cons r rr =>
    cases rr with
    | cons r' rr =>
      cases rr
      cases r
      cases r'
      obtain ⟨its, rv, p1, l1⟩ := sqK_at I1 hqx
      obtain ⟨its2, rv2, p2, l2⟩ := sqK_at I1 hqy
      refine zip_begins2 (beginsK ka a its.toArray) (beginsK kb b its2.toArray) p1 p2 fun h' hz hTI hTO h1 h2 hsz hk => ?_
      refine Calls.spliced_nil ?_
      have I2 : Inv X pins σ H1 { s1 with heap := h' } := I1.kept (t' := s1.toks) hk
      have hxl : xs.length ≤ sizeLine := by
        cases ka with
        | l => obtain ⟨_, _, _, z⟩ := I1.list hqx; exact z
        | t => obtain ⟨_, _, _, z⟩ := I1.tuple hqx; exact z
      refine callType_codes (Q₁ := fun obj s₁ => obj = .ref h'.objs.size ∧ s₁ = { s1 with heap := h'.push { cls := .type "list", data := .seq #[] } }) PySem.F.called_list (PySem.F.typeCall_list_1 _) PySem.F.entry_list_init
        (code_list_new _ ⟨rfl, rfl⟩) fun obj s₁ h₁ => ?_
      obtain ⟨rfl, rfl⟩ := h₁
      have hSo : (h'.push { cls := .type "list", data := .seq #[] }).get? h'.objs.size = some { cls := .type "list", data := .seq #[] } := Heap.get?_push_size _ rfl
      have I3 : Inv X pins σ (upd H1 h'.objs.size (.lst [])) { s1 with heap := h'.push { cls := .type "list", data := .seq #[] } } := I2.lnew (t' := s1.toks) (its := []) (ys := []) .nil (Nat.zero_le _)
      have hSn : H1 h'.objs.size = none := I2.hok.fresh (Nat.le_refl _)
      have lt5 : ∀ c ∈ fpz (s1.heap.objs.size + 4) (s1.heap.objs.size + 2) (s1.heap.objs.size + 3) s1.heap.objs.size (s1.heap.objs.size + 1), s1.heap.objs.size ≤ c ∧ c < h'.objs.size := fun c hcm => by
        have e' : c = s1.heap.objs.size + 4 ∨ c = s1.heap.objs.size + 2 ∨ c = s1.heap.objs.size + 3 ∨ c = s1.heap.objs.size ∨ c = s1.heap.objs.size + 1 := by simpa [fpz] using hcm
        have hh5 : ∀ k, k < 5 → s1.heap.objs.size + k < h'.objs.size := fun k hk5 => by rw [hsz]; exact Nat.add_lt_add_left hk5 _
        rcases e' with q | q | q | q | q
        · rw [q]; exact ⟨Nat.le_add_right _ _, hh5 4 (by decide)⟩
        · rw [q]; exact ⟨Nat.le_add_right _ _, hh5 2 (by decide)⟩
        · rw [q]; exact ⟨Nat.le_add_right _ _, hh5 3 (by decide)⟩
        · rw [q]; exact ⟨Nat.le_refl _, hh5 0 (by decide)⟩
        · rw [q]; exact ⟨Nat.le_add_right _ _, hh5 1 (by decide)⟩
      have h5 : s1.heap.objs.size < h'.objs.size := by rw [hsz]; exact Nat.lt_add_of_pos_right (by decide)
      have up : ∀ c o, h'.get? c = some o → (h'.push { cls := .type "list", data := .seq #[] }).get? c = some o := fun c o e => Heap.get?_push_of_some _ e
      refine ⟨⟨_, hSo, rfl⟩, PySem.F.args_list_init_2 _ _, zl_init (A := X.A.in1) (I1.ok.hd hc) ka kb (PySem.W.ktu_apart s1.heap.objs.size a b l1 l2) rv rv2 (H0 := H1) hSn hxl (Nat.ne_of_gt (Nat.lt_trans l1 h5)) (Nat.ne_of_gt (Nat.lt_trans l2 h5)) I3 (fun c hcm => ?_) (up _ _ hz) (up _ _ hTI) ⟨_, _, up _ _ hTO⟩ (iterK_at (iterK_new h1) fun o q => up _ _ q) ?_ (iterK_at (iterK_new h2) fun o q => up _ _ q) ?_ (fun c o e => ?_) upd_same hSo fun H' ts s' I' hk' hS' hl' hp' hf' => ?_⟩
      · obtain ⟨g1, g2⟩ := lt5 c hcm
        refine I1.fpOk g1 ?_
        rw [upd_ne (Nat.ne_of_lt g2)]
        exact I1.hok.fresh g1
      · cases ka with
        | l => exact Heap.IsList.at p1 fun o q => up _ _ (hk _ _ q)
        | t => exact Heap.IsTuple.at p1 fun o q => up _ _ (hk _ _ q)
      · cases kb with
        | l => exact Heap.IsList.at p2 fun o q => up _ _ (hk _ _ q)
        | t => exact Heap.IsTuple.at p2 fun o q => up _ _ (hk _ _ q)
      · rw [upd_ne (ne_of_none e hSn)]; exact e
      · exact ⟨rfl, .ref h'.objs.size, H', I', rfl, q H' _ ts hk' hSn hS' hl' hp' hf'⟩
def isTbl : HO → Bool | .tbl _ => true | _ => false
/-- what is new becomes known -/
def grownL (H H' L : Hp) : Hp := fun c => if H c = none then (match H' c with | some o => if isTbl o = true then none else some o | none => none) else L c
theorem At.grow {K : PySem.W.Frag} {as : List Addr} {M : Ms} {L H H' : Hp} (A : At K as M L H) (k : ∀ c o, H c = some o → H' c = some o) : ∃ L', Step as L H as L' H' ∧ At K as M L' H' ∧ ∀ c o, H c = none → H' c = some o → isTbl o = false → L' c = some o := by
  have gn : ∀ {c : Addr}, H c ≠ none → grownL H H' L c = L c := fun {c} h => if_neg h
  have gy : ∀ {c : Addr} {o : HO}, H c = none → grownL H H' L c = some o → H' c = some o ∧ isTbl o = false := fun {c o} h e => by
    have e2 : (match H' c with | some o => if isTbl o = true then none else some o | none => none) = some o := (if_pos h).symm.trans e
    cases q : H' c with
    | none => rw [q] at e2; cases e2
    | some u =>
      rw [q] at e2
      cases t : isTbl u with
      | true => simp only [t, if_true] at e2; cases e2
      | false => simp only [t, Bool.false_eq_true, if_false] at e2; cases e2; exact ⟨rfl, t⟩
  have lh : ∀ {c : Addr} {o : HO}, L c = some o → H c ≠ none := fun {c o} h => by rw [A.low c o h]; simp
  refine ⟨grownL H H' L, ⟨fun c o _ h => k c o h, fun c o h => (gn (lh h)).trans h, fun c h h' => (gn h').trans h, Pre.refl _, fun _ h => .inl h⟩, ⟨fun c o h => ?_, A.len, A.nd, fun j a m h1 h2 => ?_, fun c ps h => ?_⟩, fun c o h h' ht => ?_⟩
  · by_cases e : H c = none
    · exact (gy e h).1
    · rw [gn e] at h; exact k c o (A.low c o h)
  · obtain ⟨h3, o, h4, h5⟩ := A.mo j a m h1 h2
    exact ⟨(gn (by rw [h4]; simp)).trans h3, o, k a o h4, h5.1.mono (fun c o h => (gn (lh h)).trans h) (Pre.refl _), h5.2.keep (KeepC.of k)⟩
  · by_cases e : H c = none
    · have := (gy e h).2; cases this
    · rw [gn e] at h; exact A.nt c ps h
  · show (if H c = none then (match H' c with | some o => if isTbl o = true then none else some o | none => none) else L c) = some o
    rw [if_pos h, h']
    simp only [ht, Bool.false_eq_true, if_false]
@[simp] def dZipL (tl : DA) : DE := fun ρ M P => tl ρ M fun ds M1 => ∃ d e xs ys, ds = [d, e] ∧ isSeq d xs ∧ isSeq e ys ∧ P (.lst (pairs xs ys)) M1
theorem RpA.of {K : PySem.W.Frag} {as : List Addr} {L : Hp} : ∀ {vs : List V} {ds : List D}, vs.length = ds.length → (∀ (j : Nat) (v : V) (d : D), vs[j]? = some v → ds[j]? = some d → Rp K as L v d) → RpA K as L vs ds
  | [], [], _, _ => .nil
  | [], _ :: _, h, _ => by simp at h
  | _ :: _, [], h, _ => by simp at h
  | v :: vs, d :: ds, hl, h => .cons (h 0 v d rfl rfl) (RpA.of (by simpa using hl) fun j v' d' e1 e2 => h (j + 1) v' d' (by simpa using e1) (by simpa using e2))
theorem pd_zipL (hc : X.calm = true) (gl : Gl X "list") (ml : X.mg "list" = none) (hg : Gl X "zip") (hm : X.mg "zip" = none) (ha : PDA X [e, e2] tl)
    (hs : starEach [e, e2] X.env = (false, eval e X.env) :: starEach [e2] X.env := by rfl) (hpl : (backTo pos2 (starEach [e2] X.env)).any (·.1) = false := by rfl)
    (hs0 : starEach [.Call (.Name "zip" p2) [e, e2] [] pos2] X.env = (false, eval (.Call (.Name "zip" p2) [e, e2] [] pos2) X.env) :: starEach [] X.env := by rfl) (hpl0 : (backTo pos (starEach [] X.env)).any (·.1) = false := by rfl) :
    PD X (.Call (.Name "list" p) [.Call (.Name "zip" p2) [e, e2] [] pos2] [] pos) (dZipL tl) := by
  obtain ⟨u, pa, s⟩ := ha.ex
  refine ⟨_, pe_zipL hc gl ml hg hm pa hs hpl hs0 hpl0, ?_⟩
  intro as σ ρ L H M P Q hE A h q
  refine s as σ ρ L H M _ _ hE A h fun vs ds L1 H1 M1 s1 A1 h1 r1 => ?_
  obtain ⟨d, f, xs, ys, rfl, hd, hf, p⟩ := h1
  cases r1 with
  | cons ra rb =>
    cases rb with
    | cons rb rc =>
      cases rc
      obtain ⟨ka, a, xv, rfl, g1, w1⟩ := rp_seq ra hd
      obtain ⟨kb, b, yv, rfl, g2, w2⟩ := rp_seq rb hf
      refine ⟨ka, kb, a, b, xv, yv, rfl, ex_k A1.low g1, ex_k A1.low g2, fun H' S ts hk hS hS' hl hp hn => ?_⟩
      obtain ⟨L2, s2, A2, hL2⟩ := A1.grow hk
      refine q _ _ L2 H' M1 (s1.trans A1 s2) A2 p (.lst (.inl (.inl (hL2 _ _ hS hS' rfl))) (RpA.of (by rw [hl, pairs_len, w1.length, w2.length]) fun j v dd e1 e3 => ?_))
      obtain ⟨T, x, y, rfl, hT, hx, hy⟩ := hp j v e1
      obtain ⟨dx, qx, rx⟩ := w1.getV hx
      obtain ⟨dy, qy, ry⟩ := w2.getV hy
      rw [pairs_get xs ys j dx dy qx qy] at e3
      cases e3
      exact .tup (.inl (.inl (hL2 _ _ (hn _ (List.mem_of_getElem? e1) T rfl) hT rfl))) (.cons (rx.mono s2.k (Pre.refl _)) (.cons (ry.mono s2.k (Pre.refl _)) .nil))
end
end Pd

set_option Elab.async false
set_option linter.all false
set_option maxRecDepth 100000
set_option maxHeartbeats 1000000
namespace Pd
open PySem PySem.Spec PyProof.Rows L2
/-! ### walks read by invariants -/
theorem lc_map {g : DG} {te : DE} {ρ : Rho} {P : D → Ms → Prop} {M : Ms} (f : D → D) : ∀ (ds acc : List D), (∀ d ∈ ds, ∀ R : D → Ms → Prop, R (f d) M → g d ρ fun ρ' => te ρ' M R) → acc.length + ds.length ≤ sizeLine → P (.lst (acc ++ ds.map f)) M → lcRun g dYes te ρ P ds acc M
  | [], acc, _, _, p => by
    show P (.lst acc) M
    simpa using p
  | d :: r, acc, h, hz, p => by
    rw [List.length_cons] at hz
    have := h d List.mem_cons_self (fun y M2 => acc.length < sizeLine ∧ lcRun g dYes te ρ P r (acc ++ [y]) M2) ⟨by omega, lc_map f r (acc ++ [f d]) (fun d' h' => h d' (List.mem_cons_of_mem _ h')) (by rw [List.length_append, List.length_singleton]; omega) (by simpa using p)⟩
    exact this
theorem lc_ind {g : DG} {te : DE} {ρ : Rho} {P : D → Ms → Prop} (I : List D → Ms → Prop) (N : Nat) (hN : N ≤ sizeLine) (step : ∀ (d : D) (acc : List D) (M : Ms) (R : D → Ms → Prop), I acc M → acc.length < N → (∀ y M2, I (acc ++ [y]) M2 → R y M2) → g d ρ fun ρ' => te ρ' M R)
    (fin : ∀ acc M, I acc M → acc.length = N → P (.lst acc) M) : ∀ (ds acc : List D) (M : Ms), I acc M → acc.length + ds.length = N → lcRun g dYes te ρ P ds acc M
  | [], acc, M, h, hl => fin acc M h (by simpa using hl)
  | d :: r, acc, M, h, hl => by
    rw [List.length_cons] at hl
    exact step d acc M (fun y M2 => acc.length < sizeLine ∧ lcRun g dYes te ρ P r (acc ++ [y]) M2) h (by omega) fun y M2 hy => ⟨by omega, lc_ind I N hN step fin r (acc ++ [y]) M2 hy (by rw [List.length_append, List.length_singleton]; omega)⟩
theorem for_ind {g : DG} {body : DS} {De : DEnds} (I : Nat → Rho → Ms → Prop) (ds : List D) (step : ∀ (k : Nat) (d : D) (ρ : Rho) (M : Ms) (N : Rho → Ms → Prop), ds[k]? = some d → I k ρ M → (∀ ρ2 M2, I (k + 1) ρ2 M2 → N ρ2 M2) → g d ρ fun ρ' => body { De with nx := N, ct := N, bk := De.nx } ρ' M)
    (fin : ∀ ρ M, I ds.length ρ M → De.nx ρ M) {ρ : Rho} {M : Ms} (h : I 0 ρ M) : forRun g body De ds ρ M := by
  have key : ∀ (r : List D) (k : Nat) (ρ : Rho) (M : Ms), ds.drop k = r → k + r.length = ds.length → I k ρ M → forRun g body De r ρ M := by
    intro r
    induction r with
    | nil =>
      intro k ρ M _ hl h
      have e : k = ds.length := by simpa using hl
      subst e
      exact fin ρ M h
    | cons d r ih =>
      intro k ρ M hd hl h
      have hk : ds[k]? = some d := by
        have := congrArg (·[0]?) hd
        simpa using this
      rw [List.length_cons] at hl
      have hr : ds.drop (k + 1) = r := by
        have := congrArg List.tail hd
        simpa using this
      exact step k d ρ M (fun ρ2 M2 => forRun g body De r ρ2 M2) hk h fun ρ2 M2 h2 => ih (k + 1) ρ2 M2 hr (by omega) h2
  exact key ds 0 ρ M (by simp) (by simp) h
/-! ### lists of ints as data -/
abbrev dI (xs : List Int) : List D := xs.map D.int
theorem plain_ints : ∀ xs : List Int, plainA (dI xs) = true
  | [] => rfl
  | x :: xs => by show (true && plainA (dI xs)) = true; rw [plain_ints xs]; rfl
theorem lay_ints : ∀ xs : List Int, PyData.canLayAll0 (toPA (dI xs)) = true
  | [] => rfl
  | x :: xs => by show (true && PyData.canLayAll0 (toPA (dI xs))) = true; rw [lay_ints xs]; rfl
theorem depth_ints : ∀ xs : List Int, PyData.depthAll (toPA (dI xs)) = 0
  | [] => rfl
  | x :: xs => by show max 0 (PyData.depthAll (toPA (dI xs))) = 0; rw [depth_ints xs]; rfl
theorem okD_tup (xs : List Int) : okD (.tup (dI xs)) = true := by
  have h1 : plain (.tup (dI xs)) = true := plain_ints xs
  have h2 : SeqAt.shaped (toP (.tup (dI xs))) = true := by
    show (PyData.canLayAll0 (toPA (dI xs)) && decide (PyData.depthAll (toPA (dI xs)) + 1 ≤ 64)) = true
    rw [lay_ints, depth_ints]
    rfl
  unfold okD
  rw [h1, h2]
  rfl
theorem okD_lst (xs : List Int) : okD (.lst (dI xs)) = true := okD_tup xs
theorem eqA_ints : ∀ xs ys : List Int, PyData.eqvAll (toPA (dI xs)) (toPA (dI ys)) = decide (xs = ys)
  | [], [] => rfl
  | [], _ :: _ => rfl
  | _ :: _, [] => rfl
  | x :: xs, y :: ys => by
    show ((x == y) && PyData.eqvAll (toPA (dI xs)) (toPA (dI ys))) = _
    rw [eqA_ints xs ys, Bool.eq_iff_iff]
    simp
theorem eqD_tup (xs ys : List Int) : eqD (.tup (dI xs)) (.tup (dI ys)) = decide (xs = ys) := eqA_ints xs ys
theorem eqD_int (i j : Int) : eqD (.int i) (.int j) = decide (i = j) := by
  show (i == j) = _
  rw [Bool.eq_iff_iff]; simp
theorem eqD_bl (i j : Bool) : eqD (.bl i) (.bl j) = (i == j) := rfl
theorem okD_int (i : Int) : okD (.int i) = true := rfl
theorem okD_bl (b : Bool) : okD (.bl b) = true := rfl
theorem pd_fldK {X : Cx} {K : PySem.W.Frag} {e : Expr} {t : DE} {pos : Pos} {f : Str} (hK : X.K = K) (he : PD X e t) (hb : attributeBase e f X.env (eval e X.env) = eval e X.env := by rfl) : PD X (.Attribute e f pos) (dFld K t f) := hK ▸ pd_fld he hb
/-! ### is, of truth values -/
section
variable {K : PySem.W.Frag}
@[simp] def oIsB : D2 := fun x y M P => ∃ a b : Bool, x = .bl a ∧ y = .bl b ∧ P (.bl (decide (a = b))) M
theorem sr_isB : SimR K rIsB oIsB := by
  intro as L H M x y d e P Q A r1 r2 ⟨a, b, h1, h2, p⟩ q
  subst h1; subst h2
  cases r1; cases r2
  exact ⟨a, b, rfl, rfl, q _ _ L H M .refl A p (.bl _)⟩
@[simp] def oList : DC := fun xs M P => ∃ d ds, xs = [d] ∧ isSeq d ds ∧ P (.lst ds) M
theorem sc_list : SimC K (fun xs H Q => ∃ p ys, xs = [.ref p] ∧ (SqL K H p ys ∨ SqT K H p ys) ∧ ∀ l, H l = none → Q (.ref l) (upd H l (.lst ys))) oList := by
  intro as L H M xs ds P Q A r ⟨d, es, h, hd, p⟩ q
  subst h
  cases r with
  | cons r1 r2 =>
    cases r2
    rcases hd with rfl | rfl
    · cases r1 with
      | lst hs ra => exact ⟨_, _, rfl, .inl (ex_l A.low hs), fun l hl => q _ _ _ _ M (Step.know A hl) (A.know hl) p (.lst (.inl (.inl upd_same)) (ra.mono (Ex.new (lowfree A hl)) (Pre.refl _)))⟩
    · cases r1 with
      | tup hs ra => exact ⟨_, _, rfl, .inr (ex_t A.low hs), fun l hl => q _ _ _ _ M (Step.know A hl) (A.know hl) p (.lst (.inl (.inl upd_same)) (ra.mono (Ex.new (lowfree A hl)) (Pre.refl _)))⟩
end
/-- the changeable objects hold none that stands behind -/
def okM (M : Ms) : Prop := apartM M.length M = true
theorem okM_nil : okM [] := rfl
theorem apartA_ints (k : Nat) : ∀ xs : List Int, apartA k (dI xs) = true
  | [] => rfl
  | x :: xs => by show (true && apartA k (dI xs)) = true; rw [apartA_ints k xs]; rfl
theorem set_last {α : Type} (M : List α) (x y : α) : (M ++ [x]).set M.length y = M ++ [y] := by
  rw [List.set_append_right _ _ (Nat.le_refl _), Nat.sub_self]
  rfl
theorem get_last {α : Type} (M : List α) (x : α) : (M ++ [x])[M.length]? = some x := by
  rw [List.getElem?_append_right (Nat.le_refl _), Nat.sub_self]
  rfl
end Pd

set_option Elab.async false
set_option linter.all false
set_option maxRecDepth 100000
set_option maxHeartbeats 1000000
namespace Pd
open PySem PySem.Spec PyProof.Rows L2
theorem bsplit {b : Bool} {P Q : Prop} (h1 : b = true → P) (h0 : b = false → Q) : if b = true then P else Q := by
  cases b
  · exact h0 rfl
  · exact h1 rfl
/-! ### a def that ends by a new list -/
abbrev DN := (List D → Ms → Prop) → Rho → Ms → Prop
structure PDN (X : Cx) (sts : List Stmt) (t : DN) : Prop where
  ex : ∃ ts, PSs X sts ts ∧ ∀ as σ ρ L H M P D, En X.K as L σ ρ → At X.K as M L H → t P ρ M →
    (∀ p xs m L' H' M', Step as L H as L' H' → At X.K as M' L' H' → H p = none → L' p = none → H' p = some (.lst xs) → RpA X.K as L' xs m → P m M' → D.rt (.ref p) H') → ts D σ H
theorem Step.free {as : List Addr} {L H L1 H1 : Hp} {K : PySem.W.Frag} {M M1 : Ms} (A : At K as M L H) (s : Step as L H as L1 H1) (A1 : At K as M1 L1 H1) {p : Addr} (h : H1 p = none) : H p = none := by
  by_cases hp : p ∈ as
  · exact absurd h (A1.held hp).2
  · cases q : H p with
    | none => rfl
    | some o => rw [s.up p o hp q] at h; cases h
theorem At.hidden {K : PySem.W.Frag} {as : List Addr} {M : Ms} {L H : Hp} {p : Addr} {o : HO} (A : At K as M L H) (hp : H p = none) : At K as M L (upd H p o) := by
  have lp := lowfree A hp
  refine ⟨fun a u h => ?_, A.len, A.nd, fun k a m e1 e2 => ?_, A.nt⟩
  · rw [upd_ne (fun z => by rw [z, lp] at h; cases h)]; exact A.low a u h
  · obtain ⟨h3, u, h4, h5⟩ := A.mo k a m e1 e2
    exact ⟨h3, u, by rw [upd_ne (ne_of_none h4 hp)]; exact h4, h5.1, h5.2.keep (KeepC.new hp)⟩
theorem Step.hidden {as : List Addr} {L H L1 H1 : Hp} {p : Addr} {o : HO} (s : Step as L H as L1 H1) (hp : H1 p = none) : Step as L H as L1 (upd H1 p o) :=
  ⟨fun a u ha h => by rw [upd_ne (ne_of_none (s.up a u ha h) hp)]; exact s.up a u ha h, s.k, s.hid, s.pre, s.new⟩
section
variable {X : Cx} {st : Stmt} {sts : List Stmt} {s1 : DS} {t : DN} {es : List Expr} {tl : DA} {pos pos' : Pos}
@[simp] def nRet (tl : DA) : DN := fun P ρ M => tl ρ M fun ds M1 => ds.length ≤ sizeLine ∧ P ds M1
theorem pdn_ret (h : PDA X es tl) : PDN X [.Return (some (.List es pos)) pos'] (nRet tl) := by
  obtain ⟨u, p, s⟩ := h.ex
  refine ⟨_, pss_one (ps_ret (pe_lst p)), fun as σ ρ L H M P D hE A h k => ?_⟩
  refine s as σ ρ L H M _ _ hE A h fun vs ds L1 H1 M1 s1 A1 h1 r1 => ⟨by rw [r1.length]; exact h1.1, fun p hp => ?_⟩
  exact k p vs ds L1 _ M1 (s1.hidden hp) (A1.hidden hp) (Step.free A s1 A1 hp) (lowfree A1 hp) upd_same r1 h1.2
@[simp] def nSeq (s : DS) (t : DN) : DN := fun P ρ M => s { nx := fun ρ' M' => t P ρ' M', rt := fun _ _ => False } ρ M
theorem pdn_cons (h1 : PDS X st s1) (h2 : PDN X sts t) : PDN X (st :: sts) (nSeq s1 t) := by
  obtain ⟨u1, p1, q1⟩ := h1.ex
  obtain ⟨u2, p2, q2⟩ := h2.ex
  refine ⟨_, pss_cons p1 p2, fun as σ ρ L H M P D hE A h k => ?_⟩
  refine sim_then (De := { nx := fun _ _ => False, rt := fun _ _ => False }) q1 hE A ⟨fun _ _ _ _ _ _ _ _ z => z.elim, fun _ _ _ _ _ _ _ z => z.elim, fun _ _ _ _ _ _ _ _ z => z.elim, fun _ _ _ _ _ _ _ _ z => z.elim⟩ (nx := fun ρ' M' => t P ρ' M') (fun σ' ρ' L' H' M' s' A' e' h' => ?_) h
  exact q2 as σ' ρ' L' H' M' P D e' A' h' fun p xs m L2 H2 M2 s2 A2 h0 l0 hx r q => k p xs m L2 H2 M2 (s'.trans A' s2) A2 (Step.free A s' A' h0) l0 hx r q
end
section
variable {X : Cx} {a b : Expr} {tl : DA} {pos : Pos}
/-- x, y = a, b -/
@[simp] def sPar (i j : Nat) (tl : DA) : DS := fun De ρ M => tl ρ M fun ds M1 => ∃ d e, ds = [d, e] ∧ De.nx ((ρ.set i (some d)).set j (some e)) M1
theorem pds_par (i j : Nat) {x y : Str} {px py pt : Pos} {kt k2 pt2} (hc : X.calm = true) (hN : X.N.Nodup) (ha : PDA X [a, b] tl) (hij : i ≠ j) (hi : X.N[i]? = some x := by rfl) (hj : X.N[j]? = some y := by rfl)
    (hx : X.env.scope.names.lookup x = some .local := by rfl) (hy : X.env.scope.names.lookup y = some .local := by rfl)
    (hw : swappedStores [.Tuple [.Name x px, .Name y py] kt pt] (.Tuple [a, b] k2 pt2) X.env = pure (some [x, y]) := by rfl)
    (hs : swapsWithSole [.Tuple [.Name x px, .Name y py] kt pt] (.Tuple [a, b] k2 pt2) pos.line X.env = pure false := by rfl) :
    PDS X (.Assign [.Tuple [.Name x px, .Name y py] kt pt] (.Tuple [a, b] k2 pt2) pos) (sPar i j tl) := by
  obtain ⟨u, p, s⟩ := ha.ex
  refine ⟨_, ps_par hc hN hi hj hij hx hy p hw hs, ?_⟩
  intro as σ ρ L H M De D hE A h c
  refine s as σ ρ L H M _ _ hE A h fun vs ds L1 H1 M1 s1 A1 h1 r1 => ?_
  obtain ⟨d, e, rfl, q⟩ := h1
  cases r1 with
  | cons r2 r3 =>
    cases r3 with
    | cons r4 r5 =>
      cases r5
      exact ⟨_, _, rfl, c.nx _ _ L1 H1 M1 s1 A1 (((hE.mono s1.k s1.pre).set i r2).set j r4) q⟩
end
section
variable {P : Program} {w : World} {K : PySem.W.Frag} {mg : Str → Option Value} {base : Heap}
theorem pd_fnN {x qual : Str} {st : Stmt} {f : Addr} {fd : FuncData} {N ps : List Str} {k : Nat} {W : DCN} (F : Fun K x qual st f fd) (S : FnScope N ps (defScope st))
    (hbody : ∀ (cdv : Value) (A : Around) (outer : List Env) (s : Shared) (H : Hp) (E : XK), Room k (A.deeper (envOfC qual (defScope st) s.heap.objs.size f cdv)) →
      ∃ t, PDN (cxOf CX0 P w K mg base N qual (defScope st) f cdv A outer s H E).nox (defBody st) t ∧ ∀ ds M Q, ds.length = ps.length → W ds M Q → t Q (startD N ds) M) :
    FnOk P w K mg base CX0 (k + 1) f fd ps (spN ps.length W K) := by
  refine F.ok S (fun vs H Q E h => h.1) (fun cdv A outer s H vs Q E hr h => ?_)
  obtain ⟨hl, as, M, L, ds, P', r, A0, hw, q⟩ := h
  obtain ⟨t, ht, hb⟩ := hbody cdv A outer s H E hr
  obtain ⟨ts, pt, st'⟩ := ht.ex
  exact ⟨ts, pt, st' as (L2.start N vs) (startD N ds) L H M P' _ (en_start r) A0 (hb ds M P' (by rw [← r.length]; exact hl) hw) fun p xs m L' H' M' s' A' h0 l0 hx rx hp => q p xs m L' H' M' s' A' h0 l0 hx rx hp⟩
end
end Pd

set_option Elab.async false
set_option linter.all false
set_option maxRecDepth 100000
set_option maxHeartbeats 2000000
/-! Own exceptions whose __init__ keeps its arguments: made, held, raised. -/
namespace Pd
open PySem PySem.Spec PyProof.Rows L2 PySem.HandSPX
/-- a built-in base of own exceptions -/
structure Tail (B newId initId : String) (tl : List Value) : Prop where
  F : ExcBaseFacts B newId initId tl
  S : ∀ self, refuseLoop self "__setattr__" tl = pure ()
  nr : ∀ c r, tl ≠ .ref c :: r
  ne : tl ≠ []
  ob : tl.contains (.type "object") = true
theorem tail_Exception : Tail "Exception" "Exception.__new__" "Exception.__init__" [.type "Exception", .type "BaseException", .type "object"] :=
  ⟨PySem.F.excBase_Exception, fun s => PySem.F.store_Exception.passes s, fun _ _ z => (by cases z), fun z => (by cases z), by decide +kernel⟩
theorem tail_LookupError : Tail "LookupError" "LookupError.__new__" "LookupError.__init__" [.type "LookupError", .type "Exception", .type "BaseException", .type "object"] :=
  ⟨PySem.F.excBase_LookupError, fun s => PySem.F.store_LookupError.passes s, fun _ _ z => (by cases z), fun z => (by cases z), by decide +kernel⟩
theorem tail_RuntimeError : Tail "RuntimeError" "RuntimeError.__new__" "RuntimeError.__init__" [.type "RuntimeError", .type "Exception", .type "BaseException", .type "object"] :=
  ⟨PySem.F.excBase_RuntimeError, fun s => PySem.F.store_RuntimeError.passes s, fun _ _ z => (by cases z), fun z => (by cases z), by decide +kernel⟩
/-- own classes, then the base's mro -/
inductive RefsT (tl : List Value) : List Value → Prop
  | tl : RefsT tl tl
  | ref (c : Addr) {r : List Value} : RefsT tl r → RefsT tl (.ref c :: r)
section
variable {B newId initId : String} {tl : List Value}
theorem RefsT.pass (T : Tail B newId initId tl) (self : Value) : ∀ {l : List Value}, RefsT tl l → refuseLoop self "__setattr__" l = pure ()
  | _, .tl => T.S self
  | _, .ref c h => by rw [refuseLoop_ref]; exact h.pass T self
theorem RefsT.contains (X : String) : ∀ {l : List Value}, RefsT tl l → l.contains (.type X) = tl.contains (.type X)
  | _, .tl => rfl
  | _, .ref c h => by rw [List.contains_cons, h.contains X]; rfl
theorem RefsT.ne (T : Tail B newId initId tl) : ∀ {l : List Value}, RefsT tl l → l.isEmpty = false
  | _, .tl => by
    have := T.ne
    cases tl with
    | nil => exact absurd rfl this
    | cons _ _ => rfl
  | _, .ref c h => rfl
end
section
open PySem.W PySem.Calls Builtin Builtin.ObjectAttr
variable {prog : Program} {w : World} {A : Around} {E : Value → Shared → Prop} {R : Result → Shared → Prop} {hp : Heap} {g : Array GenState} {d : Drawn} {t : Nat} {os : OsState} {B newId initId : String} {tl : List Value}
/-- self.name = v, the first field -/
theorem osaT_new (T : Tail B newId initId tl) {K : W.Frag} {name : Str} {tk : Tok} {v : Value} {x C : Addr} {fv : Array Value} {cd : ClassData}
    (X : K.In hp) (hx : hp.get? x = some { cls := .ref C, data := .fields fv }) (hcd : W.clsIn K C = some cd) (hm : RefsT tl cd.mro) (hh : cd.hasDict = true) (ha : W.findIn K (.ref C) name = some none)
    (hq : ∀ h' tk' dx, (∀ b o, b ≠ x → hp.get? b = some o → h'.get? b = some o) → hp.objs.size ≤ dx → dx ≠ x → h'.get? x = some { cls := .ref C, dict := some dx, data := .fields fv } →
      h'.Ns1 dx (fun y => if y = name then some v else none) → R (.ok (.ret .none)) ⟨h', g, d, tk', os⟩) :
    codeAny (model prog w) A (.call (.builtin "object.__setattr__") ⟨[.ref x, .str name tk, v], []⟩) R ⟨hp, g, d, t, os⟩ := by
  have I : W.InstAt hp x { cls := .ref C, data := .fields fv } C none := ⟨hx, rfl, rfl, trivial⟩
  have SF := PySem.F.store_object
  have ne := hm.ne T
  have hob : cd.mro.contains (.type "object") = true := (hm.contains "object").trans T.ob
  have hxs : x ≠ hp.objs.size := Nat.ne_of_lt (Heap.lt_size hx)
  have sub : W.Looks (model prog w) hp (isInstance (.ref x) (.type "object")) true := I.type.andThen (W.looks_mroIn X (by unfold W.mroIn; rw [hcd, Option.bind_some, if_neg (by rw [ne]; decide), hob]))
  refine codeAny_call_builtin SF.slot.plain SF.entry (@W.check_slot (model prog w) _ _ ⟨hp, g, d, t, os⟩ "object.__setattr__" "object" "__setattr__" (.ref x) [.str name tk, v] [] _ SF.kind SF.split sub (SF.args (.ref x) (.str name tk) v) ?_)
  have hmr : W.Looks (model prog w) hp (mroOf (.ref C)) cd.mro := (W.looks_clsIn X hcd).andThen .now
  have L3 : W.Looks (model prog w) hp (storeTaker? none) none := .now
  have hcls : W.Looks (model prog w) hp (classData C) cd := W.looks_clsIn X hcd
  rw [W.osa_eq, refuse_eq]
  refine wpAny_bind (wpAny_bind (I.type.at (wpAny_bind (hmr.at ?_))))
  rw [hm.pass T]
  refine wpAny_pure (wpAny_bind (I.type.at (wpAny_bind ((W.looks_findIn X ha).at (wpAny_bind (L3.at ?_))))))
  show wpAny _ _ (storeInOwnDict (.ref x) (.ref C) (.str name tk) name v false) _ _ _
  obtain ⟨nm, bs, mro, ns, qn, hd, sn, sb, ab, col, del⟩ := cd
  dsimp only at hh
  subst hh
  unfold storeInOwnDict ownDictForStores
  repeat (first | with_reducible refine store_in_new ?_ ?_ | with_reducible refine wpAny_loadPart_at hx ?_ | with_reducible refine hcls.at ?_ | wp_step)
  · exact ⟨_, #[], _, (Heap.get?_update_ne _ _ _ _ hxs.symm).trans (Heap.get?_push_at rfl rfl), rfl, fun e he => absurd he (by simp), fun _ => rfl⟩
  · intro h' tk' hn' hs
    have hx₁ : (hp.push { cls := .type "dict", data := .dict #[] }).get? x = some { cls := .ref C, data := .fields fv } := Heap.get?_push_of_some _ hx
    refine hq h' tk' hp.objs.size (fun b o hb ho => ?_) (Nat.le_refl _) hxs.symm ?_ hn'
    · exact (hs.2 b (Nat.ne_of_lt (Heap.lt_size ho))).trans ((Heap.get?_update_ne _ _ _ _ hb).trans (Heap.get?_push_of_some _ ho))
    · exact (hs.2 x hxs).trans (Heap.get?_update_self _ hx₁ rfl)
/-- a further field -/
theorem osaT_old (T : Tail B newId initId tl) {K : W.Frag} {name : Str} {tk : Tok} {v : Value} {x C dx : Addr} {fv : Array Value} {cd : ClassData} {m0 : Str → Option Value} {nl : List Str}
    (X : K.In hp) (hx : hp.get? x = some { cls := .ref C, dict := some dx, data := .fields fv }) (hns : hp.Ns1 dx m0) (hw : Within m0 nl) (hz : nl.length ≤ 1000) (hcd : W.clsIn K C = some cd) (hm : RefsT tl cd.mro) (hh : cd.hasDict = true)
    (ha : W.findIn K (.ref C) name = some none)
    (hq : ∀ h' tk', (∀ b o, b ≠ dx → hp.get? b = some o → h'.get? b = some o) → h'.Ns1 dx (fun y => if y = name then some v else m0 y) → R (.ok (.ret .none)) ⟨h', g, d, tk', os⟩) :
    codeAny (model prog w) A (.call (.builtin "object.__setattr__") ⟨[.ref x, .str name tk, v], []⟩) R ⟨hp, g, d, t, os⟩ := by
  obtain ⟨oD, esD, epD, hoD, hdD, _⟩ := hns.count hw
  have I : W.InstAt hp x { cls := .ref C, dict := some dx, data := .fields fv } C (some oD) := ⟨hx, rfl, rfl, hoD⟩
  have SF := PySem.F.store_object
  have ne := hm.ne T
  have hob : cd.mro.contains (.type "object") = true := (hm.contains "object").trans T.ob
  have sub : W.Looks (model prog w) hp (isInstance (.ref x) (.type "object")) true := I.type.andThen (W.looks_mroIn X (by unfold W.mroIn; rw [hcd, Option.bind_some, if_neg (by rw [ne]; decide), hob]))
  refine codeAny_call_builtin SF.slot.plain SF.entry (@W.check_slot (model prog w) _ _ ⟨hp, g, d, t, os⟩ "object.__setattr__" "object" "__setattr__" (.ref x) [.str name tk, v] [] _ SF.kind SF.split sub (SF.args (.ref x) (.str name tk) v) ?_)
  have hmr : W.Looks (model prog w) hp (mroOf (.ref C)) cd.mro := (W.looks_clsIn X hcd).andThen .now
  have L3 : W.Looks (model prog w) hp (storeTaker? none) none := .now
  have hcls : W.Looks (model prog w) hp (classData C) cd := W.looks_clsIn X hcd
  rw [W.osa_eq, refuse_eq]
  refine wpAny_bind (wpAny_bind (I.type.at (wpAny_bind (hmr.at ?_))))
  rw [hm.pass T]
  refine wpAny_pure (wpAny_bind (I.type.at (wpAny_bind ((W.looks_findIn X ha).at (wpAny_bind (L3.at ?_))))))
  show wpAny _ _ (storeInOwnDict (.ref x) (.ref C) (.str name tk) name v false) _ _ _
  obtain ⟨nm, bs, mro, ns, qn, hd, sn, sb, ab, col, del⟩ := cd
  dsimp only at hh
  subst hh
  unfold storeInOwnDict ownDictForStores
  repeat (first | with_reducible refine PySem.OEX.store_in_old hns hw hz ?_ | with_reducible refine wpAny_loadPart_at hx ?_ | with_reducible refine hcls.at ?_ | wp_step)
  intro h' tk' hn' hs
  exact hq h' tk' (fun b o hb ho => (hs.2 b hb).trans ho) hn'
end
/-- what the written part says of an own exception class -/
structure OexT (K : PySem.W.Frag) (newId : String) (tl : List Value) (C : Addr) : Prop where
  cls : ∃ nm q N bs bm sn sub ab col dd k0 k1 k2 k3 k5, K.lookup C = some (excClassObj nm q C N bs bm true sn sub ab col dd k0 k1 k2 k3 k5 newId) ∧ RefsT tl bm
  sa : PySem.W.findIn K (.ref C) "__setattr__" = some (some (.builtin "object.__setattr__"))
  exC : PySem.W.subIn K (.ref C) (.type "BaseException") = some true
  tyC : PySem.W.typeIn K (.ref C) = some (.type "type")
  kC : PySem.W.keepIn K (.ref C) = true
section
variable {X : Cx} {pins : List (Addr × Obj)} {σ : L2.St} {H : Hp} {s : Shared} {a C dx : Addr} {f : Str} {y : V} {u : Value} {fs : List (Str × V)} {Q : Unit → Shared → Prop} {E : Value → Shared → Prop} {A : Around} {B newId initId : String} {tl : List Value}
theorem ostT_new (TT : Tail B newId initId tl) (T : OexT X.K newId tl C) (I : Inv X pins σ H s) (e : H a = some (exo a C none)) (hno : PySem.W.findIn X.K (.ref C) f = some none) (ry : RelV y u)
    (h : ∀ dx s', H dx = none → dx ≠ a → Inv X pins σ (upd (upd H dx (exd dx [(f, y)])) a (exo a C (some dx))) s' → Q () s') : wpAny (model X.prog X.w) A (setAttr (.ref a) f u) Q E s := by
  obtain ⟨nm, q, N, bs, bm, sn, sub, ab, col, dd, k0, k1, k2, k3, k5, hC, hbm⟩ := T.cls
  have hcl : PySem.W.clsIn X.K C = some { name := nm, bases := bs, mro := .ref C :: bm, ns := N, qualname := q, hasDict := true, slotNames := sn, subclasses := sub, abstract := ab, collection := col, hasDel := false } := by unfold PySem.W.clsIn; rw [hC] <;> rfl
  obtain ⟨t1, ho⟩ := exo_at I.hok e
  obtain ⟨hp, g, d, t, os⟩ := s
  refine PySem.W.set_plain I.kIn (ox := { cls := .ref C, dict := none, data := .fields #[.ref t1, .none, .none, .none, .bool false, .none] }) (od := none) ⟨ho, rfl, rfl, trivial⟩ T.sa ?_
  refine osaT_new TT I.kIn ho hcl (show RefsT tl (.ref C :: bm) from .ref C hbm) rfl hno (fun h' tk' dx k dn dne hx hn => ?_)
  have hnd : H dx = none := I.hok.fresh dn
  have nd : ∀ {b : Addr} {o : Obj}, hp.get? b = some o → b ≠ dx := fun {b o} q => Nat.ne_of_lt (Nat.lt_of_lt_of_le (Heap.lt_size q) dn)
  have na : ∀ {b : Addr}, H b = none → b ≠ a := fun {b} n z => by
    rw [z, e] at n
    cases n
  have Un1 : Un X.fs [] H (upd (upd H dx (exd dx [(f, y)])) a (exo a C (some dx))) hp h' := {
    keep := fun b o q n _ _ => k b o (na n) q
    slot := fun b o q n _ _ => ⟨o.slots, k b o (na n) q⟩
    free := fun b o q n _ => by rw [upd_ne (na n), upd_ne (nd q)]; exact n
    there := fun b o q _ => by
      by_cases hb : b = a
      · exact ⟨_, by rw [hb]; exact hx⟩
      · exact ⟨o, k b o hb q⟩
    tups := fun b xs q => by rw [upd_ne (at_ne e q exo_tup), upd_ne (ne_of_none q hnd)]; exact q
    frzs := fun b o v q => by rw [upd_ne (at_ne e q exo_frz), upd_ne (ne_of_none q hnd)]; exact q
    tbls := fun b ps q => ⟨#[], by rw [upd_ne (at_ne e q exo_tbl), upd_ne (ne_of_none q hnd), q]; simp⟩ }
  refine h dx _ hnd dne (I.un (t' := tk') Un1 fun b o q => ?_)
  by_cases hb : b = a
  · subst hb
    rw [upd_same] at q
    cases q
    exact exo_ok hx
  · rw [upd_ne hb] at q
    by_cases hd : b = dx
    · subst hd
      rw [upd_same] at q
      cases q
      exact exd_ok hn (relO_put (fs := []) ry fun g => True.intro)
    · rw [upd_ne hd] at q
      exact (I.hok b o q).stay (fun c v hc z => k c v (by
          rcases hc with hc | hc
          · rw [hc]
            exact hb
          · exact at_ne e hc exo_own) z)
        (fun c hc => by rw [upd_ne (at_ne e hc exo_own), upd_ne (ne_of_none hc hnd)]; exact hc) (fun c xs hc => by rw [upd_ne (at_ne e hc exo_tup), upd_ne (ne_of_none hc hnd)]; exact hc)
theorem ostT_old (TT : Tail B newId initId tl) (T : OexT X.K newId tl C) (I : Inv X pins σ H s) (e : H a = some (exo a C (some dx))) (ed : H dx = some (exd dx fs)) (hl : fs.length ≤ 900) (hno : PySem.W.findIn X.K (.ref C) f = some none) (ry : RelV y u)
    (h : ∀ s', Inv X pins σ (upd H dx (exd dx ((f, y) :: fs))) s' → Q () s') : wpAny (model X.prog X.w) A (setAttr (.ref a) f u) Q E s := by
  obtain ⟨nm, q, N, bs, bm, sn, sub, ab, col, dd, k0, k1, k2, k3, k5, hC, hbm⟩ := T.cls
  have hcl : PySem.W.clsIn X.K C = some { name := nm, bases := bs, mro := .ref C :: bm, ns := N, qualname := q, hasDict := true, slotNames := sn, subclasses := sub, abstract := ab, collection := col, hasDel := false } := by unfold PySem.W.clsIn; rw [hC] <;> rfl
  obtain ⟨t1, ho⟩ := exo_at I.hok e
  obtain ⟨mA, hns, rel⟩ := exd_at I.hok ed
  have hw := within_of rel
  obtain ⟨hp, g, d, t, os⟩ := s
  obtain ⟨oD, _, _, hoD, _, _⟩ := hns.count hw
  refine PySem.W.set_plain I.kIn (ox := { cls := .ref C, dict := some dx, data := .fields #[.ref t1, .none, .none, .none, .bool false, .none] }) (od := some oD) ⟨ho, rfl, rfl, hoD⟩ T.sa ?_
  refine osaT_old TT I.kIn ho hns hw (by rw [List.length_map]; omega) hcl (show RefsT tl (.ref C :: bm) from .ref C hbm) rfl hno (fun h' tk' k hn => ?_)
  have hd : ∃ o, h'.get? dx = some o := by
    obtain ⟨o, _, _, e', _⟩ := hn
    exact ⟨o, e'⟩
  exact h _ (I.write (t' := tk') (x := dx) (e := dx) (o := exd dx ((f, y) :: fs)) (by rw [ed]; exact True.intro) (.inl rfl) k hd (exd_ok hn (relO_put ry rel)))
end
/-! ### self.f = e in __init__ -/
def tOstT (K : PySem.W.Frag) (newId : String) (tl : List Value) (f : Str) (to te : TE) : TS := fun D σ H => te σ H fun y H1 => to σ H1 fun x H2 => ∃ a C : Addr, x = .ref a ∧ OexT K newId tl C ∧ PySem.W.findIn K (.ref C) f = some none ∧
  ((H2 a = some (exo a C none) ∧ ∀ dx, H2 dx = none → dx ≠ a → D.nx σ (upd (upd H2 dx (exd dx [(f, y)])) a (exo a C (some dx)))) ∨
    ∃ (dx : Addr) (fs : List (Str × V)), H2 a = some (exo a C (some dx)) ∧ H2 dx = some (exd dx fs) ∧ fs.length ≤ 900 ∧ D.nx σ (upd H2 dx (exd dx ((f, y) :: fs))))
theorem ps_ostT {X : Cx} {B newId initId : String} {tl : List Value} (TT : Tail B newId initId tl) {o e : Expr} {to te : TE} {f : Str} {p' pos : Pos} (ho : PE X o to) (he : PE X e te) (hs : swapsWith e (some (.Attribute o f p')) pos.line X.env = pure false := by rfl) : PS X (.Assign [.Attribute o f p'] e pos) (tOstT X.K newId tl f to te) := by
  refine ⟨fun pins s σ H D I h => ?_⟩
  refine plainObj_wpAny_Assign_Attribute (thn (he.run pins s σ H _ I h) fun v s1 ⟨y, H1, I1, r1, q1⟩ => thn (ho.run pins s1 σ H1 _ I1 q1) fun u s2 ⟨x, H2, I2, r2, a, C, ex, T, hno, q⟩ => ?_) hs
  subst ex
  obtain rfl : u = Value.ref a := r2
  rcases q with ⟨ea, q⟩ | ⟨dx, fs, ea, ed, hl, q⟩
  · exact ostT_new TT T I2 ea hno r1 fun dx s' n ne J => ⟨σ, _, J, q dx n ne⟩
  · exact ostT_old TT T I2 ea ed hl hno r1 fun s' J => ⟨σ, _, J, q⟩
end Pd

set_option Elab.async false
set_option linter.all false
set_option maxRecDepth 100000
set_option maxHeartbeats 2000000
/-! Own exceptions as values. -/
namespace Pd
open PySem PySem.Spec PyProof.Rows L2 PySem.HandSPX
section
variable {P : Program} {w : World} {K : PySem.W.Frag} {mg : Str → Option Value} {base : Heap} {B newId initId : String} {tl : List Value}
/-- what __init__(self, y): self.f = y promises -/
def spI1 (newId : String) (tl : List Value) (C : Addr) (f : Str) : PySem.W.Frag → Sp := fun K vs H Q _ => vs.length = 2 ∧ ∃ a y, vs = [.ref a, y] ∧ OexT K newId tl C ∧ PySem.W.findIn K (.ref C) f = some none ∧ H a = some (exo a C none) ∧
  ∀ dx, H dx = none → dx ≠ a → Q .non (upd (upd H dx (exd dx [(f, y)])) a (exo a C (some dx)))
theorem fn_init1 {x qual : Str} {st : Stmt} {f : Addr} {fd : FuncData} {N : List Str} {p0 p1 fld : Str} {C : Addr} (F : Fun K x qual st f fd) (S : FnScope N [p0, p1] (defScope st))
    (hbody : ∀ (cdv : Value) (A : Around) (outer : List Env) (s : Shared) (H : Hp) (E : XK), PSs (cxOf CX0 P w K mg base N qual (defScope st) f cdv A outer s H E).nox (defBody st) (tOstT K newId tl fld (tVar 0) (tVar 1))) :
    FnOk P w K mg base CX0 1 f fd [p0, p1] (spI1 newId tl C fld K) := by
  refine F.ok S (fun vs H Q E h => h.1) (fun cdv A outer s H vs Q E hr h => ⟨_, hbody cdv A outer s H E, ?_⟩)
  obtain ⟨_, a, y, rfl, T, hno, ha, q⟩ := h
  exact ⟨y, rfl, .ref a, rfl, a, C, rfl, T, hno, .inl ⟨ha, fun dx h1 h2 => q dx h1 h2⟩⟩
end
/-- C(e, ..) as a value -/
def tMkV (C : Addr) (sp : Sp) (ta : TA) : TE := fun σ H Q => ta σ H fun vs H1 => vs.length ≤ 1000 ∧ ∀ a, H1 a = none → sp (.ref a :: vs) (upd H1 a (exo a C none)) (fun v H2 => v = .non ∧ Q (.ref a) H2) E0
section
variable {X : Cx} {B newId initId : String} {tl : List Value} {e : Expr} {es : List Expr} {ta : TA} {p pos : Pos}
theorem pe_excV (TT : Tail B newId initId tl) {x : Str} {C fI : Addr} {k : Nat} {fd : FuncData} {ps : List Str} {sp : Sp} (T : OexT X.K newId tl C) (iC : PySem.W.findIn X.K (.ref C) "__init__" = some (some (.ref fI))) (tI : PySem.W.typeIn X.K (.ref fI) = some (.type "function"))
    (F1 : FnOk X.prog X.w X.K X.mg X.base CX0 k fI fd ps sp) (hr : Room (k + 1) X.A) (hb : Binds X.K fd ps []) (hg : Gl X x) (hm : X.mg x = some (.ref C)) (ha : PA X (e :: es) ta)
    (hdb : (x == ("__debug__" : Str)) = false := by decide) (he : starEach (e :: es) X.env = (false, eval e X.env) :: starEach es X.env := by rfl) (hpl : (backTo pos (starEach es X.env)).any (·.1) = false := by rfl) :
    PE X (.Call (.Name x p) (e :: es) [] pos) (tMkV C sp ta) := by
  refine ⟨fun pins s σ H Q I h => ?_⟩
  obtain ⟨nm, q, N, bs, bm, sn, sub, ab, col, dd, k0, k1, k2, k3, k5, hC, hbm⟩ := T.cls
  refine wpAny_Call_Name_kw (ld_glob I hg hm ?_ hdb)
  refine PySem.W.callWith_K (h₀ := X.base) I.ok.mod.kin T.kC (thn (ha.run pos pins s σ H _ I h) fun us s1 ⟨vs, H1, I1, r1, hz, q1⟩ => ⟨I1.kIn, ?_⟩) he hpl
  show wpAny _ _ (call (.ref C) us) _ _ _
  obtain ⟨hp, g, dr, tk, os⟩ := s1
  have hsz : hp.objs.size ≤ hp.objs.size + 1 := Nat.le_succ _
  have hn : H1 (hp.objs.size + 1) = none := I1.hok.fresh hsz
  have hq := q1 (hp.objs.size + 1) hn
  have kk : ∀ b o, hp.get? b = some o → ((hp.push (PySem.W.kdv_tup us)).push (excO C hp.objs.size)).get? b = some o := fun b o e => Heap.get?_push_of_some _ (Heap.get?_push_of_some _ e)
  have hget : ((hp.push (PySem.W.kdv_tup us)).push (excO C hp.objs.size)).get? (hp.objs.size + 1) = some (excO C hp.objs.size) := by heap_get
  have I2 : Inv X pins σ (upd H1 (hp.objs.size + 1) (exo (hp.objs.size + 1) C none)) ⟨(hp.push (PySem.W.kdv_tup us)).push (excO C hp.objs.size), g, dr, tk, os⟩ :=
    I1.laid (t' := tk) (a := hp.objs.size + 1) (o := exo (hp.objs.size + 1) C none) (h' := (hp.push (PySem.W.kdv_tup us)).push (excO C hp.objs.size)) kk hsz (exo_ok hget)
  have r2 : Vals (V.ref (hp.objs.size + 1) :: vs) (Value.ref (hp.objs.size + 1) :: us) := .cons rfl r1
  have hl : (Value.ref (hp.objs.size + 1) :: us).length = ps.length := by
    have e := r2.length
    rw [F1.len _ _ _ _ hq] at e
    exact e.symm
  have hus : us.length ≤ sizeLine := by
    rw [← Paired.length r1, sizeLine_eq]
    omega
  refine wpAny_call (call_own TT.F (fun Y => hbm.contains Y) (I1.kIn _ _ hC) (PySem.W.looks_findIn I1.kIn iC) (fun self => PySem.W.bind_fn I1.kIn self tI) hus
    (codeAny_mono (F1.run _ X.stack _ _ ⟨Value.ref (hp.objs.size + 1) :: us, []⟩ (Value.ref (hp.objs.size + 1) :: us) _ _ E0 (hr.make C us []) (I2.env0.make C us []) (by simpa using hb _ (Value.ref (hp.objs.size + 1) :: us) I2.kIn (by simpa using hl)) r2 hq) fun r s' hq' => ?_))
  cases r with
  | error er => exact False.elim hq'
  | ok fl =>
    cases fl with
    | ret u =>
      obtain ⟨z, H', I', rz, rfl, q3⟩ := I2.after hq'
      exact ⟨rz, V.ref (hp.objs.size + 1), H', I', rfl, q3⟩
    | next => exact False.elim hq'
    | brk => exact False.elim hq'
    | cont => exact False.elim hq'
end
/-! ### over data -/
theorem At.shown {K : PySem.W.Frag} {as : List Addr} {M : Ms} {L H : Hp} {a : Addr} {o : HO} (A : At K as M L H) (la : L a = none) (na : a ∉ as) (kc : KeepC H (upd H a o)) (ho : ∀ ps, o ≠ .tbl ps) : At K as M (upd L a o) (upd H a o) := by
  refine ⟨fun b u h => ?_, A.len, A.nd, fun k b m e1 e2 => ?_, A.nt.new ho⟩
  · by_cases hb : b = a
    · subst hb; rw [upd_same] at h ⊢; exact h
    · rw [upd_ne hb] at h ⊢; exact A.low b u h
  · obtain ⟨h3, u, h4, h5⟩ := A.mo k b m e1 e2
    have hb : b ≠ a := fun z => na (by rw [← z]; exact List.mem_of_getElem? e1)
    exact ⟨by rw [upd_ne hb]; exact h3, u, by rw [upd_ne hb]; exact h4, h5.1.mono (Ex.new la) (Pre.refl _), h5.2.keep kc⟩
theorem Step.shown {as : List Addr} {L0 H0 L H : Hp} {a : Addr} {o : HO} (s : Step as L0 H0 as L H) (ha : H0 a = none) (la : L a = none) : Step as L0 H0 as (upd L a o) (upd H a o) :=
  ⟨fun b u hb h => by rw [upd_ne (ne_of_none h ha)]; exact s.up b u hb h, fun b u h => by
    have := s.k b u h
    rw [upd_ne (fun z => by rw [z, la] at this; cases this)]; exact this, fun b h h' => by rw [upd_ne (fun z => h' (by rw [z]; exact ha))]; exact s.hid b h h', s.pre, s.new⟩
section
variable {X : Cx} {p pos : Pos}
/-- C(), an own exception class without own __init__ -/
theorem pe_exc00 {C : Addr} {bmB : List Value} {B newId initId : String} {x : Str} (F : ExcBaseFacts B newId initId bmB) (q : PySem.W.excIn X.K C bmB newId = true) (gC : X.mg x = some (.ref C)) (kC : PySem.W.keepIn X.K (.ref C) = true) (hg : Gl X x)
    (hdb : (x == ("__debug__" : Str)) = false := by decide) : PE X (.Call (.Name x p) [] [] pos) (fun σ H Q => ∀ a, H a = none → Q (.ref a) (upd H a (ExO (.ref C) a))) := by
  refine ⟨fun pins s σ H Q I q1 => ?_⟩
  refine wpAny_Call_Name_kw (ld_glob I hg gC ?_ hdb)
  refine PySem.W.callWith_K0 I.kIn kC ?_
  show wpAny _ _ (call (.ref C) []) _ _ _
  obtain ⟨bm, N, nm, qn, bs, hdct, sn, sub, ab, col, dd, k0, k1, k2, k3, k5, mN, hC, hN, hni, T⟩ := exc_obj I.kIn q
  refine wpAny_call_exc_subT F T hC hN hni (fun h' a hm => ?_) (by show 0 ≤ sizeLine; omega)
  have hn : H a = none := I.hok.gone hm.new
  obtain ⟨t, ht, _, _⟩ := hm.there
  exact ⟨.ref a, upd H a (ExO (.ref C) a), I.laidN hm.keeps hm.new hn (exO_ok ht ⟨rfl, rfl⟩ rfl rfl rfl (show 4 < 6 by decide)), rfl, q1 a hn⟩
@[simp] def dExc0 (C : Addr) : DE := fun _ M P => P (.exc C []) M
theorem pd_exc0 {C : Addr} {bmB : List Value} {B newId initId : String} {x : Str} (F : ExcBaseFacts B newId initId bmB) (q : PySem.W.excIn X.K C bmB newId = true) (gC : X.mg x = some (.ref C)) (kC : PySem.W.keepIn X.K (.ref C) = true) (hg : Gl X x)
    (hdb : (x == ("__debug__" : Str)) = false := by decide) : PD X (.Call (.Name x p) [] [] pos) (dExc0 C) := by
  refine ⟨_, pe_exc00 F q gC kC hg hdb, ?_⟩
  intro as σ ρ L H M P Q hE A h q a ha
  exact q _ _ _ _ M (Step.know A ha) (A.know ha) h (.exc0 upd_same)
end
section
variable {X : Cx} {B newId initId : String} {tl : List Value} {e : Expr} {ta : DA} {p pos : Pos}
/-- C(e), the exception keeps e in its field f -/
@[simp] def dExc1 (C : Addr) (f : Str) (ta : DA) : DE := fun ρ M P => ta ρ M fun ds M1 => ∃ y, ds = [y] ∧ P (.exc C [(f, y)]) M1
theorem sim_exc1 {K : PySem.W.Frag} {C : Addr} {f : Str} {u : TA} (T : OexT K newId tl C) (hno : PySem.W.findIn K (.ref C) f = some none) (s : SimA K u ta) : SimE K (tMkV C (spI1 newId tl C f K) u) (dExc1 C f ta) := by
  intro as σ ρ L H M P Q hE A h q
  refine s as σ ρ L H M _ _ hE A h fun vs ds L1 H1 M1 s1 A1 h1 r1 => ?_
  obtain ⟨y, rfl, h1⟩ := h1
  cases r1 with
  | @cons v _ _ _ r2 r3 =>
    cases r3
    refine ⟨(by show 1 ≤ 1000; decide), fun a ha => ⟨rfl, a, _, rfl, T, hno, upd_same, fun dx hdx hne => ⟨rfl, ?_⟩⟩⟩
    have hdx1 : H1 dx = none := by rw [upd_ne hne] at hdx; exact hdx
    have eH : upd (upd (upd H1 a (exo a C none)) dx (exd dx [(f, v)])) a (exo a C (some dx)) = upd (upd H1 dx (exd dx [(f, v)])) a (exo a C (some dx)) := by
      funext b
      by_cases hb : b = a
      · rw [hb, upd_same, upd_same]
      · rw [upd_ne hb, upd_ne hb]
        by_cases hd : b = dx
        · rw [hd, upd_same, upd_same]
        · rw [upd_ne hd, upd_ne hd, upd_ne hb]
    have ha2 : upd H1 dx (exd dx [(f, v)]) a = none := by rw [upd_ne (Ne.symm hne)]; exact ha
    have A2 := A1.know (o := exd dx [(f, v)]) hdx1
    have s2 := Step.know (o := exd dx [(f, v)]) A1 hdx1
    have ld : L1 dx = none := lowfree A1 hdx1
    have la2 := lowfree A2 ha2
    rw [eH]
    refine q _ _ _ _ M1 (s1.trans A1 (s2.trans A2 (Step.know A2 ha2))) (A2.know ha2) h1 (.exc upd_same (by rw [upd_ne hne, upd_same]) (.cons (r2.mono ((Ex.new ld).trans (Ex.new la2)) (Pre.refl _)) .nil))
theorem pd_exc1 (TT : Tail B newId initId tl) {x : Str} {C fI : Addr} {k : Nat} {fd : FuncData} {ps : List Str} {f : Str} (T : OexT X.K newId tl C) (iC : PySem.W.findIn X.K (.ref C) "__init__" = some (some (.ref fI))) (tI : PySem.W.typeIn X.K (.ref fI) = some (.type "function"))
    (hno : PySem.W.findIn X.K (.ref C) f = some none) (F1 : FnOk X.prog X.w X.K X.mg X.base CX0 k fI fd ps (spI1 newId tl C f X.K)) (hr : Room (k + 1) X.A) (hb : Binds X.K fd ps []) (hg : Gl X x) (hm : X.mg x = some (.ref C)) (ha : PDA X [e] ta)
    (hdb : (x == ("__debug__" : Str)) = false := by decide) (he : starEach [e] X.env = (false, eval e X.env) :: starEach [] X.env := by rfl) (hpl : (backTo pos (starEach [] X.env)).any (·.1) = false := by rfl) :
    PD X (.Call (.Name x p) [e] [] pos) (dExc1 C f ta) := by
  obtain ⟨u, pa, s⟩ := ha.ex
  exact ⟨_, pe_excV TT T iC tI F1 hr hb hg hm pa hdb he hpl, sim_exc1 T hno s⟩
end
end Pd

set_option Elab.async false
set_option linter.all false
set_option maxRecDepth 100000
set_option maxHeartbeats 2000000
/-! Fields and classes of exceptions that are held. -/
namespace Pd
open PySem PySem.Spec PyProof.Rows L2 PySem.HandSPX
section
variable {X : Cx} {e : Expr} {te : TE} {t : DE} {pos : Pos} {n : Str}
def tXg (K : PySem.W.Frag) (n : Str) (te : TE) : TE := fun σ H Q => te σ H fun x H1 => ∃ (a C dx : Addr) (fs : List (Str × V)) (v : V), x = .ref a ∧ H1 a = some (exo a C (some dx)) ∧ H1 dx = some (exd dx fs) ∧ ExcC K C ∧ PySem.W.findIn K (.ref C) n = some none ∧ fs.lookup n = some v ∧ Q v H1
theorem pe_xg (he : PE X e te) (hb : attributeBase e n X.env (eval e X.env) = eval e X.env := by rfl) : PE X (.Attribute e n pos) (tXg X.K n te) := by
  refine ⟨fun pins s σ H Q I h => ?_⟩
  refine attr_of hb (thn (he.run pins s σ H _ I h) fun u s1 hh => ?_)
  obtain ⟨x, H1, I1, rx, a, C, dx, fs, v, ex, ea, ed, T, hno, l, q⟩ := hh
  subst ex
  obtain rfl : u = Value.ref a := rx
  obtain ⟨t1, ho⟩ := exo_at I1.hok ea
  obtain ⟨mA, hns, hr⟩ := exd_at I1.hok ed
  obtain ⟨od, hod, hl⟩ := lookIn_ns hns
  obtain ⟨u, hu, ru⟩ := RelO.some_of (v := v) (o := mA n) (by rw [← l]; exact hr n)
  have J : PySem.W.InstAt s1.heap a { cls := .ref C, dict := some dx, data := .fields #[.ref t1, .none, .none, .none, .bool false, .none] } C (some od) := ⟨ho, rfl, rfl, hod⟩
  exact HandSPX.exc_get I1.kIn J T.hg T.hk T.hs (PySem.W.findObj_own T.hd hno rfl (by rw [hl, hu])) (handed_of ru) ⟨v, H1, I1.tok _, ru, q⟩
@[simp] def dXg (K : PySem.W.Frag) (t : DE) (n : Str) : DE := fun ρ M P => t ρ M fun x M1 => ∃ C gs v, x = .exc C gs ∧ ExcC K C ∧ PySem.W.findIn K (.ref C) n = some none ∧ gs.lookup n = some v ∧ P v M1
theorem pd_xg {K : PySem.W.Frag} (hK : X.K = K) (he : PD X e t) (hb : attributeBase e n X.env (eval e X.env) = eval e X.env := by rfl) : PD X (.Attribute e n pos) (dXg K t n) := by
  subst hK
  obtain ⟨u, p, s⟩ := he.ex
  refine ⟨_, pe_xg p hb, ?_⟩
  intro as σ ρ L H M P Q hE A h q
  refine s as σ ρ L H M _ _ hE A h fun v d L1 H1 M1 s1 A1 h1 r1 => ?_
  obtain ⟨C, gs, w, rfl, T, hno, hl, p⟩ := h1
  cases r1 with
  | exc h2 h3 rf =>
    obtain ⟨z, h4, h5⟩ := rf.look hl
    exact ⟨_, C, _, _, z, rfl, A1.low _ _ h2, A1.low _ _ h3, T, hno, h4, q _ _ L1 H1 M1 s1 A1 p h5⟩
  | exc0 h2 => simp at hl
/-- isinstance(e, c), e an exception that is held -/
def rIsiE (K : PySem.W.Frag) : List V → Hp → VK → Prop := fun xs H Q => ∃ (a C : Addr) (c : V) (u : Value) (b : Bool), xs = [.ref a, c] ∧ ClsV c u ∧ ((∃ dx fs, H a = some (exo a C (some dx)) ∧ H dx = some (exd dx fs)) ∨ H a = some (ExO (.ref C) a)) ∧ ExcC K C ∧ PySem.W.kitOne K (.ref C) u = some b ∧ Q (.bl b) H
theorem call_isiE : CallR X (.builtin "isinstance") (rIsiE X.K) := by
  intro pins s σ H xs us Q I r h
  obtain ⟨a, C, c, u, b, rfl, k, ha, T, e, q⟩ := h
  obtain ⟨u1, u2, rfl, r1, r2⟩ := vals2 r
  have e2 := k.eq r2
  subst e2
  cases (show u1 = Value.ref a from r1)
  have hcl : (PySem.W.clsIn X.K C).isSome = true := by obtain ⟨cd, hc, _⟩ := PySem.W.any_some T.hd; rw [hc]; rfl
  rcases ha with ⟨dx, fs, ea, ed⟩ | ea
  · obtain ⟨t1, ho⟩ := exo_at I.hok ea
    obtain ⟨mA, hns, hr⟩ := exd_at I.hok ed
    obtain ⟨od, hod, hl⟩ := lookIn_ns hns
    have J : PySem.W.InstAt s.heap a { cls := .ref C, dict := some dx, data := .fields #[.ref t1, .none, .none, .none, .bool false, .none] } C (some od) := ⟨ho, rfl, rfl, hod⟩
    exact PySem.W.kia_one (PySem.W.kitx_exc hcl T.hg T.hk T.hs T.ha T.hn T.ht T.hm) I.kIn J e (fun z => nomatch z) fun tk => ⟨.bl b, H, I.tok tk, rfl, q⟩
  · obtain ⟨⟨oe, vs, ho, hz, hd, _⟩, _, _⟩ := I.hok a _ ea
    have J : PySem.W.InstAt s.heap a oe C none := by
      obtain ⟨oc, od, oda, osl⟩ := oe
      obtain ⟨h1, h2⟩ := hz
      dsimp only at h1 h2 hd
      subst h1 h2 hd
      exact ⟨ho, rfl, rfl, trivial⟩
    exact PySem.W.kia_one (PySem.W.kitx_exc hcl T.hg T.hk T.hs T.ha T.hn T.ht T.hm) I.kIn J e (fun z => nomatch z) fun tk => ⟨.bl b, H, I.tok tk, rfl, q⟩
@[simp] def oIsiE (K : PySem.W.Frag) : DC := fun xs M P => ∃ C gs c v u b, xs = [.exc C gs, c] ∧ ExcC K C ∧ DCl c v u ∧ PySem.W.kitOne K (.ref C) u = some b ∧ P (.bl b) M
theorem sc_isiE {K : PySem.W.Frag} : SimC K (rIsiE K) (oIsiE K) := by
  intro as L H M xs ds P Q A r ⟨C, gs, c, v, u, b, h, T, hc, hk, p⟩ q
  subst h
  cases r with
  | cons r1 r2 =>
    cases r2 with
    | cons r3 r4 =>
      cases r4
      have hv : ∀ {y : V}, Rp K as L y c → ClsV y u := fun {y} ry => by
        cases hc with
        | ty n => cases ry; exact .ty n
        | ob C => cases ry; exact .own C
      cases r1 with
      | exc h2 h3 rf => exact ⟨_, C, _, u, b, rfl, hv r3, .inl ⟨_, _, A.low _ _ h2, A.low _ _ h3⟩, T, hk, q _ _ L H M .refl A p (.bl _)⟩
      | exc0 h2 => exact ⟨_, C, _, u, b, rfl, hv r3, .inr (A.low _ _ h2), T, hk, q _ _ L H M .refl A p (.bl _)⟩
end
end Pd

set_option Elab.async false
set_option linter.all false
set_option maxRecDepth 100000
set_option maxHeartbeats 2000000
/-! Own exceptions made by keywords. -/
namespace Pd
open PySem PySem.HandSPX
section
variable {M : Model} {A : Around} {E : Value → Shared → Prop} {h : Heap} {g : Array GenState} {d : Drawn} {t : Nat} {os : OsState}
variable {nm q : Str} {C N : Addr} {bs bm bmB : List Value} {hdct : Bool} {sn : List Str} {sub : List Value} {ab : Bool} {col : Option Bool} {dd : Option Addr} {k0 k1 k2 k3 k5 : Option Value} {B newId initId : String}
theorem check_new_kw (F : ExcBaseFacts B newId initId bmB) (hT : ∀ X : String, bm.contains (.type X) = bmB.contains (.type X)) {rest : List Value} {kw : List (Str × Value)} {Q : Unit → Shared → Prop}
    (hC : h.get? C = some (excClassObj nm q C N bs bm hdct sn sub ab col dd k0 k1 k2 k3 k5 newId)) (hq : Q () ⟨h, g, d, t, os⟩) : wpAny M A (checkBuiltinCall newId ⟨.ref C :: rest, kw⟩) Q E ⟨h, g, d, t, os⟩ := by
  have hcont : (Value.ref C :: bm).contains (.type B) = true := by rw [List.contains_cons, hT, F.hasB, Bool.or_true]
  have hstar := F.noStar
  simp only [checkBuiltinCall, F.newKind, F.newSplit, F.newRow]
  repeat (first | refine wpAny_loadPart_at hC ?_ | (refine wpAny_isSubtype_exc hC ?_; rw [hcont]) | refine wpAny_staticBase_exc hC ?_ | refine wpAny_madeBy_exc hC ?_ | simp only [bne_self_eq_false, Bool.false_eq_true, if_false] | wp_step)
  exact hq
end
section
variable {prog : Program} {w : World} {A : Around} {E : Value → Shared → Prop} {R : Result → Shared → Prop} {h : Heap} {g : Array GenState} {d : Drawn} {t : Nat} {os : OsState}
variable {nm q : Str} {C N : Addr} {bs bm bmB : List Value} {hdct : Bool} {sn : List Str} {sub : List Value} {ab : Bool} {col : Option Bool} {dd : Option Addr} {k0 k1 k2 k3 k5 : Option Value} {B newId initId : String}
theorem new_kw (F : ExcBaseFacts B newId initId bmB) (hT : ∀ X : String, bm.contains (.type X) = bmB.contains (.type X)) {rest : List Value} {kw : List (Str × Value)}
    (hC : h.get? C = some (excClassObj nm q C N bs bm hdct sn sub ab col dd k0 k1 k2 k3 k5 newId))
    (hq : R (.ok (.ret (.ref (h.objs.size + 1)))) ⟨(h.push { cls := .type "tuple", data := .seq rest.toArray }).push
      { cls := .ref C, data := .fields #[.ref h.objs.size, .none, .none, .none, .bool false, .none] }, g, d, t, os⟩) (hrest : rest.length ≤ sizeLine) :
    codeAny (model prog w) A (.builtin newId ⟨.ref C :: rest, kw⟩) R ⟨h, g, d, t, os⟩ := by
  have hends := F.ends
  have hcB : (Value.ref C :: bm).contains (.type B) = true := by rw [List.contains_cons, hT, F.hasB, Bool.or_true]
  have hcA : (Value.ref C :: bm).contains (.type "AttributeError") = false := by rw [List.contains_cons, hT, F.noAttr]; rfl
  have hcN : (Value.ref C :: bm).contains (.type "NameError") = false := by rw [List.contains_cons, hT, F.noName]; rfl
  refine codeAny_builtinAt F.entry ?_
  unfold Builtin.«BaseException.__new__»
  refine wpAt_bind ?_
  show wpAt _ _ _ (stack >>= _) _ _ _
  refine wpAt_bind (wpAt_stack fun p below => wpAt_of_wpAny ?_)
  wp_walk
  refine wpAt_of_wpAny ?_
  rw [F.owner]
  repeat (first | with_reducible refine wpAny_madeHere_exc F.canon hC ?_ | with_reducible refine wpAny_loadPart_at hC ?_ | (with_reducible refine wpAny_isSubtype_exc hC ?_; first | rw [hcB] | rw [hcA] | rw [hcN]) | wp_step)
  show R _ _
  rw [Heap.size_push]
  exact hq
theorem type_call_kw (F : ExcBaseFacts B newId initId bmB) (hT : ∀ X : String, bm.contains (.type X) = bmB.contains (.type X)) {rest : List Value} {kw : List (Str × Value)} {fI : Addr} {Q : Fin → Shared → Prop}
    (hC : h.get? C = some (excClassObj nm q C N bs bm hdct sn sub ab col dd k0 k1 k2 k3 k5 newId))
    (hi : W.Looks (model prog w) h (typeLookup (.ref C) "__init__") (some (.ref fI))) (hb : ∀ self, W.Looks (model prog w) h (bindSpecial (.ref fI) self) (.ref fI, [self])) (hrest : rest.length ≤ sizeLine)
    (hq : codeAny (model prog w) A (.call (.ref fI) ⟨.ref (h.objs.size + 1) :: rest, kw⟩)
      (fun r s' => match r with | .ok (.ret v) => v = .none ∧ Q (.done (.ret (.ref (h.objs.size + 1)))) s' | .ok _ => False | .error e => E e s')
      ⟨(h.push (W.kdv_tup rest)).push (excO C h.objs.size), g, d, t, os⟩) :
    wpAny (model prog w) A (Builtin.«type.__call__» ⟨.ref C :: rest, kw⟩) Q E ⟨h, g, d, t, os⟩ := by
  repeat (first | with_reducible refine wpAny_loadPart_at hC ?_ | with_reducible refine wpAny_madeBy_exc hC ?_ | wp_step)
  refine codeAny_call_builtin_code (Code.quiet_builtin _ F.quiet) (check_new_kw F hT hC ?_)
  refine new_kw F hT hC ?_ hrest
  show wpAny _ _ _ _ _ _
  have k : ∀ b o, h.get? b = some o → ((h.push (W.kdv_tup rest)).push (excO C h.objs.size)).get? b = some o := fun b o e => Heap.get?_push_of_some _ (Heap.get?_push_of_some _ e)
  have hC₁ := k _ _ hC
  have hget : ((h.push (W.kdv_tup rest)).push (excO C h.objs.size)).get? (h.objs.size + 1) = some (excO C h.objs.size) := by heap_get
  have hcC : (Value.ref C :: bm).contains (.ref C) = true := by simp
  have i1 := hi.keeps k
  have b1 := (hb (.ref (h.objs.size + 1))).keeps k
  unfold isInstance
  repeat (first | with_reducible refine wpAny_loadPart_at hget ?_ | (with_reducible refine wpAny_isSubtype_exc hC₁ ?_; rw [hcC]) | wp_step)
  show wpAny _ _ (typeLookup (.ref C) _) _ _ _
  refine i1.at ?_
  refine wpAny_holding (wpAny_bind (b1.at ?_))
  refine wpAny_bind (wpAny_call (codeAny_mono hq fun r s' z => ?_))
  rcases r with e | (v | _ | _ | _) <;> first | exact z | exact z.elim | skip
  obtain ⟨rfl, z⟩ := z
  first
    | exact wpAny_pure (wpAny_pure z)
    | (wp_walk; exact z)
theorem call_kw (F : ExcBaseFacts B newId initId bmB) (hT : ∀ X : String, bm.contains (.type X) = bmB.contains (.type X)) {rest : List Value} {kw : List (Str × Value)} {fI : Addr}
    (hC : h.get? C = some (excClassObj nm q C N bs bm hdct sn sub ab col dd k0 k1 k2 k3 k5 newId))
    (hi : W.Looks (model prog w) h (typeLookup (.ref C) "__init__") (some (.ref fI))) (hb : ∀ self, W.Looks (model prog w) h (bindSpecial (.ref fI) self) (.ref fI, [self])) (hrest : rest.length ≤ sizeLine)
    (hq : codeAny (model prog w) (A.under (.builtin "type.__call__" ⟨.ref C :: rest, kw⟩)) (.call (.ref fI) ⟨.ref (h.objs.size + 1) :: rest, kw⟩) (W.InitBack (h.objs.size + 1) R)
      ⟨(h.push (W.kdv_tup rest)).push (excO C h.objs.size), g, d, t, os⟩) :
    codeAny (model prog w) A (.call (.ref C) ⟨rest, kw⟩) R ⟨h, g, d, t, os⟩ := by
  have f1 := tc_lookup
  have f2 := tc_bind (.ref C)
  have hTy : (⟨h, g, d, t, os⟩ : Shared).TypeIs (.ref C) "type" := ⟨_, hC, rfl⟩
  refine codeAny_of_tree ?_
  show wpAny _ _ (callAny (.ref C) _) _ _ _
  repeat (any_goals (first | assumption | with_reducible refine wpAny_loadPart_at hC ?_ | wp_step))
  refine ⟨rfl, ?_⟩
  refine codeAny_call_builtin_at (Code.quiet_builtin _ (by decide +kernel)) entry_typeCall (wpAny_check_type_call_sub hC (type_call_kw F hT hC hi hb hrest ?_))
  refine codeAny_mono hq fun r s' z => ?_
  rcases r with e | (v | _ | _ | _) <;> exact z
end
open PySem.Spec PyProof.Rows L2
section
variable {X : Cx} {B newId initId : String} {tl : List Value} {e : Expr} {kws : List Keyword} {tk : TA} {p pos kpos : Pos} {nm : Option Str} {te : DE} {td : DA}
def tMkKw (C : Addr) (m : Nat) (sp : Sp) (gV : List V → List V → List V) (tk : TA) : TE := fun σ H Q => tk σ H fun zs H2 => zs.length = m ∧ ∀ a, H2 a = none → sp (gV [.ref a] zs) (upd H2 a (exo a C none)) (fun v H3 => v = .non ∧ Q (.ref a) H3) E0
/-- C(k = v, ..) -/
theorem pe_excK (TT : Tail B newId initId tl) {x : Str} {C fI : Addr} {k : Nat} {fd : FuncData} {ps ks : List Str} {sp : Sp} {gg : List Value → List Value → List Value} {gV : List V → List V → List V} (T : OexT X.K newId tl C) (iC : PySem.W.findIn X.K (.ref C) "__init__" = some (some (.ref fI))) (tI : PySem.W.typeIn X.K (.ref fI) = some (.type "function"))
    (F1 : FnOk X.prog X.w X.K X.mg X.base CX0 k fI fd ps sp) (hr : Room (k + 1) X.A) (hb : KBn X.K fd ps 1 ks gg gV) (hg : Gl X x) (hm : X.mg x = some (.ref C)) (hkw : PK X kws tk)
    (hall : (backToKw pos (keywordEach kws X.env)).all (·.1.isSome) = true := by rfl) (hks : (backToKw pos (keywordEach kws X.env)).filterMap (·.1) = ks := by rfl) (hdb : (x == ("__debug__" : Str)) = false := by decide)
    (hpl : ((backTo pos (starEach [] X.env)).any (·.1) || (backToKw pos (keywordEach kws X.env)).any (·.1.isNone)) = false := by rfl) :
    PE X (.Call (.Name x p) [] kws pos) (tMkKw C ks.length sp gV tk) := by
  refine ⟨fun pins s σ H Q I h => ?_⟩
  obtain ⟨nm, q, N, bs, bm, sn, sub, ab, col, dd, k0, k1, k2, k3, k5, hC, hbm⟩ := T.cls
  refine wpAny_Call_Name_kw (ld_glob I hg hm ?_ hdb)
  refine PySem.W.callWith_KW0 (h₀ := X.base) I.ok.mod.kin T.kC hall ?_ hpl
  refine thn (hkw.run pos pins s σ H _ I h) fun ws s2 ⟨zs, H1, I1, rz, l2, q1⟩ => ⟨I1.kIn, ?_⟩
  rw [hks]
  show wpAny _ _ (call (.ref C) [] (ks.zip ws)) _ _ _
  obtain ⟨hp, g, dr, tk, os⟩ := s2
  have hsz : hp.objs.size ≤ hp.objs.size + 1 := Nat.le_succ _
  have hn : H1 (hp.objs.size + 1) = none := I1.hok.fresh hsz
  have hq := q1 (hp.objs.size + 1) hn
  have kk : ∀ b o, hp.get? b = some o → ((hp.push (PySem.W.kdv_tup [])).push (excO C hp.objs.size)).get? b = some o := fun b o e => Heap.get?_push_of_some _ (Heap.get?_push_of_some _ e)
  have hget : ((hp.push (PySem.W.kdv_tup [])).push (excO C hp.objs.size)).get? (hp.objs.size + 1) = some (excO C hp.objs.size) := by heap_get
  have I2 : Inv X pins σ (upd H1 (hp.objs.size + 1) (exo (hp.objs.size + 1) C none)) ⟨(hp.push (PySem.W.kdv_tup [])).push (excO C hp.objs.size), g, dr, tk, os⟩ :=
    I1.laid (t' := tk) (a := hp.objs.size + 1) (o := exo (hp.objs.size + 1) C none) (h' := (hp.push (PySem.W.kdv_tup [])).push (excO C hp.objs.size)) kk hsz (exo_ok hget)
  have r1 : Vals [V.ref (hp.objs.size + 1)] [Value.ref (hp.objs.size + 1)] := .cons rfl .nil
  have r2 := hb.rel r1 rz
  refine wpAny_call (call_kw TT.F (fun Y => hbm.contains Y) (I1.kIn _ _ hC) (PySem.W.looks_findIn I1.kIn iC) (fun self => PySem.W.bind_fn I1.kIn self tI) (Nat.zero_le _)
    (codeAny_mono (F1.run _ X.stack _ _ ⟨[Value.ref (hp.objs.size + 1)], ks.zip ws⟩ (gg [Value.ref (hp.objs.size + 1)] ws) _ _ E0 (hr.make C [] (ks.zip ws)) (I2.env0.make C [] (ks.zip ws)) (hb.to _ [Value.ref (hp.objs.size + 1)] ws I2.kIn rfl (rz.length.symm.trans l2)) r2 hq) fun r s' hq' => ?_))
  cases r with
  | error er => exact False.elim hq'
  | ok fl =>
    cases fl with
    | ret u =>
      obtain ⟨z, H', I', rz, rfl, q3⟩ := I2.after hq'
      exact ⟨rz, V.ref (hp.objs.size + 1), H', I', rfl, q3⟩
    | next => exact False.elim hq'
    | brk => exact False.elim hq'
    | cont => exact False.elim hq'
structure PDK (X : Cx) (kws : List Keyword) (t : DA) : Prop where
  ex : ∃ te, PK X kws te ∧ SimA X.K te t
theorem pdk_nil : PDK X [] dNil := ⟨_, pk_nil, fun as σ ρ L H M P Q hE A h q => q [] [] L H M .refl A h .nil⟩
theorem pdk_cons (ha : PD X e te) (hr : PDK X kws td) : PDK X (⟨nm, e, kpos⟩ :: kws) (dCons te td) := by
  obtain ⟨u, p1, s⟩ := ha.ex
  obtain ⟨u2, p2, s'⟩ := hr.ex
  refine ⟨_, pk_cons p1 p2, ?_⟩
  intro as σ ρ L H M P Q hE A h q
  refine s as σ ρ L H M _ _ hE A h fun v d L1 H1 M1 s1 A1 h1 r1 => ?_
  exact s' as σ ρ L1 H1 M1 _ _ (hE.mono s1.k s1.pre) A1 h1 fun vs ds L2 H2 M2 s2 A2 h2 r2 => q _ _ L2 H2 M2 (s1.trans A1 s2) A2 h2 (.cons (r1.mono s2.k s2.pre) r2)
theorem sim_exc1K {K : PySem.W.Frag} {C : Addr} {f : Str} {u : TA} (T : OexT K newId tl C) (hno : PySem.W.findIn K (.ref C) f = some none) (s : SimA K u td) : SimE K (tMkKw C 1 (spI1 newId tl C f K) (fun vs zs => vs ++ zs) u) (dExc1 C f td) := by
  have z := sim_exc1 T hno s
  intro as σ ρ L H M P Q hE A h q
  refine s as σ ρ L H M _ _ hE A h fun vs ds L1 H1 M1 s1 A1 h1 r1 => ?_
  obtain ⟨y, rfl, h1⟩ := h1
  cases r1 with
  | @cons v _ _ _ r2 r3 =>
    cases r3
    refine ⟨rfl, fun a ha => ⟨rfl, a, _, rfl, T, hno, upd_same, fun dx hdx hne => ⟨rfl, ?_⟩⟩⟩
    have hdx1 : H1 dx = none := by rw [upd_ne hne] at hdx; exact hdx
    have eH : upd (upd (upd H1 a (exo a C none)) dx (exd dx [(f, v)])) a (exo a C (some dx)) = upd (upd H1 dx (exd dx [(f, v)])) a (exo a C (some dx)) := by
      funext b
      by_cases hb : b = a
      · rw [hb, upd_same, upd_same]
      · rw [upd_ne hb, upd_ne hb]
        by_cases hd : b = dx
        · rw [hd, upd_same, upd_same]
        · rw [upd_ne hd, upd_ne hd, upd_ne hb]
    have ha2 : upd H1 dx (exd dx [(f, v)]) a = none := by rw [upd_ne (Ne.symm hne)]; exact ha
    have A2 := A1.know (o := exd dx [(f, v)]) hdx1
    have s2 := Step.know (o := exd dx [(f, v)]) A1 hdx1
    have ld : L1 dx = none := lowfree A1 hdx1
    have la2 := lowfree A2 ha2
    rw [eH]
    refine q _ _ _ _ M1 (s1.trans A1 (s2.trans A2 (Step.know A2 ha2))) (A2.know ha2) h1 (.exc upd_same (by rw [upd_ne hne, upd_same]) (.cons (r2.mono ((Ex.new ld).trans (Ex.new la2)) (Pre.refl _)) .nil))
theorem pd_exc1K (TT : Tail B newId initId tl) {x : Str} {C fI : Addr} {k : Nat} {fd : FuncData} {ps : List Str} {f ky : Str} (T : OexT X.K newId tl C) (iC : PySem.W.findIn X.K (.ref C) "__init__" = some (some (.ref fI))) (tI : PySem.W.typeIn X.K (.ref fI) = some (.type "function"))
    (hno : PySem.W.findIn X.K (.ref C) f = some none) (F1 : FnOk X.prog X.w X.K X.mg X.base CX0 k fI fd ps (spI1 newId tl C f X.K)) (hr : Room (k + 1) X.A) (hb : KBn X.K fd ps 1 [ky] (fun us ws => us ++ ws) (fun vs zs => vs ++ zs)) (hg : Gl X x) (hm : X.mg x = some (.ref C)) (hkw : PDK X [⟨nm, e, kpos⟩] td)
    (hall : (backToKw pos (keywordEach [⟨nm, e, kpos⟩] X.env)).all (·.1.isSome) = true := by rfl) (hks : (backToKw pos (keywordEach [⟨nm, e, kpos⟩] X.env)).filterMap (·.1) = [ky] := by rfl) (hdb : (x == ("__debug__" : Str)) = false := by decide)
    (hpl : ((backTo pos (starEach [] X.env)).any (·.1) || (backToKw pos (keywordEach [⟨nm, e, kpos⟩] X.env)).any (·.1.isNone)) = false := by rfl) :
    PD X (.Call (.Name x p) [] [⟨nm, e, kpos⟩] pos) (dExc1 C f td) := by
  obtain ⟨u, pa, s⟩ := hkw.ex
  exact ⟨_, pe_excK TT T iC tI F1 hr hb hg hm pa hall hks hdb hpl, sim_exc1K T hno s⟩
theorem kb_one {K : PySem.W.Frag} {x qual : Str} {st : Stmt} {f : Addr} {fd : FuncData} {p0 p1 ky : Str} (F : Fun K x qual st f fd)
    (h : ∀ (kV doc pm : Value) (an : Option Addr) (cdv ct : Value) (u v : Value), bindArgs (PySem.W.fnOf x qual (defArgs st) (defBody st) (defScope st) .none kV doc pm an cdv ct) ⟨[u], [(ky, v)]⟩ = pure [(p0, u), (p1, v)]) :
    KBn K fd [p0, p1] 1 [ky] (fun us ws => us ++ ws) (fun vs zs => vs ++ zs) := by
  obtain ⟨oc, od, kV, doc, pm, an, cdv, ct, osl, rfl, lk, hcd⟩ := F.ex
  refine ⟨fun s us ws X l1 l2 => ?_, fun r1 r2 => r1.append r2⟩
  match us, ws, l1, l2 with
  | [u], [v], _, _ => exact .of_eq (h kV doc pm an cdv ct u v)
end
end Pd

set_option Elab.async false
set_option linter.all false
set_option maxRecDepth 100000
set_option maxHeartbeats 2000000
/-! Defs that are run where no repr is under way (so that repr of a list may be told). -/
namespace Pd
open PySem PySem.Spec PyProof.Rows L2
/-- a def's promise where nothing is being shown -/
structure FnG (P : Program) (w : World) (K : PySem.W.Frag) (mg : Str → Option Value) (base : Heap) (k : Nat) (f : Addr) (fd : FuncData) (ps : List Str) (sp : Sp) : Prop where
  len : ∀ vs H Q E, sp vs H Q E → vs.length = ps.length
  run : ∀ (A : Around) (outer : List Env) (s : Shared) (H : Hp) (args : Args) (us : List Value) (vs : List V) (Q : VK) (E : XK), A.guards = some [] → Room k A → Env0 P w K mg base A outer s H → BindsTo s fd args (ps.zip us) → Vals vs us → sp vs H Q E →
    codeAny (model P w) A (.call (.ref f) args) (CR CX0 outer P w H s Q E) s
theorem FnG.of {P : Program} {w : World} {K : PySem.W.Frag} {mg : Str → Option Value} {base : Heap} {k : Nat} {f : Addr} {fd : FuncData} {ps : List Str} {sp : Sp} (F : FnOk P w K mg base CX0 k f fd ps sp) : FnG P w K mg base k f fd ps sp :=
  ⟨F.len, fun A outer s H args us vs Q E _ hr e0 hb r h => F.run A outer s H args us vs Q E hr e0 hb r h⟩
section
variable {P : Program} {w : World} {K : PySem.W.Frag} {mg : Str → Option Value} {base : Heap}
theorem fn_ofG {k : Nat} {f : Addr} {x qual : Str} {st : Stmt} {fd : FuncData} {N ps : List Str} {sp : Sp} (F : Fun K x qual st f fd) (S : FnScope N ps (defScope st)) (len : ∀ vs H Q E, sp vs H Q E → vs.length = ps.length)
    (hbody : ∀ (cdv : Value) (A : Around) (outer : List Env) (s : Shared) (H : Hp) (vs : List V) (Q : VK) (E : XK), A.guards = some [] → Room k (A.deeper (envOfC qual (defScope st) s.heap.objs.size f cdv)) → sp vs H Q E →
      ∃ t, PSs (cxOf CX0 P w K mg base N qual (defScope st) f cdv A outer s H E).nox (defBody st) t ∧ t { nx := fun _ H' => Q .non H', rt := Q } (L2.start N vs) H) : FnG P w K mg base (k + 1) f fd ps sp := by
  obtain ⟨oc, od, kV, doc, pm, an, cdv, ct, osl, rfl, lk, hcd⟩ := F.ex
  refine ⟨len, fun A outer s H args us vs Q E hg hr e0 hb r hsp => ?_⟩
  have hl := len _ _ _ _ hsp
  have old : ∀ b o, base.get? b = some o → s.heap.get? b = some o := fun b o e => (e0.bs b o e).1
  have KX : K.In s.heap := e0.mod.kin.keeps old
  have lim : s.heap.NoLimit := e0.mod.nolimit.keeps old
  refine codeAny_call_function hr.depth (KX _ _ lk) rfl S.co S.gen rfl (PySem.W.codeRec_of KX hcd) (hb _ _ _ _ ?_)
  refine wpAny_newFunctionEnv_cells S.kind (fun ⟨n, v⟩ hy => ?_) fun env he s1 x => ?_
  · rcases S.par n (List.of_mem_zip hy).1 with q | q
    · exact .inl q
    · exact .inr ⟨q, PySem.W.cellsFrom_some _ _ _ (.inl q)⟩
  subst he
  refine ⟨lim.keeps x.toInCall.keep, codeAny_func ?_⟩
  obtain ⟨t, ht0, hq⟩ := hbody cdv A outer s H vs Q E hg (hr.deeper _) hsp
  have ht := ht0.nox
  have I : Inv (cxOf CX0 P w K mg base N qual (defScope st) f cdv A outer s H E) [] (L2.start N vs) H s1 := inv_start S hr.hd e0 hl r x
  refine wpAny_mono (ht.run [] s1 (L2.start N vs) H _ I hq) (fun fl s' hs => ?_) fun e s' hs => hs
  cases fl with
  | ret u =>
    obtain ⟨v, σ', H', J, rv, q⟩ := hs
    exact ⟨v, H', J.os, J.bare, J.base, J.hok, rv, q⟩
  | next =>
    obtain ⟨σ', H', J, q⟩ := hs
    exact ⟨V.non, H', J.os, J.bare, J.base, J.hok, rfl, q⟩
  | brk =>
    obtain ⟨_, _, _, q⟩ := hs
    exact False.elim q
  | cont =>
    obtain ⟨_, _, _, q⟩ := hs
    exact False.elim q
theorem pd_fnG {x qual : Str} {st : Stmt} {f : Addr} {fd : FuncData} {N ps : List Str} {k : Nat} {W : DC} (F : Fun K x qual st f fd) (S : FnScope N ps (defScope st))
    (hbody : ∀ (cdv : Value) (A : Around) (outer : List Env) (s : Shared) (H : Hp) (E : XK), A.guards = some [] → Room k (A.deeper (envOfC qual (defScope st) s.heap.objs.size f cdv)) →
      ∃ t, PDSs (cxOf CX0 P w K mg base N qual (defScope st) f cdv A outer s H E).nox (defBody st) t ∧ ∀ ds M Q, ds.length = ps.length → W ds M Q → t { nx := fun _ M' => Q .non M', rt := Q } (startD N ds) M) :
    FnG P w K mg base (k + 1) f fd ps (spD ps.length W K) := by
  refine fn_ofG F S (fun vs H Q E h => h.1) (fun cdv A outer s H vs Q E hg hr h => ?_)
  obtain ⟨hl, as, M, L, ds, P', r, A0, hw, q⟩ := h
  obtain ⟨t, ht, hb⟩ := hbody cdv A outer s H E hg hr
  obtain ⟨ts, pt, st'⟩ := ht.ex
  refine ⟨ts, pt, st' as (L2.start N vs) (startD N ds) L H M _ _ (en_start r) A0 (hb ds M P' (by rw [← r.length]; exact hl) hw) ⟨?_, ?_, ?_, ?_⟩⟩
  · exact fun σ' ρ' L' H' M' s1 A1 _ p => q .non .non L' H' M' s1 A1 p .non
  · exact fun v d L' H' M' s1 A1 p r => q v d L' H' M' s1 A1 p r
  · exact fun _ _ _ _ _ _ _ _ p => p.elim
  · exact fun _ _ _ _ _ _ _ _ p => p.elim
end
section
variable {X : Cx} {e : Expr} {es : List Expr} {tl : DA} {pos p : Pos}
theorem pd_callG {k : Nat} {f : Addr} {fd : FuncData} {ps : List Str} {n : Nat} {W : DC} {x : Str} (hgu : X.A.guards = some []) (F : FnG X.prog X.w X.K X.mg X.base k f fd ps (spD n W X.K)) (hr : Room k X.A) (hg : Gl X x) (hm : X.mg x = some (.ref f)) (hk : PySem.W.keepIn X.K (.ref f) = true)
    (hb : Binds X.K fd ps []) (ha : PDA X (e :: es) tl) (hdb : (x == ("__debug__" : Str)) = false := by decide) (he : starEach (e :: es) X.env = (false, eval e X.env) :: starEach es X.env := by rfl) (hpl : (backTo pos (starEach es X.env)).any (·.1) = false := by rfl) :
    PD X (.Call (.Name x p) (e :: es) [] pos) (dCall n W tl) := by
  obtain ⟨u, pa, sa⟩ := ha.ex
  refine ⟨tCall (spD n W X.K) [] E0 u, ⟨fun pins s σ H Q I h => ?_⟩, sim_call sa⟩
  refine wpAny_Call_Name_kw (ld_glob I hg hm ?_ hdb)
  refine PySem.W.callWith_K (h₀ := X.base) I.ok.mod.kin hk (thn (pa.run pos pins s σ H _ I h) fun us s1 ⟨vs, H1, I1, r, q⟩ => ⟨I1.kIn, ?_⟩) he hpl
  have q' : spD n W X.K vs H1 Q E0 := by
    have q2 : spD n W X.K (vs ++ []) H1 Q E0 := q
    rwa [List.append_nil] at q2
  have hl : us.length = ps.length := by rw [← r.length]; exact F.len _ _ _ _ q'
  refine wpAny_call (codeAny_mono (F.run X.A X.stack s1 H1 ⟨us, []⟩ us vs Q E0 hgu hr I1.env0 (by simpa using hb s1 us I1.kIn (by simpa using hl)) r q') fun r s' hq => ?_)
  cases r with
  | error e => exact False.elim hq
  | ok fl =>
    cases fl with
    | ret u => exact I1.after hq
    | next => exact False.elim hq
    | brk => exact False.elim hq
    | cont => exact False.elim hq
end
/-! ### repr -/
mutual
/-- data that repr may read -/
def plainR : D → Bool
  | .non => true | .bl _ => true | .int _ => true | .str _ => true
  | .lst ds => plainRA ds | .tup ds => plainRA ds | .dic _ ds => plainRA ds
  | _ => false
def plainRA : List D → Bool
  | [] => true
  | d :: ds => plainR d && plainRA ds
end
section
variable {X : Cx} {pins : List (Addr × Obj)} {σ : L2.St} {H L : Hp} {s : Shared} {as : List Addr}
/-- it is read, and shown -/
def ShO (X : Cx) (h : Heap) (u : Value) (p : PyData) : Prop := (∃ rs, Reads h u p rs) ∧ ∃ bs, ReadAtMost h p.depth bs ∧ ReprK X.prog X.w bs h p.depth u p.shown
def ShA (X : Cx) (h : Heap) (us : List Value) (ps : List PyData) : Prop := (∃ rs, ReadsAll h us ps rs) ∧ ∃ bs, ReadAtMost h (PyData.depthAll ps) bs ∧ ReprAllK X.prog X.w bs h (PyData.depthAll ps) us (PyData.shownAll ps)
theorem ShA.nil {h : Heap} : ShA X h [] [] := ⟨⟨_, .nil⟩, [], (fun _ z => nomatch z), by simp only [PyData.shownAll]; exact .nil⟩
theorem ShA.cons {h : Heap} {u : Value} {us : List Value} {p : PyData} {ps : List PyData} (a : ShO X h u p) (b : ShA X h us ps) : ShA X h (u :: us) (p :: ps) := by
  obtain ⟨⟨r1, e1⟩, b1, m1, k1⟩ := a
  obtain ⟨⟨r2, e2⟩, b2, m2, k2⟩ := b
  refine ⟨⟨_, .cons e1 e2⟩, b1 ++ b2, ?_, ?_⟩
  · show ReadAtMost h (max p.depth (PyData.depthAll ps)) _
    exact (m1.mono (Nat.le_max_left _ _)).append (m2.mono (Nat.le_max_right _ _))
  · show ReprAllK X.prog X.w (b1 ++ b2) h (max p.depth (PyData.depthAll ps)) _ (p.shown :: PyData.shownAll ps)
    have s1 : ∀ b ∈ b1, b ∈ b1 ++ b2 := fun b hb => List.mem_append_left _ hb
    have s2 : ∀ b ∈ b2, b ∈ b1 ++ b2 := fun b hb => List.mem_append_right _ hb
    exact .cons ((k1.more s1).level_le (Nat.le_max_left _ _)) (k2.more_le s2 (Nat.le_max_right _ _))
theorem keyP_sh {h : Heap} {k : Key} {u : Value} (e : (mixKind X.prog X.w).is k u = true) (hs : (keyP k).showable = true) (hz : (keyP k).shown.length ≤ sizeLine) : ShO X h u (keyP k) := by
  rcases keyIs_shape e with ⟨i, t, rfl, rfl⟩ | ⟨x, t, rfl, rfl⟩
  · exact ⟨⟨_, .int i t⟩, [], (fun _ z => nomatch z), .of_is (ReprIs.int t (of_decide_eq_true hs)) _ _ _⟩
  · exact ⟨⟨_, .str x t⟩, [], (fun _ z => nomatch z), .of_is (ReprIs.str x t hz) _ _ _⟩
theorem toPA_len : ∀ ds : List D, (toPA ds).length = ds.length
  | [] => rfl
  | _ :: ds => congrArg (· + 1) (toPA_len ds)
theorem keys_sh {h : Heap} : ∀ {es : List DictEntry} {vs0 : List (Key × Value)}, Pairs (mixKind X.prog X.w) es vs0 → PyData.showableAll (vs0.map fun p => keyP p.1) = true → (∀ t ∈ PyData.shownAll (vs0.map fun p => keyP p.1), t.length ≤ sizeLine) →
    ShA X h (es.map fun e => e.key) (vs0.map fun p => keyP p.1)
  | _, _, .nil, _, _ => .nil
  | _, _, .cons a b c, hs, hz => by
    have hs' := Bool.and_eq_true_iff.mp hs
    exact .cons (keyP_sh a hs'.1 (hz _ List.mem_cons_self)) (keys_sh c hs'.2 fun t ht => hz t (List.mem_cons_of_mem _ ht))
theorem vals_of_pairs : ∀ {es : List DictEntry} {vs0 : List (Key × Value)}, Pairs (mixKind X.prog X.w) es vs0 → es.map (fun e => e.val) = vs0.map fun p => p.2
  | _, _, .nil => rfl
  | _, _, .cons a b c => by rw [List.map_cons, List.map_cons, b, vals_of_pairs c]
theorem kv_keys {ks : List Key} {vs : List V} {vs0 : List (Key × Value)} (hl : ks.length = vs.length) (r : KV (ks.zip vs) vs0) : (vs0.map fun p => p.1) = ks ∧ Vals vs (vs0.map fun p => p.2) := by
  induction ks generalizing vs vs0 with
  | nil =>
    cases vs with
    | nil => cases r; exact ⟨rfl, .nil⟩
    | cons v vs => cases hl
  | cons k ks ih =>
    cases vs with
    | nil => cases hl
    | cons v vs =>
      cases r with
      | cons q t =>
        obtain ⟨h1, h2⟩ := ih (Nat.succ.inj hl) t
        exact ⟨by rw [List.map_cons, h1, ← q.1], .cons q.2 h2⟩
theorem zip_fst : ∀ (ks : List PyData) (ps : List PyData), ks.length = ps.length → (ks.zip ps).map (·.1) = ks
  | [], _, _ => by rw [List.zip_nil_left]; rfl
  | k :: ks, [], h => by cases h
  | k :: ks, p :: ps, h => by rw [List.zip_cons_cons, List.map_cons, zip_fst ks ps (Nat.succ.inj h)]
theorem zip_snd : ∀ (ks : List PyData) (ps : List PyData), ks.length = ps.length → (ks.zip ps).map (·.2) = ps
  | [], [], _ => rfl
  | [], p :: ps, h => by cases h
  | k :: ks, [], h => by cases h
  | k :: ks, p :: ps, h => by rw [List.zip_cons_cons, List.map_cons, zip_snd ks ps (Nat.succ.inj h)]
theorem ShO.lst {h : Heap} {a : Addr} {o : Obj} {n : Nat} {us : List Value} {ps : List PyData} (ho : h.get? a = some o) (hc : o.cls = .type "list") (hd : o.data = .seq us.toArray n) (x : ShA X h us ps) : ShO X h (.ref a) (.list ps) := by
  obtain ⟨⟨rs, r⟩, bs, m, k⟩ := x
  have r' : Reads h (.ref a) (.list ps) (a :: rs) := .list ho hc hd r
  have lt : PyData.depthAll ps < (PyData.list ps).depth := by simp only [PyData.depth]; omega
  refine ⟨⟨_, r'⟩, a :: bs, ReadAtMost.cons r' (Nat.le_of_lt lt) m, ?_⟩
  show ReprK X.prog X.w (a :: bs) h (PyData.depthAll ps + 1) (.ref a) (listText (PyData.shownAll ps))
  cases us with
  | nil =>
    cases r
    have e0 : listText (PyData.shownAll []) = ("[]" : Str) := listText_nil
    rw [e0]
    exact ReprK.listEmpty ho hc hd
  | cons u us => exact ReprK.list ho hc hd (not_mem_of_deeper r' lt m) (by simpa using k.length_eq) fun i y e => k.item i y (by simpa using e)
theorem ShO.tup {h : Heap} {a : Addr} {o : Obj} {n : Nat} {us : List Value} {ps : List PyData} (ho : h.get? a = some o) (hc : o.cls = .type "tuple") (hd : o.data = .seq us.toArray n) (x : ShA X h us ps) : ShO X h (.ref a) (.tuple ps) := by
  obtain ⟨⟨rs, r⟩, bs, m, k⟩ := x
  have r' : Reads h (.ref a) (.tuple ps) rs := .tuple ho hc hd r
  have lt : PyData.depthAll ps < (PyData.tuple ps).depth := by simp only [PyData.depth]; omega
  exact ⟨⟨_, r'⟩, a :: bs, ReadAtMost.cons r' (Nat.le_of_lt lt) m, ReprK.tuple ho hc hd (not_mem_of_deeper r' lt m) k⟩
theorem ShO.dic {h : Heap} {a : Addr} {o : Obj} {es : Array DictEntry} {n : Nat} {kvs : List (PyData × PyData)} (ho : h.get? a = some o) (hc : o.cls = .type "dict") (hd : o.data = .dict es n) (hs : (a == sysModules) = false)
    (x : ShA X h (es.toList.map fun e => e.key) (kvs.map (·.1))) (y : ShA X h (es.toList.map fun e => e.val) (kvs.map (·.2))) : ShO X h (.ref a) (.dict kvs) := by
  obtain ⟨⟨rs, r⟩, bs, m, k⟩ := x
  obtain ⟨⟨rs2, r2⟩, bs2, m2, k2⟩ := y
  have r' : Reads h (.ref a) (.dict kvs) (a :: rs ++ rs2) := .dict ho hc hd r r2
  have lt : PyData.depthKv kvs < (PyData.dict kvs).depth := by simp only [PyData.depth]; omega
  have l1 := PyData.depthAll_keys_le kvs
  have l2 := PyData.depthAll_vals_le kvs
  have mm := (m.mono l1).append (m2.mono l2)
  have s1 : ∀ b ∈ bs, b ∈ bs ++ bs2 := fun b hb => List.mem_append_left _ hb
  have s2 : ∀ b ∈ bs2, b ∈ bs ++ bs2 := fun b hb => List.mem_append_right _ hb
  refine ⟨⟨_, r'⟩, a :: (bs ++ bs2), ReadAtMost.cons r' (Nat.le_of_lt lt) mm, ?_⟩
  show ReprK X.prog X.w (a :: (bs ++ bs2)) h (PyData.depthKv kvs + 1) (.ref a) (dictText (PyData.shownKv kvs))
  rw [PyData.shownKv_eq]
  exact ReprK.dict ho hc hd hs (not_mem_of_deeper r' lt mm) (ReprEntriesK.of_two es.toList _ _ (k.more_le s1 l1) (k2.more_le s2 l2))
mutual
theorem Rp.sh (I : Inv X pins σ H s) (ex : Ex L H) : ∀ (d : D) (v : V) (u : Value), Rp X.K as L v d → plainR d = true → (toP d).showable = true → (toP d).shown.length ≤ sizeLine → RelV v u → ShO X s.heap u (toP d)
  | .non, _, _, h, _, _, _, r => by cases h; cases r; exact ⟨⟨_, .none⟩, [], (fun _ z => nomatch z), .of_is ReprIs.none _ _ _⟩
  | .bl b, _, _, h, _, _, _, r => by cases h; cases r; exact ⟨⟨_, .bool b⟩, [], (fun _ z => nomatch z), .of_is (ReprIs.bool b) _ _ _⟩
  | .int i, _, _, h, _, hs, _, r => by
    cases h
    obtain ⟨t, rfl⟩ := r
    exact ⟨⟨_, .int i t⟩, [], (fun _ z => nomatch z), .of_is (ReprIs.int t (of_decide_eq_true hs)) _ _ _⟩
  | .str x, _, _, h, _, _, hz, r => by
    cases h
    obtain ⟨t, rfl⟩ := r
    exact ⟨⟨_, .str x t⟩, [], (fun _ z => nomatch z), .of_is (ReprIs.str x t hz) _ _ _⟩
  | .lst ds, _, _, h, p, hs, hz, r => by
    cases h with
    | lst h1 ra =>
      cases r
      obtain ⟨its, rv, ⟨o, n, ho, hc, _, hd⟩, _⟩ := I.list (ex_l ex h1)
      exact ShO.lst ho hc hd (RpA.sh I ex ds _ its ra p hs (fun t ht => Nat.le_trans (listText_mem_le ht) hz) rv)
  | .tup ds, _, _, h, p, hs, hz, r => by
    cases h with
    | tup h1 ra =>
      cases r
      obtain ⟨its, rv, ⟨o, ho, hc, n, hd⟩, _⟩ := I.tuple (ex_t ex h1)
      exact ShO.tup ho hc hd (RpA.sh I ex ds _ its ra p hs (fun t ht => Nat.le_trans (tupleText_mem_le ht) hz) rv)
  | .dic ks ds, _, _, h, p, hs, hz, r => by
    cases h with
    | dic h1 hl ra =>
      cases r
      obtain ⟨_, hsys, vs0, kv, o, es, ep, ho, hex, hd, _, hp, _⟩ := dk_rd I.hok (ex_rd ex (.inr h1))
      obtain ⟨e1, rv⟩ := kv_keys hl kv
      have e2 : (vs0.map fun p => keyP p.1) = ks.map keyP := by rw [← e1, List.map_map]; rfl
      have hlen : (ks.map keyP).length = (toPA ds).length := by rw [List.length_map, toPA_len, hl, ra.length]
      have f1 := zip_fst _ _ hlen
      have f2 := zip_snd _ _ hlen
      obtain ⟨s1, s2⟩ := PyData.showableKv_split _ hs
      rw [f1] at s1
      rw [f2] at s2
      have z1 : ∀ t ∈ PyData.shownAll (ks.map keyP), t.length ≤ sizeLine := fun t ht => by
        obtain ⟨q, hq, hl⟩ := PyData.shownKv_key_le ((ks.map keyP).zip (toPA ds)) t (by rw [f1]; exact ht)
        exact Nat.le_trans hl (Nat.le_trans (dictText_mem_le hq) hz)
      have z2 : ∀ t ∈ PyData.shownAll (toPA ds), t.length ≤ sizeLine := fun t ht => by
        obtain ⟨q, hq, hl⟩ := PyData.shownKv_val_le ((ks.map keyP).zip (toPA ds)) t (by rw [f2]; exact ht)
        exact Nat.le_trans hl (Nat.le_trans (dictText_mem_le hq) hz)
      refine ShO.dic ho hex.1 hd hsys ?_ ?_
      · rw [f1, ← e2]
        exact keys_sh hp (by rw [e2]; exact s1) (by rw [e2]; exact z1)
      · rw [f2, vals_of_pairs hp]
        exact RpA.sh I ex ds _ _ ra p s2 z2 rv
theorem RpA.sh (I : Inv X pins σ H s) (ex : Ex L H) : ∀ (ds : List D) (vs : List V) (us : List Value), RpA X.K as L vs ds → plainRA ds = true → PyData.showableAll (toPA ds) = true → (∀ t ∈ PyData.shownAll (toPA ds), t.length ≤ sizeLine) → Vals vs us → ShA X s.heap us (toPA ds)
  | [], _, _, h, _, _, _, r => by cases h; cases r; exact .nil
  | d :: ds, _, _, h, p, hs, hz, r => by
    cases h with
    | cons h1 h2 =>
      cases r with
      | cons r1 r2 =>
        have p' := Bool.and_eq_true_iff.mp p
        have hs' := Bool.and_eq_true_iff.mp hs
        exact .cons (Rp.sh I ex d _ _ h1 p'.1 hs'.1 (hz _ List.mem_cons_self) r1) (RpA.sh I ex ds _ _ h2 p'.2 hs'.2 (fun t ht => hz t (List.mem_cons_of_mem _ ht)) r2)
end
end
def reprD (d : D) : Str := (toP d).shown
/-- data whose repr is told -/
structure Shows (d : D) : Prop where
  pl : plainR d = true
  sh : (toP d).showable = true
  sz : (reprD d).length ≤ sizeLine
  dp : (toP d).depth ≤ 60
section
variable {X : Cx}
def rReprD (K : PySem.W.Frag) : List V → Hp → VK → Prop := fun xs H Q => ∃ x d as L, xs = [x] ∧ Ex L H ∧ Rp K as L x d ∧ Shows d ∧ Q (.str (reprD d)) H
theorem call_repr (hgu : X.A.guards = some []) (hu : X.A.units + 64 < cLine) : CallR X (.builtin "repr") (rReprD X.K) := by
  intro pins s σ H xs us Q I r h
  obtain ⟨x, d, as, L, rfl, ex, rp, sw, q⟩ := h
  obtain ⟨u, rfl, rx⟩ := vals1 r
  have fin : ∀ (h' : Heap) (w1 : Tok) (tk : Nat), (∀ b o, s.heap.get? b = some o → h'.get? b = some o) → EP X pins σ Q (.str (reprD d) w1) { s with heap := h', toks := tk } := fun h' w1 tk hk => ⟨.str (reprD d), H, I.kept (t' := tk) hk, ⟨w1, rfl⟩, q⟩
  have hz : (toP d).shown.length ≤ sizeLine := sw.sz
  have hdp := sw.dp
  have go : ∀ (a : Addr) (T idr : String), u = .ref a → s.TypeIs (.ref a) T → SlotG T "__repr__" idr →
      wpAny (model X.prog X.w) X.A.in1 (call (.builtin idr) [.ref a]) (fun r s₁ => ∃ x t, r = .str x t ∧ EP X pins σ Q r s₁) X.xe s → wpAny (model X.prog X.w) X.A (call (.builtin "repr") [u]) (EP X pins σ Q) X.xe s := by
    intro a T idr e hT hS hc
    subst e
    exact call_repr_slot (by omega) hT hS hc
  have hun : ∀ n : Nat, n < 61 → X.A.in1.units + n < cLine := fun n hn => by show X.A.units + 1 + n < cLine; omega
  cases d with
  | non =>
    cases rp
    cases (show u = Value.none from rx)
    exact PySem.P.repr_of_none ⟨.str _, H, I.tok _, ⟨_, rfl⟩, q⟩
  | bl b =>
    cases rp
    cases (show u = Value.bool b from rx)
    exact PySem.P.repr_of_bool ⟨.str _, H, I.tok _, ⟨_, by cases b <;> rfl⟩, q⟩
  | int i =>
    cases rp
    obtain ⟨t, rfl⟩ := (show ∃ t, u = Value.int i t from rx)
    exact PySem.P.repr_of_int (of_decide_eq_true sw.sh) ⟨.str _, H, I.tok _, ⟨_, rfl⟩, q⟩
  | str y =>
    cases rp
    obtain ⟨t, rfl⟩ := (show ∃ t, u = Value.str y t from rx)
    exact PySem.P.repr_of_str ⟨.str _, H, I.tok _, ⟨_, rfl⟩, q⟩ hz
  | lst ds =>
    cases rp with
    | lst h1 ra =>
      cases rx
      obtain ⟨its, rv, ⟨o, n, ho, hc, _, hd⟩, _⟩ := I.list (ex_l ex h1)
      have x := RpA.sh I ex ds _ its ra sw.pl sw.sh (fun t ht => Nat.le_trans (listText_mem_le ht) hz) rv
      obtain ⟨⟨rs, r1⟩, bs, m, k⟩ := x
      have r' : Reads s.heap (.ref _) (.list (toPA ds)) _ := .list ho hc hd r1
      have lt : PyData.depthAll (toPA ds) < (PyData.list (toPA ds)).depth := by simp only [PyData.depth]; omega
      have hd60 : PyData.depthAll (toPA ds) + 1 ≤ 60 := hdp
      refine go _ "list" "list.__repr__" rfl ⟨o, ho, hc⟩ F.slot_list_repr.toG ?_
      cases its with
      | nil =>
        have eds : toPA ds = [] := by
          clear k m lt hd60 r'
          revert r1
          generalize toPA ds = ps
          intro r1
          cases r1
          rfl
        have er : reprD (.lst ds) = ("[]" : Str) := by show listText (PyData.shownAll (toPA ds)) = _; rw [eds]; exact listText_nil
        refine call_list_repr_empty ⟨o, ho, hc⟩ ho hd ⟨_, _, rfl, ?_⟩
        rw [er] at fin
        exact fin s.heap _ _ fun _ _ e => e
      | cons y its =>
        exact call_list_reprK ho hc hd (not_mem_of_deeper r' lt m) (by simpa using k.length_eq) (fun i y e => k.item i y (by simpa using e)) hgu (fun b _ => Clear.nil b) (hun _ (by omega)) (fun _ _ e => e)
          (fun h' w1 tk hk => ⟨_, _, rfl, fin h' w1 tk hk⟩) hz
  | tup ds =>
    cases rp with
    | tup h1 ra =>
      cases rx
      obtain ⟨its, rv, ⟨o, ho, hc, n, hd⟩, _⟩ := I.tuple (ex_t ex h1)
      have x := RpA.sh I ex ds _ its ra sw.pl sw.sh (fun t ht => Nat.le_trans (tupleText_mem_le ht) hz) rv
      obtain ⟨⟨rs, r1⟩, bs, m, k⟩ := x
      have r' : Reads s.heap (.ref _) (.tuple (toPA ds)) _ := .tuple ho hc hd r1
      have lt : PyData.depthAll (toPA ds) < (PyData.tuple (toPA ds)).depth := by simp only [PyData.depth]; omega
      have hd60 : PyData.depthAll (toPA ds) + 1 ≤ 60 := hdp
      exact go _ "tuple" "tuple.__repr__" rfl ⟨o, ho, hc⟩ F.slot_tuple_repr (call_tuple_reprK ho hc hd (not_mem_of_deeper r' lt m) k hgu (fun b _ => Clear.nil b) (hun _ (by omega)) (fun _ _ e => e)
          (fun h' w1 tk hk => ⟨_, _, rfl, fin h' w1 tk hk⟩) hz)
  | dic ks ds =>
    have x0 := Rp.sh I ex (.dic ks ds) _ _ rp sw.pl sw.sh hz rx
    cases rp with
    | dic h1 hl ra =>
      cases rx
      obtain ⟨_, hsys, vs0, kv, o, es, ep, ho, hex, hd, _, hp, _⟩ := dk_rd I.hok (ex_rd ex (.inr h1))
      obtain ⟨⟨rs, r1⟩, _⟩ := x0
      obtain ⟨e1, rv⟩ := kv_keys hl kv
      have e2 : (vs0.map fun p => keyP p.1) = ks.map keyP := by rw [← e1, List.map_map]; rfl
      have hlen : (ks.map keyP).length = (toPA ds).length := by rw [List.length_map, toPA_len, hl, ra.length]
      have f1 := zip_fst _ _ hlen
      have f2 := zip_snd _ _ hlen
      obtain ⟨s1, s2⟩ := PyData.showableKv_split _ sw.sh
      rw [f1] at s1
      rw [f2] at s2
      have z1 : ∀ t ∈ PyData.shownAll (ks.map keyP), t.length ≤ sizeLine := fun t ht => by
        obtain ⟨q, hq, hl⟩ := PyData.shownKv_key_le ((ks.map keyP).zip (toPA ds)) t (by rw [f1]; exact ht)
        exact Nat.le_trans hl (Nat.le_trans (dictText_mem_le hq) hz)
      have z2 : ∀ t ∈ PyData.shownAll (toPA ds), t.length ≤ sizeLine := fun t ht => by
        obtain ⟨q, hq, hl⟩ := PyData.shownKv_val_le ((ks.map keyP).zip (toPA ds)) t (by rw [f2]; exact ht)
        exact Nat.le_trans hl (Nat.le_trans (dictText_mem_le hq) hz)
      have xk : ShA X s.heap (es.toList.map fun e => e.key) (ks.map keyP) := by
        rw [← e2]
        exact keys_sh hp (by rw [e2]; exact s1) (by rw [e2]; exact z1)
      have xv : ShA X s.heap (es.toList.map fun e => e.val) (toPA ds) := by
        rw [vals_of_pairs hp]
        exact RpA.sh I ex ds _ _ ra sw.pl s2 z2 rv
      obtain ⟨_, b1, m1, k1⟩ := xk
      obtain ⟨_, b2, m2, k2⟩ := xv
      have l1 := PyData.depthAll_keys_le ((ks.map keyP).zip (toPA ds))
      have l2 := PyData.depthAll_vals_le ((ks.map keyP).zip (toPA ds))
      rw [f1] at l1
      rw [f2] at l2
      have lt : PyData.depthKv ((ks.map keyP).zip (toPA ds)) < (toP (.dic ks ds)).depth := by simp only [toP, PyData.depth]; omega
      have mm := (m1.mono l1).append (m2.mono l2)
      have t1 : ∀ b ∈ b1, b ∈ b1 ++ b2 := fun b hb => List.mem_append_left _ hb
      have t2 : ∀ b ∈ b2, b ∈ b1 ++ b2 := fun b hb => List.mem_append_right _ hb
      have hd60 : PyData.depthKv ((ks.map keyP).zip (toPA ds)) + 1 ≤ 60 := hdp
      have et : reprD (.dic ks ds) = dictText (List.zipWith (fun k v : Str => k ++ ": " ++ v) (PyData.shownAll (ks.map keyP)) (PyData.shownAll (toPA ds))) := by
        show dictText (PyData.shownKv _) = _
        rw [PyData.shownKv_eq, f1, f2]
      have hz3 : (reprD (.dic ks ds)).length ≤ sizeLine := hz
      rw [et] at fin hz3
      exact go _ "dict" "dict.__repr__" rfl ⟨o, ho, hex.1⟩ F.slot_dict_repr (call_dict_reprK ho hex.1 hd hsys (not_mem_of_deeper r1 lt mm) (ReprEntriesK.of_two es.toList _ _ (k1.more_le t1 l1) (k2.more_le t2 l2)) hgu (fun b _ => Clear.nil b) (hun _ (by omega)) (fun _ _ e => e)
          (fun h' w1 tk hk => ⟨_, _, rfl, fin h' w1 tk hk⟩) hz3)
  | _ => cases sw.pl
end
@[simp] def oRepr : DC := fun xs M P => ∃ d, xs = [d] ∧ Shows d ∧ P (.str (reprD d)) M
theorem sc_repr {K : PySem.W.Frag} : SimC K (rReprD K) oRepr := by
  intro as L H M xs ds P Q A r ⟨d, h, hs, p⟩ q
  subst h
  cases r with
  | cons r1 r2 =>
    cases r2
    exact ⟨_, d, as, L, rfl, A.low, r1, hs, q _ _ L H M .refl A p (.str _)⟩
/-! ### the law itself is called where nothing is being shown -/
theorem law_callG {P : Program} {w : World} {K : PySem.W.Frag} {mg mb : Str → Option Value} {k : Nat} {fa a : Addr} {fd : FuncData} {x : Str} {sp : Sp} {s₁ : Shared} {vs : List Value} {ns : List Int}
    (KX : K.In s₁.heap) (hns : s₁.heap.Ns mainGlobals mg) (hb : s₁.heap.Ns builtinsNs mb) (hbb : ∀ x : Str, x ≠ "__name__" → mb x = bootBuiltins x) (hlim : s₁.heap.NoLimit) (hg : s₁.gens = #[])
    (ha : s₁.heap.get? a = some { cls := .type "list", data := .seq vs.toArray }) (hi : IntsAre vs ns) (hl : ns.length ≤ sizeLine) (hr : Room k callerA)
    (F : ∀ base : Heap, K.In base → base.Ns mainGlobals mg → FnG P w K mg base k fa fd [x] sp) (hbind : ∀ (s : Shared) (u : Value), BindsTo s fd ⟨[u], []⟩ [(x, u)])
    (hsp : ∀ H : Hp, Only H → SqL K H a (ns.map V.int) → sp [.ref a] H (fun v _ => v = .bl true) E0) :
    codeAny (model P w) callerA (.call (.ref fa) ⟨[.ref a], []⟩) (fun r s' => r = .ok (.ret (.bool true)) ∧ OldK s₁.heap s'.heap ∧ s'.os = s₁.os ∧ AllBare s'.gens) s₁ := by
  have rv := vals_ints hi
  have lenV := hi.length
  have core : ∀ H : Hp, Only H → SqL K H a (ns.map V.int) → HOk P w H s₁.heap → (∀ b, H b ≠ none → b = a) → (H a ≠ none → K.lookup a = none) →
      codeAny (model P w) callerA (.call (.ref fa) ⟨[.ref a], []⟩) (fun r s' => r = .ok (.ret (.bool true)) ∧ OldK s₁.heap s'.heap ∧ s'.os = s₁.os ∧ AllBare s'.gens) s₁ := by
    intro H hO hS hok hA hK
    have isA : ∀ {b : Addr}, H b ≠ none → b = a := fun {b} n => hA b n
    have base_of : ∀ {b : Addr} {o : Obj}, s₁.heap.get? b = some o → H b = none → (hidT s₁.heap H).get? b = some o := fun e n => hidT_get e n
    have noA : ∀ {b : Addr} {o : Obj} {es : Array DictEntry} {ep : Nat}, s₁.heap.get? b = some o → o.data = .dict es ep → H b = none := fun {b o es ep} e d => by
      by_cases n : H b = none
      · exact n
      · have e' := isA n
        subst e'
        rw [ha] at e; cases e
        cases (show Data.seq vs.toArray _ = Data.dict es ep from d)
    have nsK : ∀ {b : Addr} {m : Str → Option Value}, s₁.heap.Ns b m → (hidT s₁.heap H).Ns b m := fun {b m} ⟨o, es, ep, e, d, r⟩ => ⟨o, es, ep, base_of e (noA e d), d, r⟩
    have hKb : K.In (hidT s₁.heap H) := fun b o e => base_of (KX b o e) (by
      by_cases n : H b = none
      · exact n
      · have e' := isA n
        subst e'
        rw [hK n] at e; cases e)
    have hM : Mod K mg (hidT s₁.heap H) := ⟨hKb, nsK hns, ⟨mb, nsK hb, hbb⟩, let ⟨mc, h1, h2⟩ := hlim; ⟨mc, nsK h1, h2⟩⟩
    have e0 : Env0 P w K mg (hidT s₁.heap H) callerA [] s₁ H := ⟨rfl, hM, fun b o e => of_hidT e, Nat.le_of_eq (hidT_size _ _), trivial, fun b hb => absurd (show b ∈ ([] : List Addr) from hb) (by simp), hok, .of_eq hg⟩
    refine codeAny_mono ((F _ hKb (nsK hns)).run callerA [] s₁ H ⟨[.ref a], []⟩ [.ref a] [.ref a] _ _ rfl hr e0 (hbind s₁ (.ref a)) (.cons rfl .nil) (hsp H hO hS)) fun r s' h => ?_
    match r, h with
    | .error e, h => exact False.elim h
    | .ok .next, h => exact False.elim h
    | .ok .brk, h => exact False.elim h
    | .ok .cont, h => exact False.elim h
    | .ok (.ret u), h =>
      obtain ⟨v, H', os, bare, un, hok', r', q⟩ := h
      obtain rfl : v = .bl true := q
      obtain rfl : u = Value.bool true := r'
      refine ⟨rfl, OldK.of_keep fun b o e => ?_, os, bare⟩
      by_cases n : H b = none
      · exact un.keep b o e n (by intro z; exact absurd (show b ∈ ([] : List Addr) from z) (by simp)) (by simp)
      · rcases hO b with z | ⟨ob, xs, z⟩
        · exact absurd z n
        · have z2 := un.frzs b ob _ z
          obtain ⟨e1, _⟩ := hok b _ z
          obtain ⟨e2, _⟩ := hok' b _ z2
          rw [e] at e1; cases e1
          exact e2
  cases hk : K.lookup a with
  | some o =>
    have e := KX a o hk
    rw [ha] at e
    cases e
    exact core (fun _ => none) (fun _ => .inl rfl) (.inr ⟨_, vs.toArray, _, hk, rfl, rfl, rfl, by rw [List.size_toArray, lenV]; exact hl, by simpa using rv⟩) (fun b u z => by cases (show (none : Option HO) = some u from z)) (fun b z => absurd rfl z) fun z => absurd rfl z
  | none =>
    refine core (fun b => if b = a then some (.frz { cls := .type "list", data := .seq vs.toArray } (.lst (ns.map V.int))) else none) (fun b => ?_) (.inl (.inr ⟨{ cls := .type "list", data := .seq vs.toArray }, if_pos rfl⟩)) (fun b u z => ?_) (fun b z => ?_) fun _ => hk
    · by_cases hb : b = a
      · exact .inr ⟨_, _, if_pos hb⟩
      · exact .inl (if_neg hb)
    · by_cases hb : b = a
      · have z' := (if_pos hb).symm.trans z
        cases z'
        subst hb
        exact ⟨ha, by rw [List.length_map]; exact hl, vs, _, rv, ha⟩
      · cases (if_neg hb).symm.trans z
    · by_cases hb : b = a
      · exact hb
      · exact absurd (if_neg hb) z
theorem walk_ofG {l : PySem.W.OpenLaw} {n k : Nat} {q : Program} {loose : List Str} {XP : (Str → Option Value) → Heap → Prop} {YP : World → Heap → Prop} {d : DefRec} {K : Params → PySem.W.Frag} {sp : World → Sp} {x : Str}
    (hn : l.most = some n) (hn2 : n ≤ sizeLine) (hdf : d.params.defaults = []) (hr : Room k callerA) (hY : ∀ (w : World) (h : Heap), YP w h → (K w.params).In h)
    (F : ∀ (w : World) (mg : Str → Option Value) (fa : Addr) (h : Heap), (K w.params).In h → h.Ns mainGlobals mg → mg d.name = some (.ref fa) →
      ∃ fd : FuncData, (∀ (s : Shared) (u : Value), BindsTo s fd ⟨[u], []⟩ [(x, u)]) ∧ ∀ base : Heap, (K w.params).In base → base.Ns mainGlobals mg → FnG l.prog w (K w.params) mg base k fa fd [x] (sp w))
    (hsp : ∀ (w : World) (H : Hp) (a : Addr) (ns : List Int), ns.length ≤ n → Only H → SqL (K w.params) H a (ns.map V.int) → sp w [.ref a] H (fun v _ => v = .bl true) E0) :
    PySem.W.WalkO q loose XP YP l.row.toRowW d [] (fun f vs => PySem.call f vs) := by
  refine Att.attach_call hn hdf fun w s₀ s₁ mg mb fa o pm cd doc a vs ns G Y ho hd hcd hmg hobj hints hlen hg => ?_
  have KX := hY w _ Y
  obtain ⟨fd, hb, hF⟩ := F w mg fa _ KX G.T.g hmg
  exact law_callG KX G.T.g G.T.b G.T.builtins G.T.nolimit hg hobj hints (Nat.le_trans hlen hn2) hr hF hb fun H hO hS => hsp w H a ns hlen hO hS
end Pd

set_option Elab.async false
set_option linter.all false
set_option maxRecDepth 100000
set_option maxHeartbeats 2000000
/-! enumerate; [e, ..] * n -/
namespace Pd
open PySem PySem.Spec PyProof.Rows L2
section
variable {X : Cx} {e b : Expr} {es : List Expr} {pos p tpos lpos : Pos} {elts : List Expr} {kk : Nat} {tl : DA} {tb : DE}
/-- the items with their places -/
def numd : Nat → List D → List D
  | _, [] => []
  | i, d :: ds => .tup [.int (i : Int), d] :: numd (i + 1) ds
theorem numd_len : ∀ (ds : List D) (i : Nat), (numd i ds).length = ds.length
  | [], _ => rfl
  | d :: ds, i => congrArg (· + 1) (numd_len ds (i + 1))
theorem numd_get : ∀ (ds : List D) (i j : Nat) (d : D), ds[j]? = some d → (numd i ds)[j]? = some (.tup [.int ((i + j : Nat) : Int), d])
  | [], _, _, _, h => by simp at h
  | x :: xs, i, 0, d, h => by simp at h; subst h; rfl
  | x :: xs, i, j + 1, d, h => by
    have := numd_get xs (i + 1) j d (by simpa using h)
    rw [show i + 1 + j = i + (j + 1) by omega] at this
    exact this
@[simp] def iEn (tl : DA) : DA := fun ρ M P => tl ρ M fun ds M1 => ∃ xs, ds = [.lst xs] ∧ P (numd 0 xs) M1
theorem walks_enum {K : PySem.W.Frag} {as : List Addr} {L0 : Hp} {a : Addr} {xs : List V} {ds : List D} (h1 : SqL K L0 a xs) (r1 : RpA K as L0 xs ds) : Walks K (Ite K a) as L0 (numd 0 ds) := by
  intro L H M e A
  have g1 := ex_l (e.trans A.low) h1
  refine ⟨fun i hi => ?_, xs, g1, by rw [numd_len, r1.length]; exact Nat.le_refl _⟩
  rw [numd_len] at hi
  have i1 : i < xs.length := by rw [r1.length]; exact hi
  refine ⟨⟨xs, _, g1, List.getElem?_eq_getElem i1⟩, fun v H' y => ?_⟩
  obtain ⟨T, x, rfl, hT, rfl, f1⟩ := y
  obtain ⟨d1, q1, w1⟩ := r1.getV (f1 xs g1)
  have lT := lowfree A hT
  have z := numd_get ds 0 i d1 q1
  rw [Nat.zero_add] at z
  exact ⟨_, upd L T (.tup [.int (i : Nat), x]), z, Step.know A hT, A.know hT, .tup (.inl (.inl upd_same)) (.cons (.int _) (.cons (w1.mono (e.trans (Ex.new lT)) (Pre.refl _)) .nil))⟩
theorem pdi_enum (hg : Gl X "enumerate") (hm : X.mg "enumerate" = none) (ha : PDA X [e] tl) (hs : starEach [e] X.env = [(false, eval e X.env)] := by rfl) : PDI X (.Tuple elts kk tpos) (.Call (.Name "enumerate" p) [e] [] pos) (iEn tl) := by
  obtain ⟨u, pa, s⟩ := ha.ex
  refine ⟨_, pi_enum hg hm pa hs, ?_⟩
  intro as σ ρ L H M P R hE A h q
  refine s as σ ρ L H M _ _ hE A h fun vs ds L1 H1 M1 s1 A1 h1 r1 => ?_
  obtain ⟨xs, rfl, p⟩ := h1
  cases r1 with
  | cons ra rb =>
    cases rb
    cases ra with
    | lst hs rs => exact ⟨_, _, rfl, ex_l A1.low hs, q _ _ L1 H1 M1 s1 A1 p (walks_enum hs rs)⟩
/-- [e, ..] * n -/
@[simp] def dRepL (tl : DA) (tb : DE) : DE := fun ρ M P => tl ρ M fun ds M1 => ds.length ≤ sizeLine ∧ tb ρ M1 fun y M2 => ∃ k : Int, y = .int k ∧ -(2 ^ 63) ≤ k ∧ k < 2 ^ 63 ∧ ds.length * k.toNat ≤ sizeLine ∧ P (.lst (List.replicate k.toNat ds).flatten) M2
theorem pd_repL (ha : PDA X es tl) (hb : PD X b tb) : PD X (.BinOp (.List es lpos) .Mult b pos) (dRepL tl tb) := by
  obtain ⟨u, pa, s⟩ := ha.ex
  obtain ⟨u2, pb, s'⟩ := hb.ex
  refine ⟨_, pe_op op_rep (pe_lst pa) pb, ?_⟩
  intro as σ ρ L H M P Q hE A h q
  refine s as σ ρ L H M _ _ hE A h fun vs ds L1 H1 M1 s1 A1 h1 r1 => ⟨by rw [r1.length]; exact h1.1, fun pp hp => ?_⟩
  have s2 := Step.know (o := .lst vs) A1 hp
  have A2 := A1.know (o := .lst vs) hp
  refine s' as σ ρ _ _ M1 _ _ (hE.mono (s1.k.trans s2.k) (Pre.refl _)) A2 h1.2 fun y d L3 H3 M3 s3 A3 h3 r3 => ?_
  obtain ⟨k, rfl, k1, k2, k3, hP⟩ := h3
  cases r3
  have hl : H3 pp = some (.lst vs) := A3.low _ _ (s3.k _ _ upd_same)
  refine ⟨pp, k, vs, rfl, rfl, hl, k1, k2, by rw [r1.length]; exact k3, fun p' hp' => ?_⟩
  have s123 := (s1.trans A1 s2).trans A2 s3
  exact q _ _ _ _ M3 (s123.trans A3 (Step.know A3 hp')) (A3.know hp') hP (.lst (.inl (.inl upd_same)) (((r1.mono (s2.k.trans s3.k) (Pre.refl _)).rep _).mono (Ex.new (lowfree A3 hp')) (Pre.refl _)))
end
end Pd

set_option Elab.async false
set_option linter.all false
set_option maxRecDepth 100000
set_option maxHeartbeats 2000000
/-! Texts that == may read; the repr of some data. -/
namespace Pd
open PySem PySem.Spec PyProof.Rows L2
theorem strOk_append (x y : Str) : PyData.strOk (x ++ y) = (PyData.strOk x && PyData.strOk y) := by
  show (x.cps ++ y.cps).all _ = _
  rw [Array.all_append]
  rfl
theorem strOk_of (s : String) : PyData.strOk (Str.ofString s) = true := by
  rw [Str.ofString_eq_toList]
  unfold PyData.strOk
  rw [Array.all_eq_true']
  intro x hx
  simp only [List.mem_toArray, List.mem_map] at hx
  obtain ⟨c, _, rfl⟩ := hx
  have := c.valid
  simp only [decide_eq_true_eq]
  rcases this with h | ⟨_, h⟩
  · exact Nat.lt_of_lt_of_le h (by decide)
  · exact h
/-- data whose repr is told and may be compared -/
structure Good (d : D) : Prop extends Shows d where
  ok : PyData.strOk (reprD d) = true
theorem good_int {i : Int} (h : i.natAbs.log2 < 1920) : Good (.int i) :=
  ⟨⟨rfl, decide_eq_true h, int_text_fits h, Nat.zero_le 60⟩, strOk_of _⟩
theorem okD_strs : ∀ xs : List Str, (∀ x ∈ xs, PyData.strOk x = true) → okD (.lst (xs.map D.str)) = true := by
  intro xs h
  have h1 : ∀ xs : List Str, plainA (xs.map D.str) = true := fun xs => by
    induction xs with
    | nil => rfl
    | cons x xs ih => show (true && plainA (xs.map D.str)) = true; rw [ih]; rfl
  have h2 : ∀ xs : List Str, PyData.depthAll (toPA (xs.map D.str)) = 0 := fun xs => by
    induction xs with
    | nil => rfl
    | cons x xs ih => show max 0 (PyData.depthAll (toPA (xs.map D.str))) = 0; rw [ih]; rfl
  have h3 : ∀ xs : List Str, (∀ x ∈ xs, PyData.strOk x = true) → PyData.canLayAll0 (toPA (xs.map D.str)) = true := fun xs => by
    induction xs with
    | nil => intro _; rfl
    | cons x xs ih =>
      intro h
      show (PyData.strOk x && PyData.canLayAll0 (toPA (xs.map D.str))) = true
      rw [h x List.mem_cons_self, ih fun y hy => h y (List.mem_cons_of_mem _ hy)]; rfl
  unfold okD
  have e1 : plain (.lst (xs.map D.str)) = true := h1 xs
  have e2 : SeqAt.shaped (toP (.lst (xs.map D.str))) = true := by
    show (PyData.canLayAll0 (toPA (xs.map D.str)) && decide (PyData.depthAll (toPA (xs.map D.str)) + 1 ≤ 64)) = true
    rw [h3 xs h, h2]; rfl
  rw [e1, e2]; rfl
end Pd

set_option Elab.async false
set_option linter.all false
set_option maxRecDepth 100000
set_option maxHeartbeats 2000000
/-! Slices, dicts written, exceptions of two fields, isinstance of an exception with a tuple of classes. -/
namespace Pd
open PySem PySem.Spec PyProof.Rows L2 PySem.HandSPX
/-! ### slices -/
def cutD (xs : List D) (lo hi : Option Int) : List D := (xs.drop (HT.sIx xs.length 0 lo)).take (HT.sIx xs.length xs.length hi - HT.sIx xs.length 0 lo)
abbrev DO := Rho → Ms → (Option Int → Ms → Prop) → Prop
def SimO (K : PySem.W.Frag) (u : TO) (t : DO) : Prop := ∀ as σ ρ L H M P Q, En K as L σ ρ → At K as M L H → t ρ M P →
  (∀ o L' H' M', Step as L H as L' H' → At K as M' L' H' → P o M' → Q o H') → u σ H Q
structure PDO (X : Cx) (e : Option Expr) (t : DO) : Prop where
  ex : ∃ u, PO X e u ∧ SimO X.K u t
@[simp] def oNo : DO := fun _ M P => P none M
@[simp] def oSome (t : DE) : DO := fun ρ M P => t ρ M fun x M1 => ∃ i, x = .int i ∧ P (some i) M1
section
variable {X : Cx} {K : PySem.W.Frag} {e : Expr} {t : DE} {lo hi : Option Expr} {tl tu : DO} {pos p2 : Pos}
theorem RpA.dropN {as : List Addr} {L : Hp} : ∀ (n : Nat) {vs : List V} {ds : List D}, RpA K as L vs ds → RpA K as L (vs.drop n) (ds.drop n)
  | 0, _, _, h => h
  | n + 1, _, _, .nil => .nil
  | n + 1, _, _, .cons _ t => RpA.dropN n t
theorem RpA.takeN {as : List Addr} {L : Hp} : ∀ (n : Nat) {vs : List V} {ds : List D}, RpA K as L vs ds → RpA K as L (vs.take n) (ds.take n)
  | 0, _, _, _ => .nil
  | n + 1, _, _, .nil => .nil
  | n + 1, _, _, .cons r t => .cons r (RpA.takeN n t)
theorem RpA.slice {as : List Addr} {L : Hp} {vs : List V} {ds : List D} (r : RpA K as L vs ds) (lo hi : Option Int) : RpA K as L (cutV vs lo hi) (cutD ds lo hi) := by
  unfold cutV cutD
  rw [r.length]
  exact RpA.takeN _ (RpA.dropN _ r)
theorem pdo_no : PDO X none oNo := ⟨_, po_none, fun as σ ρ L H M P Q hE A h q => q _ L H M .refl A h⟩
theorem pdo_some (h : PD X e t) : PDO X (some e) (oSome t) := by
  obtain ⟨u, p, s⟩ := h.ex
  refine ⟨_, po_some p, ?_⟩
  intro as σ ρ L H M P Q hE A h q
  refine s as σ ρ L H M _ _ hE A h fun v d L1 H1 M1 s1 A1 h1 r1 => ?_
  obtain ⟨i, rfl, h1⟩ := h1
  cases r1
  exact ⟨i, rfl, q _ L1 H1 M1 s1 A1 h1⟩
/-- xs[lo:hi] of a list -/
@[simp] def dSlL (t : DE) (tl tu : DO) : DE := fun ρ M P => t ρ M fun d M1 => ∃ ds, d = .lst ds ∧ tl ρ M1 fun l M2 => tu ρ M2 fun u M3 => P (.lst (cutD ds l u)) M3
theorem pd_slL (he : PD X e t) (hl : PDO X lo tl) (hu : PDO X hi tu) : PD X (.Subscript e (.Slice lo hi none p2) pos) (dSlL t tl tu) := by
  obtain ⟨u, p, s⟩ := he.ex
  obtain ⟨ul, pl, sl⟩ := hl.ex
  obtain ⟨uu, pu, su⟩ := hu.ex
  refine ⟨_, pe_slice sl_list p pl pu, ?_⟩
  intro as σ ρ L H M P Q hE A h q
  refine s as σ ρ L H M _ _ hE A h fun v d L1 H1 M1 s1 A1 h1 r1 => ?_
  obtain ⟨ds, rfl, h1⟩ := h1
  refine sl as σ ρ L1 H1 M1 _ _ (hE.mono s1.k s1.pre) A1 h1 fun l L2 H2 M2 s2 A2 h2 => ?_
  have s12 := s1.trans A1 s2
  refine su as σ ρ L2 H2 M2 _ _ (hE.mono s12.k s12.pre) A2 h2 fun w L3 H3 M3 s3 A3 h3 => ?_
  have s23 := s2.trans A2 s3
  cases r1 with
  | lst hs ra =>
    refine ⟨_, _, rfl, ex_l (s23.k.trans A3.low) hs, fun p hp => ?_⟩
    have lp := lowfree A3 hp
    exact q _ _ _ _ M3 ((s12.trans A2 s3).trans A3 (Step.know A3 hp)) (A3.know hp) h3 (.lst (.inl (.inl upd_same)) ((ra.slice l w).mono (s23.k.trans (Ex.new lp)) (Pre.refl _)))
/-- t[lo:hi] of a tuple, not the whole of it -/
@[simp] def dSlT (t : DE) (tl tu : DO) : DE := fun ρ M P => t ρ M fun d M1 => ∃ ds, d = .tup ds ∧ tl ρ M1 fun l M2 => tu ρ M2 fun u M3 => ¬ (HT.sIx ds.length 0 l = 0 ∧ HT.sIx ds.length ds.length u = ds.length) ∧ P (.tup (cutD ds l u)) M3
theorem pd_slT (he : PD X e t) (hl : PDO X lo tl) (hu : PDO X hi tu) : PD X (.Subscript e (.Slice lo hi none p2) pos) (dSlT t tl tu) := by
  obtain ⟨u, p, s⟩ := he.ex
  obtain ⟨ul, pl, sl⟩ := hl.ex
  obtain ⟨uu, pu, su⟩ := hu.ex
  refine ⟨_, pe_slice sl_tup p pl pu, ?_⟩
  intro as σ ρ L H M P Q hE A h q
  refine s as σ ρ L H M _ _ hE A h fun v d L1 H1 M1 s1 A1 h1 r1 => ?_
  obtain ⟨ds, rfl, h1⟩ := h1
  refine sl as σ ρ L1 H1 M1 _ _ (hE.mono s1.k s1.pre) A1 h1 fun l L2 H2 M2 s2 A2 h2 => ?_
  have s12 := s1.trans A1 s2
  refine su as σ ρ L2 H2 M2 _ _ (hE.mono s12.k s12.pre) A2 h2 fun w L3 H3 M3 s3 A3 h3 => ?_
  have s23 := s2.trans A2 s3
  cases r1 with
  | tup hs ra =>
    refine ⟨_, _, rfl, ex_t (s23.k.trans A3.low) hs, by rw [ra.length]; exact h3.1, fun p hp => ?_⟩
    have lp := lowfree A3 hp
    exact q _ _ _ _ M3 ((s12.trans A2 s3).trans A3 (Step.know A3 hp)) (A3.know hp) h3.2 (.tup (.inl (.inl upd_same)) ((ra.slice l w).mono (s23.k.trans (Ex.new lp)) (Pre.refl _)))
end
/-! ### a dict written -/
def keyD : Key → D
  | .inl i => .int i
  | .inr x => .str x
abbrev DPr := Rho → Ms → (List (Key × D) → Ms → Prop) → Prop
def SimP (K : PySem.W.Frag) (trs : List (TE × TE)) (t : DPr) : Prop := ∀ as σ ρ L H M P Q, En K as L σ ρ → At K as M L H → t ρ M P →
  (∀ (kvs : List (Key × V)) (ds : List (Key × D)) L' H' M', Step as L H as L' H' → At K as M' L' H' → P ds M' → kvs.map (·.1) = ds.map (·.1) → RpA K as L' (kvs.map (·.2)) (ds.map (·.2)) → Q (kvs.map fun kv => (kV kv.1, kv.2)) H') → tPairs trs σ H Q
structure PDP (X : Cx) (pos : Pos) (ks : List (Option Expr)) (vs : List Expr) (t : DPr) : Prop where
  ex : ∃ trs, PPs X pos ks vs trs ∧ SimP X.K trs t
@[simp] def pNil : DPr := fun _ M P => P [] M
@[simp] def pCons (tk tv : DE) (r : DPr) : DPr := fun ρ M P => tk ρ M fun k M1 => ∃ key, k = keyD key ∧ tv ρ M1 fun v M2 => r ρ M2 fun ps M3 => P ((key, v) :: ps) M3
section
variable {X : Cx} {K : PySem.W.Frag} {k v : Expr} {ks : List (Option Expr)} {vs : List Expr} {tk tv : DE} {r : DPr} {pos : Pos}
theorem pdp_nil : PDP X pos [] [] pNil := ⟨_, pps_nil, fun as σ ρ L H M P Q hE A h q => q [] [] L H M .refl A h rfl .nil⟩
theorem pdp_cons (hk : PD X k tk) (hv : PD X v tv) (hr : PDP X pos ks vs r) : PDP X pos (some k :: ks) (v :: vs) (pCons tk tv r) := by
  obtain ⟨uk, pk, sk⟩ := hk.ex
  obtain ⟨uv, pv, sv⟩ := hv.ex
  obtain ⟨ur, pr, sr⟩ := hr.ex
  refine ⟨_, pps_cons pk pv pr, ?_⟩
  intro as σ ρ L H M P Q hE A h q
  refine sk as σ ρ L H M _ _ hE A h fun x d L1 H1 M1 s1 A1 h1 r1 => ?_
  obtain ⟨key, rfl, h1⟩ := h1
  refine sv as σ ρ L1 H1 M1 _ _ (hE.mono s1.k s1.pre) A1 h1 fun y e L2 H2 M2 s2 A2 h2 r2 => ?_
  have s12 := s1.trans A1 s2
  refine sr as σ ρ L2 H2 M2 _ _ (hE.mono s12.k s12.pre) A2 h2 fun kvs ds L3 H3 M3 s3 A3 h3 e3 r3 => ?_
  have ex : x = kV key := by
    cases key with
    | inl i => cases r1; rfl
    | inr i => cases r1; rfl
  subst ex
  exact q ((key, y) :: kvs) ((key, e) :: ds) L3 H3 M3 (s12.trans A2 s3) A3 h3 (by rw [List.map_cons, List.map_cons, e3]) (.cons (r2.mono s3.k s3.pre) r3)
theorem mergeK_nodup : ∀ (more acc : List (Key × V)), ((acc ++ more).map (·.1)).Nodup → mergeK acc more = acc ++ more
  | [], acc, _ => (List.append_nil acc).symm
  | (k, v) :: more, acc, h => by
    have hk : (acc.any fun kv => decide (kv.1 = k)) = false := by
      rw [List.any_eq_false]
      intro kv hm
      simp only [decide_eq_true_eq]
      intro e
      rw [List.map_append, List.map_cons] at h
      have := (List.nodup_append.mp h).2.2 kv.1 (List.mem_map.mpr ⟨kv, hm, rfl⟩) k List.mem_cons_self
      exact this e
    show mergeK (putK acc k v) more = _
    have e : putK acc k v = acc ++ [(k, v)] := by
      unfold putK
      rw [hk, if_neg Bool.false_ne_true]
    rw [e, mergeK_nodup more (acc ++ [(k, v)]) (by rw [List.append_assoc]; exact h), List.append_assoc]
    rfl
theorem zip_maps {α β : Type} : ∀ l : List (α × β), (l.map (·.1)).zip (l.map (·.2)) = l
  | [] => rfl
  | (a, b) :: l => by rw [List.map_cons, List.map_cons, List.zip_cons_cons, zip_maps l]
/-- what is known of a dict is that it stays as it is -/
def tFrzK (te : TE) : TE := fun σ H Q => te σ H fun v H1 => ∃ d kvs, v = .ref d ∧ H1 d = some (.dK kvs) ∧ ∀ o, Q v (upd H1 d (.frz o (.dK kvs)))
theorem pe_frzK {X : Cx} {e : Expr} {te : TE} (h : PE X e te) : PE X e (tFrzK te) := by
  refine ⟨fun pins s σ H Q I hw => ?_⟩
  refine thn (h.run pins s σ H _ I hw) fun v s1 ⟨x, H1, I1, rx, d, kvs, ex, hd, q⟩ => ?_
  subst ex
  obtain ⟨od, I2⟩ := I1.lock hd trivial
  exact ⟨_, _, I2, rx, q od⟩
@[simp] def dDic (r : DPr) : DE := fun ρ M P => r ρ M fun kvs M1 => (kvs.map (·.1)).Nodup ∧ kvs.length ≤ 15 ∧ P (.dic (kvs.map (·.1)) (kvs.map (·.2))) M1
theorem pd_dic (h : PDP X pos ks vs r) (hall : ks.all (·.isSome) = true := by rfl) (hl : ks.length = vs.length := by rfl) (h0 : ks ≠ [] := by exact fun z => nomatch z) (h15 : ks.length ≤ 15 := by decide) : PD X (.Dict ks vs pos) (dDic r) := by
  obtain ⟨trs, p, s⟩ := h.ex
  refine ⟨_, pe_frzK (pe_disp p hall hl h0 h15), ?_⟩
  intro as σ ρ L H M P Q hE A h q a ha
  have la : L a = none := lowfree A ha
  have na : a ∉ as := fun z => (A.held z).2 ha
  refine s as σ ρ L (upd H a (.dK [])) M _ _ hE (A.hidden ha) h fun kvs ds L1 H1 M1 s1 A1 h1 e1 r1 => ?_
  obtain ⟨hnd, hlen, p⟩ := h1
  have hk1 : H1 a = some (.dK []) := s1.up a _ na upd_same
  have la1 : L1 a = none := s1.hid a la (by rw [upd_same]; simp)
  have e2 : mergeK [] kvs = kvs := mergeK_nodup kvs [] (by rw [List.nil_append, e1]; exact hnd)
  have e3 : kvs.length = ds.length := by have := congrArg List.length e1; rwa [List.length_map, List.length_map] at this
  refine ⟨hk1, kvs, rfl, by rw [e3]; exact hlen, ?_⟩
  rw [e2]
  refine ⟨a, kvs, rfl, upd_same, fun o => ?_⟩
  rw [upd_upd]
  have s01 : Step as L H as L1 H1 := (Step.refl.hidden (o := .dK []) ha).trans (A.hidden ha) s1
  refine q _ _ _ _ M1 (s01.shown ha la1) (A1.shown la1 na (KeepC.over hk1 rfl) (fun ps z => by cases z)) p (.dic (vs := kvs.map (·.2)) ⟨o, ?_⟩ ?_ (r1.mono (Ex.new la1) (Pre.refl _)))
  · rw [upd_same, ← e1, zip_maps]
  · rw [List.length_map, ← e3, List.length_map]
@[simp] def dDic0 : DE := fun _ M P => P (.dic [] []) M
theorem pd_dic0 : PD X (.Dict [] [] pos) dDic0 := by
  refine ⟨_, pe_frzK pe_dnewK, ?_⟩
  intro as σ ρ L H M P Q hE A h q a ha
  refine ⟨a, [], rfl, upd_same, fun o => ?_⟩
  rw [upd_upd]
  exact q _ _ _ _ M (Step.know A ha) (A.know ha) h (.dic (vs := []) ⟨o, upd_same⟩ rfl .nil)
end
/-! ### isinstance of an exception, a tuple of classes -/
section
variable {X : Cx}
def rIsiET (K : PySem.W.Frag) : List V → Hp → VK → Prop := fun xs H Q => ∃ (a C dx tp : Addr) (fs : List (Str × V)) (cs : List V) (us : List Value) (b : Bool), xs = [.ref a, .ref tp] ∧ H a = some (exo a C (some dx)) ∧ H dx = some (exd dx fs) ∧ ExcC K C ∧ H tp = some (.tup cs) ∧ Paired ClsV cs us ∧ PySem.W.kitAny K (.ref C) us = some b ∧ Q (.bl b) H
theorem call_isiET : CallR X (.builtin "isinstance") (rIsiET X.K) := by
  intro pins s σ H xs us Q I r h
  obtain ⟨a, C, dx, tp, fs, cs, ws, b, rfl, ea, ed, T, hT, k, e, q⟩ := h
  obtain ⟨u1, u2, rfl, r1, r2⟩ := vals2 r
  cases (show u2 = Value.ref tp from r2)
  cases (show u1 = Value.ref a from r1)
  have hcl : (PySem.W.clsIn X.K C).isSome = true := by obtain ⟨cd, hc, _⟩ := PySem.W.any_some T.hd; rw [hc]; rfl
  obtain ⟨t1, ho⟩ := exo_at I.hok ea
  obtain ⟨mA, hns, hr⟩ := exd_at I.hok ed
  obtain ⟨od, hod, hl⟩ := lookIn_ns hns
  have J : PySem.W.InstAt s.heap a { cls := .ref C, dict := some dx, data := .fields #[.ref t1, .none, .none, .none, .bool false, .none] } C (some od) := ⟨ho, rfl, rfl, hod⟩
  obtain ⟨_, its, rv, o, h1, h2, n, h3⟩ := (show ObjOk X.prog X.w H s.heap tp (.tup cs) from I.hok tp _ hT)
  have e3 := ClsV.all k rv
  subst e3
  obtain ⟨oc, od', dt, sl⟩ := o
  simp only at h2 h3
  subst h2 h3
  exact PySem.W.kia_tup (PySem.W.kitx_exc hcl T.hg T.hk T.hs T.ha T.hn T.ht T.hm) I.kIn J h1 e (fun z => nomatch z) fun tk => ⟨.bl b, H, I.tok tk, rfl, q⟩
/-- the second argument: a tuple of classes -/
inductive DCls : List D → List Value → Prop
  | nil : DCls [] []
  | cons {d : D} {v : V} {u : Value} {ds : List D} {us : List Value} : DCl d v u → DCls ds us → DCls (d :: ds) (u :: us)
theorem DCls.rel {K : PySem.W.Frag} {as : List Addr} {L : Hp} : ∀ {ds : List D} {us : List Value} {vs : List V}, DCls ds us → RpA K as L vs ds → Paired ClsV vs us
  | _, _, _, .nil, h => by cases h; exact .nil
  | _, _, _, .cons c t, h => by
    cases h with
    | cons r1 r2 =>
      refine .cons ?_ (DCls.rel t r2)
      cases c with
      | ty n => cases r1; exact .ty n
      | ob C => cases r1; exact .own C
variable {e : Expr} {es : List Expr} {te : DE} {tl : DA} {p tp pos : Pos} {k : Nat}
/-- isinstance(e, (T1, ..)), e an exception that keeps something -/
@[simp] def dIsiTE (K : PySem.W.Frag) (te : DE) (tl : DA) : DE := fun ρ M P => te ρ M fun x M1 => ∃ C g gs, x = .exc C (g :: gs) ∧ ExcC K C ∧ tl ρ M1 fun cs M2 => cs.length ≤ sizeLine ∧ ∃ us b, DCls cs us ∧ PySem.W.kitAny K (.ref C) us = some b ∧ P (.bl b) M2
theorem pd_isiTE {K : PySem.W.Frag} (hK : X.K = K) (hg : Gl X "isinstance") (hm : X.mg "isinstance" = none) (he : PD X e te) (hl : PDA X es tl)
    (hs1 : starEach [e, .Tuple es k tp] X.env = (false, eval e X.env) :: starEach [.Tuple es k tp] X.env := by rfl) (hs2 : starEach [.Tuple es k tp] X.env = (false, eval (.Tuple es k tp) X.env) :: starEach [] X.env := by rfl)
    (hpl : (backTo pos (starEach [.Tuple es k tp] X.env)).any (·.1) = false := by rfl) (hb : bootBuiltins "isinstance" = some (.builtin "isinstance") := by decide +kernel) :
    PD X (.Call (.Name "isinstance" p) [e, .Tuple es k tp] [] pos) (dIsiTE K te tl) := by
  subst hK
  obtain ⟨u, pe, s⟩ := he.ex
  obtain ⟨ul, pl, sl⟩ := hl.ex
  refine ⟨_, pe_callB call_isiET hg hm hb (pa_cons pe (pa_cons (pe_tup pl) pa_nil hs2) hs1) (by decide) (by decide) hs1 hpl, ?_⟩
  intro as σ ρ L H M P Q hE A h q
  refine s as σ ρ L H M _ _ hE A h fun v d L1 H1 M1 s1 A1 h1 r1 => ?_
  obtain ⟨C, g, gs, rfl, T, h1⟩ := h1
  refine sl as σ ρ L1 H1 M1 _ _ (hE.mono s1.k s1.pre) A1 h1 fun vs cs L2 H2 M2 s2 A2 h2 r2 => ?_
  obtain ⟨hz, us, b, hc, hk, p⟩ := h2
  refine ⟨by rw [r2.length]; exact hz, fun pT hT => ?_⟩
  have A3 := A2.know (o := .tup vs) hT
  have s3 := Step.know (o := .tup vs) A2 hT
  cases r1 with
  | exc e1 e2 rf =>
    cases rf with
    | cons ra rb =>
      have f1 := A3.low _ _ (s3.k _ _ (s2.k _ _ e1))
      have f2 := A3.low _ _ (s3.k _ _ (s2.k _ _ e2))
      exact ⟨_, C, _, pT, _, vs, us, b, rfl, f1, f2, T, upd_same, DCls.rel hc r2, hk, q _ _ _ _ M2 ((s1.trans A1 s2).trans A2 s3) A3 p (.bl b)⟩
end
/-! ### exceptions that keep two -/
/-- what __init__(self, y, z): self.f = y; self.g = z promises -/
def spI2 (newId : String) (tl : List Value) (C : Addr) (f g : Str) : PySem.W.Frag → Sp := fun K vs H Q _ => vs.length = 3 ∧ ∃ a y z, vs = [.ref a, y, z] ∧ OexT K newId tl C ∧ PySem.W.findIn K (.ref C) f = some none ∧ PySem.W.findIn K (.ref C) g = some none ∧ H a = some (exo a C none) ∧
  ∀ dx, H dx = none → dx ≠ a → Q .non (upd (upd (upd H dx (exd dx [(f, y)])) a (exo a C (some dx))) dx (exd dx [(g, z), (f, y)]))
section
variable {P : Program} {w : World} {K : PySem.W.Frag} {mg : Str → Option Value} {base : Heap} {B newId initId : String} {tl : List Value}
theorem fn_init2 {x qual : Str} {st : Stmt} {f : Addr} {fd : FuncData} {N : List Str} {p0 p1 p2 fld gld : Str} {C : Addr} (F : Fun K x qual st f fd) (S : FnScope N [p0, p1, p2] (defScope st))
    (hbody : ∀ (cdv : Value) (A : Around) (outer : List Env) (s : Shared) (H : Hp) (E : XK), PSs (cxOf CX0 P w K mg base N qual (defScope st) f cdv A outer s H E).nox (defBody st) (tSeq (tOstT K newId tl fld (tVar 0) (tVar 1)) (tOstT K newId tl gld (tVar 0) (tVar 2)))) :
    FnOk P w K mg base CX0 1 f fd [p0, p1, p2] (spI2 newId tl C fld gld K) := by
  refine F.ok S (fun vs H Q E h => h.1) (fun cdv A outer s H vs Q E hr h => ⟨_, hbody cdv A outer s H E, ?_⟩)
  obtain ⟨_, a, y, z, rfl, T, hno, hno2, ha, q⟩ := h
  refine ⟨y, rfl, .ref a, rfl, a, C, rfl, T, hno, .inl ⟨ha, fun dx h1 h2 => ?_⟩⟩
  exact ⟨z, rfl, .ref a, rfl, a, C, rfl, T, hno2, .inr ⟨dx, [(fld, y)], upd_same, by rw [upd_ne h2, upd_same], by show 1 ≤ 900; decide, q dx h1 h2⟩⟩
end
section
variable {X : Cx} {B newId initId : String} {tl : List Value} {e e2 : Expr} {ta td : DA} {p pos : Pos}
theorem exc2_core {K : PySem.W.Frag} {as : List Addr} {M : Ms} {L1 H1 : Hp} {C a dx : Addr} {f g : Str} {y z : V} {dy dz : D} (A1 : At K as M L1 H1) (ha : H1 a = none) (hdx : H1 dx = none) (hne : dx ≠ a) (ry : Rp K as L1 y dy) (rz : Rp K as L1 z dz) :
    ∃ L', Step as L1 H1 as L' (upd (upd (upd (upd H1 a (exo a C none)) dx (exd dx [(f, y)])) a (exo a C (some dx))) dx (exd dx [(g, z), (f, y)])) ∧ At K as M L' (upd (upd (upd (upd H1 a (exo a C none)) dx (exd dx [(f, y)])) a (exo a C (some dx))) dx (exd dx [(g, z), (f, y)])) ∧
      Rp K as L' (.ref a) (.exc C [(g, dz), (f, dy)]) := by
  have eH : upd (upd (upd (upd H1 a (exo a C none)) dx (exd dx [(f, y)])) a (exo a C (some dx))) dx (exd dx [(g, z), (f, y)]) = upd (upd H1 dx (exd dx [(g, z), (f, y)])) a (exo a C (some dx)) := by
    funext b
    by_cases hd : b = dx
    · rw [hd, upd_same, upd_ne hne, upd_same]
    · rw [upd_ne hd]
      by_cases hb : b = a
      · rw [hb, upd_same, upd_same]
      · rw [upd_ne hb, upd_ne hb, upd_ne hd, upd_ne hd, upd_ne hb]
  have ha2 : upd H1 dx (exd dx [(g, z), (f, y)]) a = none := by rw [upd_ne (Ne.symm hne)]; exact ha
  have A2 := A1.know (o := exd dx [(g, z), (f, y)]) hdx
  have s2 := Step.know (o := exd dx [(g, z), (f, y)]) A1 hdx
  have ld : L1 dx = none := lowfree A1 hdx
  have la2 := lowfree A2 ha2
  have ex := (Ex.new (o := exd dx [(g, z), (f, y)]) ld).trans (Ex.new (o := exo a C (some dx)) la2)
  rw [eH]
  exact ⟨_, s2.trans A2 (Step.know A2 ha2), A2.know ha2, .exc upd_same (by rw [upd_ne hne, upd_same]) (.cons (rz.mono ex (Pre.refl _)) (.cons (ry.mono ex (Pre.refl _)) .nil))⟩
/-- C(e, e2), the exception keeps both -/
@[simp] def dExc2 (C : Addr) (f g : Str) (ta : DA) : DE := fun ρ M P => ta ρ M fun ds M1 => ∃ y z, ds = [y, z] ∧ P (.exc C [(g, z), (f, y)]) M1
theorem sim_exc2 {K : PySem.W.Frag} {C : Addr} {f g : Str} {u : TA} (T : OexT K newId tl C) (hno : PySem.W.findIn K (.ref C) f = some none) (hno2 : PySem.W.findIn K (.ref C) g = some none) (s : SimA K u ta) : SimE K (tMkV C (spI2 newId tl C f g K) u) (dExc2 C f g ta) := by
  intro as σ ρ L H M P Q hE A h q
  refine s as σ ρ L H M _ _ hE A h fun vs ds L1 H1 M1 s1 A1 h1 r1 => ?_
  obtain ⟨y, z, rfl, h1⟩ := h1
  cases r1 with
  | @cons v _ _ _ r2 r3 =>
    cases r3 with
    | @cons v2 _ _ _ r4 r5 =>
      cases r5
      refine ⟨(by show 2 ≤ 1000; decide), fun a ha => ⟨rfl, a, _, _, rfl, T, hno, hno2, upd_same, fun dx hdx hne => ⟨rfl, ?_⟩⟩⟩
      have hdx1 : H1 dx = none := by rw [upd_ne hne] at hdx; exact hdx
      obtain ⟨L', s2, A2, r⟩ := exc2_core (C := C) (f := f) (g := g) A1 ha hdx1 hne r2 r4
      exact q _ _ L' _ M1 (s1.trans A1 s2) A2 h1 r
theorem pd_exc2 (TT : Tail B newId initId tl) {x : Str} {C fI : Addr} {k : Nat} {fd : FuncData} {ps : List Str} {f g : Str} (T : OexT X.K newId tl C) (iC : PySem.W.findIn X.K (.ref C) "__init__" = some (some (.ref fI))) (tI : PySem.W.typeIn X.K (.ref fI) = some (.type "function"))
    (hno : PySem.W.findIn X.K (.ref C) f = some none) (hno2 : PySem.W.findIn X.K (.ref C) g = some none) (F1 : FnOk X.prog X.w X.K X.mg X.base CX0 k fI fd ps (spI2 newId tl C f g X.K)) (hr : Room (k + 1) X.A) (hb : Binds X.K fd ps []) (hg : Gl X x) (hm : X.mg x = some (.ref C)) (ha : PDA X [e, e2] ta)
    (hdb : (x == ("__debug__" : Str)) = false := by decide) (he : starEach [e, e2] X.env = (false, eval e X.env) :: starEach [e2] X.env := by rfl) (hpl : (backTo pos (starEach [e2] X.env)).any (·.1) = false := by rfl) :
    PD X (.Call (.Name x p) [e, e2] [] pos) (dExc2 C f g ta) := by
  obtain ⟨u, pa, s⟩ := ha.ex
  exact ⟨_, pe_excV TT T iC tI F1 hr hb hg hm pa hdb he hpl, sim_exc2 T hno hno2 s⟩
/-- C(g = e, f = e2), the names the other way round -/
@[simp] def dExc2R (C : Addr) (f g : Str) (ta : DA) : DE := fun ρ M P => ta ρ M fun ds M1 => ∃ y z, ds = [z, y] ∧ P (.exc C [(g, z), (f, y)]) M1
theorem sim_exc2R {K : PySem.W.Frag} {C : Addr} {f g : Str} {u : TA} (T : OexT K newId tl C) (hno : PySem.W.findIn K (.ref C) f = some none) (hno2 : PySem.W.findIn K (.ref C) g = some none) (s : SimA K u td) :
    SimE K (tMkKw C 2 (spI2 newId tl C f g K) (fun vs zs => vs ++ zs.reverse) u) (dExc2R C f g td) := by
  intro as σ ρ L H M P Q hE A h q
  refine s as σ ρ L H M _ _ hE A h fun vs ds L1 H1 M1 s1 A1 h1 r1 => ?_
  obtain ⟨y, z, rfl, h1⟩ := h1
  cases r1 with
  | @cons v _ _ _ r2 r3 =>
    cases r3 with
    | @cons v2 _ _ _ r4 r5 =>
      cases r5
      refine ⟨rfl, fun a ha => ⟨rfl, a, v2, v, rfl, T, hno, hno2, upd_same, fun dx hdx hne => ⟨rfl, ?_⟩⟩⟩
      have hdx1 : H1 dx = none := by rw [upd_ne hne] at hdx; exact hdx
      obtain ⟨L', s2, A2, r⟩ := exc2_core (C := C) (f := f) (g := g) A1 ha hdx1 hne r4 r2
      exact q _ _ L' _ M1 (s1.trans A1 s2) A2 h1 r
theorem pd_exc2K {e e2 : Expr} {k1 k2 : Option Str} {kp1 kp2 : Pos} (TT : Tail B newId initId tl) {x : Str} {C fI : Addr} {k : Nat} {fd : FuncData} {ps : List Str} {f g y1 y2 : Str} (T : OexT X.K newId tl C) (iC : PySem.W.findIn X.K (.ref C) "__init__" = some (some (.ref fI))) (tI : PySem.W.typeIn X.K (.ref fI) = some (.type "function"))
    (hno : PySem.W.findIn X.K (.ref C) f = some none) (hno2 : PySem.W.findIn X.K (.ref C) g = some none) (F1 : FnOk X.prog X.w X.K X.mg X.base CX0 k fI fd ps (spI2 newId tl C f g X.K)) (hr : Room (k + 1) X.A) (hb : KBn X.K fd ps 1 [y1, y2] (fun us ws => us ++ ws.reverse) (fun vs zs => vs ++ zs.reverse)) (hg : Gl X x) (hm : X.mg x = some (.ref C))
    (hkw : PDK X [⟨k1, e, kp1⟩, ⟨k2, e2, kp2⟩] td)
    (hall : (backToKw pos (keywordEach [⟨k1, e, kp1⟩, ⟨k2, e2, kp2⟩] X.env)).all (·.1.isSome) = true := by rfl) (hks : (backToKw pos (keywordEach [⟨k1, e, kp1⟩, ⟨k2, e2, kp2⟩] X.env)).filterMap (·.1) = [y1, y2] := by rfl) (hdb : (x == ("__debug__" : Str)) = false := by decide)
    (hpl : ((backTo pos (starEach [] X.env)).any (·.1) || (backToKw pos (keywordEach [⟨k1, e, kp1⟩, ⟨k2, e2, kp2⟩] X.env)).any (·.1.isNone)) = false := by rfl) :
    PD X (.Call (.Name x p) [] [⟨k1, e, kp1⟩, ⟨k2, e2, kp2⟩] pos) (dExc2R C f g td) := by
  obtain ⟨u, pa, s⟩ := hkw.ex
  exact ⟨_, pe_excK TT T iC tI F1 hr hb hg hm pa hall hks hdb hpl, sim_exc2R T hno hno2 s⟩
theorem kb_twoR {K : PySem.W.Frag} {x qual : Str} {st : Stmt} {f : Addr} {fd : FuncData} {p0 p1 p2 y1 y2 : Str} (F : Fun K x qual st f fd)
    (h : ∀ (kV doc pm : Value) (an : Option Addr) (cdv ct : Value) (u v w : Value), bindArgs (PySem.W.fnOf x qual (defArgs st) (defBody st) (defScope st) .none kV doc pm an cdv ct) ⟨[u], [(y1, v), (y2, w)]⟩ = pure [(p0, u), (p1, w), (p2, v)]) :
    KBn K fd [p0, p1, p2] 1 [y1, y2] (fun us ws => us ++ ws.reverse) (fun vs zs => vs ++ zs.reverse) := by
  obtain ⟨oc, od, kV, doc, pm, an, cdv, ct, osl, rfl, lk, hcd⟩ := F.ex
  refine ⟨fun s us ws X l1 l2 => ?_, fun r1 r2 => ?_⟩
  · match us, ws, l1, l2 with
    | [u], [v, w], _, _ => exact .of_eq (h kV doc pm an cdv ct u v w)
  · exact r1.append r2.reverse
end
end Pd

set_option Elab.async false
set_option linter.all false
set_option maxRecDepth 100000
set_option maxHeartbeats 2000000
/-! Raising over data: own exceptions raised, defs that raise. -/
namespace Pd
open PySem PySem.Spec PyProof.Rows L2 PySem.HandSPX
/-! ### raise C(e) -/
/-- what is asked where C(e, ..) is made to be raised -/
def tMkR (C : Addr) (sp : Sp) (ta : TA) : L2.St → Hp → XK → Prop := fun σ H Q => ta σ H fun vs H1 => vs.length ≤ 1000 ∧ ∀ a, H1 a = none → sp (.ref a :: vs) (upd H1 a (exo a C none))
  (fun v H2 => v = .non ∧ ∃ (d : Addr) (fs : List (Str × V)), H2 a = some (exo a C (some d)) ∧ H2 d = some (exd d fs) ∧ H1 d = none ∧ Q (.ref C) (some d) (upd (del H2 a) d (.xd fs))) E0
section
variable {X : Cx} {B newId initId : String} {tl : List Value} {e : Expr} {es : List Expr} {ta : TA} {p pos : Pos}
theorem pmk_exT (TT : Tail B newId initId tl) {x : Str} {C fI : Addr} {k : Nat} {fd : FuncData} {ps : List Str} {sp : Sp} (T : OexT X.K newId tl C) (iC : PySem.W.findIn X.K (.ref C) "__init__" = some (some (.ref fI))) (tI : PySem.W.typeIn X.K (.ref fI) = some (.type "function"))
    (F1 : FnOk X.prog X.w X.K X.mg X.base CX0 k fI fd ps sp) (hr : Room (k + 1) X.A) (hb : Binds X.K fd ps []) (hg : Gl X x) (hm : X.mg x = some (.ref C)) (ha : PA X (e :: es) ta)
    (hdb : (x == ("__debug__" : Str)) = false := by decide) (he : starEach (e :: es) X.env = (false, eval e X.env) :: starEach es X.env := by rfl) (hpl : (backTo pos (starEach es X.env)).any (·.1) = false := by rfl) :
    PMk X (.Call (.Name x p) (e :: es) [] pos) (tMkR C sp ta) := by
  intro pins st σ H Q I hask
  obtain ⟨nm, q, N, bs, bm, sn, sub, ab, col, dd, k0, k1, k2, k3, k5, hC, hbm⟩ := T.cls
  refine wpAny_Call_Name_kw (ld_glob I hg hm ?_ hdb)
  refine PySem.W.callWith_K (h₀ := X.base) I.ok.mod.kin T.kC (thn (ha.run pos pins st σ H _ I hask) fun ws s1 ⟨vs, H1, I1, r1, hz, q1⟩ => ⟨I1.kIn, ?_⟩) he hpl
  show wpAny _ _ (call (.ref C) ws) _ _ _
  obtain ⟨hp, gg, dr, tk, os⟩ := s1
  generalize hA : hp.objs.size + 1 = A1
  have size1 : hp.objs.size ≤ A1 := by omega
  have free1 : H1 A1 = none := I1.hok.fresh size1
  have ask1 := q1 A1 free1
  have stay1 : ∀ b o, hp.get? b = some o → ((hp.push (PySem.W.kdv_tup ws)).push (excO C hp.objs.size)).get? b = some o := fun b o z => Heap.get?_push_of_some _ (Heap.get?_push_of_some _ z)
  have made1 : ((hp.push (PySem.W.kdv_tup ws)).push (excO C hp.objs.size)).get? A1 = some (excO C hp.objs.size) := by subst hA; heap_get
  have I2 := I1.laid (t' := tk) (a := A1) (o := exo A1 C none) stay1 size1 (exo_ok made1)
  have r2 : Vals (V.ref A1 :: vs) (Value.ref A1 :: ws) := .cons rfl r1
  have len2 : (Value.ref A1 :: ws).length = ps.length := r2.length.symm.trans (F1.len _ _ _ _ ask1)
  have len3 : ws.length ≤ sizeLine := by
    rw [← r1.length, sizeLine_eq]
    omega
  subst hA
  refine wpAny_call (call_own TT.F (fun Y => hbm.contains Y) (I1.kIn _ _ hC) (PySem.W.looks_findIn I1.kIn iC) (fun self => PySem.W.bind_fn I1.kIn self tI) len3
    (codeAny_mono (F1.run _ X.stack _ _ ⟨Value.ref (hp.objs.size + 1) :: ws, []⟩ (Value.ref (hp.objs.size + 1) :: ws) _ _ E0 (hr.make C ws []) (I2.env0.make C ws []) (by simpa using hb _ (Value.ref (hp.objs.size + 1) :: ws) I2.kIn (by simpa using len2)) r2 ask1) fun r s' hq' => ?_))
  match r, hq' with
  | .error _, z => exact (show False from z).elim
  | .ok .next, z => exact (show False from z).elim
  | .ok .brk, z => exact (show False from z).elim
  | .ok .cont, z => exact (show False from z).elim
  | .ok (.ret u), z =>
    obtain ⟨v, H2, os2, bare2, un2, hok2, rv, ev, d, fs, ea, ed, hd1, q2⟩ := z
    subst ev
    obtain ⟨h2, g2, d2, t2, os'⟩ := s'
    exact ⟨rv, mk_end (raises_own T.exC T.tyC) I1 size1 stay1 un2 hok2 os2 bare2 ea ed hd1 q2⟩
end

/-! ### what an exception wishes, over data -/
abbrev XD := Addr → List (Str × D) → Ms → Prop
def XC (K : PySem.W.Frag) (as : List Addr) (L H : Hp) (Xd : XD) (E : XK) : Prop := ∀ (C : Addr) (gs : List (Str × D)) (dx : Addr) (fs : List (Str × V)) (L' H' : Hp) (M' : Ms), Step as L H as L' H' → At K as M' L' H' → Xd C gs M' → L' dx = some (.xd fs) → RpF K as L' fs gs → E (.ref C) (some dx) H'
theorem XC.step {K : PySem.W.Frag} {as : List Addr} {L H L1 H1 : Hp} {M1 : Ms} {Xd : XD} {E : XK} (s : Step as L H as L1 H1) (A1 : At K as M1 L1 H1) (h : XC K as L H Xd E) : XC K as L1 H1 Xd E :=
  fun C gs dx fs L' H' M' s' A' x e r => h C gs dx fs L' H' M' (s.trans A1 s') A' x e r
def xNo : XD := fun _ _ _ => False
theorem XC.no {K : PySem.W.Frag} {as : List Addr} {L H : Hp} {E : XK} : XC K as L H xNo E := fun _ _ _ _ _ _ _ _ _ x => x.elim
/-- an expression whose last step may raise -/
abbrev DX := Rho → Ms → (D → Ms → Prop) → XD → Prop
def SimEX (K : PySem.W.Frag) (E : XK) (te : TE) (t : DX) : Prop := ∀ as σ ρ L H M P Xd Q, En K as L σ ρ → At K as M L H → t ρ M P Xd →
  (∀ v d L' H' M', Step as L H as L' H' → At K as M' L' H' → P d M' → Rp K as L' v d → Q v H') → XC K as L H Xd E → te σ H Q
structure PDX (X : Cx) (E : XK) (e : Expr) (t : DX) : Prop where
  ex : ∃ te, PE X e te ∧ SimEX X.K E te t
abbrev SX := DEnds → XD → Rho → Ms → Prop
def SimSX (K : PySem.W.Frag) (E : XK) (ts : TS) (t : SX) : Prop := ∀ as σ ρ L H M De Xd D, En K as L σ ρ → At K as M L H → t De Xd ρ M → Comp K as L H De D → XC K as L H Xd E → ts D σ H
structure PDSX (X : Cx) (E : XK) (st : Stmt) (t : SX) : Prop where
  ex : ∃ ts, PS X st ts ∧ SimSX X.K E ts t
structure PDSsX (X : Cx) (E : XK) (st : List Stmt) (t : SX) : Prop where
  ex : ∃ ts, PSs X st ts ∧ SimSX X.K E ts t
section
variable {X : Cx} {E : XK} {e : Expr} {es : List Expr} {t : DE} {tl : DA} {tx : DX} {tA : DT} {st : Stmt} {sts : List Stmt} {s1 s2 : SX} {s0 : DS} {pos p : Pos}
@[simp] def xOf (t : DE) : DX := fun ρ M P _ => t ρ M P
@[simp] def zOf (t : DS) : SX := fun De _ ρ M => t De ρ M
theorem pdx_of (h : PD X e t) : PDX X E e (xOf t) := by
  obtain ⟨u, p, s⟩ := h.ex
  exact ⟨u, p, fun as σ ρ L H M P Xd Q hE A h q _ => s as σ ρ L H M P Q hE A h q⟩
theorem pdsx_of (h : PDS X st s0) : PDSX X E st (zOf s0) := by
  obtain ⟨u, p, s⟩ := h.ex
  exact ⟨u, p, fun as σ ρ L H M De Xd D hE A h c _ => s as σ ρ L H M De D hE A h c⟩
theorem pdssx_of (h : PDSs X sts s0) : PDSsX X E sts (zOf s0) := by
  obtain ⟨u, p, s⟩ := h.ex
  exact ⟨u, p, fun as σ ρ L H M De Xd D hE A h c _ => s as σ ρ L H M De D hE A h c⟩
theorem pdssx_nil : PDSsX X E [] (zOf sNext) := pdssx_of pdss_nil
@[simp] def zSeq (t u : SX) : SX := fun De Xd ρ M => t { De with nx := fun ρ' M' => u De Xd ρ' M' } Xd ρ M
theorem pdssx_cons (h1 : PDSX X E st s1) (h2 : PDSsX X E sts s2) : PDSsX X E (st :: sts) (zSeq s1 s2) := by
  obtain ⟨u, p, s⟩ := h1.ex
  obtain ⟨u', p', s'⟩ := h2.ex
  refine ⟨_, pss_cons p p', ?_⟩
  intro as σ ρ L H M De Xd D hE A h c x
  refine s as σ ρ L H M _ Xd _ hE A h ⟨fun σ1 ρ1 L1 H1 M1 st1 A1 e1 q1 => ?_, c.rt, c.bk, c.ct⟩ x
  exact s' as σ1 ρ1 L1 H1 M1 De Xd D e1 A1 q1 (c.step st1 A1) (x.step st1 A1)
theorem pdssx_one (h1 : PDSX X E st s1) : PDSsX X E [st] s1 := by
  obtain ⟨u, p, s⟩ := h1.ex
  exact ⟨_, pss_one p, s⟩
@[simp] def zIf (c : DT) (t u : SX) : SX := fun D Xd ρ M => c ρ M fun b M1 => if b = true then t D Xd ρ M1 else u D Xd ρ M1
theorem pdsx_if {a b : List Stmt} (hc : PDT X c tA) (ha : PDSsX X E a s1) (hb : PDSsX X E b s2) : PDSX X E (.If c a b pos) (zIf tA s1 s2) := by
  obtain ⟨u, p, s⟩ := hc.ex
  obtain ⟨u1, p1, z1⟩ := ha.ex
  obtain ⟨u2, p2, z2⟩ := hb.ex
  refine ⟨_, ps_if p p1 p2, ?_⟩
  intro as σ ρ L H M De Xd D hE A h c x
  refine s as σ ρ L H M _ _ hE A h fun k L1 H1 M1 st A1 h1 => ?_
  have eE := hE.mono st.k st.pre
  cases k with
  | true => exact (if_pos rfl : (if true = true then u1 D σ H1 else u2 D σ H1) = _) ▸ z1 as σ ρ L1 H1 M1 De Xd D eE A1 h1 (c.step st A1) (x.step st A1)
  | false => exact (if_neg Bool.false_ne_true : (if false = true then u1 D σ H1 else u2 D σ H1) = _) ▸ z2 as σ ρ L1 H1 M1 De Xd D eE A1 h1 (c.step st A1) (x.step st A1)
@[simp] def zRet (t : DX) : SX := fun D Xd ρ M => t ρ M D.rt Xd
theorem pdsx_ret (he : PDX X E e tx) : PDSX X E (.Return (some e) pos) (zRet tx) := by
  obtain ⟨u, p, s⟩ := he.ex
  exact ⟨_, ps_ret p, fun as σ ρ L H M De Xd D hE A h c x => s as σ ρ L H M _ Xd _ hE A h (fun v d L1 H1 M1 st A1 q r => c.rt v d L1 H1 M1 st A1 q r) x⟩
@[simp] def zDrop (t : DX) : SX := fun D Xd ρ M => t ρ M (fun _ M1 => D.nx ρ M1) Xd
theorem pdsx_expr (he : PDX X E e tx) (hs : swapsWith e none pos.line X.env = pure false := by rfl) : PDSX X E (.Expr e pos) (zDrop tx) := by
  obtain ⟨u, p, s⟩ := he.ex
  exact ⟨_, ps_expr p hs, fun as σ ρ L H M De Xd D hE A h c x => s as σ ρ L H M _ Xd _ hE A h (fun v d L1 H1 M1 st A1 q _ => c.nx σ ρ L1 H1 M1 st A1 (hE.mono st.k st.pre) q) x⟩
@[simp] def zAsg (t : DX) (g : DG) : SX := fun D Xd ρ M => t ρ M (fun d M1 => g d ρ fun ρ' => D.nx ρ' M1) Xd
theorem pdsx_set (i : Nat) {x : Str} {p' : Pos} (hN : X.N.Nodup) (he : PDX X E e tx) (hi : X.N[i]? = some x := by rfl) (hx : Loc X.env.scope x := by first | exact Or.inl rfl | exact Or.inr rfl) (hs : swapsWith e (some (.Name x p')) pos.line X.env = pure false := by rfl)
    (hf : X.fn x = true ∨ X.env.scope.names.lookup x = some .local := by first | exact .inl rfl | exact .inr rfl | assumption) : PDSX X E (.Assign [.Name x p'] e pos) (zAsg tx (gN i)) := by
  obtain ⟨u, p, s⟩ := he.ex
  refine ⟨_, ps_set hN hi hx p hs hf, ?_⟩
  intro as σ ρ L H M De Xd D hE A h c x
  refine s as σ ρ L H M _ Xd _ hE A h (fun v d L1 H1 M1 st A1 q r => ?_) x
  exact c.nx _ _ L1 H1 M1 st A1 ((hE.mono st.k st.pre).set i r) q
/-! ### raise -/
@[simp] def zRaise1 (C : Addr) (f : Str) (tl : DA) : SX := fun _ Xd ρ M => tl ρ M fun ds M1 => ∃ y, ds = [y] ∧ Xd C [(f, y)] M1
theorem pdsx_raise {B newId initId : String} {tlv : List Value} (TT : Tail B newId initId tlv) {x : Str} {C fI : Addr} {k : Nat} {fd : FuncData} {ps : List Str} {f : Str} (hc : X.calm = true) (tk : Takes X (fun cls d _ H => E cls d H)) (T : OexT X.K newId tlv C)
    (iC : PySem.W.findIn X.K (.ref C) "__init__" = some (some (.ref fI))) (tI : PySem.W.typeIn X.K (.ref fI) = some (.type "function")) (hno : PySem.W.findIn X.K (.ref C) f = some none)
    (F1 : FnOk X.prog X.w X.K X.mg X.base CX0 k fI fd ps (spI1 newId tlv C f X.K)) (hr : Room (k + 1) X.A) (hb : Binds X.K fd ps []) (hg : Gl X x) (hm : X.mg x = some (.ref C)) (ha : PDA X [e] tl)
    (hdb : (x == ("__debug__" : Str)) = false := by decide) (he : starEach [e] X.env = (false, eval e X.env) :: starEach [] X.env := by rfl) {cpos : Pos} (hpl : (backTo cpos (starEach [] X.env)).any (·.1) = false := by rfl) :
    PDSX X E (.Raise (some (.Call (.Name x p) [e] [] cpos)) none pos) (zRaise1 C f tl) := by
  obtain ⟨u, pa, s⟩ := ha.ex
  refine ⟨_, ps_raise hc tk (pmk_exT TT T iC tI F1 hr hb hg hm pa hdb he hpl), ?_⟩
  intro as σ ρ L H M De Xd D hE A h c xx
  refine s as σ ρ L H M _ _ hE A h fun vs ds L1 H1 M1 st1 A1 h1 r1 => ?_
  obtain ⟨y, rfl, h1⟩ := h1
  cases r1 with
  | @cons v _ _ _ r2 r3 =>
    cases r3
    refine ⟨(by show 1 ≤ 1000; decide), fun a ha => ⟨rfl, a, _, rfl, T, hno, upd_same, fun dx hdx hne => ⟨rfl, dx, [(f, v)], upd_same, by rw [upd_ne hne, upd_same], ?_, ?_⟩⟩⟩
    · rw [upd_ne hne] at hdx; exact hdx
    · have hdx1 : H1 dx = none := by rw [upd_ne hne] at hdx; exact hdx
      have eH : upd (del (upd (upd (upd H1 a (exo a C none)) dx (exd dx [(f, v)])) a (exo a C (some dx))) a) dx (.xd [(f, v)]) = upd H1 dx (.xd [(f, v)]) := by
        funext b
        by_cases hb : b = dx
        · rw [hb, upd_same, upd_same]
        · rw [upd_ne hb, upd_ne hb]
          by_cases hba : b = a
          · rw [hba, del_same, ha]
          · rw [del_ne hba, upd_ne hba, upd_ne hb, upd_ne hba]
      rw [eH]
      have ld : L1 dx = none := lowfree A1 hdx1
      exact xx C [(f, y)] dx [(f, v)] _ _ M1 (st1.trans A1 (Step.know A1 hdx1)) (A1.know hdx1) h1 upd_same (.cons (r2.mono (Ex.new ld) (Pre.refl _)) .nil)
end
/-! ### defs that raise -/
abbrev DCX := List D → Ms → (D → Ms → Prop) → XD → Prop
def spX (n : Nat) (W : DCX) : PySem.W.Frag → Sp := fun K vs H Q E => vs.length = n ∧ ∃ as M L ds P Xd, RpA K as L vs ds ∧ At K as M L H ∧ W ds M P Xd ∧
  (∀ v d L' H' M', Step as L H as L' H' → At K as M' L' H' → P d M' → Rp K as L' v d → Q v H') ∧ XC K as L H Xd E
section
variable {P : Program} {w : World} {K : PySem.W.Frag} {mg : Str → Option Value} {base : Heap}
theorem pd_fnX {x qual : Str} {st : Stmt} {f : Addr} {fd : FuncData} {N ps : List Str} {k : Nat} {W : DCX} (F : Fun K x qual st f fd) (S : FnScope N ps (defScope st))
    (hbody : ∀ (cdv : Value) (A : Around) (outer : List Env) (s : Shared) (H : Hp) (E : XK), Room k (A.deeper (envOfC qual (defScope st) s.heap.objs.size f cdv)) →
      ∃ t, PDSsX (cxOf (L2.CX P w) P w K mg base N qual (defScope st) f cdv A outer s H E) E (defBody st) t ∧ ∀ ds M Q Xd, ds.length = ps.length → W ds M Q Xd → t { nx := fun _ M' => Q .non M', rt := Q } Xd (startD N ds) M) :
    FnOk P w K mg base (L2.CX P w) (k + 1) f fd ps (spX ps.length W K) := by
  refine F.okX S (fun vs H Q E h => h.1) (fun cdv A outer s H vs Q E hr h => ?_)
  obtain ⟨hl, as, M, L, ds, P', Xd, r, A0, hw, q, xx⟩ := h
  obtain ⟨t, ht, hb⟩ := hbody cdv A outer s H E hr
  obtain ⟨ts, pt, st'⟩ := ht.ex
  refine ⟨ts, pt, st' as (L2.start N vs) (startD N ds) L H M _ Xd _ (en_start r) A0 (hb ds M P' Xd (by rw [← r.length]; exact hl) hw) ⟨?_, ?_, ?_, ?_⟩ xx⟩
  · exact fun σ' ρ' L' H' M' s1 A1 _ p => q .non .non L' H' M' s1 A1 p .non
  · exact fun v d L' H' M' s1 A1 p r => q v d L' H' M' s1 A1 p r
  · exact fun _ _ _ _ _ _ _ _ p => p.elim
  · exact fun _ _ _ _ _ _ _ _ p => p.elim
end
section
variable {X : Cx} {E : XK} {e : Expr} {es : List Expr} {tl : DA} {pos p : Pos}
@[simp] def dCallX (n : Nat) (W : DCX) (tl : DA) : DX := fun ρ M P Xd => tl ρ M fun ds M1 => ds.length = n ∧ W ds M1 P Xd
theorem pdx_call {k : Nat} {f : Addr} {fd : FuncData} {ps : List Str} {n : Nat} {W : DCX} {x : Str} (tk : Takes X (fun cls d _ H => E cls d H)) (F : FnOk X.prog X.w X.K X.mg X.base (L2.CX X.prog X.w) k f fd ps (spX n W X.K)) (hr : Room k X.A) (hg : Gl X x) (hm : X.mg x = some (.ref f)) (hk : PySem.W.keepIn X.K (.ref f) = true)
    (hb : Binds X.K fd ps []) (ha : PDA X (e :: es) tl) (hdb : (x == ("__debug__" : Str)) = false := by decide) (he : starEach (e :: es) X.env = (false, eval e X.env) :: starEach es X.env := by rfl) (hpl : (backTo pos (starEach es X.env)).any (·.1) = false := by rfl) :
    PDX X E (.Call (.Name x p) (e :: es) [] pos) (dCallX n W tl) := by
  obtain ⟨u, pa, s⟩ := ha.ex
  refine ⟨_, pe_callS (E := fun _ => E) F hr hg hm hk hb (fun σ => passAt tk σ) pa hdb he hpl, ?_⟩
  intro as σ ρ L H M P Xd Q hE A h q xx
  refine s as σ ρ L H M _ _ hE A h fun vs ds L1 H1 M1 s1 A1 h1 r1 => ?_
  exact ⟨by rw [r1.length]; exact h1.1, as, M1, L1, ds, P, Xd, r1, A1, h1.2, fun v d L2 H2 M2 s2 A2 h2 r2 => q v d L2 H2 M2 (s1.trans A1 s2) A2 h2 r2, xx.step s1 A1⟩
/-- a def that may raise, where it does not -/
@[simp] def dCallN (n : Nat) (W : DCX) (tl : DA) : DE := fun ρ M P => tl ρ M fun ds M1 => ds.length = n ∧ W ds M1 P xNo
theorem passN (σ : L2.St) : PassesAt (L2.CX X.prog X.w) X σ E0 := fun _ _ _ _ _ _ c => by
  obtain ⟨_, _, _, _, _, _, _, _, _, _, _, _, z⟩ := c
  exact z.elim
theorem pd_callN {k : Nat} {f : Addr} {fd : FuncData} {ps : List Str} {n : Nat} {W : DCX} {x : Str} (F : FnOk X.prog X.w X.K X.mg X.base (L2.CX X.prog X.w) k f fd ps (spX n W X.K)) (hr : Room k X.A) (hg : Gl X x) (hm : X.mg x = some (.ref f)) (hk : PySem.W.keepIn X.K (.ref f) = true)
    (hb : Binds X.K fd ps []) (ha : PDA X (e :: es) tl) (hdb : (x == ("__debug__" : Str)) = false := by decide) (he : starEach (e :: es) X.env = (false, eval e X.env) :: starEach es X.env := by rfl) (hpl : (backTo pos (starEach es X.env)).any (·.1) = false := by rfl) :
    PD X (.Call (.Name x p) (e :: es) [] pos) (dCallN n W tl) := by
  obtain ⟨u, pa, s⟩ := ha.ex
  refine ⟨_, pe_callS (E := fun _ => E0) F hr hg hm hk hb passN pa hdb he hpl, ?_⟩
  intro as σ ρ L H M P Q hE A h q
  refine s as σ ρ L H M _ _ hE A h fun vs ds L1 H1 M1 s1 A1 h1 r1 => ?_
  exact ⟨by rw [r1.length]; exact h1.1, as, M1, L1, ds, P, xNo, r1, A1, h1.2, fun v d L2 H2 M2 s2 A2 h2 r2 => q v d L2 H2 M2 (s1.trans A1 s2) A2 h2 r2, XC.no⟩
end
/-! ### instances whose making may raise -/
section
variable {K : PySem.W.Frag} {C x dx : Addr} {as : List Addr} {M1 : Ms} {L1 H1 : Hp}
theorem make_in (A1 : At K as M1 L1 H1) (hx : H1 x = none) (hdx : H1 dx = none) : At K (as ++ [x]) (M1 ++ [.ins C []]) L1 (upd (upd H1 dx (.own x)) x (.ins C dx [])) := by
  have xa : x ∉ as := fun z => (A1.held z).2 hx
  have lx : L1 x = none := lowfree A1 hx
  have e0 : ∀ b o, H1 b = some o → (upd (upd H1 dx (.own x)) x (.ins C dx [])) b = some o := fun b o e => by
    rw [upd_ne (ne_of_none e hx), upd_ne (ne_of_none e hdx)]
    exact e
  have A2 : At K (as ++ [x]) (M1 ++ [.ins C []]) L1 (upd (upd H1 dx (.own x)) x (.ins C dx [])) := by
    refine ⟨fun b o e => e0 b o (A1.low b o e), by rw [List.length_append, List.length_append, A1.len]; rfl, ?_, fun k a m g1 g2 => ?_, A1.nt⟩
    · rw [List.nodup_append]
      refine ⟨A1.nd, by simp, fun a ha b hb => ?_⟩
      rw [List.mem_singleton] at hb
      subst hb
      exact fun z => xa (z ▸ ha)
    · by_cases hk : k < as.length
      · rw [List.getElem?_append_left hk] at g1
        rw [List.getElem?_append_left (by rw [← A1.len]; exact hk)] at g2
        obtain ⟨h3, o, h4, h5⟩ := A1.mo k a m g1 g2
        exact ⟨h3, o, e0 a o h4, h5.1.mono (Ex.refl _) (pre_app _ _), h5.2.keep (KeepC.of e0)⟩
      · have e : k = as.length := by
          have := (List.getElem?_eq_some_iff.mp g1).1
          rw [List.length_append] at this
          simp only [List.length_cons, List.length_nil] at this
          omega
        subst e
        rw [List.getElem?_append_right (Nat.le_refl _), Nat.sub_self] at g1
        rw [A1.len, List.getElem?_append_right (Nat.le_refl _), Nat.sub_self] at g2
        cases g1
        cases g2
        exact ⟨lx, _, upd_same, .ins .nil, trivial⟩
  exact A2
theorem make_out {M4 : Ms} {fs : List (Str × D)} {L3 H3 : Hp} (A1 : At K as M1 L1 H1) (hx : H1 x = none) (hdx : H1 dx = none) (s3 : Step (as ++ [x]) L1 (upd (upd H1 dx (.own x)) x (.ins C dx [])) (as ++ [x]) L3 H3) (A3 : At K (as ++ [x]) (M4 ++ [.ins C fs]) L3 H3)
    (hl4 : M4.length = M1.length) (hap : apartF M1.length fs = true) (hapM : apartM M1.length M4 = true) : ∃ L4, Step as L1 H1 as L4 H3 ∧ At K as M4 L4 H3 ∧ Rp K as L4 (.ref x) (.ins C fs) := by
  have xa : x ∉ as := fun z => (A1.held z).2 hx
  have lx : L1 x = none := lowfree A1 hx
  have e0 : ∀ b o, H1 b = some o → (upd (upd H1 dx (.own x)) x (.ins C dx [])) b = some o := fun b o e => by
    rw [upd_ne (ne_of_none e hx), upd_ne (ne_of_none e hdx)]
    exact e
  have gx : (as ++ [x])[as.length]? = some x := by rw [List.getElem?_append_right (Nat.le_refl _), Nat.sub_self]; rfl
  have gm : (M4 ++ [MO.ins C fs])[as.length]? = some (.ins C fs) := by rw [A1.len, ← hl4, List.getElem?_append_right (Nat.le_refl _), Nat.sub_self]; rfl
  obtain ⟨dx', fv, g1, g2⟩ := A3.ins gx gm
  have g3 : RpF K as L3 fv fs := g2.cut (by rw [A1.len]; exact hap)
  have lx3 : L3 x = none := s3.hid x lx (by rw [upd_same]; simp)
  -- the instance is known for good
  have A4 : At K as M4 (upd L3 x (.ins C dx' fv)) H3 := by
    refine ⟨fun b o e => ?_, by rw [hl4]; exact A1.len, A1.nd, fun k a m e1 e2 => ?_, A3.nt.new (fun ps z => by cases z)⟩
    · by_cases hb : b = x
      · subst hb; rw [upd_same] at e; cases e; exact g1
      · rw [upd_ne hb] at e; exact A3.low b o e
    · have hk : k < as.length := (List.getElem?_eq_some_iff.mp e1).1
      obtain ⟨h5, o, h6, h7⟩ := A3.mo k a m (by rw [List.getElem?_append_left hk]; exact e1) (by rw [List.getElem?_append_left (by rw [hl4, ← A1.len]; exact hk)]; exact e2)
      have hax : a ≠ x := fun z => xa (by rw [← z]; exact List.mem_of_getElem? e1)
      refine ⟨by rw [upd_ne hax]; exact h5, o, h6, ?_, h7.2⟩
      have hm := List.all_eq_true.mp hapM m (List.mem_of_getElem? e2)
      cases h7.1 with
      | lst r => exact .lst ((r.cut (by rw [A1.len]; exact hm)).mono (Ex.new lx3) (Pre.refl _))
      | ins r => exact .ins ((r.cut (by rw [A1.len]; exact hm)).mono (Ex.new lx3) (Pre.refl _))
      | tab => exact .tab
      | dic l r => exact .dic l ((r.cut (by rw [A1.len]; exact hm)).mono (Ex.new lx3) (Pre.refl _))
      | dit l r => exact .dit l ((r.cut (by rw [A1.len]; exact hm)).mono (Ex.new lx3) (Pre.refl _))
  have s4 : Step as L1 H1 as (upd L3 x (.ins C dx' fv)) H3 := by
    refine ⟨fun b o hb e => ?_, fun b o e => ?_, fun b e e' => ?_, Pre.refl _, fun _ e => .inl e⟩
    · have hbx : b ≠ x := ne_of_none e hx
      refine s3.up b o (fun z => ?_) (e0 b o e)
      rcases List.mem_append.mp z with z | z
      · exact hb z
      · exact hbx (List.mem_singleton.mp z)
    · rw [upd_ne (fun z => by rw [z, lx] at e; cases e)]; exact s3.k b o e
    · have hbx : b ≠ x := fun z => e' (by rw [z]; exact hx)
      rw [upd_ne hbx]
      refine s3.hid b e ?_
      cases q2 : H1 b with
      | none => exact absurd q2 e'
      | some o => rw [e0 b o q2]; simp
  exact ⟨_, s4, A4, .ins upd_same (g3.mono (Ex.new lx3) (Pre.refl _))⟩
theorem make_exc {M3 : Ms} {m : MO} {L3 H3 : Hp} (A1 : At K as M1 L1 H1) (hx : H1 x = none) (hdx : H1 dx = none) (hne : dx ≠ x) (s3 : Step (as ++ [x]) L1 (upd (upd H1 dx (.own x)) x (.ins C dx [])) (as ++ [x]) L3 H3) (A3 : At K (as ++ [x]) (M3 ++ [m]) L3 H3)
    (hl3 : M3.length = M1.length) (hapM : apartM M1.length M3 = true) : Step as L1 H1 as L3 H3 ∧ At K as M3 L3 H3 := by
  have xa : x ∉ as := fun z => (A1.held z).2 hx
  have lx : L1 x = none := lowfree A1 hx
  have hx2 : upd H1 dx (.own x) x = none := by
    by_cases z : x = dx
    · exact absurd z (fun z => hne z.symm)
    · rw [upd_ne z]; exact hx
  have Ah : At K as M1 L1 (upd (upd H1 dx (.own x)) x (.ins C dx [])) := (A1.hidden hdx).hidden hx2
  have sh : Step as L1 H1 as L1 (upd (upd H1 dx (.own x)) x (.ins C dx [])) := (Step.refl.hidden hdx).hidden hx2
  exact ⟨sh.cutx Ah hx s3, A3.cut (by rw [A1.len]; exact hapM)⟩
end
section
variable {X : Cx} {E : XK} {e : Expr} {es : List Expr} {tl : DA} {pos p : Pos} {K : PySem.W.Frag}
@[simp] def dMakeX (C : Addr) (n : Nat) (W : DCX) (tl : DA) : DX := fun ρ M P Xd => tl ρ M fun ds M1 => ds.length + 1 = n ∧ W (.mu M1.length :: ds) (M1 ++ [.ins C []])
  (fun d M2 => ∃ M3 fs, d = .non ∧ M2 = M3 ++ [.ins C fs] ∧ M3.length = M1.length ∧ apartF M1.length fs = true ∧ apartM M1.length M3 = true ∧ P (.ins C fs) M3)
  (fun C' gs M2 => ∃ M3 m, M2 = M3 ++ [m] ∧ M3.length = M1.length ∧ apartF M1.length gs = true ∧ apartM M1.length M3 = true ∧ Xd C' gs M3)
theorem sim_makeX {C : Addr} {n : Nat} {W : DCX} {u : TA} (s : SimA K u tl) : SimEX K E (tMake C (spX n W K) [] E u) (dMakeX C n W tl) := by
  intro as σ ρ L H M P Xd Q hE A h q xx
  refine s as σ ρ L H M _ _ hE A h fun vs ds L1 H1 M1 s1 A1 h1 r1 => ?_
  intro x dx hx hdx hne
  obtain ⟨hn, hw⟩ := h1
  rw [List.append_nil]
  refine ⟨by rw [List.length_cons, r1.length]; exact hn, as ++ [x], M1 ++ [.ins C []], L1, _, _, _, .cons (.mu ?_) (r1.mono (Ex.refl _) (pre_app _ _)), make_in A1 hx hdx, hw, fun v d L3 H3 M3 s3 A3 h3 r3 => ?_, fun C' gs ex fs L3 H3 M3 s3 A3 h3 e3 r3 => ?_⟩
  · rw [← A1.len, List.getElem?_append_right (Nat.le_refl _), Nat.sub_self]
    rfl
  · obtain ⟨M4, fs, rfl, rfl, hl4, hap, hapM, p⟩ := h3
    cases r3
    obtain ⟨L4, s4, A4, r4⟩ := make_out A1 hx hdx s3 A3 hl4 hap hapM
    exact ⟨rfl, q _ _ L4 H3 M4 (s1.trans A1 s4) A4 p r4⟩
  · obtain ⟨M4, m, rfl, hl4, hap, hapM, p⟩ := h3
    obtain ⟨s4, A4⟩ := make_exc A1 hx hdx hne s3 A3 hl4 hapM
    exact xx C' gs ex fs L3 H3 M4 (s1.trans A1 s4) A4 p e3 (r3.cut (by rw [A1.len]; exact hap))
theorem pdx_make {C f : Addr} {k n : Nat} {fd : FuncData} {ps : List Str} {W : DCX} {x : Str} (tk : Takes X (fun cls d _ H => E cls d H)) (M : Mk X.K C f) (F : FnOk X.prog X.w X.K X.mg X.base (L2.CX X.prog X.w) k f fd ps (spX n W X.K)) (hr : Room (k + 1) X.A) (hg : Gl X x) (hm : X.mg x = some (.ref C)) (hb : Binds X.K fd ps [])
    (ha : PDA X (e :: es) tl) (hdb : (x == ("__debug__" : Str)) = false := by decide) (he : starEach (e :: es) X.env = (false, eval e X.env) :: starEach es X.env := by rfl) (hpl : (backTo pos (starEach es X.env)).any (·.1) = false := by rfl) :
    PDX X E (.Call (.Name x p) (e :: es) [] pos) (dMakeX C n W tl) := by
  obtain ⟨u, pa, s⟩ := ha.ex
  exact ⟨_, pe_make M F hr hg hm hb .nil (passes_call tk fun _ _ _ _ h => h) pa hdb he hpl, sim_makeX s⟩
@[simp] def dMakeN (C : Addr) (n : Nat) (W : DCX) (tl : DA) : DE := fun ρ M P => tl ρ M fun ds M1 => ds.length + 1 = n ∧ W (.mu M1.length :: ds) (M1 ++ [.ins C []])
  (fun d M2 => ∃ M3 fs, d = .non ∧ M2 = M3 ++ [.ins C fs] ∧ M3.length = M1.length ∧ apartF M1.length fs = true ∧ apartM M1.length M3 = true ∧ P (.ins C fs) M3) xNo
theorem pd_makeN {C f : Addr} {k n : Nat} {fd : FuncData} {ps : List Str} {W : DCX} {x : Str} (M : Mk X.K C f) (F : FnOk X.prog X.w X.K X.mg X.base (L2.CX X.prog X.w) k f fd ps (spX n W X.K)) (hr : Room (k + 1) X.A) (hg : Gl X x) (hm : X.mg x = some (.ref C)) (hb : Binds X.K fd ps [])
    (ha : PDA X (e :: es) tl) (hdb : (x == ("__debug__" : Str)) = false := by decide) (he : starEach (e :: es) X.env = (false, eval e X.env) :: starEach es X.env := by rfl) (hpl : (backTo pos (starEach es X.env)).any (·.1) = false := by rfl) :
    PD X (.Call (.Name x p) (e :: es) [] pos) (dMakeN C n W tl) := by
  obtain ⟨u, pa, s⟩ := ha.ex
  refine ⟨_, pe_make M F hr hg hm hb .nil passL pa hdb he hpl, ?_⟩
  intro as σ ρ L H M P Q hE A h q
  refine s as σ ρ L H M _ _ hE A h fun vs ds L1 H1 M1 s1 A1 h1 r1 => ?_
  intro x dx hx hdx hne
  obtain ⟨hn, hw⟩ := h1
  rw [List.append_nil]
  refine ⟨by rw [List.length_cons, r1.length]; exact hn, as ++ [x], M1 ++ [.ins C []], L1, _, _, _, .cons (.mu ?_) (r1.mono (Ex.refl _) (pre_app _ _)), make_in A1 hx hdx, hw, fun v d L3 H3 M3 s3 A3 h3 r3 => ?_, XC.no⟩
  · rw [← A1.len, List.getElem?_append_right (Nat.le_refl _), Nat.sub_self]
    rfl
  · obtain ⟨M4, fs, rfl, rfl, hl4, hap, hapM, p⟩ := h3
    cases r3
    obtain ⟨L4, s4, A4, r4⟩ := make_out A1 hx hdx s3 A3 hl4 hap hapM
    exact ⟨rfl, q _ _ L4 H3 M4 (s1.trans A1 s4) A4 p r4⟩
end
end Pd

set_option Elab.async false
set_option linter.all false
set_option maxRecDepth 100000
set_option maxHeartbeats 2000000
/-! try: body, except X1 as n: .., except X2 as n: .. -/
namespace Pd
open PySem PySem.Spec PyProof.Rows L2 PySem.HandSPX
abbrev TH := Addr → Value → Option Addr → TS
def wAsM (K : PySem.W.Frag) (Wo : WX) (D : Ends) : List (Value × Nat × TH) → WX
  | [] => Wo
  | (c, i, th) :: r => fun cls d σ H => ∃ b, PySem.W.exmOne K cls c = some b ∧
      (b = true → ∀ a, H a = none → th a cls d { nx := fun σ2 H2 => D.nx (σ2.set i none) H2, rt := D.rt, bk := fun σ2 H2 => D.bk (σ2.set i none) H2, ct := fun σ2 H2 => D.ct (σ2.set i none) H2 } (σ.set i (some (.ref a))) H) ∧
      (b = false → wAsM K Wo D r cls d σ H)
inductive Clauses (X : Cx) : List ExceptHandler → List (Value × Nat × TH) → Prop
  | nil : Clauses X [] []
  | cons {x n : Str} {c : Value} {i : Nat} {th : TH} {b0 : Stmt} {bs : List Stmt} {np hpos : Pos} {hds : List ExceptHandler} {l : List (Value × Nat × TH)} (hi : X.N[i]? = some n) (hk : X.env.kindOf n = some .local) (hc : Names X x c)
      (hsu : ∀ (a : Addr) (oe : Obj) (cls : Value) (d : Option Addr) (pn : List (Addr × Obj)), Zc cls d oe → (∃ vs, oe.data = .fields vs) → PSs (X.suite a ((a, oe) :: pn)) (b0 :: bs) (th a cls d)) (r : Clauses X hds l) :
      Clauses X (.ExceptHandler (some (.Name x np)) (some n) (b0 :: bs) hpos :: hds) ((c, i, th) :: l)
section
variable {X : Cx} {body : List Stmt} {h0 : ExceptHandler} {hds : List ExceptHandler} {l : List (Value × Nat × TH)} {tpos : Pos} {tb : WX → TS} {Wo : WX}
theorem ps_try_asM (hst : X.stack = X.env :: X.outer) (hfm : X.env.frame = some X.env.locals) (hND : X.N.Nodup) (tkO : Takes X Wo)
    (hbd : ∀ (W : WX) (pn : List (Addr × Obj)) (xe : Value → Shared → Prop), Takes (X.tr pn xe) W → PassesOwn (model X.prog X.w) X.A X.env xe → PSs (X.tr pn xe) body (tb W))
    (hh : Clauses X (h0 :: hds) l) : PS X (.Try body (h0 :: hds) [] [] tpos) (fun D σ H => tb (wAsM X.K Wo D l) D σ H) := by
  refine ⟨fun pns st σ H D I ask => ?_⟩
  have okX := I.ok
  have frX : X.A.frames = some (X.env :: X.outer) := by rw [okX.frames, hst]
  refine wpAny_Try_except ?_
  have looks : PassesOwn (model X.prog X.w) X.A X.env (fun e s₁ => wpAny (model X.prog X.w) X.A (noteFrame e X.env) (fun _ s₂ => wpAny (model X.prog X.w) X.A (setFlight e none) (fun _ s₃ =>
    wpAny (model X.prog X.w) X.A (handleBy e X.env (h0 :: hds)) (SP X pns D) X.xe s₃) X.xe s₂) X.xe s₁) := PassesOwn.looking
  refine wpAny_mono ((hbd (wAsM X.K Wo D l) (X.pn ++ pns) _ (fun u sx air => ?_) looks).run [] st σ H D (I.toTry _) ask) (fun f sb hsp => ?_) (fun e sb z => z)
  · obtain ⟨a, B, sI, pns2, τ, G, cls, d, rfl, Jt, nb, up, sky, na, os, ag, w⟩ := air
    have J : Inv X pns τ G sI := Jt.ofTry okX
    have sky2 : Sky B (X.env :: X.outer) a (Zc cls d) X.env.locals sx.heap := by rw [← hst]; exact sky
    show wpAny (model X.prog X.w) X.A (noteFrame (.ref a) X.env) _ _ _
    refine Sky.land Zc.steady frX hfm sky2 fun hp3 fly3 rise3 => ?_
    have K3 : Inv X pns τ G { sx with heap := hp3 } := J.landed nb fly3.1 (up.trans rise3) os ag
    obtain ⟨oe3, vs3, at3, z3, dat3⟩ := fly3.there
    have apartF : a ∉ frs (X.env :: X.outer) := fun hm => by
      obtain ⟨_, o2, e2, nofields⟩ := fly3.2.2.1.mem hm
      rw [at3] at e2
      cases e2
      exact nofields _ dat3
    have aLoc : a ≠ X.env.locals := fun z => apartF (List.mem_filterMap.mpr ⟨X.env, List.mem_cons_self, by rw [hfm, z]⟩)
    have aFs : a ∉ X.fs := fun hm => by
      obtain ⟨e, he, qe⟩ := List.mem_filterMap.mp hm
      exact apartF (List.mem_filterMap.mpr ⟨e, List.mem_cons_of_mem _ he, qe⟩)
    have U3 := K3.suite at3 dat3 na aLoc aFs
    have walk : ∀ {hs2 : List ExceptHandler} {l2 : List (Value × Nat × TH)}, Clauses X hs2 l2 → wAsM X.K Wo D l2 cls d τ G → wpAny (model X.prog X.w) X.A (handleBy (.ref a) X.env hs2) (SP X pns D) X.xe { sx with heap := hp3 } := by
      intro hs2 l2 cl
      induction cl with
      | nil =>
        intro wo
        refine wpAny_handleBy_nil ?_
        obtain ⟨_, _, _, oe, vs, tb, oT, ts, heA, _, hdA, hv1, _⟩ := id fly3
        unfold PySem.passOn
        refine wpAny_bind (wpAny_field heA hdA hv1 ?_)
        rw [if_neg (show ¬ ((Value.ref tb == Value.none) = true) from by simp)]
        have away : wpAny (model X.prog X.w) X.A (setFlight (.ref a) X.env.frame) (fun _ s4 => wpAny (model X.prog X.w) X.A (throw (.ref a) : Sem Flow) (SP X pns D) X.xe s4) X.xe { sx with heap := hp3 } := by
          rw [hfm]
          refine HandSPX.setFlight_upZ fly3 fun hp4 held4 rise4 => wpAny_throw (tkO _ _ ⟨a, B, sI, pns, τ, G, cls, d, rfl, J, nb, (up.trans rise3).trans rise4, .inr (.inr (by rw [hst]; exact held4)), na, os, ag, wo⟩)
        first
          | exact wpAny_bind (wpAny_pure (wpAny_bind away))
          | exact wpAny_bind away
      | @cons x n c i th b0 bs np hpos hs3 l3 hi hk hc hsu r ih =>
        intro wo
        obtain ⟨b, hb1, yes, no⟩ := wo
        have locn : Loc X.env.scope n := .inl hk
        refine wpAny_handleBy_cons (codeAny_handlers_test ?_) (by intro q; cases q)
        have typ3 : PySem.W.Looks (model X.prog X.w) hp3 (typeOf (.ref a)) cls := fun A2 Q2 E2 s2 k2 q2 => wpAny_typeOf_ref (k2 _ _ at3) (by rw [z3.1]; exact q2)
        have match3 := PySem.W.exm_one (M := model X.prog X.w) (K3.kIn) typ3 hb1
        have name3 : ∀ {Q2 : Value → Shared → Prop} {E2 : Value → Shared → Prop}, Q2 c { sx with heap := hp3 } → wpAny (model X.prog X.w) (X.A.mark (some (.ref a))) (eval (.Name x np) X.env) Q2 E2 { sx with heap := hp3 } := fun {Q2 E2} q2 => by
          obtain ⟨hgl, hdb, hm | ⟨hm, hv, hn2⟩⟩ := hc
          · exact ld_glob (X := X.suite a ((a, oe3) :: (X.pn ++ pns))) U3 hgl hm q2 hdb
          · exact ld_blt (X := X.suite a ((a, oe3) :: (X.pn ++ pns))) U3 hgl hm hv q2 hn2 hdb
        refine name3 (match3.here ?_)
        cases b with
        | false =>
          show wpAny _ X.A (handleBy (.ref a) X.env hs3) _ _ _
          exact ih (no rfl)
        | true =>
          refine codeAny_handlers_suite_as ?_
          refine HandSPX.lands_againZ fly3 fun hp4 fly4 rise4 => ?_
          have K4 : Inv X pns τ G { sx with heap := hp4 } := J.landed nb fly4.1 ((up.trans rise3).trans rise4) os ag
          obtain ⟨oe4, vs4, at4, z4, dat4⟩ := fly4.there
          have U4 := K4.suite at4 dat4 na aLoc aFs
          refine store_ok (X := X.suite a ((a, oe4) :: (X.pn ++ pns))) (v := .ref a) U4 hND hi locn rfl (fun s5 U5 => ?_) (.inr hk)
          refine wpAny_mono ((hsu a oe4 cls d (X.pn ++ pns) z4 ⟨_, dat4⟩).run [] s5 _ G _ U5 (yes rfl a na)) (fun f s6 hsp6 => ?_) (fun _ _ z => False.elim z)
          have gone : ∀ {τ6 : L2.St} {G6 : Hp} {Q6 : Shared → Prop}, Inv (X.suite a ((a, oe4) :: (X.pn ++ pns))) [] τ6 G6 s6 → (∀ s7, Inv X pns (τ6.set i none) G6 s7 → Q6 s7) →
              wpAny (model X.prog X.w) X.A (do bindName X.env n .none; unbindBehindTheSuite X.env n hpos) (fun _ s7 => Q6 s7) X.xe s6 := fun {τ6 G6 Q6} U6 hq => gone_ok (U6.unsuite okX) hND hi hk hq
          match f, hsp6 with
          | .next, ⟨τ6, G6, U6, q6⟩ => exact gone U6 fun s7 J7 => ⟨_, _, J7, q6⟩
          | .brk, ⟨τ6, G6, U6, q6⟩ => exact gone U6 fun s7 J7 => ⟨_, _, J7, q6⟩
          | .cont, ⟨τ6, G6, U6, q6⟩ => exact gone U6 fun s7 J7 => ⟨_, _, J7, q6⟩
          | .ret u, ⟨v6, τ6, G6, U6, r6, q6⟩ => exact gone U6 fun s7 J7 => ⟨_, _, _, J7, r6, q6⟩
    exact walk hh w
  · match f, hsp with
    | .next, ⟨τ, G, Jb, q⟩ => exact wpAny_execs_nil ⟨τ, G, Jb.ofTry okX, q⟩
    | .brk, ⟨τ, G, Jb, q⟩ => exact ⟨τ, G, Jb.ofTry okX, q⟩
    | .cont, ⟨τ, G, Jb, q⟩ => exact ⟨τ, G, Jb.ofTry okX, q⟩
    | .ret u, ⟨v, τ, G, Jb, r, q⟩ => exact ⟨v, τ, G, Jb.ofTry okX, r, q⟩
end
end Pd

set_option Elab.async false
set_option linter.all false
set_option maxRecDepth 100000
set_option maxHeartbeats 2000000
/-! A lambda without parameters handed to a def, over data. -/
namespace Pd
open PySem PySem.Spec PyProof.Rows L2 PySem.HandSPX
/-- a new row of a table: codeAmong finds an old one or the new one -/
theorem TabOk.more {H : Hp} {P c : Addr} {q : Str} {ps : Array Value} {pos : Pos} (h : TabOk H P (.tbl ps) (.tab P q)) (hc : H c = some (LamX.CodeO c q)) : TabOk H P (.tbl (ps ++ #[rawInt pos.line, rawInt pos.col, .ref c])) (.tab P q) := by
  obtain ⟨_, h2, h3⟩ := h
  have eL : (ps ++ #[rawInt pos.line, rawInt pos.col, .ref c]).toList = ps.toList ++ [rawInt pos.line, rawInt pos.col, .ref c] := by simp
  refine ⟨rfl, by rw [eL]; exact PySem.TriplesOk_snoc _ _ _ _ h2, fun p' cv hcv => ?_⟩
  rw [eL] at hcv
  rcases LamX.among_app _ h2 hcv with z | z
  · exact h3 p' cv z
  · exact ⟨c, z, hc⟩
section
variable {X : Cx} {pins : List (Addr × Obj)} {σ : L2.St} {H L : Hp} {s : Shared} {as : List Addr} {M : Ms}
/-- a lambda is made where the tables are known -/
theorem lam_at {k : Nat} {c P : Addr} {params : Arguments} {body : Expr} {scope : Scope} {pos : Pos} {E : Value → Shared → Prop} {Q : Value → Shared → Prop} (I : Inv X pins σ H s) (A : At X.K as M L H) (TB : LamX.TabB X.base X.mg c P) (code : X.env.code = .ref c)
    (hm : M[k]? = some (.tab P (X.env.qual ++ "<lambda>"))) (hdef : defaultsOf params X.env = ([], [])) (hfree : ∀ y ∈ scope.names, y.2 = .free → ∃ c, X.env.cells.lookup y.1 = some c)
    (fin : ∀ (f c' : Addr) (pm ctv : Value) (L1 H1 : Hp) (s' : Shared), Inv X pins σ H1 s' → Step as L H as L1 H1 → At X.K as M L1 H1 →
      s'.heap.get? f = some (PySem.W.kla_obj "<lambda>" (X.env.qual ++ "<lambda>") params body scope (cloFrom X.env.cells scope.names []) pm c' ctv) → H1 f = none → f ∉ frs X.stack → H1 c' = some (LamX.CodeO c' (X.env.qual ++ "<lambda>")) → Q (.ref f) s') :
    wpAny (model X.prog X.w) X.A (eval (.Lambda params body scope pos) X.env) Q E s := by
  have hk : k < as.length := by rw [A.len]; exact (List.getElem?_eq_some_iff.mp hm).1
  obtain ⟨lP, o, hP, hro, htab⟩ := A.mo k _ _ (List.getElem?_eq_getElem hk) hm
  cases hro
  rename_i ps
  have eP := htab.1
  have hkP : as[k]? = some P := (List.getElem?_eq_getElem hk).trans (congrArg some eP)
  rw [eP] at hP htab lP
  have tri := htab.2.1
  have objP : s.heap.get? P = some { cls := .none, data := .fields ps } := I.hok P _ hP
  have bat : s.heap.BuiltinsAt X.mg P := TB.bm.keeps I.bk
  have out : ∀ f, s.heap.objs.size ≤ f → f ∉ frs X.stack := fun f hf z => by
    rcases List.mem_cons.mp (I.stkSub _ z) with e | e
    · have h1 := I.lt
      rw [← e] at h1
      exact absurd h1 (Nat.not_lt_of_le hf)
    · exact I.nofs hf e
  refine PySem.W.kla_eval hdef ?_
  cases hit : codeAmong pos ps.toList with
  | some cv =>
    obtain ⟨c', rfl, hco⟩ := htab.2.2 pos cv hit
    refine PySem.W.kla_makeFunctionHit (mg := X.mg) (c := c) (P := P) (ps := ps) (closure_ok hfree) I.ok.glob (I.mod.glob.keeps I.bk) code (TB.code.keeps I.bk) objP tri hit bat fun ctv h' tk stay big => ?_
    exact fin h'.objs.size c' _ ctv L H _ (I.kept (t' := tk) fun b u z => Heap.get?_push_of_some _ (stay b u z)) .refl A (Heap.get?_push_size _ rfl) (I.hok.fresh big) (out _ big) hco
  | none =>
    refine PySem.W.kla_makeFunction (mg := X.mg) (c := c) (P := P) (ps := ps) (closure_ok hfree) I.ok.glob (I.mod.glob.keeps I.bk) code (TB.code.keeps I.bk) objP tri hit TB.gP bat fun c' ctv h' tk stay big less rec tabN => ?_
    obtain ⟨c2, oc, vs, t, e2, hoc, hd, hv⟩ := rec
    cases e2
    have big' : s.heap.objs.size ≤ h'.objs.size := by omega
    have nC : H c' = none := I.hok.fresh big
    have nP : P ≠ c' := ne_of_none hP nC
    have I1 := LamX.inv_table (t' := tk) (more := #[rawInt pos.line, rawInt pos.col, .ref c']) (h' := h'.push (PySem.W.kla_obj "<lambda>" (X.env.qual ++ "<lambda>") params body scope (cloFrom X.env.cells scope.names []) ((X.mg "__name__").getD .none) c' ctv)) I hP
      (fun b u hb z => Heap.get?_push_of_some _ (stay b u hb z)) (Heap.get?_push_of_some _ tabN) big ⟨oc, vs, t, Heap.get?_push_of_some _ hoc, hd, hv⟩
    have ext : ∀ ps', LamX.CodeO c' (X.env.qual ++ "<lambda>") ≠ .tbl ps' := LamX.codeO_ne
    have A2 := A.know (o := LamX.CodeO c' (X.env.qual ++ "<lambda>")) nC ext
    have s2 := Step.know (o := LamX.CodeO c' (X.env.qual ++ "<lambda>")) A nC
    have eH : upd (upd H P (.tbl (ps ++ #[rawInt pos.line, rawInt pos.col, .ref c']))) c' (LamX.CodeO c' (X.env.qual ++ "<lambda>")) = upd (upd H c' (LamX.CodeO c' (X.env.qual ++ "<lambda>"))) P (.tbl (ps ++ #[rawInt pos.line, rawInt pos.col, .ref c'])) := by
      funext b
      by_cases hb : b = c'
      · rw [hb, upd_same, upd_ne (Ne.symm nP), upd_same]
      · by_cases hp : b = P
        · rw [hp, upd_ne nP, upd_same, upd_same]
        · rw [upd_ne hb, upd_ne hp, upd_ne hp, upd_ne hb]
    rw [eH] at I1
    have tb2 : TabOk (upd (upd H c' (LamX.CodeO c' (X.env.qual ++ "<lambda>"))) P (.tbl (ps ++ #[rawInt pos.line, rawInt pos.col, .ref c']))) P (.tbl (ps ++ #[rawInt pos.line, rawInt pos.col, .ref c'])) (.tab P (X.env.qual ++ "<lambda>")) :=
      (TabOk.more (htab.keep (KeepC.new nC)) upd_same).keep (KeepC.over (u := .tbl ps) (by rw [upd_ne nP]; exact hP) rfl)
    have A3 := A2.put hkP (o := .tbl (ps ++ #[rawInt pos.line, rawInt pos.col, .ref c'])) (m := .tab P (X.env.qual ++ "<lambda>")) .tab tb2
    have eM : M.set k (.tab P (X.env.qual ++ "<lambda>")) = M := by
      apply List.ext_getElem?
      intro j
      rw [List.getElem?_set]
      split
      · rename_i e; subst e
        rw [hm]
        split
        · rfl
        · rename_i h1; exact absurd (List.getElem?_eq_some_iff.mp hm).1 h1
      · rfl
    rw [eM] at A3
    have s3 := s2.trans A2 (Step.put (L := upd L c' (LamX.CodeO c' (X.env.qual ++ "<lambda>"))) (H := upd H c' (LamX.CodeO c' (X.env.qual ++ "<lambda>"))) (o := .tbl (ps ++ #[rawInt pos.line, rawInt pos.col, .ref c'])) (List.mem_of_getElem? hkP))
    refine fin h'.objs.size c' _ ctv _ _ _ I1 s3 A3 (Heap.get?_push_size _ rfl) ?_ (out _ big') ?_
    · have n1 : h'.objs.size ≠ c' := Nat.ne_of_gt less
      have n2 : h'.objs.size ≠ P := Nat.ne_of_gt (Nat.lt_of_lt_of_le (Heap.lt_size objP) big')
      rw [upd_ne n2, upd_ne n1]
      exact I.hok.fresh big'
    · rw [upd_ne (Ne.symm nP), upd_same]
end
end Pd
namespace Pd
open PySem PySem.Spec PyProof.Rows L2 PySem.HandSPX
/-- an expression that may raise, one reading for all that is wished -/
def upEX (K : PySem.W.Frag) (E : XK) (t : DX) : TE := fun σ H Q => ∃ as ρ L M P Xd, En K as L σ ρ ∧ At K as M L H ∧ t ρ M P Xd ∧ (∀ v d L' H' M', Step as L H as L' H' → At K as M' L' H' → P d M' → Rp K as L' v d → Q v H') ∧ XC K as L H Xd E
theorem PDX.up {X : Cx} {E : XK} {e : Expr} {t : DX} (h : PDX X E e t) : PE X e (upEX X.K E t) := by
  obtain ⟨u, p, s⟩ := h.ex
  exact ⟨fun pins st σ H Q I ⟨as, ρ, L, M, P, Xd, hE, A, ht, q, xx⟩ => p.run pins st σ H Q I (s as σ ρ L H M P Xd Q hE A ht q xx)⟩
theorem Takes.len {X : Cx} {W : WX} (tk : Takes X W) : Takes X (fun cls d σ H => σ.length = X.N.length → W cls d σ H) := fun u s' ⟨a, B, sI, pins, σ, H, cls, d, e, I, nb, up, sky, na, os, ag, w⟩ =>
  tk u s' ⟨a, B, sI, pins, σ, H, cls, d, e, I, nb, up, sky, na, os, ag, w I.len⟩
/-- which clause takes it, and what is told then -/
def PickC (K : PySem.W.Frag) : List (Addr × Str × Str) → Addr → List (Str × D) → Str × Str → Prop
  | [], _, _, _ => False
  | (C', word, fld) :: r, C, gs, out => ∃ b, PySem.W.exmOne K (.ref C) (.ref C') = some b ∧ (b = true → C = C' ∧ ∃ y, gs.lookup fld = some y ∧ Shows y ∧ out = (word, reprD y)) ∧ (b = false → PickC K r C gs out)
inductive SaidHs (K : PySem.W.Frag) (mg : Str → Option Value) (sg : Scope) : List ExceptHandler → List (Addr × Str × Str) → Prop
  | nil : SaidHs K mg sg [] []
  | cons {x fld word : Str} {C : Addr} {np hp p1 p2 p3 p4 p5 p6 p7 : Pos} {j} {hds : List ExceptHandler} {l : List (Addr × Str × Str)} (hx : sg.names.lookup x = some .globalImplicit) (hdx : (x == ("__debug__" : Str)) = false) (hm : mg x = some (.ref C)) (T : XfC K C)
      (hno : PySem.W.findIn K (.ref C) fld = some none) (r : SaidHs K mg sg hds l) :
      SaidHs K mg sg (.ExceptHandler (some (.Name x np)) (some "e") [.Return (some (.List [.Constant (.str word) j p1, .Call (.Name "repr" p2) [.Attribute (.Name "e" p3) fld p4] [] p5] p6)) p7] hp :: hds) ((C, word, fld) :: l)
/-- the reading of a clause's suite -/
def tSaid (K : PySem.W.Frag) (C : Addr) (word fld : Str) : TH := fun a cls d => tRet (tLst (tCons (tC (.str word)) (tCons (tCB (rReprD K) (tCons (tXf a cls d C fld (tVar 1)) tNil)) tNil)))
def saidL (K : PySem.W.Frag) (cl : List (Addr × Str × Str)) : List (Value × Nat × TH) := cl.map fun p => (.ref p.1, 1, tSaid K p.1 p.2.1 p.2.2)
theorem SaidHs.clauses {X : Cx} {sg : Scope} {a : Str} (hN : X.N = [a, "e"]) (hsc : X.env.scope = sg) (he : sg.names.lookup ("e" : Str) = some .local) (hrp : sg.names.lookup ("repr" : Str) = some .globalImplicit) (mrp : X.mg "repr" = none) (hgu : X.A.guards = some []) (hu : X.A.units + 64 < cLine) :
    ∀ {hds : List ExceptHandler} {cl : List (Addr × Str × Str)}, SaidHs X.K X.mg sg hds cl → Clauses X hds (saidL X.K cl)
  | _, _, .nil => .nil
  | _, _, .cons (x := x) (fld := fld) (word := word) (C := C) hx hdx hm T hno r => by
    have ke : X.env.kindOf "e" = some .local := by show X.env.scope.names.lookup ("e" : Str) = _; rw [hsc]; exact he
    have kr : X.env.kindOf "repr" = some .globalImplicit := by show X.env.scope.names.lookup ("repr" : Str) = _; rw [hsc]; exact hrp
    refine .cons (by rw [hN]; rfl) ke ⟨by show X.env.scope.names.lookup x = _; rw [hsc]; exact hx, hdx, .inl hm⟩ (fun b oe cls d pn hz hf => ?_) (SaidHs.clauses hN hsc he hrp mrp hgu hu r)
    have pe : ∀ pp : Pos, PE (X.suite b ((b, oe) :: pn)) (.Name ("e" : Str) pp) (tVar 1) := fun pp => pv 1 (by show X.N[1]? = _; rw [hN]; rfl) (.inl ke)
    exact pss_one (ps_ret (pe_lst (pa_cons pe_str (pa_cons (pe_callB (call_repr (X := X.suite b ((b, oe) :: pn)) hgu hu) kr mrp (by decide +kernel) (pa_cons (pe_xf (pn := pn) T hno hz hf (pe _)) pa_nil)) pa_nil))))
section
variable {K : PySem.W.Frag}
/-- what the clauses wish, from what is known of the exception -/
theorem pick_wish {cl : List (Addr × Str × Str)} {as : List Addr} {M : Ms} {L H : Hp} {C dx : Addr} {gs : List (Str × D)} {fs : List (Str × V)} {out : Str × Str} {D : Ends} {σ : L2.St} (A : At K as M L H) (hd : L dx = some (.xd fs)) (rf : RpF K as L fs gs) (hl : 1 < σ.length)
    (h : PickC K cl C gs out) (q : ∀ p, H p = none → D.rt (.ref p) (upd H p (.lst [.str out.1, .str out.2]))) : wAsM K (fun _ _ _ _ => False) D (saidL K cl) (.ref C) (some dx) σ H := by
  induction cl with
  | nil => exact h.elim
  | cons p cl ih =>
    obtain ⟨C', word, fld⟩ := p
    obtain ⟨b, hb, h1, h0⟩ := h
    refine ⟨b, hb, fun z a ha => ?_, fun z => ih (h0 z)⟩
    obtain ⟨rfl, y, hy, sw, rfl⟩ := h1 z
    obtain ⟨v, hv, rv⟩ := rf.look hy
    exact ⟨_, List.getElem?_set_self hl, rfl, rfl, dx, fs, v, rfl, A.low _ _ hd, hv, v, y, as, L, rfl, A.low, rv, sw, by show 2 ≤ sizeLine; decide, q⟩
end
@[simp] def dSaid (K : PySem.W.Frag) (P : Addr) (lq : Str) (cl : List (Addr × Str × Str)) (dn : Str) (tb : DX) : DE := fun ρ M Pp => (∃ j : Nat, M[j]? = some (MO.tab P lq)) ∧
  tb ρ M (fun _ M1 => Pp (.lst [.str dn]) M1) (fun C gs M1 => ∃ out : Str × Str, PickC K cl C gs out ∧ Pp (.lst [.str out.1, .str out.2]) M1)
section
variable {X : Cx}
theorem pd_said {x a dn : Str} {g c P : Addr} {k : Nat} {st : Stmt} {fd : FuncData} {cl : List (Addr × Str × Str)} {h0 : ExceptHandler} {hds : List ExceptHandler} {params : Arguments} {body : Expr} {scope : Scope} {tb : DX} {p lpos pos p1 p2 p3 p4 p5 p6 p7 : Pos} {j0}
    (hgu : X.A.guards = some []) (Fg : Fun X.K x x st g fd) (Sg : FnScope [a, "e"] [a] (defScope st)) (hb : Binds X.K fd [a] []) (hst : defBody st = [.Try [.Expr (.Call (.Name a p1) [] [] p2) p3] (h0 :: hds) [] [] p4, .Return (some (.List [.Constant (.str dn) j0 p5] p6)) p7])
    (hs : SaidHs X.K X.mg (defScope st) (h0 :: hds) cl) (hg : Gl X x) (hm : X.mg x = some (.ref g)) (mrp : X.mg "repr" = none) (TB : LamX.TabB X.base X.mg c P) (code : X.env.code = .ref c) (hr : Room (k + 2) X.A) (Ls : LamX.LamS X.env.scope scope) (hdef : defaultsOf params X.env = ([], []))
    (hbind : ∀ (q : Str) (cl : List (Str × Addr)) (pm cv ctv : Value), bindArgs (PySem.W.kla_fn "<lambda>" q params body scope cl pm cv ctv) ⟨[], []⟩ = pure [])
    (hva : (defScope st).names.lookup a = some .local := by rfl) (he : (defScope st).names.lookup ("e" : Str) = some .local := by rfl) (hrp : (defScope st).names.lookup ("repr" : Str) = some .globalImplicit := by rfl)
    (hbody : ∀ (A : Around) (outer : List Env) (s : Shared) (H : Hp) (E : XK) (f c' : Addr), Room k (A.deeper (LamX.lamEnv X scope s.heap.objs.size f c')) → PDX (LamX.lamCx X A outer s H E scope f c') E body tb)
    (hdb : (x == ("__debug__" : Str)) = false := by decide) (hda : (a == ("__debug__" : Str)) = false := by decide) (hca : (a == ("__classdict__" : Str)) = false := by decide) :
    PD X (.Call (.Name x p) [.Lambda params body scope lpos] [] pos) (dSaid X.K P (X.env.qual ++ "<lambda>") cl dn tb) := by
  refine ⟨upE X.K _, ⟨fun pins s σ H Q I h => ?_⟩, sim_upE _⟩
  obtain ⟨as, ρ, L, M, Pp, hE, A0, ⟨⟨j, hj⟩, ht⟩, q⟩ := h
  obtain ⟨oc, od, kV, doc, pm, an, cdv, ct, osl, rfl, lk, hcd⟩ := Fg.ex
  refine wpAny_Call_Name_kw (ld_glob I hg hm ?_ hdb)
  refine PySem.W.callWith_K (h₀ := X.base) I.ok.mod.kin Fg.kp ?_ (by rfl) (by rfl)
  show wpAny _ _ (spliced ((false, eval (.Lambda params body scope lpos) X.env) :: backTo pos (starEach [] X.env))) _ _ s
  refine Calls.spliced_cons (lam_at I A0 TB code hj hdef (Ls.has I.ok) fun f c' pm' ctv L1 H1 s1 I1 st1 A1 hf hfn hfr hco => ?_)
  refine Calls.spliced_nil ⟨I1.kIn, ?_⟩
  have hE1 := hE.mono st1.k st1.pre
  -- what the lambda's exceptions wish
  have run : codeAny (model X.prog X.w) X.A (.call (.ref g) ⟨[.ref f], []⟩) (CR C8.CX0 X.stack X.prog X.w H1 s1 Q C8.E0) s1 := by
    refine LamX.run_ofS (CX := C8.CX0) (N := [a, "e"]) (ps := [a]) (us := [.ref f]) (vs := [.ref f]) (Q := Q) (E := C8.E0) lk hcd Sg hr I1.env0 (hb s1 [.ref f] I1.kIn rfl) (.cons rfl .nil) rfl fun hr2 => ?_
    rw [hst]
    have hN1 : (L2.start [a, "e"] [V.ref f]) = [some (V.ref f), none] := rfl
    refine ⟨_, pss_cons (ps_try_asM (X := cxOf C8.CX0 X.prog X.w X.K X.mg X.base [a, "e"] x (defScope st) g cdv X.A X.stack s1 H1 C8.E0)
        (tb := fun W D τ G => τ = [some (V.ref f), none] ∧ ∃ Ech : XK, (∀ cls d τ' G', τ'.length = 2 → Ech cls d G' → W cls d τ' G') ∧ G c' = some (LamX.CodeO c' (X.env.qual ++ "<lambda>")) ∧ upEX X.K Ech tb σ G fun _ G' => D.nx [some (V.ref f), none] G')
        rfl rfl Sg.nd LamX.takes0 (fun W pn xe tk _ => ?_) (SaidHs.clauses (X := cxOf C8.CX0 X.prog X.w X.K X.mg X.base [a, "e"] x (defScope st) g cdv X.A X.stack s1 H1 C8.E0) (a := a) (sg := defScope st) rfl rfl he hrp mrp (show (X.A.deeper _).guards = some [] from hgu) hr2.units hs)) (pss_one (ps_ret (pe_lst (pa_cons pe_str pa_nil)))), ?_⟩
    · refine ⟨fun pins2 s2 τ G D I2 h2 => ?_⟩
      obtain ⟨eτ, Ech, hW, hc2, h3⟩ := h2
      have act := LamX.pe_act (p1 := p1) (p2 := p2) (i := 0) I1 Ls hf hfn hfr (hbind _ _ _ _ _) (Takes.len tk) (fun cls d τ' G' z l => hW cls d τ' G' l z) hr2 (fun A outer s H hr3 => show PE (LamX.lamCx X A outer s H Ech scope f c') body (upEX X.K Ech tb) from (hbody A outer s H Ech f c' hr3).up) rfl (.inl hva) hda hca
      have ex := pss_one (ps_expr (pos := p3) act)
      refine ex.run pins2 s2 τ G D I2 ⟨by rw [eτ]; rfl, hc2, ?_⟩
      rw [eτ]
      exact h3
    · refine ⟨rfl, fun cls d G' => ∃ C gs dx fs L' M', cls = .ref C ∧ d = some dx ∧ Step as L1 H1 as L' G' ∧ At X.K as M' L' G' ∧ (∃ out : Str × Str, PickC X.K cl C gs out ∧ Pp (.lst [.str out.1, .str out.2]) M') ∧ L' dx = some (.xd fs) ∧ RpF X.K as L' fs gs, fun cls d τ' G' l z => ?_, hco, as, ρ, L1, M, _, _, hE1, A1, ht, fun v dd L' G' M' s2 A2 pp rr => ?_, fun C gs dx fs L' G' M' s2 A2 x2 e2 r2 => ⟨C, gs, dx, fs, L', M', rfl, rfl, s2, A2, x2, e2, r2⟩⟩
      · obtain ⟨C, gs, dx, fs, L', M', rfl, rfl, s2, A2, ⟨out, hp, pp⟩, e2, r2⟩ := z
        refine pick_wish A2 e2 r2 (by rw [l]; decide) hp fun pa hpa => ?_
        have lp := lowfree A2 hpa
        exact q _ _ _ _ M' ((st1.trans A1 s2).trans A2 (Step.know A2 hpa)) (A2.know hpa) pp (.lst (.inl (.inl upd_same)) (.cons (.str _) (.cons (.str _) .nil)))
      · refine ⟨by show 1 ≤ sizeLine; decide, fun pa hpa => ?_⟩
        exact q _ _ _ _ M' ((st1.trans A1 s2).trans A2 (Step.know A2 hpa)) (A2.know hpa) pp (.lst (.inl (.inl upd_same)) (.cons (.str _) .nil))
  refine wpAny_call (codeAny_mono run fun r s' hq => ?_)
  match r, hq with
  | .error _, z => exact (show False from z).elim
  | .ok .next, z => exact (show False from z).elim
  | .ok .brk, z => exact (show False from z).elim
  | .ok .cont, z => exact (show False from z).elim
  | .ok (.ret u), z => exact I1.after z
end
end Pd

set_option Elab.async false
set_option linter.all false
set_option maxRecDepth 100000
set_option maxHeartbeats 2000000
/-! The end of a law whose defs hand lambdas on, run where nothing is being shown. -/
namespace Pd
open PySem PySem.Spec PyProof.Rows L2
/-- the heap as the law finds it: the script, if it is not written, and the empty tables -/
def startH (K : PySem.W.Frag) (a : Addr) (o : Obj) (ns : List Int) (Ps : List Addr) : Hp := fun b =>
  if b ∈ Ps then some (.tbl #[]) else if b = a ∧ K.lookup a = none then some (.frz o (.lst (ns.map V.int))) else none
section
variable {P : Program} {w : World} {K : PySem.W.Frag} {mg mb : Str → Option Value} {k : Nat} {fa a : Addr} {cs : List (Addr × Addr)} {fd : FuncData} {x : Str} {sp : Sp} {s : Shared} {vs : List Value} {ns : List Int}
theorem startH_tab {o : Obj} {Ps : List Addr} {p : Addr} (h : p ∈ Ps) : startH K a o ns Ps p = some (.tbl #[]) := if_pos h
theorem startH_cases {o : Obj} {Ps : List Addr} {b : Addr} {u : HO} (h : startH K a o ns Ps b = some u) : (b ∈ Ps ∧ u = .tbl #[]) ∨ (b ∉ Ps ∧ b = a ∧ K.lookup a = none ∧ u = .frz o (.lst (ns.map V.int))) := by
  unfold startH at h
  by_cases hb : b ∈ Ps
  · rw [if_pos hb] at h; cases h; exact .inl ⟨hb, rfl⟩
  · rw [if_neg hb] at h
    by_cases ha : b = a ∧ K.lookup a = none
    · rw [if_pos ha] at h; cases h; exact .inr ⟨hb, ha.1, ha.2, rfl⟩
    · rw [if_neg ha] at h; cases h
theorem law_callT (KX : K.In s.heap) (gl : s.heap.Ns mainGlobals mg) (bl : s.heap.Ns builtinsNs mb) (bb : ∀ y : Str, y ≠ "__name__" → mb y = bootBuiltins y) (lim : s.heap.NoLimit) (gens : s.gens = #[])
    (tabs : ∀ p ∈ cs, s.heap.get? p.2 = some { cls := .none, data := .fields #[] }) (unw : ∀ p ∈ cs, K.lookup p.2 = none) (codes : ∀ p ∈ cs, PySem.W.codeHdIn K p.1 p.2 = true)
    (bmod : ∃ (bm : Addr) (ob : Obj), mg "__builtins__" = some (.ref bm) ∧ bm ≠ builtinsNs ∧ s.heap.get? bm = some ob ∧ ob.cls = .type "module" ∧ ob.dict = some builtinsNs ∧ ob.data = .plain)
    (scr : s.heap.get? a = some { cls := .type "list", data := .seq vs.toArray }) (areInts : IntsAre vs ns) (short : ns.length ≤ sizeLine) (room : Room k callerA)
    (fn : ∀ base : Heap, K.In base → base.Ns mainGlobals mg → (∀ p ∈ cs, LamX.TabB base mg p.1 p.2) → FnG P w K mg base k fa fd [x] sp) (bind : ∀ (s : Shared) (u : Value), BindsTo s fd ⟨[u], []⟩ [(x, u)])
    (ask : ∀ o, SqL K (startH K a o ns (cs.map (·.2))) a (ns.map V.int) → a ∉ cs.map (·.2) → sp [.ref a] (startH K a o ns (cs.map (·.2))) (fun v _ => v = .bl true) E0) :
    codeAny (model P w) callerA (.call (.ref fa) ⟨[.ref a], []⟩) (fun r s' => r = .ok (.ret (.bool true)) ∧ OldK s.heap s'.heap ∧ s'.os = s.os ∧ AllBare s'.gens) s := by
  have rv := vals_ints areInts
  have tabP : ∀ b, b ∈ cs.map (·.2) → s.heap.get? b = some { cls := .none, data := .fields #[] } ∧ K.lookup b = none := fun b hb => by
    obtain ⟨p, hp, rfl⟩ := List.mem_map.mp hb
    exact ⟨tabs p hp, unw p hp⟩
  have na : a ∉ cs.map (·.2) := fun z => by
    have e := (tabP a z).1
    rw [scr] at e
    cases congrArg Obj.data (Option.some.inj e)
  generalize hH : startH K a { cls := .type "list", data := .seq vs.toArray } ns (cs.map (·.2)) = H at *
  have split : ∀ {b : Addr} {u : HO}, H b = some u → (b ∈ cs.map (·.2) ∧ u = .tbl #[]) ∨ (b ∉ cs.map (·.2) ∧ b = a ∧ K.lookup a = none ∧ u = .frz { cls := .type "list", data := .seq vs.toArray } (.lst (ns.map V.int))) := fun {b u} h => startH_cases (by rw [hH]; exact h)
  have okH : HOk P w H s.heap := fun b u h => by
    rcases split h with ⟨hb, rfl⟩ | ⟨_, rfl, _, rfl⟩
    · exact (tabP b hb).1
    · refine ⟨scr, ?_, vs, _, rv, scr⟩
      rw [List.length_map]; exact short
  -- what is tracked is neither written, nor a dict, nor a module
  have untr : ∀ {b : Addr} {o : Obj}, s.heap.get? b = some o → (∀ us n, o.data ≠ .seq us n) → o.data ≠ .fields #[] → H b = none := fun {b o} e h1 h2 => by
    cases q : H b with
    | none => rfl
    | some u =>
      rcases split q with ⟨hb, _⟩ | ⟨_, rfl, _, _⟩
      · rw [(tabP b hb).1] at e; cases e; exact absurd rfl h2
      · rw [scr] at e; cases e; exact absurd rfl (h1 _ _)
  have baseNs : ∀ {b : Addr} {m : Str → Option Value}, s.heap.Ns b m → (hidT s.heap H).Ns b m := fun {b m} ⟨o, es, ep, e, d, r⟩ =>
    ⟨o, es, ep, hidT_get e (untr e (fun us n z => by rw [d] at z; cases z) (fun z => by rw [d] at z; cases z)), d, r⟩
  have baseK : K.In (hidT s.heap H) := fun b o e => hidT_get (KX b o e) (by
    cases q : H b with
    | none => rfl
    | some u =>
      rcases split q with ⟨hb, _⟩ | ⟨_, rfl, hk, _⟩
      · rw [(tabP b hb).2] at e; cases e
      · rw [hk] at e; cases e)
  have baseM : Mod K mg (hidT s.heap H) := by
    obtain ⟨mc, h1, h2⟩ := lim
    exact ⟨baseK, baseNs gl, ⟨mb, baseNs bl, bb⟩, mc, baseNs h1, h2⟩
  have noGl : ∀ {b : Addr} {o : Obj}, s.heap.get? b = some o → (∀ es ep, o.data ≠ .dict es ep) → b ≠ mainGlobals := fun {b o} e h z => by
    obtain ⟨o2, es, ep, e2, d2, _⟩ := gl
    rw [z, e2] at e
    cases e
    exact h _ _ d2
  have baseT : ∀ p ∈ cs, LamX.TabB (hidT s.heap H) mg p.1 p.2 := fun p hp => by
    have tp := tabs p hp
    obtain ⟨bm, ob, b1, b2, b3, b4, b5, b6⟩ := bmod
    have n1 : bm ≠ mainGlobals := noGl b3 fun es ep z => by rw [b6] at z; cases z
    have n2 : bm ≠ p.2 := fun z => by rw [z, tp] at b3; cases b3; cases b6
    have n3 : p.2 ≠ mainGlobals := noGl tp fun es ep z => by cases z
    exact ⟨PySem.W.codeHd_of_K baseK (codes p hp), ⟨bm, ob, b1, b2, n1, n2, hidT_get b3 (untr b3 (fun us n z => by rw [b6] at z; cases z) (fun z => by rw [b6] at z; cases z)), b4, b5, b6⟩, fun z => n3 z.symm⟩
  have e0 : Env0 P w K mg (hidT s.heap H) callerA [] s H := ⟨rfl, baseM, fun b o e => of_hidT e, Nat.le_of_eq (hidT_size _ _), trivial, fun b hb => (List.not_mem_nil hb).elim, okH, .of_eq gens⟩
  have hS : SqL K H a (ns.map V.int) := by
    cases hk : K.lookup a with
    | some o =>
      have e := KX a o hk
      rw [scr] at e
      cases e
      exact .inr ⟨_, vs.toArray, _, hk, rfl, rfl, rfl, by rw [List.size_toArray, areInts.length]; exact short, by simpa using rv⟩
    | none =>
      refine .inl (.inr ⟨{ cls := .type "list", data := .seq vs.toArray }, ?_⟩)
      rw [← hH]
      unfold startH
      rw [if_neg na, if_pos ⟨rfl, hk⟩]
  have q0 := ask { cls := .type "list", data := .seq vs.toArray } (by rw [hH]; exact hS) na
  rw [hH] at q0
  refine codeAny_mono ((fn _ baseK (baseNs gl) baseT).run callerA [] s H ⟨[.ref a], []⟩ [.ref a] [.ref a] _ _ rfl room e0 (bind s (.ref a)) (.cons rfl .nil) q0) fun r s' h => ?_
  match r, h with
  | .error _, z => exact (show False from z).elim
  | .ok .next, z => exact (show False from z).elim
  | .ok .brk, z => exact (show False from z).elim
  | .ok .cont, z => exact (show False from z).elim
  | .ok (.ret u), ⟨v, H', os, bare, un, ok', ru, hv⟩ =>
    cases (show v = .bl true from hv)
    cases (show u = Value.bool true from ru)
    have stays : ∀ b o, s.heap.get? b = some o → b ∉ cs.map (·.2) → s'.heap.get? b = some o := fun b o e nb => by
      cases q : H b with
      | none => exact un.keep b o e q (fun z => List.not_mem_nil z) (fun z => List.not_mem_nil z)
      | some u =>
        rcases split q with ⟨hb, _⟩ | ⟨_, rfl, _, rfl⟩
        · exact absurd hb nb
        · have e1 : s.heap.get? b = some { cls := .type "list", data := .seq vs.toArray } := scr
          rw [e] at e1
          cases e1
          exact (ok' b _ (un.frzs b _ _ q)).1
    have grown : ∀ p ∈ cs, ∃ more : Array Value, s'.heap.get? p.2 = some { cls := .none, data := .fields more } := fun p hp => by
      have hp2 : H p.2 = some (.tbl #[]) := by rw [← hH]; exact startH_tab (List.mem_map.mpr ⟨p, hp, rfl⟩)
      obtain ⟨more, z⟩ := un.tbls p.2 #[] hp2
      exact ⟨_, ok' p.2 _ z⟩
    refine ⟨rfl, ⟨fun b o e => ?_, fun b o e => ?_⟩, os, bare⟩
    · by_cases hb : b ∈ cs.map (·.2)
      · obtain ⟨p, hp, rfl⟩ := List.mem_map.mp hb
        obtain ⟨more, hm⟩ := grown p hp
        rw [tabs p hp] at e
        cases e
        exact .inr (.inl ⟨((PySem.W.codeHd_of_K KX (codes p hp)).tab (tabs p hp)).isCodeTable, rfl, #[], more, rfl, by rw [Array.empty_append]; exact hm⟩)
      · exact .inl (stays b o e hb)
    · by_cases hb : b ∈ cs.map (·.2)
      · obtain ⟨p, hp, rfl⟩ := List.mem_map.mp hb
        obtain ⟨more, hm⟩ := grown p hp
        exact ⟨_, hm⟩
      · exact ⟨o, stays b o e hb⟩
end
end Pd
namespace Pd
open PySem PySem.Spec PyProof.Rows L2
section
variable {P : Program} {w : World} {K : PySem.W.Frag} {mg : Str → Option Value} {base : Heap}
/-- a def run where nothing is being shown, its code object told -/
theorem pd_fnGC {x qual : Str} {st : Stmt} {f c : Addr} {fd : FuncData} {N ps : List Str} {k : Nat} {W : DC} (F : Fun K x qual st f fd) (S : FnScope N ps (defScope st)) (hc : fd.code = .ref c)
    (hbody : ∀ (A : Around) (outer : List Env) (s : Shared) (H : Hp) (E : XK), A.guards = some [] → Room k (A.deeper (envOfC qual (defScope st) s.heap.objs.size f (.ref c))) →
      ∃ t, PDSs (cxOf CX0 P w K mg base N qual (defScope st) f (.ref c) A outer s H E).nox (defBody st) t ∧ ∀ ds M Q, ds.length = ps.length → W ds M Q → t { nx := fun _ M' => Q .non M', rt := Q } (startD N ds) M) :
    FnG P w K mg base (k + 1) f fd ps (spD ps.length W K) := by
  obtain ⟨oc, od, kV, doc, pm, an, cdv, ct, osl, rfl, lk, hcd⟩ := F.ex
  have ec : cdv = .ref c := hc
  subst ec
  have F2 : Fun K x qual st f (PySem.W.fnOf x qual (defArgs st) (defBody st) (defScope st) .none kV doc pm an (.ref c) ct) := F
  refine ⟨fun vs H Q E h => h.1, fun A outer s H args us vs Q E hg hr e0 hb r hsp => ?_⟩
  have old : ∀ b o, base.get? b = some o → s.heap.get? b = some o := fun b o e => (e0.bs b o e).1
  have KX : K.In s.heap := e0.mod.kin.keeps old
  have lim : s.heap.NoLimit := e0.mod.nolimit.keeps old
  obtain ⟨hl, as, M, L, ds, P', rr, A0, hw, q⟩ := hsp
  refine codeAny_call_function hr.depth (KX _ _ lk) rfl S.co S.gen rfl (PySem.W.codeRec_of KX hcd) (hb _ _ _ _ ?_)
  refine wpAny_newFunctionEnv_cells S.kind (fun ⟨n, v⟩ hy => ?_) fun env he s1 xx => ?_
  · rcases S.par n (List.of_mem_zip hy).1 with q | q
    · exact .inl q
    · exact .inr ⟨q, PySem.W.cellsFrom_some _ _ _ (.inl q)⟩
  subst he
  refine ⟨lim.keeps xx.toInCall.keep, codeAny_func ?_⟩
  obtain ⟨t, ht0, hb0⟩ := hbody A outer s H E hg (hr.deeper _)
  obtain ⟨ts, pt, st'⟩ := ht0.ex
  have ht := pt.nox
  have I : Inv (cxOf CX0 P w K mg base N qual (defScope st) f (.ref c) A outer s H E) [] (L2.start N vs) H s1 := inv_start S hr.hd e0 hl r xx
  have hq : ts { nx := fun _ H' => Q .non H', rt := Q } (L2.start N vs) H := st' as (L2.start N vs) (startD N ds) L H M _ _ (en_start rr) A0 (hb0 ds M P' (by rw [← rr.length]; exact hl) hw)
    ⟨fun σ' ρ' L' H' M' s1 A1 _ p => q .non .non L' H' M' s1 A1 p .non, fun v d L' H' M' s1 A1 p r => q v d L' H' M' s1 A1 p r, fun _ _ _ _ _ _ _ _ p => p.elim, fun _ _ _ _ _ _ _ _ p => p.elim⟩
  refine wpAny_mono (ht.run [] s1 (L2.start N vs) H _ I hq) (fun fl s' hs => ?_) fun e s' hs => hs
  match fl, hs with
  | .ret u, ⟨v, σ', H', J, rv, q⟩ => exact ⟨v, H', J.os, J.bare, J.base, J.hok, rv, q⟩
  | .next, ⟨σ', H', J, q⟩ => exact ⟨V.non, H', J.os, J.bare, J.base, J.hok, rfl, q⟩
  | .brk, ⟨_, _, _, q⟩ => exact (show False from q).elim
  | .cont, ⟨_, _, _, q⟩ => exact (show False from q).elim
/-- the tables as the law finds them -/
def tabsM (cs : List (Addr × Addr × Str)) : Ms := cs.map fun t => .tab t.2.1 t.2.2
theorem sp_scriptT {cs : List (Addr × Addr × Str)} {W : DC} {a : Addr} {o : Obj} {ns : List Int} {E : XK} (hS : SqL K (startH K a o ns (cs.map (·.2.1))) a (ns.map V.int)) (na : a ∉ cs.map (·.2.1)) (nd : (cs.map (·.2.1)).Nodup)
    (h : W [.lst (dI ns)] (tabsM cs) fun d _ => d = .bl true) : spD 1 W K [.ref a] (startH K a o ns (cs.map (·.2.1))) (fun v _ => v = .bl true) E := by
  have ri : ∀ {L : Hp} {as : List Addr} (ns : List Int), RpA K as L (ns.map V.int) (dI ns) := fun {L as} ns => by
    induction ns with
    | nil => exact .nil
    | cons n ns ih => exact .cons (.int n) ih
  refine ⟨rfl, cs.map (·.2.1), tabsM cs, fun b => if b ∈ cs.map (·.2.1) then none else startH K a o ns (cs.map (·.2.1)) b, [.lst (dI ns)], fun d _ => d = .bl true, .cons (.lst ?_ (ri ns)) .nil, ⟨fun b u e => ?_, ?_, nd, fun k b m e1 e2 => ?_, fun b ps e => ?_⟩, h, fun v d L' H' M' _ _ e r => ?_⟩
  · rcases hS with (hS | ⟨o2, hS⟩) | hS
    · exact .inl (.inl ((if_neg na).trans hS))
    · exact .inl (.inr ⟨o2, (if_neg na).trans hS⟩)
    · exact .inr hS
  · by_cases hb : b ∈ cs.map (·.2.1)
    · cases (if_pos hb).symm.trans e
    · exact (if_neg hb).symm.trans e
  · unfold tabsM
    rw [List.length_map, List.length_map]
  · have hb : b ∈ cs.map (·.2.1) := List.mem_of_getElem? e1
    refine ⟨if_pos hb, .tbl #[], startH_tab hb, ?_⟩
    unfold tabsM at e2
    rw [List.getElem?_map] at e1 e2
    cases hk : cs[k]? with
    | none => rw [hk] at e1; cases e1
    | some t =>
      rw [hk] at e1 e2
      cases e1
      cases e2
      refine ⟨.tab, rfl, True.intro, fun pos cv hc => ?_⟩
      simp [codeAmong] at hc
  · by_cases hb : b ∈ cs.map (·.2.1)
    · cases (if_pos hb).symm.trans e
    · have e2 := (if_neg hb).symm.trans e
      rcases startH_cases e2 with ⟨hb2, _⟩ | ⟨_, _, _, e3⟩
      · exact absurd hb2 hb
      · cases e3
  · subst e
    cases r
    rfl
end
theorem walk_ofT {l : PySem.W.OpenLaw} {n k : Nat} {q : Program} {loose : List Str} {XP : (Str → Option Value) → Heap → Prop} {YP : World → Heap → Prop} {d : DefRec} {K : Params → PySem.W.Frag} {W : World → (Str → Option Value) → DC} {x : Str}
    (hn : l.most = some n) (hn2 : n ≤ sizeLine) (hdf : d.params.defaults = []) (hr : Room k callerA) (hY : ∀ (w : World) (h : Heap), YP w h → (K w.params).In h)
    (F : ∀ (w : World) (mg : Str → Option Value) (fa : Addr) (h : Heap), (K w.params).In h → h.Ns mainGlobals mg → mg d.name = some (.ref fa) →
      ∃ (fd : FuncData) (cs : List (Addr × Addr × Str)) (W : DC), (∀ t ∈ cs, (K w.params).lookup t.2.1 = none ∧ PySem.W.codeHdIn (K w.params) t.1 t.2.1 = true ∧ ∃ (y : Str) (d' : DefRec), (recsOf q).find? (fun e => e.name == y) = some d' ∧ PySem.W.tabIn (K w.params) y = some (t.1, t.2.1)) ∧ (cs.map (·.2.1)).Nodup ∧
        (∀ (s : Shared) (u : Value), BindsTo s fd ⟨[u], []⟩ [(x, u)]) ∧ (∀ ns : List Int, ns.length ≤ n → W [.lst (dI ns)] (tabsM cs) fun d _ => d = .bl true) ∧
        ∀ base : Heap, (K w.params).In base → base.Ns mainGlobals mg → (∀ t ∈ cs, LamX.TabB base mg t.1 t.2.1) → FnG l.prog w (K w.params) mg base k fa fd [x] (spD 1 W (K w.params))) :
    PySem.W.WalkO q loose XP YP l.row.toRowW d [] (fun f vs => PySem.call f vs) := by
  refine Att.attach_call hn hdf fun w s₀ s₁ mg mb fa o pm cd doc a vs ns G Y ho hd hcd hmg hobj hints hlen hg => ?_
  have KX := hY w _ Y
  obtain ⟨fd, cs, W, hcs, nd, hb, hW, hF⟩ := F w mg fa _ KX G.T.g hmg
  have e1 : (cs.map fun t => (t.1, t.2.1)).map (·.2) = cs.map (·.2.1) := by rw [List.map_map]; rfl
  refine law_callT (cs := cs.map fun t => (t.1, t.2.1)) KX G.T.g G.T.b G.T.builtins G.T.nolimit hg ?_ ?_ ?_ G.T.bmain hobj hints (Nat.le_trans hlen hn2) hr (fun base h1 h2 h3 => hF base h1 h2 fun t ht => h3 _ (List.mem_map.mpr ⟨t, ht, rfl⟩)) hb fun o hS na => ?_
  · intro p hp
    obtain ⟨t, ht, rfl⟩ := List.mem_map.mp hp
    obtain ⟨_, _, y, d', h1, h2⟩ := hcs t ht
    exact (PySem.W.tab_of G.T KX h1 h2).2
  · intro p hp
    obtain ⟨t, ht, rfl⟩ := List.mem_map.mp hp
    exact (hcs t ht).1
  · intro p hp
    obtain ⟨t, ht, rfl⟩ := List.mem_map.mp hp
    exact (hcs t ht).2.1
  · rw [e1] at hS na ⊢
    exact sp_scriptT hS na nd (hW ns hlen)
end Pd

set_option Elab.async false
set_option linter.all false
set_option maxRecDepth 100000
set_option maxHeartbeats 2000000
/-! Own methods and operators that may raise. -/
namespace Pd
open PySem PySem.Spec PyProof.Rows L2 PySem.HandSPX
/-- from what a def asks: one def promise, raising or not -/
theorem spX_of {K : PySem.W.Frag} {as : List Addr} {L H : Hp} {M : Ms} {vs : List V} {ds : List D} {P : D → Ms → Prop} {Xd : XD} {Q : VK} {E : XK} {n : Nat} {W : DCX} (A : At K as M L H) (r : RpA K as L vs ds) (hn : ds.length = n) (h : W ds M P Xd)
    (q : ∀ v z L' H' M', Step as L H as L' H' → At K as M' L' H' → P z M' → Rp K as L' v z → Q v H') (xx : XC K as L H Xd E) : spX n W K vs H Q E := ⟨by rw [r.length]; exact hn, as, M, L, ds, P, Xd, r, A, h, q, xx⟩
section
variable {X : Cx} {E : XK} {k n : Nat} {C g : Addr} {fd : FuncData} {ps : List Str} {W : DCX} {e fe o : Expr} {es : List Expr} {t : DE} {tl : DA} {pos apos : Pos} {m : Str} {pl : Sem Bool}
/-! ### o.m(e, ..) -/
@[simp] def dMethX (C : Addr) (m : Str) (n : Nat) (W : DCX) (t : DE) (tl : DA) : DX := fun ρ M P Xd => t ρ M fun x M1 => ∃ fs, x = .ins C fs ∧ fs.lookup m = none ∧ tl ρ M1 fun ds M2 => ds.length + 1 = n ∧ W (x :: ds) M2 P Xd
theorem sim_methX {K : PySem.W.Frag} {u : TE} {ua : TA} (s : SimE K u t) (sa : SimA K ua tl) : SimEX K E (tMeth C m (spX n W K) [] E u ua) (dMethX C m n W t tl) := by
  intro as σ ρ L H M P Xd Q hE A h q xx
  refine s as σ ρ L H M _ _ hE A h fun v d L1 H1 M1 s1 A1 h1 r1 => ?_
  obtain ⟨fs, rfl, hl, h1⟩ := h1
  have r0 := r1
  cases r1 with
  | ins g1 rf =>
    refine ⟨_, _, _, rfl, A1.low _ _ g1, rf.lookN hl, sa as σ ρ L1 H1 M1 _ _ (hE.mono s1.k s1.pre) A1 h1 fun vs ds L2 H2 M2 s2 A2 h2 r2 => ?_⟩
    rw [List.append_nil]
    have s12 := s1.trans A1 s2
    exact spX_of A2 (.cons (r0.mono s2.k s2.pre) r2) (by rw [List.length_cons]; exact h2.1) h2.2 (fun v z L3 H3 M3 s3 A3 h3 r3 => q v z L3 H3 M3 (s12.trans A2 s3) A3 h3 r3) (xx.step s12 A2)
theorem pdx_meth (tk : Takes X (fun cls d _ H => E cls d H)) (he : PD X o t) (c : Cls X.K C) (hm : Meth X.K C m g) (F : FnOk X.prog X.w X.K X.mg X.base (L2.CX X.prog X.w) k g fd ps (spX n W X.K)) (hr : Room k X.A) (hb : Binds X.K fd ps []) (ha : PDA X (e :: es) tl)
    (hst : starEach (e :: es) X.env = (false, eval e X.env) :: starEach es X.env := by rfl) (hpl : (backTo pos (starEach es X.env)).any (·.1) = false := by rfl)
    (ht : eval (.Call (.Attribute o m apos) (e :: es) [] pos) X.env = (do
      let ov ← eval o X.env
      standAt apos.atName
      let (f, first) ← holding [ov] (getMethod ov m pl)
      callWith pos f first (backTo pos (starEach (e :: es) X.env)) (backToKw pos (keywordEach [] X.env))) := by rfl) :
    PDX X E (.Call (.Attribute o m apos) (e :: es) [] pos) (dMethX C m n W t tl) := by
  obtain ⟨u, p, s⟩ := he.ex
  obtain ⟨ua, pa, sa⟩ := ha.ex
  exact ⟨_, pe_meth p c hm F hr hb .nil (passes_call tk fun _ _ _ _ h => h) pa hst hpl ht, sim_methX s sa⟩
/-- .. where it does not raise -/
@[simp] def dMethN (C : Addr) (m : Str) (n : Nat) (W : DCX) (t : DE) (tl : DA) : DE := fun ρ M P => dMethX C m n W t tl ρ M P xNo
theorem sim_ofX {K : PySem.W.Frag} {te : TE} {t : DX} (s : SimEX K E te t) : SimE K te (fun ρ M P => t ρ M P xNo) := fun as σ ρ L H M P Q hE A h q => s as σ ρ L H M P xNo Q hE A h q XC.no
theorem pd_methN (he : PD X o t) (c : Cls X.K C) (hm : Meth X.K C m g) (F : FnOk X.prog X.w X.K X.mg X.base (L2.CX X.prog X.w) k g fd ps (spX n W X.K)) (hr : Room k X.A) (hb : Binds X.K fd ps []) (ha : PDA X (e :: es) tl)
    (hst : starEach (e :: es) X.env = (false, eval e X.env) :: starEach es X.env := by rfl) (hpl : (backTo pos (starEach es X.env)).any (·.1) = false := by rfl)
    (ht : eval (.Call (.Attribute o m apos) (e :: es) [] pos) X.env = (do
      let ov ← eval o X.env
      standAt apos.atName
      let (f, first) ← holding [ov] (getMethod ov m pl)
      callWith pos f first (backTo pos (starEach (e :: es) X.env)) (backToKw pos (keywordEach [] X.env))) := by rfl) :
    PD X (.Call (.Attribute o m apos) (e :: es) [] pos) (dMethN C m n W t tl) := by
  obtain ⟨u, p, s⟩ := he.ex
  obtain ⟨ua, pa, sa⟩ := ha.ex
  exact ⟨_, pe_meth p c hm F hr hb .nil passL pa hst hpl ht, sim_ofX (sim_methX (E := E0) s sa)⟩
/-! ### x(e, ..) of an instance -/
@[simp] def dCallOX (C : Addr) (n : Nat) (W : DCX) (t : DE) (tl : DA) : DX := fun ρ M P Xd => t ρ M fun x M1 => ∃ fs, x = .ins C fs ∧ tl ρ M1 fun ds M2 => ds.length + 1 = n ∧ W (x :: ds) M2 P Xd
theorem sim_callOX {u : TE} {ua : TA} (s : SimE X.K u t) (sa : SimA X.K ua tl) : SimEX X.K E (StX.tCallO X C (fun vs H Q E => spX n W X.K (vs ++ []) H Q E) E u ua) (dCallOX C n W t tl) := by
  intro as σ ρ L H M P Xd Q hE A h q xx
  refine s as σ ρ L H M _ _ hE A h fun v d L1 H1 M1 s1 A1 h1 r1 => ?_
  obtain ⟨fs, rfl, h1⟩ := h1
  have r0 := r1
  cases r1 with
  | ins g1 _ =>
    refine ⟨_, rfl, sa as σ ρ L1 H1 M1 _ _ (hE.mono s1.k s1.pre) A1 h1 fun vs ds L2 H2 M2 s2 A2 h2 r2 => ⟨.inr ⟨_, _, A2.low _ _ (s2.k _ _ g1)⟩, ?_⟩⟩
    have s12 := s1.trans A1 s2
    show spX n W X.K (_ ++ []) H2 Q E
    rw [List.append_nil]
    exact spX_of A2 (.cons (r0.mono s2.k s2.pre) r2) (by rw [List.length_cons]; exact h2.1) h2.2 (fun v z L3 H3 M3 s3 A3 h3 r3 => q v z L3 H3 M3 (s12.trans A2 s3) A3 h3 r3) (xx.step s12 A2)
theorem pdx_callO (tk : Takes X (fun cls d _ H => E cls d H)) (hf : PD X fe t) (c : StX.CallO X.K C g) (F : FnOk X.prog X.w X.K X.mg X.base (L2.CX X.prog X.w) k g fd ps (spX n W X.K)) (hb : Binds X.K fd ps []) (hr : Room k X.A) (ha : PDA X (e :: es) tl)
    (ht : eval (.Call fe (e :: es) [] pos) X.env = (do callWith pos (← eval fe X.env) [] (backTo pos (starEach (e :: es) X.env)) (backToKw pos (keywordEach [] X.env))) := by rfl)
    (he : starEach (e :: es) X.env = (false, eval e X.env) :: starEach es X.env := by rfl) (hpl : (backTo pos (starEach es X.env)).any (·.1) = false := by rfl) : PDX X E (.Call fe (e :: es) [] pos) (dCallOX C n W t tl) := by
  obtain ⟨u, pf, sf⟩ := hf.ex
  obtain ⟨ua, pa, sa⟩ := ha.ex
  exact ⟨_, StX.pe_callO pf c (F.raw hb .nil) hr (passes_call tk fun _ _ _ _ h => h) pa ht he hpl, sim_callOX sf sa⟩
@[simp] def dCallON (C : Addr) (n : Nat) (W : DCX) (t : DE) (tl : DA) : DE := fun ρ M P => dCallOX C n W t tl ρ M P xNo
theorem pd_callON (hf : PD X fe t) (c : StX.CallO X.K C g) (F : FnOk X.prog X.w X.K X.mg X.base (L2.CX X.prog X.w) k g fd ps (spX n W X.K)) (hb : Binds X.K fd ps []) (hr : Room k X.A) (ha : PDA X (e :: es) tl)
    (ht : eval (.Call fe (e :: es) [] pos) X.env = (do callWith pos (← eval fe X.env) [] (backTo pos (starEach (e :: es) X.env)) (backToKw pos (keywordEach [] X.env))) := by rfl)
    (he : starEach (e :: es) X.env = (false, eval e X.env) :: starEach es X.env := by rfl) (hpl : (backTo pos (starEach es X.env)).any (·.1) = false := by rfl) : PD X (.Call fe (e :: es) [] pos) (dCallON C n W t tl) := by
  obtain ⟨u, pf, sf⟩ := hf.ex
  obtain ⟨ua, pa, sa⟩ := ha.ex
  exact ⟨_, StX.pe_callO pf c (F.raw hb .nil) hr passL pa ht he hpl, sim_ofX (sim_callOX (E := E0) sf sa)⟩
end
/-! ### o[i] by an own __getitem__ -/
section
variable {X : Cx} {E : XK} {k n : Nat} {C g : Addr} {fd : FuncData} {ps : List Str} {W : DCX} {a b : Expr} {ta tb : DE} {pos : Pos}
/-- a def called one step deeper by the machine -/
theorem run_in1 {CX : CXT} {sp : Sp} (F : FnOk X.prog X.w X.K X.mg X.base CX k g fd ps sp) (hb : Binds X.K fd ps []) (hr : Room (k + 1) X.A) (hx : Passes CX X E) {pins : List (Addr × Obj)} {σ : L2.St} {H : Hp} {s : Shared} {us : List Value} {vs : List V} {Q : VK} (I : Inv X pins σ H s) (r : Vals vs us) (h : sp vs H Q E) :
    wpAny (model X.prog X.w) X.A.in1 (call (.ref g) us) (EP X pins σ Q) X.xe s := by
  have hl : us.length = ps.length := r.length.symm.trans (F.len _ _ _ _ h)
  have b := hb s us I.kIn (by rw [List.append_nil]; exact hl)
  rw [List.append_nil] at b
  refine wpAny_call (codeAny_mono (F.run X.A.in1 X.stack s H ⟨us, []⟩ us vs Q E hr.in1 I.env0.in1 b r h) fun r s' hq => ?_)
  match r, hq with
  | .error e, z => exact hx pins σ H s e s' I z
  | .ok (.ret u), z => exact I.after z
  | .ok .next, z => exact (show False from z).elim
  | .ok .brk, z => exact (show False from z).elim
  | .ok .cont, z => exact (show False from z).elim
def rOwnIx (K : PySem.W.Frag) (C : Addr) (n : Nat) (W : DCX) (E : XK) : R2 := fun x y H Q => ∃ a dx fs, x = .ref a ∧ H a = some (.ins C dx fs) ∧ spX n W K [x, y] H Q E
/-- the place of a subscript that is no slice -/
abbrev SubIx (b : Expr) : Prop := ∀ x i, subscripted b true (.ref x) i = runValue (.builtin "lifetime.subscript" ⟨[.ref x, i], []⟩)
theorem pe_ownIx {ua ub : TE} (hx : Passes (L2.CX X.prog X.w) X E) (hs : PySem.W.findIn X.K (.ref C) "__getitem__" = some (some (.ref g))) (hf : PySem.W.fnIn X.K g = true) (hfn : PySem.W.isFn X.K (.ref g) = true) (F : FnOk X.prog X.w X.K X.mg X.base (L2.CX X.prog X.w) k g fd ps (spX n W X.K)) (hb : Binds X.K fd ps []) (hr : Room (k + 1) X.A)
    (pa : PE X a ua) (pb : PE X b ub) (hsl : SubIx b := by exact fun _ _ => by with_unfolding_all rfl) : PE X (.Subscript a b pos) (tOp (rOwnIx X.K C n W E) ua ub) := by
  refine ⟨fun pins s σ H Q I h => Subscript_ (binT pa pb I h fun v u s2 x y H2 I2 rx ry q => ?_)⟩
  obtain ⟨a', dx, fs, rfl, ha, q⟩ := q
  cases (show v = Value.ref a' from rx)
  obtain ⟨mA, O, _⟩ := ins_get I2.hok ha
  obtain ⟨od, J, _⟩ := O.look
  obtain ⟨m, hF⟩ := I2.fr
  exact PySem.W.sub_K hF I2.ok.mod.kin J hs hf hfn (run_in1 (us := [.ref a', u]) (vs := [.ref a', y]) F hb hr hx I2 (.cons rfl (.cons ry .nil)) q) (hsl _ _)
@[simp] def dOwnIxX (C : Addr) (W : DCX) (ta tb : DE) : DX := fun ρ M P Xd => ta ρ M fun x M1 => tb ρ M1 fun y M2 => ∃ fs, x = .ins C fs ∧ W [x, y] M2 P Xd
theorem sim_ownIx {K : PySem.W.Frag} {ua ub : TE} (sa : SimE K ua ta) (sb : SimE K ub tb) : SimEX K E (tOp (rOwnIx K C 2 W E) ua ub) (dOwnIxX C W ta tb) := by
  intro as σ ρ L H M P Xd Q hE A h q xx
  refine sa as σ ρ L H M _ _ hE A h fun v d L1 H1 M1 s1 A1 h1 r1 => ?_
  refine sb as σ ρ L1 H1 M1 _ _ (hE.mono s1.k s1.pre) A1 h1 fun w e L2 H2 M2 s2 A2 h2 r2 => ?_
  obtain ⟨fs, rfl, h2⟩ := h2
  have s12 := s1.trans A1 s2
  have r0 := r1.mono s2.k s2.pre
  cases r1 with
  | ins g1 _ => exact ⟨_, _, _, rfl, A2.low _ _ (s2.k _ _ g1), spX_of A2 (.cons r0 (.cons r2 .nil)) rfl h2 (fun v z L3 H3 M3 s3 A3 h3 r3 => q v z L3 H3 M3 (s12.trans A2 s3) A3 h3 r3) (xx.step s12 A2)⟩
theorem pdx_ownIx (tk : Takes X (fun cls d _ H => E cls d H)) (hs : PySem.W.findIn X.K (.ref C) "__getitem__" = some (some (.ref g))) (hf : PySem.W.fnIn X.K g = true) (hfn : PySem.W.isFn X.K (.ref g) = true) (F : FnOk X.prog X.w X.K X.mg X.base (L2.CX X.prog X.w) k g fd ps (spX 2 W X.K)) (hb : Binds X.K fd ps []) (hr : Room (k + 1) X.A)
    (ha : PD X a ta) (hb' : PD X b tb) (hsl : SubIx b := by exact fun _ _ => by with_unfolding_all rfl) : PDX X E (.Subscript a b pos) (dOwnIxX C W ta tb) := by
  obtain ⟨ua, pa, sa⟩ := ha.ex
  obtain ⟨ub, pb, sb⟩ := hb'.ex
  exact ⟨_, pe_ownIx (passes_call tk fun _ _ _ _ h => h) hs hf hfn F hb hr pa pb hsl, sim_ownIx sa sb⟩
@[simp] def dOwnIxN (C : Addr) (W : DCX) (ta tb : DE) : DE := fun ρ M P => dOwnIxX C W ta tb ρ M P xNo
theorem pd_ownIxN (hs : PySem.W.findIn X.K (.ref C) "__getitem__" = some (some (.ref g))) (hf : PySem.W.fnIn X.K g = true) (hfn : PySem.W.isFn X.K (.ref g) = true) (F : FnOk X.prog X.w X.K X.mg X.base (L2.CX X.prog X.w) k g fd ps (spX 2 W X.K)) (hb : Binds X.K fd ps []) (hr : Room (k + 1) X.A)
    (ha : PD X a ta) (hb' : PD X b tb) (hsl : SubIx b := by exact fun _ _ => by with_unfolding_all rfl) : PD X (.Subscript a b pos) (dOwnIxN C W ta tb) := by
  obtain ⟨ua, pa, sa⟩ := ha.ex
  obtain ⟨ub, pb, sb⟩ := hb'.ex
  exact ⟨_, pe_ownIx (E := E0) passL hs hf hfn F hb hr pa pb hsl, sim_ofX (sim_ownIx (E := E0) sa sb)⟩
end
/-! ### x in o, x not in o, len(o) -/
section
variable {X : Cx} {k : Nat} {C g : Addr} {fd : FuncData} {ps : List Str} {W : DC}
def rOwnIn (K : PySem.W.Frag) (C : Addr) (W : DC) (f : Bool → Bool) : R2 := fun x y H Q => ∃ a dx fs, y = .ref a ∧ H a = some (.ins C dx fs) ∧ spD 2 W K [y, x] H (fun z H' => ∃ b, z = .bl b ∧ Q (.bl (f b)) H') E0
theorem op_ownIn (hs : PySem.W.findIn X.K (.ref C) "__contains__" = some (some (.ref g))) (hf : PySem.W.isFn X.K (.ref g) = true) (F : FnOk X.prog X.w X.K X.mg X.base CX0 k g fd ps (spD 2 W X.K)) (hb : Binds X.K fd ps []) (hr : Room k X.A) : OpR X (compareOp .In) (rOwnIn X.K C W id) := by
  intro pins s σ H x y v u Q I rx ry h
  obtain ⟨a, dx, fs, rfl, ha, q⟩ := h
  cases (show u = Value.ref a from ry)
  obtain ⟨mA, O, _⟩ := ins_get I.hok ha
  obtain ⟨od, J, _⟩ := O.look
  obtain ⟨m, hF⟩ := I.fr
  refine PySem.W.in_K hF I.ok.mod.kin J hs hf (wpAny_mono (run2 (us := [.ref a, v]) (vs := [.ref a, x]) F hb hr I (.cons rfl (.cons rx .nil)) q) (fun w s' z => ?_) fun _ _ x => x)
  obtain ⟨z', H', I', rz, b, rfl, qz⟩ := z
  cases (show w = Value.bool b from rz)
  exact wpAny_truthy_bool ⟨.bl b, H', I', rfl, qz⟩
theorem op_ownNotIn (hs : PySem.W.findIn X.K (.ref C) "__contains__" = some (some (.ref g))) (hf : PySem.W.isFn X.K (.ref g) = true) (F : FnOk X.prog X.w X.K X.mg X.base CX0 k g fd ps (spD 2 W X.K)) (hb : Binds X.K fd ps []) (hr : Room k X.A) : OpR X (compareOp .NotIn) (rOwnIn X.K C W (!·)) := by
  intro pins s σ H x y v u Q I rx ry h
  obtain ⟨a, dx, fs, rfl, ha, q⟩ := h
  cases (show u = Value.ref a from ry)
  obtain ⟨mA, O, _⟩ := ins_get I.hok ha
  obtain ⟨od, J, _⟩ := O.look
  obtain ⟨m, hF⟩ := I.fr
  refine PySem.W.notIn_K hF I.ok.mod.kin J hs hf (wpAny_mono (run2 (us := [.ref a, v]) (vs := [.ref a, x]) F hb hr I (.cons rfl (.cons rx .nil)) q) (fun w s' z => ?_) fun _ _ x => x)
  obtain ⟨z', H', I', rz, b, rfl, qz⟩ := z
  cases (show w = Value.bool b from rz)
  exact wpAny_truthy_bool ⟨.bl (!b), H', I', rfl, qz⟩
@[simp] def oOwnIn (C : Addr) (W : DC) (f : Bool → Bool) : D2 := fun x y M P => ∃ fs, y = .ins C fs ∧ W [y, x] M fun z M' => ∃ b, z = .bl b ∧ P (.bl (f b)) M'
theorem sr_ownIn {K : PySem.W.Frag} {f : Bool → Bool} : SimR K (rOwnIn K C W f) (oOwnIn C W f) := by
  intro as L H M x y d e P Q A r1 r2 ⟨fs, h1, p⟩ q
  subst h1
  have r2' := r2
  cases r2 with
  | ins g1 _ =>
    refine ⟨_, _, _, rfl, A.low _ _ g1, sp_of A (.cons r2' (.cons r1 .nil)) rfl p fun v z L' H' M' s' A' h' r' => ?_⟩
    obtain ⟨b, rfl, p2⟩ := h'
    cases r'
    exact ⟨b, rfl, q _ _ L' H' M' s' A' p2 (.bl _)⟩
def rOwnLen (K : PySem.W.Frag) (C : Addr) (W : DC) : List V → Hp → VK → Prop := fun xs H Q => ∃ a dx fs, xs = [.ref a] ∧ H a = some (.ins C dx fs) ∧ spD 1 W K xs H (fun z H' => ∃ i : Int, z = .int i ∧ (0 ≤ i ∧ i < 2 ^ 63) ∧ Q (.int i) H') E0
theorem call_ownLen (hs : PySem.W.findIn X.K (.ref C) "__len__" = some (some (.ref g))) (hf : PySem.W.isFn X.K (.ref g) = true) (F : FnOk X.prog X.w X.K X.mg X.base CX0 k g fd ps (spD 1 W X.K)) (hb : Binds X.K fd ps []) (hr : Room (k + 1) X.A) : CallR X (.builtin "len") (rOwnLen X.K C W) := by
  intro pins s σ H xs us Q I r h
  obtain ⟨a, dx, fs, rfl, ha, q⟩ := h
  obtain ⟨u, rfl, rx⟩ := vals1 r
  cases (show u = Value.ref a from rx)
  obtain ⟨mA, O, _⟩ := ins_get I.hok ha
  obtain ⟨od, J, _⟩ := O.look
  obtain ⟨m, hF⟩ := I.fr
  refine PySem.W.len_K hF I.ok.mod.kin J hs hf (wpAny_mono (run_in1 (us := [.ref a]) (vs := [.ref a]) F hb hr pass0 I (.cons rfl .nil) q) (fun w s' z => ?_) fun _ _ x => x)
  obtain ⟨z', H', I', rz, i, rfl, hi, qz⟩ := z
  obtain ⟨tk, rfl⟩ := (show ∃ t, w = Value.int i t from rz)
  exact ⟨hi, ⟨.int i, H', I'.tok _, ⟨_, rfl⟩, qz⟩⟩
@[simp] def oOwnLen (C : Addr) (W : DC) : DC := fun xs M P => ∃ fs, xs = [.ins C fs] ∧ W xs M fun z M' => ∃ i : Int, z = .int i ∧ (0 ≤ i ∧ i < 2 ^ 63) ∧ P (.int i) M'
theorem sc_ownLen {K : PySem.W.Frag} : SimC K (rOwnLen K C W) (oOwnLen C W) := by
  intro as L H M xs ds P Q A r ⟨fs, h, p⟩ q
  subst h
  have r' := r
  cases r with
  | cons r1 r2 =>
    cases r2
    cases r1 with
    | ins g1 _ =>
      refine ⟨_, _, _, rfl, A.low _ _ g1, sp_of A r' rfl p fun v z L' H' M' s' A' h' rr => ?_⟩
      obtain ⟨i, rfl, hi, p2⟩ := h'
      cases rr
      exact ⟨i, rfl, hi, q _ _ L' H' M' s' A' p2 (.int _)⟩
end
end Pd

set_option Elab.async false
set_option linter.all false
set_option maxRecDepth 100000
set_option maxHeartbeats 1000000
namespace Pd
open PySem PySem.Spec PyProof.Rows L2

/-! ### enumerate over a list or a tuple -/
theorem newClassE (v : Value) : Builtin.SmallTypes.newClass "enumerate" { pos := [Value.type "enumerate", v] } = pure (Value.type "enumerate", [v]) := by
  unfold Builtin.SmallTypes.newClass
  simp only
  rw [sub_enumerate]
  rfl
theorem enew_eq (v : Value) : Builtin.«enumerate.__new__» { pos := [Value.type "enumerate", v] } = (do
    let _ ← Builtin.SmallTypes.calledThroughType (Value.type "enumerate")
    let it ← pyIter v
    let r ← newObj (Value.type "enumerate") (Data.fields #[Value.none, Value.bool false, it, rawInt 0, Value.none, Value.none])
    ret r) := by
  unfold Builtin.«enumerate.__new__»
  rw [newClassE]
  simp only [pure_bind]
  rw [if_pos (by decide)]
  congr 1
  funext b
  cases b <;> rfl
theorem meets_enumG {v : Value} {o : Obj} {C : Heap → Prop} (B : Begins v o C) : Meets (Builtin.«enumerate.__new__» { pos := [Value.type "enumerate", v] }) fun _ R s => C s.heap ∧
    R (.ok (.ret (.ref (s.heap.push o).objs.size))) { s with heap := (s.heap.push o).push { cls := .type "enumerate", data := .fields #[.none, .bool false, .ref s.heap.objs.size, rawInt 0, .none, .none] } } := by
  intro prog w A R s ⟨h, r⟩
  rw [enew_eq]
  refine wpAny_bind ?_
  unfold Builtin.SmallTypes.calledThroughType
  refine wpAny_bind (wpAny_stack fun st _ _ _ => ?_)
  refine wpAny_pure ?_
  refine wpAny_bind (B.iter _ _ _ _ s _ h ?_)
  refine wpAny_bind (wpAny_newObj_type ?_)
  exact wpAny_pure r
theorem enum_begins {prog : Program} {w : World} {A : Around} {E : Value → Shared → Prop} {s : Shared} {v : Value} {o : Obj} {C : Heap → Prop} {Q : Value → Shared → Prop} (B : Begins v o C) (h : C s.heap)
    (q : ∀ h' : Heap, IsEnum h' (s.heap.objs.size + 1) s.heap.objs.size 0 .none → h'.get? s.heap.objs.size = some o → h'.objs.size = s.heap.objs.size + 2 → (∀ b o', s.heap.get? b = some o' → h'.get? b = some o') → Q (.ref (s.heap.objs.size + 1)) { s with heap := h' }) :
    wpAny (model prog w) A (call (.type "enumerate") [v]) Q E s := by
  have e1 : (s.heap.push o).objs.size = s.heap.objs.size + 1 := by simp [Heap.push]
  have g0 : ((s.heap.push o).push { cls := .type "enumerate", data := .fields #[.none, .bool false, .ref s.heap.objs.size, rawInt 0, .none, .none] }).get? (s.heap.objs.size + 1) = some { cls := .type "enumerate", data := .fields #[.none, .bool false, .ref s.heap.objs.size, rawInt 0, .none, .none] } :=
    Heap.get?_push_at e1.symm rfl
  refine callType_new F.called_enumerate (by decide) (F.typeCall_enumerate_1 _) (F.newCall_enumerate_1 _) (fun obj => rfl) F.entry_enumerate_new (meets_enumG B) ⟨h, ?_⟩
  refine ⟨?_, ?_⟩
  · rw [e1]
    exact ⟨_, g0, rfl⟩
  · rw [e1]
    refine q _ g0 ?_ (by simp [Heap.push]) fun b o' hb => ?_
    · exact Heap.get?_push_of_some _ (Heap.get?_push_size _ B.free)
    · exact Heap.get?_push_of_some _ (Heap.get?_push_of_some _ hb)
def IteK (K : PySem.W.Frag) (k : Kd) (a : Addr) : It :=
  ⟨fun i H => ∃ (xs : List V) (x : V), SqK K k H a xs ∧ xs[i]? = some x,
    fun i H v H' => ∃ T x, v = .ref T ∧ H T = none ∧ H' = upd H T (.tup [.int (i : Nat), x]) ∧ ∀ xs, SqK K k H a xs → xs[i]? = some x,
    fun i H => ∃ xs : List V, SqK K k H a xs ∧ i = xs.length⟩
theorem turn_enumK {P : Program} {w : World} {K : PySem.W.Frag} {elts : List Expr} {kk : Nat} {tpos : Pos} (k : Kd) {a e it : Addr} (hne : a ≠ it) (hea : a ≠ e) (he : e ≠ it) :
    Turn P w K (.Tuple elts kk tpos) (IteK K k a) [e, it] e (fun i h => (∃ old, IsEnum h e it (i : Nat) old) ∧ IterK k h it a i) where
  mem := by simp
  obj := fun i h st c hc => by
    obtain ⟨⟨old, h1⟩, h2⟩ := st
    have e' : c = e ∨ c = it := by simpa using hc
    rcases e' with q | q
    · rw [q]; exact ⟨_, h1, fun v q => nomatch q⟩
    · rw [q]; exact iterK_obj h2
  keep := fun i h h' st kp => by
    obtain ⟨⟨old, h1⟩, h2⟩ := st
    exact ⟨⟨old, kp e (by simp) _ h1⟩, iterK_at h2 fun o q => kp it (by simp) o q⟩
  item := by
    intro X hP hw hK hc i pins s σ H E I hf st hg
    subst hP hw hK
    obtain ⟨⟨old, h1⟩, h2⟩ := st
    obtain ⟨xs, x, hq, hx⟩ := hg
    obtain ⟨its, rv, p, _⟩ := sqK_at I hq
    obtain ⟨u, hu, ru⟩ := rv.get hx
    have hel : e < s.heap.objs.size := Heap.lt_size h1
    have hi1 : i < its.toArray.size := by simpa using (List.getElem?_eq_some_iff.mp hu).1
    refine wpAny_pyNext_enum_itemD (drawsK k (A := X.A.in1) (I.ok.hd hc) it a hne its.toArray) h1 ⟨h2, p⟩ hi1 he (by simp; exact ⟨he, fun z => hea z.symm⟩) fun x1 h' tk g1 z1 st1 hT hsz hk => ?_
    have e1 : x1 = u := by
      have g1' : its[i]? = some x1 := by simpa using g1
      rw [hu] at g1'; exact (Option.some.inj g1').symm
    subst e1
    refine ⟨_, rfl, wpAny_letOwnedTupleGo_enum (s := { s with heap := h', toks := tk + 1 }) z1 fun h'' z'' sb => ?_⟩
    have hT2 : h''.get? s.heap.objs.size = some { cls := .type "tuple", data := .seq #[.int (i : Nat) tk, x1] } := (sb.2 _ (Nat.ne_of_gt hel)).trans hT
    have new : ObjOk X.prog X.w (upd H s.heap.objs.size (.tup [.int (i : Nat), x])) h'' s.heap.objs.size (.tup [.int (i : Nat), x]) :=
      ⟨by show 2 ≤ sizeLine; decide, [.int (i : Nat) tk, x1], .cons ⟨_, rfl⟩ (.cons ru .nil), ⟨_, hT2, rfl, _, rfl⟩⟩
    have I1 : Inv X pins σ (upd H s.heap.objs.size (.tup [.int (i : Nat), x])) { s with heap := h'', toks := tk + 1 } :=
      I.turnedNew (t' := tk + 1) (ch := [e, it]) (fun c o hb q => (sb.2 c (fun q' => hb (by simp [q']))).trans (hk c o (fun q' => hb (by simp [q'])) (fun q' => hb (by simp [q'])) q)) hf (Nat.le_refl _) new
    refine ⟨.ref s.heap.objs.size, _, I1, rfl, ⟨_, x, rfl, I.hok.fresh (Nat.le_refl _), rfl, fun l hl => by rw [sqK_inj I hl hq]; exact hx⟩, ⟨⟨_, by simpa using z''⟩, ?_⟩, fun c hcm => ?_⟩
    · exact iterK_at st1.1 fun o q => (sb.2 _ (fun z => he z.symm)).trans q
    · have hlt : c < s.heap.objs.size := by
        have e' : c = e ∨ c = it := by simpa using hcm
        rcases e' with q | q
        · rw [q]; exact hel
        · rw [q]; obtain ⟨_, e1, _⟩ := iterK_obj h2; exact Heap.lt_size e1
      rw [upd_ne (Nat.ne_of_lt hlt)]
      exact (hf c hcm).1
  done := by
    intro X hP hw hK hc i pins s σ H E I hf st hg
    subst hP hw hK
    obtain ⟨⟨old, h1⟩, h2⟩ := st
    obtain ⟨xs, hq, hend⟩ := hg
    obtain ⟨its, rv, p, _⟩ := sqK_at I hq
    have l1 := rv.length
    have hn : its.toArray.size = i := by simp; omega
    refine wpAny_pyNext_enum_endD (drawsK k (A := X.A.in1) (I.ok.hd hc) it a hne its.toArray) h1 (by rw [hn]; exact ⟨h2, p⟩) fun h' hk => ?_
    exact ⟨rfl, I.turnedL (t' := s.toks) (ch := [e, it]) (fun c o hb q => hk c o (fun q' => hb (by simp [q'])) q) hf⟩
  self := fun A i s Q E st h => by obtain ⟨⟨old, h1⟩, _⟩ := st; exact wpAny_pyIter_enum h1 h
def iEnumK (K : PySem.W.Frag) (ta : TA) : TI := fun σ H R => ta σ H fun vs H1 => ∃ k a xs, vs = [.ref a] ∧ SqK K k H1 a xs ∧ R (IteK K k a) H1
section
variable {X : Cx} {e : Expr} {pos p tpos : Pos} {elts : List Expr} {kk : Nat} {tl : DA}
theorem pi_enumK {ta : TA} (hg : Gl X "enumerate") (hm : X.mg "enumerate" = none) (ha : PA X [e] ta)
    (hs : starEach [e] X.env = (false, eval e X.env) :: starEach [] X.env := by rfl) (hpl : (backTo pos (starEach [] X.env)).any (·.1) = false := by rfl) :
    PI X (.Tuple elts kk tpos) (.Call (.Name "enumerate" p) [e] [] pos) (iEnumK X.K ta) := by
  refine ⟨fun pins s σ H R I h => ?_⟩
  refine Call_ (ld_blt I hg hm PyProof.Rows.boot_enumerate (PyProof.Rows.callWith_type1 (thn (ha.run pos pins s σ H _ I h) fun us s1 ⟨vs, H1, I1, r1, q1⟩ => ?_) hs hpl))
  obtain ⟨k, a, xs, ex, hq, q⟩ := q1
  subst ex
  cases r1 with
  | cons r rr =>
    cases rr
    cases r
    obtain ⟨its, rv, p1, l1⟩ := sqK_at I1 hq
    have fresh2 : ∀ c, c ∈ [s1.heap.objs.size + 1, s1.heap.objs.size] → FpOk X pins H1 c := fun c hcm => by
      have e' : c = s1.heap.objs.size + 1 ∨ c = s1.heap.objs.size := by simpa using hcm
      have hle : s1.heap.objs.size ≤ c := by rcases e' with z | z <;> omega
      exact I1.fpOk hle (I1.hok.fresh hle)
    refine enum_begins (beginsK k a its.toArray) p1 fun h' hz h1 hsz hk => wpAny_pyIter_enum hz ?_
    have I2 : Inv X pins σ H1 { s1 with heap := h' } := I1.kept (t' := s1.toks) hk
    exact ⟨s1.heap.objs.size + 1, [s1.heap.objs.size + 1, s1.heap.objs.size], _, _, H1, rfl, I2, turn_enumK k (Nat.ne_of_lt l1) (Nat.ne_of_lt (Nat.lt_succ_of_lt l1)) (Nat.succ_ne_self _), ⟨⟨_, hz⟩, iterK_new h1⟩, fresh2, q⟩
@[simp] def iEnK (tl : DA) : DA := fun ρ M P => tl ρ M fun ds M1 => ∃ d xs, ds = [d] ∧ isSeq d xs ∧ P (numd 0 xs) M1
theorem walks_enumK {K : PySem.W.Frag} {as : List Addr} {L0 : Hp} {k : Kd} {a : Addr} {xs : List V} {ds : List D} (h1 : SqK K k L0 a xs) (r1 : RpA K as L0 xs ds) : Walks K (IteK K k a) as L0 (numd 0 ds) := by
  intro L H M e A
  have g1 := ex_k (e.trans A.low) h1
  refine ⟨fun i hi => ?_, xs, g1, by rw [numd_len, r1.length]⟩
  rw [numd_len] at hi
  have i1 : i < xs.length := by rw [r1.length]; omega
  refine ⟨⟨xs, _, g1, List.getElem?_eq_getElem i1⟩, fun v H' y => ?_⟩
  obtain ⟨T, x, rfl, hT, rfl, f1⟩ := y
  obtain ⟨d1, q1, w1⟩ := r1.getV (f1 xs g1)
  have lT := lowfree A hT
  refine ⟨_, upd L T (.tup [.int (i : Nat), x]), numd_get ds 0 i d1 q1, Step.know A hT, A.know hT, .tup (.inl (.inl upd_same)) (.cons ?_ (.cons (w1.mono (e.trans (Ex.new lT)) (Pre.refl _)) .nil))⟩
  rw [Nat.zero_add]
  exact .int _
theorem pdi_enumK (hg : Gl X "enumerate") (hm : X.mg "enumerate" = none) (ha : PDA X [e] tl)
    (hs : starEach [e] X.env = (false, eval e X.env) :: starEach [] X.env := by rfl) (hpl : (backTo pos (starEach [] X.env)).any (·.1) = false := by rfl) : PDI X (.Tuple elts kk tpos) (.Call (.Name "enumerate" p) [e] [] pos) (iEnK tl) := by
  obtain ⟨u, pa, s⟩ := ha.ex
  refine ⟨_, pi_enumK hg hm pa hs hpl, ?_⟩
  intro as σ ρ L H M P R hE A h q
  refine s as σ ρ L H M _ _ hE A h fun vs ds L1 H1 M1 s1 A1 h1 r1 => ?_
  obtain ⟨d, xs, rfl, hd, p⟩ := h1
  cases r1 with
  | cons ra rb =>
    cases rb
    obtain ⟨k, a, xv, rfl, g1, w1⟩ := rp_seq ra hd
    exact ⟨k, a, xv, rfl, ex_k A1.low g1, q _ _ L1 H1 M1 s1 A1 p (walks_enumK g1 w1)⟩
end
end Pd

set_option Elab.async false
set_option linter.all false
set_option maxRecDepth 100000
set_option maxHeartbeats 1000000
namespace Pd
open PySem PySem.Spec PyProof.Rows L2

/-! ### [e for a in xs if c for b in ys if d] -/
def upI (K : PySem.W.Frag) (t : DA) : TI := fun σ H R => ∃ as ρ L M P, En K as L σ ρ ∧ At K as M L H ∧ t ρ M P ∧ ∀ J ds L' H' M', Step as L H as L' H' → At K as M' L' H' → P ds M' → Walks K J as L' ds → R J H'
theorem sim_upI {K : PySem.W.Frag} (t : DA) : SimI K (upI K t) t := fun as σ ρ L H M P R hE A h q => ⟨as, ρ, L, M, P, hE, A, h, q⟩
theorem PDI.up {X : Cx} {tg iter : Expr} {t : DA} (h : PDI X tg iter t) : PI X tg iter (upI X.K t) := by
  obtain ⟨u, p, s⟩ := h.ex
  exact ⟨fun pins sh σ H R I ⟨as, ρ, L, M, P, hE, A, h, q⟩ => p.run pins sh σ H R I (s as σ ρ L H M P R hE A h q)⟩
def lcIn (g : DG) (tt : DT) (te : DE) (ρ : Rho) (k : List D → Ms → Prop) : List D → List D → Ms → Prop
  | [], acc, M => k acc M
  | d :: r, acc, M => g d ρ fun ρ' => tt ρ' M fun b M1 => if b = true then te ρ' M1 fun y M2 => acc.length < sizeLine ∧ lcIn g tt te ρ k r (acc ++ [y]) M2 else lcIn g tt te ρ k r acc M1
def lc2Run (g : DG) (tt : DT) (it1 : DA) (g1 : DG) (tt1 : DT) (te : DE) (vs1 : List Nat) (ρ : Rho) (P : D → Ms → Prop) : List D → List D → Ms → Prop
  | [], acc, M => P (.lst acc) M
  | d :: r, acc, M => g d ρ fun ρ' => tt ρ' M fun b M1 => if b = true then it1 ρ' M1 fun ds1 M2 => lcIn g1 tt1 te (wipeR ρ' vs1) (fun acc' M' => lc2Run g tt it1 g1 tt1 te vs1 ρ P r acc' M') ds1 acc M2 else lc2Run g tt it1 g1 tt1 te vs1 ρ P r acc M1
@[simp] def dLc2 (it : DA) (g : DG) (tt : DT) (it1 : DA) (g1 : DG) (tt1 : DT) (te : DE) (vs vs1 : List Nat) : DE := fun ρ M P => it ρ M fun ds M1 => lc2Run g tt it1 g1 tt1 te vs1 (wipeR ρ vs) P ds [] M1
theorem sim_lc2 {K : PySem.W.Frag} {wi wi1 : TI} {it it1 : DA} {g' g1' : TG} {g g1 : DG} {us us1 : List Nat} {ut ut1 : TT} {tt tt1 : DT} {ue : TE} {te : DE} {vs vs1 : List Nat} (hus : ∀ i ∈ us, i ∈ vs) (hus1 : ∀ i ∈ us1, i ∈ vs1)
    (s : SimI K wi it) (sg : SimG K g' g us) (st : SimT K ut tt) (si1 : SimI K wi1 it1) (sg1 : SimG K g1' g1 us1) (st1 : SimT K ut1 tt1) (se : SimE K ue te) :
    SimE K (tLc2 wi g' ut wi1 g1' ut1 ue vs vs1) (dLc2 it g tt it1 g1 tt1 te vs vs1) := by
  intro as σ ρ L H M P Q hE A h q
  refine s as σ ρ L H M _ _ hE A h fun J ds L1 H1 M1 s1 A1 h1 w1 => ?_
  intro D hD
  have base : ∀ {L' H' : Hp} {M' : Ms} {acc : List V}, At K as M' L' H' → H' D = some (.lst acc) → L' D = none → D ∉ as → ∀ acc', At K as M' L' (upd H' D (.lst acc')) := by
    intro L' H' M' acc A' hd hl hn acc'
    refine ⟨fun a o h => ?_, A'.len, A'.nd, fun k a m e1 e2 => ?_, A'.nt⟩
    · have e : a ≠ D := fun z => by rw [z, hl] at h; cases h
      rw [upd_ne e]; exact A'.low a o h
    · obtain ⟨h3, o, h4, h5⟩ := A'.mo k a m e1 e2
      have e : a ≠ D := fun z => hn (by rw [← z]; exact List.mem_of_getElem? e1)
      exact ⟨h3, o, by rw [upd_ne e]; exact h4, h5.1, h5.2.keep (KeepC.over hd rfl)⟩
  have dn : D ∉ as := fun z => (A1.held z).2 hD
  have ld : L1 D = none := lowfree A1 hD
  refine ⟨fun i m H' => m = ds.length - i ∧ i ≤ ds.length ∧ ∃ L' M' xs acc, Step as L1 H1 as L' H' ∧ At K as M' L' H' ∧ H' D = some (.lst xs) ∧ L' D = none ∧ RpA K as L' xs acc ∧ lc2Run g tt it1 g1 tt1 te vs1 (wipeR ρ vs) P (ds.drop i) acc M',
    ⟨ds.length, by simp, Nat.zero_le _, L1, M1, [], [], ⟨fun a o _ h => ?_, Ex.refl _, fun _ h _ => h, Pre.refl _, fun _ h => .inl h⟩, ?_, upd_same, ld, .nil, h1⟩, ?_⟩
  · rw [upd_ne (ne_of_none h hD)]; exact h
  · refine ⟨fun a o h => ?_, A1.len, A1.nd, fun k a m e1 e2 => ?_, A1.nt⟩
    · rw [upd_ne (ne_of_none (A1.low a o h) hD)]; exact A1.low a o h
    · obtain ⟨h3, o, h4, h5⟩ := A1.mo k a m e1 e2
      exact ⟨h3, o, by rw [upd_ne (ne_of_none h4 hD)]; exact h4, h5.1, h5.2.keep (KeepC.new hD)⟩
  rintro i m H' ⟨rfl, hi, L', M', xs, acc, s', A', hd', ld', ra, hf⟩
  obtain ⟨wg, ws⟩ := w1 L' H' M' s'.k A'
  have upD : ∀ {L2 H2 : Hp} {M2 : Ms}, Step as L1 H1 as L2 H2 → At K as M2 L2 H2 → ∀ acc', Step as L1 H1 as L2 (upd H2 D (.lst acc')) := by
    intro L2 H2 M2 s2 A2 acc'
    exact ⟨fun a o ha h => by rw [upd_ne (ne_of_none h hD)]; exact s2.up a o ha h, s2.k, s2.hid, s2.pre, s2.new⟩
  by_cases hlt : i < ds.length
  · obtain ⟨go, wy⟩ := wg i hlt
    rw [List.drop_eq_getElem_cons hlt] at hf
    refine .inr ⟨go, fun H2 => ∃ L' M' xs acc, Step as L1 H1 as L' H2 ∧ At K as M' L' H2 ∧ H2 D = some (.lst xs) ∧ L' D = none ∧ RpA K as L' xs acc ∧ lc2Run g tt it1 g1 tt1 te vs1 (wipeR ρ vs) P (ds.drop (i + 1)) acc M', fun H2 q => ⟨ds.length - (i + 1), by omega, rfl, hlt, q⟩, fun x H2 y => ?_⟩
    obtain ⟨d, L2, hd, s2, A2, r2⟩ := wy x H2 y
    rw [List.getElem?_eq_getElem hlt] at hd
    cases hd
    have hE2 : En K as L2 (wipeS σ vs) (wipeR ρ vs) := ((hE.mono (s1.k.trans (s'.k.trans s2.k)) (Pre.refl _)).wipe vs)
    have hd2 : H2 D = some (.lst xs) := s2.up D _ dn hd'
    have ld2 : L2 D = none := s2.hid D ld' (by rw [hd']; simp)
    refine sg as L2 H2 x _ _ _ M' _ _ hE2 A2 r2 hf fun σ3 ρ3 e3 p3 wp => ⟨?_, ?_⟩
    · have z := wp vs hus
      rw [z, wipe_wipe]
    · refine st as σ3 ρ3 L2 H2 M' _ _ e3 A2 p3 fun b L3 H3 M3 s3 A3 h3 => ?_
      have s13 := (s'.trans A' s2).trans A2 s3
      have hd3 : H3 D = some (.lst xs) := s3.up D _ dn hd2
      have ld3 : L3 D = none := s3.hid D ld2 (by rw [hd2]; simp)
      cases b with
      | false =>
        rw [if_neg Bool.false_ne_true] at h3 ⊢
        exact ⟨L3, M3, xs, acc, s13, A3, hd3, ld3, ra.mono (s2.k.trans s3.k) (Pre.refl _), h3⟩
      | true =>
        rw [if_pos rfl] at h3 ⊢
        refine si1 as σ3 ρ3 L3 H3 M3 _ _ (e3.mono s3.k s3.pre) A3 h3 fun J1 ds1 L4 H4 M4 s4 A4 h4 w4 => ?_
        have hd4 : H4 D = some (.lst xs) := s4.up D _ dn hd3
        have ld4 : L4 D = none := s4.hid D ld3 (by rw [hd3]; simp)
        have s14 := s13.trans A3 s4
        have ra4 := ra.mono (s2.k.trans (s3.k.trans s4.k)) (Pre.refl as)
        have e4 := e3.mono (s3.k.trans s4.k) (Pre.refl as)
        refine ⟨fun j k H5 => k = ds1.length - j ∧ j ≤ ds1.length ∧ ∃ L5 M5 xs acc, Ex L4 L5 ∧ Step as L1 H1 as L5 H5 ∧ At K as M5 L5 H5 ∧ H5 D = some (.lst xs) ∧ L5 D = none ∧ RpA K as L5 xs acc ∧ lcIn g1 tt1 te (wipeR ρ3 vs1) (fun acc' M' => lc2Run g tt it1 g1 tt1 te vs1 (wipeR ρ vs) P (ds.drop (i + 1)) acc' M') (ds1.drop j) acc M5,
          ⟨ds1.length, by simp, Nat.zero_le _, L4, M4, xs, acc, Ex.refl _, s14, A4, hd4, ld4, ra4, h4⟩, ?_⟩
        rintro j k H5 ⟨rfl, hj, L5, M5, xs5, acc5, x5, s5, A5, hd5, ld5, ra5, hf5⟩
        obtain ⟨wg5, ws5⟩ := w4 L5 H5 M5 x5 A5
        by_cases hl5 : j < ds1.length
        · obtain ⟨go5, wy5⟩ := wg5 j hl5
          rw [List.drop_eq_getElem_cons hl5] at hf5
          refine .inr ⟨go5, fun H6 => ∃ L5 M5 xs acc, Ex L4 L5 ∧ Step as L1 H1 as L5 H6 ∧ At K as M5 L5 H6 ∧ H6 D = some (.lst xs) ∧ L5 D = none ∧ RpA K as L5 xs acc ∧ lcIn g1 tt1 te (wipeR ρ3 vs1) (fun acc' M' => lc2Run g tt it1 g1 tt1 te vs1 (wipeR ρ vs) P (ds.drop (i + 1)) acc' M') (ds1.drop (j + 1)) acc M5, fun H6 q => ⟨ds1.length - (j + 1), by omega, rfl, hl5, q⟩, fun x6 H6 y6 => ?_⟩
          obtain ⟨d6, L6, hd6, s6, A6, r6⟩ := wy5 x6 H6 y6
          rw [List.getElem?_eq_getElem hl5] at hd6
          cases hd6
          have hE6 : En K as L6 (wipeS σ3 vs1) (wipeR ρ3 vs1) := ((e4.mono (x5.trans s6.k) (Pre.refl _)).wipe vs1)
          have hd6 : H6 D = some (.lst xs5) := s6.up D _ dn hd5
          have ld6 : L6 D = none := s6.hid D ld5 (by rw [hd5]; simp)
          refine sg1 as L6 H6 x6 _ _ _ M5 _ _ hE6 A6 r6 hf5 fun σ7 ρ7 e7 p7 wp7 => ⟨?_, ?_⟩
          · have z := wp7 vs1 hus1
            rw [z, wipe_wipe]
          · refine st1 as σ7 ρ7 L6 H6 M5 _ _ e7 A6 p7 fun b L7 H7 M7 s7 A7 h7 => ?_
            have s17 := (s5.trans A5 s6).trans A6 s7
            have hd7 : H7 D = some (.lst xs5) := s7.up D _ dn hd6
            have ld7 : L7 D = none := s7.hid D ld6 (by rw [hd6]; simp)
            cases b with
            | false =>
              rw [if_neg Bool.false_ne_true] at h7 ⊢
              exact ⟨L7, M7, xs5, acc5, x5.trans (s6.k.trans s7.k), s17, A7, hd7, ld7, ra5.mono (s6.k.trans s7.k) (Pre.refl _), h7⟩
            | true =>
              rw [if_pos rfl] at h7 ⊢
              refine se as σ7 ρ7 L7 H7 M7 _ _ (e7.mono s7.k s7.pre) A7 h7 fun v z L8 H8 M8 s8 A8 h8 r8 => ?_
              have hd8 : H8 D = some (.lst xs5) := s8.up D _ dn hd7
              have ld8 : L8 D = none := s8.hid D ld7 (by rw [hd7]; simp)
              have s18 := s17.trans A7 s8
              have ra8 := ra5.mono (s6.k.trans (s7.k.trans s8.k)) (Pre.refl as)
              exact ⟨xs5, hd8, by rw [ra8.length]; exact h8.1, L8, M8, xs5 ++ [v], acc5 ++ [z], x5.trans (s6.k.trans (s7.k.trans s8.k)), upD s18 A8 _, base A8 hd8 ld8 dn _, upd_same, ld8, ra8.append (.one r8), h8.2⟩
        · have e : j = ds1.length := by omega
          subst e
          rw [List.drop_length] at hf5
          exact .inl ⟨ws5, L5, M5, xs5, acc5, s5, A5, hd5, ld5, ra5, hf5⟩
  · have e : i = ds.length := by omega
    subst e
    rw [List.drop_length] at hf
    refine .inl ⟨ws, q _ _ (upd L' D (.lst xs)) H' M' (s1.trans A1 ⟨s'.up, s'.k.trans (Ex.new ld'), fun a h h' => ?_, Pre.refl _, fun _ h => .inl h⟩) ⟨fun a o h => ?_, A'.len, A'.nd, fun k a m e1 e2 => ?_, A'.nt.new (fun ps z => by cases z)⟩ hf (.lst (.inl (.inl upd_same)) (ra.mono (Ex.new ld') (Pre.refl _)))⟩
    · have e : a ≠ D := fun z => h' (by rw [z]; exact hD)
      rw [upd_ne e]; exact s'.hid a h h'
    · by_cases e : a = D
      · subst e; rw [upd_same] at h; rw [hd']; exact h
      · rw [upd_ne e] at h; exact A'.low a o h
    · obtain ⟨h3, o, h4, h5⟩ := A'.mo k a m e1 e2
      have e : a ≠ D := fun z => dn (by rw [← z]; exact List.mem_of_getElem? e1)
      exact ⟨by rw [upd_ne e]; exact h3, o, h4, h5.1.mono (Ex.new ld') (Pre.refl _), h5.2⟩
section
variable {X : Cx}
theorem pd_lc2 {elt tg iter tg1 iter1 : Expr} {ifs ifs1 : List Expr} {scope : Scope} (own : List (Str × Nat)) (vs1 : List Nat) {pos : Pos} {it it1 : DA} {g g1 : DG} {us us1 : List Nat} {tt tt1 : DT} {te : DE} (hc : X.calm = true) (hN : X.N.Nodup) (hi : PDI X tg iter it) (ok : BlkOk X.N X.env.scope scope own)
    (hg : ∀ (s : Shared) (H : Hp) (C : Addr) (cl : List (Str × Addr)) (fp : List Addr), PDG (X.blk s H scope (compEnvC scope cl C X.env) fp) tg g us) (ht : ∀ (s : Shared) (H : Hp) (C : Addr) (cl : List (Str × Addr)) (fp : List Addr), PDTs (X.blk s H scope (compEnvC scope cl C X.env) fp) ifs tt)
    (hi1 : ∀ (s : Shared) (H : Hp) (C : Addr) (cl : List (Str × Addr)) (fp : List Addr), PDI (X.blk s H scope (compEnvC scope cl C X.env) fp) tg1 iter1 it1)
    (hg1 : ∀ (s : Shared) (H : Hp) (C : Addr) (cl : List (Str × Addr)) (fp : List Addr), PDG (X.blk s H scope (compEnvC scope cl C X.env) fp) tg1 g1 us1) (ht1 : ∀ (s : Shared) (H : Hp) (C : Addr) (cl : List (Str × Addr)) (fp : List Addr), PDTs (X.blk s H scope (compEnvC scope cl C X.env) fp) ifs1 tt1)
    (he : ∀ (s : Shared) (H : Hp) (C : Addr) (cl : List (Str × Addr)) (fp : List Addr), PD (X.blk s H scope (compEnvC scope cl C X.env) fp) elt te) (hv : ∀ i ∈ vs1, i ∈ own.map (·.2) := by decide) (hu : ∀ i ∈ us, i ∈ own.map (·.2) := by decide) (hu1 : ∀ i ∈ us1, i ∈ vs1 := by decide)
    (hs : ∀ x, foldedSetIterable iter X.env x = pure x := by intro _; rfl) (hs1 : ∀ env x, foldedSetIterable iter1 env x = pure x := by intro _ _; rfl) :
    PD X (.ListComp elt [⟨tg, iter, ifs, 0⟩, ⟨tg1, iter1, ifs1, 0⟩] scope pos) (dLc2 it g tt it1 g1 tt1 te (own.map (·.2)) vs1) := by
  obtain ⟨wi, p, s⟩ := hi.ex
  exact ⟨_, pe_lc2 hc hN p ok hv (fun a b c d e => (hg a b c d e).up) (fun a b c d e => (ht a b c d e).up) (fun a b c d e => (hi1 a b c d e).up) (fun a b c d e => (hg1 a b c d e).up) (fun a b c d e => (ht1 a b c d e).up) (fun a b c d e => (he a b c d e).up) (hs := hs) (hs1 := hs1),
    sim_lc2 hu hu1 s (sim_upG g us) (sim_upT tt) (sim_upI it1) (sim_upG g1 us1) (sim_upT tt1) (sim_upE te)⟩
theorem pds_setLc2 (i : Nat) {y : Str} {py : Pos} {elt tg iter tg1 iter1 : Expr} {ifs ifs1 : List Expr} {scope : Scope} (own : List (Str × Nat)) (vs1 : List Nat) {pos spos : Pos} {it it1 : DA} {g g1 : DG} {us us1 : List Nat} {tt tt1 : DT} {te : DE} (hc : X.calm = true) (hN : X.N.Nodup) (hy : X.N[i]? = some y) (hyl : X.env.scope.names.lookup y = some .local)
    (hsw : swapsWith (.ListComp elt [⟨tg, iter, ifs, 0⟩, ⟨tg1, iter1, ifs1, 0⟩] scope pos) (some (.Name y py)) spos.line X.env = pure true) (hi : PDI X tg iter it) (ok : BlkOk X.N X.env.scope scope own)
    (hg : ∀ (s : Shared) (H : Hp) (C : Addr) (cl : List (Str × Addr)) (fp : List Addr), PDG (X.blk s H scope (compEnvC scope cl C X.env) fp) tg g us) (ht : ∀ (s : Shared) (H : Hp) (C : Addr) (cl : List (Str × Addr)) (fp : List Addr), PDTs (X.blk s H scope (compEnvC scope cl C X.env) fp) ifs tt)
    (hi1 : ∀ (s : Shared) (H : Hp) (C : Addr) (cl : List (Str × Addr)) (fp : List Addr), PDI (X.blk s H scope (compEnvC scope cl C X.env) fp) tg1 iter1 it1)
    (hg1 : ∀ (s : Shared) (H : Hp) (C : Addr) (cl : List (Str × Addr)) (fp : List Addr), PDG (X.blk s H scope (compEnvC scope cl C X.env) fp) tg1 g1 us1) (ht1 : ∀ (s : Shared) (H : Hp) (C : Addr) (cl : List (Str × Addr)) (fp : List Addr), PDTs (X.blk s H scope (compEnvC scope cl C X.env) fp) ifs1 tt1)
    (he : ∀ (s : Shared) (H : Hp) (C : Addr) (cl : List (Str × Addr)) (fp : List Addr), PD (X.blk s H scope (compEnvC scope cl C X.env) fp) elt te) (hv : ∀ i ∈ vs1, i ∈ own.map (·.2) := by decide) (hu : ∀ i ∈ us, i ∈ own.map (·.2) := by decide) (hu1 : ∀ i ∈ us1, i ∈ vs1 := by decide)
    (hs : ∀ x, foldedSetIterable iter X.env x = pure x := by intro _; rfl) (hs1 : ∀ env x, foldedSetIterable iter1 env x = pure x := by intro _ _; rfl) :
    PDS X (.Assign [.Name y py] (.ListComp elt [⟨tg, iter, ifs, 0⟩, ⟨tg1, iter1, ifs1, 0⟩] scope pos) spos) (sAsg (dLc2 it g tt it1 g1 tt1 te (own.map (·.2)) vs1) (gN i)) := by
  obtain ⟨wi, p, s⟩ := hi.ex
  exact ⟨_, ps_setLc2 (i := i) hc hN hy hyl hsw p ok hv (fun a b c d e => (hg a b c d e).up) (fun a b c d e => (ht a b c d e).up) (fun a b c d e => (hi1 a b c d e).up) (fun a b c d e => (hg1 a b c d e).up) (fun a b c d e => (ht1 a b c d e).up) (fun a b c d e => (he a b c d e).up) (hs := hs) (hs1 := hs1),
    sim_asg (sim_lc2 hu hu1 s (sim_upG g us) (sim_upT tt) (sim_upI it1) (sim_upG g1 us1) (sim_upT tt1) (sim_upE te)) (sim_gN i)⟩
end
end Pd

set_option Elab.async false
set_option linter.all false
set_option maxRecDepth 100000
set_option maxHeartbeats 1000000
namespace Pd
open PySem PySem.Spec PyProof.Rows L2
section
variable {X : Cx} {K : PySem.W.Frag}
/-! ### (*xs, e) -/
@[simp] def dStar (te : DE) (tl : DA) : DA := fun ρ M P => te ρ M fun d M1 => ∃ xs, isSeq d xs ∧ tl ρ M1 fun ys M2 => P (xs ++ ys) M2
theorem pda_star {e : Expr} {es : List Expr} {te : DE} {tl : DA} {p : Pos} (ha : PD X e te) (hr : PDA X es tl) (hs : starEach (.Starred e p :: es) X.env = (true, eval e X.env) :: starEach es X.env := by rfl) : PDA X (.Starred e p :: es) (dStar te tl) := by
  obtain ⟨u, pa, s⟩ := ha.ex
  obtain ⟨u2, pb, s2⟩ := hr.ex
  refine ⟨_, StX.pa_star pa pb hs, ?_⟩
  intro as σ ρ L H M P Q hE A h q
  refine s as σ ρ L H M _ _ hE A h fun v d L1 H1 M1 s1 A1 h1 r1 => ?_
  obtain ⟨xs, hd, h1⟩ := h1
  obtain ⟨k, a, xv, rfl, g1, w1⟩ := rp_seq r1 hd
  refine ⟨a, xv, rfl, ?_, s2 as σ ρ L1 H1 M1 _ _ (hE.mono s1.k s1.pre) A1 h1 fun vs ds L2 H2 M2 t1 A2 h2 r2 => ?_⟩
  · cases k with
    | l => exact .inr (ex_l A1.low g1)
    | t => exact .inl (ex_t A1.low g1)
  · exact q _ _ L2 H2 M2 (s1.trans A1 t1) A2 h2 ((w1.mono t1.k t1.pre).append r2)
/-! ### x is None -/
def isNonD : D → Bool | .non => true | _ => false
@[simp] theorem isNonD_non : isNonD .non = true := rfl
@[simp] theorem isNonD_int (i : Int) : isNonD (.int i) = false := rfl
@[simp] theorem isNonD_tup (ds : List D) : isNonD (.tup ds) = false := rfl
@[simp] theorem isNonD_lst (ds : List D) : isNonD (.lst ds) = false := rfl
@[simp] theorem isNonD_str (x : Str) : isNonD (.str x) = false := rfl
@[simp] theorem isNonD_bl (b : Bool) : isNonD (.bl b) = false := rfl
theorem Rp.nonD {as : List Addr} {L : Hp} {v : V} {d : D} (r : Rp K as L v d) : decide (v = .non) = isNonD d := by cases r <;> simp [isNonD]
def rIs0 : R2 := fun x y H Q => y = V.non ∧ Q (V.bl (decide (x = V.non))) H
def rNot0 : R2 := fun x y H Q => y = V.non ∧ Q (V.bl (!decide (x = V.non))) H
@[simp] def oIs0 : D2 := fun x y M P => y = .non ∧ P (.bl (isNonD x)) M
@[simp] def oNot0 : D2 := fun x y M P => y = .non ∧ P (.bl (!isNonD x)) M
theorem sr_is0 : SimR K rIs0 oIs0 := by
  intro as L H M x y d e P Q A r1 r2 ⟨h1, p⟩ q
  subst h1
  cases r2
  refine ⟨rfl, ?_⟩
  rw [r1.nonD]
  exact q _ _ L H M .refl A p (.bl _)
theorem sr_not0 : SimR K rNot0 oNot0 := by
  intro as L H M x y d e P Q A r1 r2 ⟨h1, p⟩ q
  subst h1
  cases r2
  refine ⟨rfl, ?_⟩
  rw [r1.nonD]
  exact q _ _ L H M .refl A p (.bl _)
theorem op_is0 : OpR X (compareOp .Is) rIs0 := op_isN
theorem op_not0 : OpR X (compareOp .IsNot) rNot0 := op_notN
/-! ### x in xs, over data -/
def rInS' (K : PySem.W.Frag) : R2 := fun x y H Q => ∃ d ds, Dp K H x d ∧ (Dp K H y (.list ds) ∧ SeqAt.shaped (.list ds) = true ∨ Dp K H y (.tuple ds) ∧ SeqAt.shaped (.tuple ds) = true) ∧ SeqAt.shaped d = true ∧ d.depth ≤ 60 ∧ Q (.bl (ds.any fun z => PyData.eqv z d)) H
theorem op_inS' (hu : X.A.units + 64 < cLine) : OpR X (compareOp .In) (rInS' X.K) := by
  intro pins s σ H x y v u Q I r1 r2 h
  obtain ⟨d, ds, h1, h2, h3, hd, q⟩ := h
  obtain ⟨bs, rx⟩ := Dp.reads I d x v h1 r1
  rcases h2 with ⟨h2, h4⟩ | ⟨h2, h4⟩
  · obtain ⟨as, ry⟩ := Dp.reads I _ y u h2 r2
    have hc := SeqAt.canLay_of_shaped h4
    refine SeqAt.in_list_reads ry rx (by simpa [PyData.canLay0] using hc) (SeqAt.canLay_of_shaped h3) (by omega) ⟨.bl _, H, I, rfl, q⟩
  · obtain ⟨as, ry⟩ := Dp.reads I _ y u h2 r2
    have hc := SeqAt.canLay_of_shaped h4
    refine SeqAt.in_tuple_reads ry rx (by simpa [PyData.canLay0] using hc) (SeqAt.canLay_of_shaped h3) (by omega) ⟨.bl _, H, I, rfl, q⟩
@[simp] def oInS : D2 := fun x y M P => ∃ ds, isSeq y ds ∧ okD x = true ∧ okD y = true ∧ (toP x).depth ≤ 60 ∧ P (.bl (ds.any fun z => eqD z x)) M
theorem toPA_map (ds : List D) : toPA ds = ds.map toP := by
  induction ds with
  | nil => rfl
  | cons d ds ih => show toP d :: toPA ds = _; rw [ih]; rfl
theorem sr_inS : SimR K (rInS' K) oInS := by
  intro as L H M x y d e P Q A r1 r2 ⟨ds, h1, h2, h3, h4, p⟩ q
  have e1 := Bool.and_eq_true_iff.mp h2
  have e2 := Bool.and_eq_true_iff.mp h3
  have d1 := r1.dp A.low e1.1
  have d2 := r2.dp A.low e2.1
  refine ⟨toP d, toPA ds, d1, ?_, e1.2, h4, ?_⟩
  · rcases h1 with rfl | rfl
    · exact .inl ⟨d2, e2.2⟩
    · exact .inr ⟨d2, e2.2⟩
  · have : (toPA ds).any (fun z => PyData.eqv z (toP d)) = ds.any fun z => eqD z d := by rw [toPA_map, List.any_map]; rfl
    rw [this]
    exact q _ _ L H M .refl A p (.bl _)
end
end Pd

set_option Elab.async false
set_option linter.all false
set_option maxRecDepth 100000
set_option maxHeartbeats 1000000
namespace Pd
open PySem PySem.Spec PyProof.Rows L2

/-! ### for .. with yields in its body -/
@[simp] def tGFor (wi : TI) (g : TG) (tb : TGn) : TGn := fun D ys σ H => wi σ H fun J H1 => ∃ W : Nat → Nat → List V → L2.St → Hp → Prop, (∃ m, W 0 m ys σ H1) ∧ ∀ i m ys σ H, W i m ys σ H →
  (J.stop i H ∧ D.nx ys σ H) ∨ (J.go i H ∧ ∃ N : List V → L2.St → Hp → Prop, (∀ ys' σ' H', N ys' σ' H' → ∃ m', m' < m ∧ W (i + 1) m' ys' σ' H') ∧ ∀ x H', J.yld i H x H' → g x σ H' fun σ2 H2 => tb { D with nx := N, ct := N, bk := D.nx } ys σ2 H2)
section
variable {M : Model} {A : Around} {R : GenEnd} {Y : Protocol} {n : Nat} {s₀ s : Shared} {c : Code} {fs : List Frame}
theorem seg_wbind {α β : Type} {m : Sem α} {f : α → Sem β} {K : β → Sem PySem.Fin} {H : Value → Sem PySem.Fin} {gd : Bool → Bool} {lv : List Value → List Value}
    (h : wpAny M (A.over c fs) m (fun a s' => Seg M A R Y n s₀ c (Sem.wrap K H gd lv (f a)) fs s') (fun x s' => Seg M A R Y n s₀ c (H x) fs s') s) :
    Seg M A R Y n s₀ c (Sem.wrap K H gd lv (m >>= f)) fs s := by
  rw [Sem.bind_eq_wrap', Sem.wrap_wrap]
  exact seg_wrap h
theorem wrap_bind {α β : Type} (m : Sem α) (f : α → Sem β) (K : β → Sem PySem.Fin) (H : Value → Sem PySem.Fin) (gd : Bool → Bool) (lv : List Value → List Value) :
    Sem.wrap K H gd lv (m >>= f) = Sem.wrap (fun a => Sem.wrap K H gd lv (f a)) H (fun g => gd g) (fun l => lv l) m := by
  rw [Sem.bind_eq_wrap', Sem.wrap_wrap]
  rfl
end
theorem pins_cons (p : Addr × Obj) (ip qs : List (Addr × Obj)) : p :: ip ++ qs = p :: (ip ++ qs) := rfl
section
variable {X : Cx} {tg iter : Expr} {body : List Stmt} {pos : Pos} {wi : TI} {g : TG} {tb : TGn}
theorem gs_for (hp : PassesOwn (model X.prog X.w) X.A X.env X.xe) (hc : X.calm = true) (hi : PI X tg iter wi) (hg : PG X tg g) (hb : GSs X body tb) (hs : ∀ x, foldedSetIterable iter X.env x = pure x := by intro _; rfl) :
    GS X (.For tg iter body [] pos) (tGFor wi g tb) := by
  refine ⟨fun A S ip R n ys s₀ c fs K J gd lv s σ H D hGC hn hGK hGI ht => ?_⟩
  obtain ⟨acc, cc, va, I⟩ := hGI
  unfold exec
  refine seg_wbind (wpAny_standAt ?_)
  refine seg_wbind ?_
  rw [hGC.over]
  refine wpAny_mono (hi.run _ s σ H _ I ht) (fun v s1 h1 => ?_) (fun e s' h => hGK.exc n s₀ e s' h)
  rw [hs v]
  refine seg_wbind (wpAny_pure ?_)
  refine seg_wbind (wpAny_standAt ?_)
  refine seg_wbind ?_
  rw [hGC.over]
  refine wpAny_holding (wpAny_mono h1 (fun itv s2 h2 => ?_) (fun e s' h => hGK.exc n s₀ e s' h))
  obtain ⟨it, fp, tn, Jt, H2, rfl, I2, T, t0, hfp, W, ⟨m0, w0⟩, hW⟩ := h2
  let c' : Code := .forLoop tg (.ref it) body [] X.env
  show Seg (model X.prog X.w) A R (GY X S) n s₀ c (Sem.call c' none (gd false) (lv []) fun r => Sem.wrap K J gd lv ((match r with | .ok f => Sem.pure f | .error e => Sem.raise e).onRaise (cameBack X.env))) fs s2
  refine seg_call fun p => ?_
  generalize hkr : (fun r : Result => Sem.wrap K J gd lv ((match r with | .ok f => Sem.pure f | .error e => Sem.raise e).onRaise (cameBack X.env))) = kr
  have kok : ∀ f, kr (.ok f) = K f := fun f => by rw [← hkr]; rfl
  have kerr : ∀ e, kr (.error e) = Sem.wrap K J gd lv ((Sem.raise e).onRaise (cameBack X.env)) := fun e => by rw [← hkr]
  have hG1 : ∀ c1 : Code, c1.weight = 0 → c1.cUnits = 0 → GC X S ip A c1 (Frame.ret kr none (gd false) (lv []) c p [] :: fs) id := fun c1 h1 h2 => gc_loop hGC h1 h2
  -- what is raised leaves the loop
  have hexc : ∀ (n : Nat) (s₀ : Shared) (e : Value) (s : Shared), notedBy (model X.prog X.w) X.A X.env (cameBackBy (model X.prog X.w) X.A X.env X.xe) e s →
      Seg (model X.prog X.w) A R (GY X S) n s₀ c' ((do noteFrame e X.env; theTreesLotGoes e : Sem Unit).bind fun _ => Sem.raise e) (Frame.ret kr none (gd false) (lv []) c p [] :: fs) s := by
    intro n s₀ e s h
    refine seg_bind ?_
    rw [(hG1 c' rfl rfl).over]
    have out : ∀ e' s', cameBackBy (model X.prog X.w) X.A X.env X.xe e' s' → Seg (model X.prog X.w) A R (GY X S) n s₀ c' (Sem.raise e') (Frame.ret kr none (gd false) (lv []) c p [] :: fs) s' := by
      intro e' s' h'
      refine seg_leaf (.error e') ?_
      rw [kerr]
      exact seg_cameBack hGC hGK h'
    exact wpAny_bind (wpAny_mono h (fun _ s' h' => wpAny_theTreesLotGoes (out e s' h')) (fun e' s' h' => out e' s' h'))
  have hden : (model X.prog X.w).den c' = (forTurn tg (.ref it) body [] X.env).onRaise (fun x => (do noteFrame x X.env; theTreesLotGoes x)) := rfl
  -- the turns
  have turns : ∀ m i n ys s₀ s σ H, W i m ys σ H → n + ys.length = sizeLine → GI X S ip ys σ H s → tn i s.heap → (∀ b ∈ fp, FpOk X ((S, lstObj acc cc) :: ip) H b) →
      Seg (model X.prog X.w) A R (GY X S) n s₀ c' ((model X.prog X.w).den c') (Frame.ret kr none (gd false) (lv []) c p [] :: fs) s := by
    intro m
    induction m using Nat.strongRecOn with
    | ind m ih =>
    intro i n ys s₀ s σ H w hn hGI ht hf
    obtain ⟨acc1, cc1, va1, I1⟩ := hGI
    have hGc := hG1 c' rfl rfl
    have over := hGc.over
    -- what is raised within the turn
    have exc : ∀ (n : Nat) (s₀ : Shared) (e : Value) (s : Shared), X.xe e s → Seg (model X.prog X.w) A R (GY X S) n s₀ c' ((do noteFrame e X.env; theTreesLotGoes e : Sem Unit).bind fun _ => Sem.raise e) (Frame.ret kr none (gd false) (lv []) c p [] :: fs) s :=
      fun n s₀ e s h => hexc n s₀ e s (hp e s h)
    have fpS : ∀ b ∈ fp, S ≠ b := fun b hb => (hf b hb).2.2.2.2.2 (S, lstObj acc cc) (by simp)
    have hf1 : ∀ b ∈ fp, FpOk X ((S, lstObj acc1 cc1) :: ip) H b := fun b hb => by
      obtain ⟨f1, f2, f3, f4, f5, f6⟩ := hf b hb
      refine ⟨f1, f2, f3, f4, f5, fun q hq => ?_⟩
      rcases List.mem_append.mp hq with hq | hq
      · exact f6 q (List.mem_append.mpr (.inl hq))
      · rcases List.mem_cons.mp hq with hq | hq
        · rw [hq]; exact fpS b hb
        · exact f6 q (List.mem_append.mpr (.inr (List.mem_cons_of_mem _ hq)))
    rw [hden, Sem.onRaise_eq_wrap]
    unfold forTurn
    refine seg_wbind (wpAny_standAt ?_)
    refine seg_wbind ?_
    rw [over]
    refine wpAny_onRaise ?_
    rcases hW i m ys σ H w with ⟨hstop, hnx⟩ | ⟨hgo, N, hN, hyld⟩
    · refine wpAny_mono (T.done X rfl rfl rfl hc i _ s σ H X.xe I1 hf1 ht hstop) (fun r s1 ⟨hr, I3⟩ => ?_) (fun e s' h => wpAny_standAt (exc n s₀ e s' h))
      subst hr
      show Seg (model X.prog X.w) A R (GY X S) n s₀ c' (Sem.pure (Fin.again (Code.block [] X.env))) (Frame.ret kr none (gd false) (lv []) c p [] :: fs) s1
      refine seg_again rfl ?_
      show Seg (model X.prog X.w) A R (GY X S) n s₀ (Code.block [] X.env) (leafOf (.ok .next)) (Frame.ret kr none (gd false) (lv []) c p [] :: fs) s1
      refine seg_leaf (.ok .next) ?_
      rw [kok]
      exact hGK.ok n ys s₀ s1 .next hn ⟨σ, H, ⟨acc1, cc1, va1, I3⟩, hnx⟩
    · refine wpAny_mono (T.item X rfl rfl rfl hc i _ s σ H X.xe I1 hf1 ht hgo) (fun r s1 ⟨u, hr, h3⟩ => ?_) (fun e s' h => wpAny_standAt (exc n s₀ e s' h))
      subst hr
      refine seg_wbind ?_
      rw [over]
      refine wpAny_mono h3 (fun _ s2 h4 => ?_) (fun e s' h => exc n s₀ e s' h)
      obtain ⟨x, H3, I3, rx, hy, t3, hfree⟩ := h4
      have hf3 : ∀ H', (∀ b ∈ fp, H' b = none) → ∀ b ∈ fp, FpOk X ((S, lstObj acc1 cc1) :: ip) H' b := fun H' h b hb => by
        obtain ⟨_, f2, f3, f4, f5, f6⟩ := hf1 b hb
        exact ⟨h b hb, f2, f3, f4, f5, f6⟩
      have I4 := I3.pinned (hf3 H3 hfree) (fun b hb => T.obj (i + 1) s2.heap t3 b hb)
      refine seg_wbind ?_
      rw [over]
      refine wpAny_mono (hg.run _ s2 σ H3 x u _ I4 rx (hyld x H3 hy)) (fun _ s3 ⟨σ3, H4, I5, ht5⟩ => ?_) (fun e s' h => exc n s₀ e s' h)
      rw [wrap_bind]
      have ipS : ∀ q ∈ ip ++ pinsAt fp s2.heap, q.1 ≠ S := fun q hq => by
        rcases List.mem_append.mp hq with hq | hq
        · exact hGC.ip q hq
        · exact fun z => fpS q.1 (of_pinsAt hq).1 z.symm
      have hGb : GC X S (ip ++ pinsAt fp s2.heap) A c' (Frame.ret kr none (gd false) (lv []) c p [] :: fs) (fun g => id (id g)) := ⟨hGc.pn, ipS, hGc.apart, hGc.over, hGc.split, hGc.guard, rfl⟩
      -- behind the body: the iterator stands as it stood
      have back : ∀ ys' σ' H' s', GI X S (ip ++ pinsAt fp s2.heap) ys' σ' H' s' → GI X S ip ys' σ' H' s' ∧ tn (i + 1) s'.heap ∧ ∀ b ∈ fp, FpOk X ((S, lstObj acc cc) :: ip) H' b := fun ys' σ' H' s' ⟨a1, c1, v1, J1⟩ => by
        have there : ∀ b ∈ fp, ∀ o, s2.heap.get? b = some o → s'.heap.get? b = some o ∧ H' b = none := fun b hb o ho => by
          obtain ⟨z1, z2, _⟩ := J1.pin (b, o) (List.mem_append.mpr (.inr (List.mem_cons_of_mem _ (List.mem_append.mpr (.inr (mem_pinsAt hb ho))))))
          exact ⟨z1, z2⟩
        refine ⟨⟨a1, c1, v1, Inv.unpinned (pl := pinsAt fp s2.heap) J1⟩, T.keep (i + 1) s2.heap s'.heap t3 fun b hb o ho => (there b hb o ho).1, fun b hb => ?_⟩
        obtain ⟨o, ho, _⟩ := T.obj (i + 1) s2.heap t3 b hb
        obtain ⟨_, f2, f3, f4, f5, f6⟩ := hf b hb
        exact ⟨(there b hb o ho).2, f2, f3, f4, f5, f6⟩
      refine hb.run A S (ip ++ pinsAt fp s2.heap) R n ys s₀ c' _ _ _ _ _ s3 σ3 H4 { D with nx := N, ct := N, bk := D.nx } hGb hn ⟨fun n' ys' s0' s' f hn' hf' => ?_, fun n' s0' e s' h => exc n' s0' e s' h⟩ ⟨acc1, cc1, va1, I5⟩ ht5
      cases f with
      | next =>
        obtain ⟨σ', H', G', nx⟩ := hf'
        obtain ⟨b1, b2, b3⟩ := back _ _ _ _ G'
        obtain ⟨m', hm, w'⟩ := hN _ _ _ nx
        exact seg_again rfl (ih m' hm (i + 1) n' ys' s0' s' σ' H' w' hn' b1 b2 b3)
      | cont =>
        obtain ⟨σ', H', G', nx⟩ := hf'
        obtain ⟨b1, b2, b3⟩ := back _ _ _ _ G'
        obtain ⟨m', hm, w'⟩ := hN _ _ _ nx
        exact seg_again rfl (ih m' hm (i + 1) n' ys' s0' s' σ' H' w' hn' b1 b2 b3)
      | brk =>
        obtain ⟨σ', H', G', nx⟩ := hf'
        obtain ⟨b1, b2, b3⟩ := back _ _ _ _ G'
        refine seg_leaf (.ok .next) ?_
        rw [kok]
        exact hGK.ok n' ys' s0' s' .next hn' ⟨σ', H', b1, nx⟩
      | ret u' =>
        obtain ⟨v', σ', H', G', rv, rt⟩ := hf'
        obtain ⟨b1, b2, b3⟩ := back _ _ _ _ G'
        refine seg_leaf (.ok (.ret u')) ?_
        rw [kok]
        exact hGK.ok n' ys' s0' s' (.ret u') hn' ⟨v', σ', H', b1, rv, rt⟩
  exact turns m0 0 n ys s₀ s2 σ H2 w0 hn ⟨acc, cc, va, I2⟩ t0 hfp
end
end Pd

set_option Elab.async false
set_option linter.all false
set_option maxRecDepth 100000
set_option maxHeartbeats 1000000
namespace Pd
open PySem PySem.Spec PyProof.Rows L2

/-! ### generator defs over data: ys is what has been given so far -/
structure DGE where
  nx : List D → Rho → Ms → Prop
  rt : List D → D → Ms → Prop
  bk : List D → Rho → Ms → Prop := fun _ _ _ => False
  ct : List D → Rho → Ms → Prop := fun _ _ _ => False
abbrev GX := DGE → XD → List D → Rho → Ms → Prop
def GEndN (K : PySem.W.Frag) (as : List Addr) (L H : Hp) (d : List D → Rho → Ms → Prop) (v : List V → L2.St → Hp → Prop) : Prop := ∀ ys ds σ' ρ' L' H' M', Step as L H as L' H' → At K as M' L' H' → En K as L' σ' ρ' → RpA K as L' ys ds → d ds ρ' M' → v ys σ' H'
structure GComp (K : PySem.W.Frag) (as : List Addr) (L H : Hp) (De : DGE) (D : GEnds) : Prop where
  nx : GEndN K as L H De.nx D.nx
  rt : ∀ ys ds v d L' H' M', Step as L H as L' H' → At K as M' L' H' → RpA K as L' ys ds → De.rt ds d M' → Rp K as L' v d → D.rt ys v H'
  bk : GEndN K as L H De.bk D.bk
  ct : GEndN K as L H De.ct D.ct
theorem GEndN.step {K : PySem.W.Frag} {as : List Addr} {L H L1 H1 : Hp} {M1 : Ms} {d : List D → Rho → Ms → Prop} {v : List V → L2.St → Hp → Prop} (s : Step as L H as L1 H1) (A1 : At K as M1 L1 H1) (h : GEndN K as L H d v) : GEndN K as L1 H1 d v :=
  fun ys ds σ' ρ' L' H' M' s' A' e' r q => h ys ds σ' ρ' L' H' M' (s.trans A1 s') A' e' r q
theorem GComp.step {K : PySem.W.Frag} {as : List Addr} {L H L1 H1 : Hp} {M1 : Ms} {De : DGE} {D : GEnds} (s : Step as L H as L1 H1) (A1 : At K as M1 L1 H1) (h : GComp K as L H De D) : GComp K as L1 H1 De D :=
  ⟨h.nx.step s A1, fun ys ds v d L' H' M' s' A' ry q r => h.rt ys ds v d L' H' M' (s.trans A1 s') A' ry q r, h.bk.step s A1, h.ct.step s A1⟩
def SimGX (K : PySem.W.Frag) (E : XK) (u : TGn) (t : GX) : Prop := ∀ as σ ρ L H M ys ds De Xd D, En K as L σ ρ → At K as M L H → RpA K as L ys ds → t De Xd ds ρ M → GComp K as L H De D → XC K as L H Xd E → u D ys σ H
structure PGS (X : Cx) (E : XK) (st : Stmt) (t : GX) : Prop where
  ex : ∃ u, GS X st u ∧ SimGX X.K E u t
structure PGSs (X : Cx) (E : XK) (st : List Stmt) (t : GX) : Prop where
  ex : ∃ u, GSs X st u ∧ SimGX X.K E u t
section
variable {X : Cx} {E : XK} {st : Stmt} {sts : List Stmt} {pos : Pos}
/-- a statement without yields -/
@[simp] def yOf (t : SX) : GX := fun De Xd ds ρ M => t ⟨De.nx ds, De.rt ds, De.bk ds, De.ct ds⟩ Xd ρ M
theorem pgs_of {t : SX} (h : PDSX X E st t) : PGS X E st (yOf t) := by
  obtain ⟨u, p, s⟩ := h.ex
  refine ⟨_, gs_ps p, ?_⟩
  intro as σ ρ L H M ys ds De Xd D hE A r h c x
  refine s as σ ρ L H M _ Xd _ hE A h ⟨?_, ?_, ?_, ?_⟩ x
  · exact fun σ' ρ' L' H' M' s' A' e' q => c.nx ys ds σ' ρ' L' H' M' s' A' e' (r.mono s'.k s'.pre) q
  · exact fun v d L' H' M' s' A' q rv => c.rt ys ds v d L' H' M' s' A' (r.mono s'.k s'.pre) q rv
  · exact fun σ' ρ' L' H' M' s' A' e' q => c.bk ys ds σ' ρ' L' H' M' s' A' e' (r.mono s'.k s'.pre) q
  · exact fun σ' ρ' L' H' M' s' A' e' q => c.ct ys ds σ' ρ' L' H' M' s' A' e' (r.mono s'.k s'.pre) q
@[simp] def yNil : GX := fun De _ ds ρ M => De.nx ds ρ M
theorem pgss_nil : PGSs X E [] yNil := ⟨_, gss_nil, fun as σ ρ L H M ys ds De Xd D hE A r h c x => c.nx ys ds σ ρ L H M .refl A hE r h⟩
@[simp] def ySeq (t u : GX) : GX := fun De Xd ds ρ M => t { De with nx := fun ds' ρ' M' => u De Xd ds' ρ' M' } Xd ds ρ M
theorem pgss_cons {t u : GX} (h1 : PGS X E st t) (h2 : PGSs X E sts u) : PGSs X E (st :: sts) (ySeq t u) := by
  obtain ⟨u1, p1, s1⟩ := h1.ex
  obtain ⟨u2, p2, s2⟩ := h2.ex
  refine ⟨_, gss_cons p1 p2, ?_⟩
  intro as σ ρ L H M ys ds De Xd D hE A r h c x
  refine s1 as σ ρ L H M ys ds _ Xd _ hE A r h ⟨fun ys' ds' σ' ρ' L' H' M' s' A' e' r' q => ?_, c.rt, c.bk, c.ct⟩ x
  exact s2 as σ' ρ' L' H' M' ys' ds' De Xd D e' A' r' q (c.step s' A') (x.step s' A')
theorem pgss_one {t : GX} (h1 : PGS X E st t) : PGSs X E [st] (ySeq t yNil) := pgss_cons h1 pgss_nil
@[simp] def yYield (te : DE) : GX := fun De _ ds ρ M => ds.length < sizeLine ∧ te ρ M fun d M1 => De.nx (ds ++ [d]) ρ M1
theorem pgs_yield {e : Expr} {yp : Pos} {te : DE} (he : PD X e te) (h1 : X.env.scope.isCoroutine = false := by rfl) (h2 : interactive X.env = false := by rfl) : PGS X E (.Expr (.Yield (some e) yp) pos) (yYield te) := by
  obtain ⟨u, p, s⟩ := he.ex
  refine ⟨_, gs_yield p h1 h2, ?_⟩
  intro as σ ρ L H M ys ds De Xd D hE A r h c x
  refine ⟨by rw [r.length]; exact h.1, s as σ ρ L H M _ _ hE A h.2 fun v d L1 H1 M1 s1 A1 q rv => ?_⟩
  exact c.nx _ _ σ ρ L1 H1 M1 s1 A1 (hE.mono s1.k s1.pre) ((r.mono s1.k s1.pre).append (.one rv)) q
def yRun (g : DG) (body : GX) (De : DGE) (Xd : XD) : List D → List D → Rho → Ms → Prop
  | [], ds, ρ, M => De.nx ds ρ M
  | d :: r, ds, ρ, M => g d ρ fun ρ' => body { De with nx := fun ds2 ρ2 M2 => yRun g body De Xd r ds2 ρ2 M2, ct := fun ds2 ρ2 M2 => yRun g body De Xd r ds2 ρ2 M2, bk := De.nx } Xd ds ρ' M
@[simp] def yFor (it : DA) (g : DG) (body : GX) : GX := fun De Xd ds ρ M => it ρ M fun is M1 => yRun g body De Xd is ds ρ M1
theorem pgs_for {tg iter : Expr} {body : List Stmt} {it : DA} {g : DG} {us : List Nat} {tb : GX} (hp : PassesOwn (model X.prog X.w) X.A X.env X.xe) (hc : X.calm = true) (hi : PDI X tg iter it) (hg : PDG X tg g us) (hb : PGSs X E body tb)
    (hs : ∀ x, foldedSetIterable iter X.env x = pure x := by intro _; rfl) : PGS X E (.For tg iter body [] pos) (yFor it g tb) := by
  obtain ⟨wi, p, s⟩ := hi.ex
  obtain ⟨g', pg, sg⟩ := hg.ex
  obtain ⟨ub, pb, sb⟩ := hb.ex
  refine ⟨_, gs_for hp hc p pg pb hs, ?_⟩
  intro as σ ρ L H M ys0 ds0 De Xd D hE A r0 h c x
  refine s as σ ρ L H M _ _ hE A h fun J is L1 H1 M1 s1 A1 h1 w1 => ?_
  refine ⟨fun i m ys σ H => m = is.length - i ∧ i ≤ is.length ∧ ∃ ds ρ L M, Step as L1 H1 as L H ∧ At X.K as M L H ∧ En X.K as L σ ρ ∧ RpA X.K as L ys ds ∧ yRun g tb De Xd (is.drop i) ds ρ M, ⟨is.length, by simp, Nat.zero_le _, ds0, ρ, L1, M1, .refl, A1, hE.mono s1.k s1.pre, r0.mono s1.k s1.pre, h1⟩, ?_⟩
  rintro i m ys σ H ⟨rfl, hi, ds, ρ, L, M, st, A, hE, ra, hf⟩
  obtain ⟨wg, ws⟩ := w1 L H M st.k A
  by_cases hlt : i < is.length
  · obtain ⟨go, wy⟩ := wg i hlt
    rw [List.drop_eq_getElem_cons hlt] at hf
    refine .inr ⟨go, fun ys' σ' H' => ∃ ds ρ L M, Step as L1 H1 as L H' ∧ At X.K as M L H' ∧ En X.K as L σ' ρ ∧ RpA X.K as L ys' ds ∧ yRun g tb De Xd (is.drop (i + 1)) ds ρ M, fun ys' σ' H' q => ⟨is.length - (i + 1), by omega, rfl, hlt, q⟩, fun xv H' y => ?_⟩
    obtain ⟨d, L', hd, s2, A2, r2⟩ := wy xv H' y
    rw [List.getElem?_eq_getElem hlt] at hd
    cases hd
    refine sg as L' H' xv _ σ ρ M _ _ (hE.mono s2.k s2.pre) A2 r2 hf fun σ2 ρ2 e2 p2 _ => ?_
    have s12 := st.trans A s2
    have c2 := (c.step s1 A1).step s12 A2
    refine sb as σ2 ρ2 L' H' M ys ds _ Xd _ e2 A2 (ra.mono s2.k s2.pre) p2 ⟨fun ys3 ds3 σ3 ρ3 L3 H3 M3 s3 A3 e3 r3 q3 => ⟨ds3, ρ3, L3, M3, s12.trans A2 s3, A3, e3, r3, q3⟩, c2.rt, c2.nx, fun ys3 ds3 σ3 ρ3 L3 H3 M3 s3 A3 e3 r3 q3 => ⟨ds3, ρ3, L3, M3, s12.trans A2 s3, A3, e3, r3, q3⟩⟩ ((x.step s1 A1).step s12 A2)
  · have e : i = is.length := by omega
    subst e
    rw [List.drop_length] at hf
    exact .inl ⟨ws, (c.step s1 A1).nx ys ds σ ρ L H M st A hE ra hf⟩
end
/-! ### the promise of a generator def -/
abbrev DCG := List D → Ms → (List D → Ms → Prop) → XD → Prop
def spG (n : Nat) (W : DCG) : PySem.W.Frag → SpG := fun K vs H Q E => vs.length = n ∧ ∃ as M L ds P Xd, RpA K as L vs ds ∧ At K as M L H ∧ W ds M P Xd ∧
  (∀ ys out L' H' M', Step as L H as L' H' → At K as M' L' H' → P out M' → RpA K as L' ys out → Q ys H') ∧ XC K as L H Xd E
section
variable {P : Program} {w : World} {K : PySem.W.Frag} {mg : Str → Option Value} {base : Heap}
theorem pd_fnGen {x qual : Str} {st : Stmt} {f : Addr} {fd : FuncData} {N ps : List Str} {k : Nat} {W : DCG} (F : Fun K x qual st f fd) (S : GScope N ps (defScope st))
    (hbody : ∀ (cdv : Value) (A : Around) (outer : List Env) (s : Shared) (H : Hp) (E : XK) (pn : List (Addr × Obj)), Room k (A.deeper (envOfC qual (defScope st) s.heap.objs.size f cdv)) →
      ∃ t, PGSs (gcxOf P w K mg base N qual (defScope st) f cdv A outer s H E pn) E (defBody st) t ∧ ∀ ds M Q Xd, ds.length = ps.length → W ds M Q Xd → t { nx := fun ys _ M' => Q ys M', rt := fun ys v M' => v = .non ∧ Q ys M' } Xd [] (startD N ds) M) :
    GFn P w K mg base (k + 1) f fd ps (spG ps.length W K) := by
  obtain ⟨oc, od, kV, doc, pm, an, cdv, ct, osl, rfl, hl, hcd⟩ := F.ex
  refine gfn_of hl hcd S (fun vs H Q E h => h.1) (fun A outer s H vs Q E pn hr h => ?_)
  obtain ⟨hl, as, M, L, ds, P', Xd, r, A0, hw, q, xx⟩ := h
  obtain ⟨t, ht, hb⟩ := hbody cdv A outer s H E pn hr
  obtain ⟨ts, pt, st'⟩ := ht.ex
  refine ⟨ts, pt, st' as (L2.start N vs) (startD N ds) L H M [] [] _ Xd _ (en_start r) A0 .nil (hb ds M P' Xd (by rw [← r.length]; exact hl) hw) ⟨?_, ?_, ?_, ?_⟩ xx⟩
  · exact fun ys out σ' ρ' L' H' M' s1 A1 _ ry p => q ys out L' H' M' s1 A1 p ry
  · intro ys out v d L' H' M' s1 A1 ry ⟨hd, p⟩ rv
    subst hd
    cases rv
    exact ⟨rfl, q ys out L' H' M' s1 A1 p ry⟩
  · exact fun _ _ _ _ _ _ _ _ _ _ _ p => p.elim
  · exact fun _ _ _ _ _ _ _ _ _ _ _ p => p.elim
end
/-! ### list(f(..)) of a generator def f -/
def noStop (K : PySem.W.Frag) (C : Addr) : Prop := PySem.W.subIn K (.ref C) (.type "StopIteration") = some false
def EStop (K : PySem.W.Frag) (E : XK) : XK := fun cls d H => E cls d H ∧ PySem.W.subIn K cls (.type "StopIteration") = some false
@[simp] def dListG (K : PySem.W.Frag) (n : Nat) (W : DCG) (tl : DA) : DX := fun ρ M P Xd => tl ρ M fun ds M1 => ds.length = n ∧ W ds M1 (fun out M2 => P (.lst out) M2) (fun C gs M2 => noStop K C ∧ Xd C gs M2)
section
variable {X : Cx} {E : XK} {e : Expr} {es : List Expr} {tl : DA} {pos pos' p p' : Pos}
theorem sim_listG {K : PySem.W.Frag} {E : XK} {n : Nat} {W : DCG} {u : TA} (s : SimA K u tl) : SimEX K E (tListG (tCallG (spG n W K) [] (EStop K E) u)) (dListG K n W tl) := by
  intro as σ ρ L H M P Xd Q hE A h q xx
  refine s as σ ρ L H M _ _ hE A h fun vs ds L1 H1 M1 s1 A1 h1 r1 => ?_
  show spG n W K (vs ++ []) H1 _ _
  rw [List.append_nil]
  refine ⟨by rw [r1.length]; exact h1.1, as, M1, L1, ds, _, _, r1, A1, h1.2, fun ys out L2 H2 M2 s2 A2 p2 r2 => ?_, ?_⟩
  · intro a ha
    have la : L2 a = none := lowfree A2 ha
    exact q (.ref a) (.lst out) (upd L2 a (.lst ys)) _ M2 ((s1.trans A1 s2).trans A2 (Step.know A2 ha)) (A2.know ha) p2 (.lst (.inl (.inl upd_same)) (r2.mono (Ex.new la) (Pre.refl _)))
  · intro C gs dx fs L2 H2 M2 s2 A2 hx hd hr
    exact ⟨xx C gs dx fs L2 H2 M2 (s1.trans A1 s2) A2 hx.2 hd hr, hx.1⟩
theorem pdx_listG {k n : Nat} {f : Addr} {fd : FuncData} {ps : List Str} {W : DCG} {x : Str} (tk : Takes X (fun cls d _ H => E cls d H)) (F : GFn X.prog X.w X.K X.mg X.base k f fd ps (spG n W X.K)) (hr : Room (k + 3) X.A) (hgl : Gl X "list") (hml : X.mg "list" = none) (hg : Gl X x) (hm : X.mg x = some (.ref f)) (hk : PySem.W.keepIn X.K (.ref f) = true)
    (hb : Binds X.K fd ps []) (ha : PDA X (e :: es) tl) (hdb : (x == ("__debug__" : Str)) = false := by decide) (he : starEach (e :: es) X.env = (false, eval e X.env) :: starEach es X.env := by rfl) (hpl : (backTo pos' (starEach es X.env)).any (·.1) = false := by rfl)
    (he2 : starEach [.Call (.Name x p') (e :: es) [] pos'] X.env = (false, eval (.Call (.Name x p') (e :: es) [] pos') X.env) :: starEach [] X.env := by rfl) :
    PDX X E (.Call (.Name "list" p) [.Call (.Name x p') (e :: es) [] pos'] [] pos) (dListG X.K n W tl) := by
  obtain ⟨u, pa, s⟩ := ha.ex
  refine ⟨_, pe_listG (E := EStop X.K E) (pgen_call F (hr.mono (by omega)) hg hm hk hb .nil pa hdb he hpl) (passes_call tk fun _ _ _ _ h => h.1) (fun cls d H h => h.2) hr hgl hml (by decide +kernel) (by decide) (by decide) he2, sim_listG s⟩
end
end Pd

set_option Elab.async false
set_option linter.all false
set_option maxRecDepth 100000
set_option maxHeartbeats 1000000
namespace Pd
open PySem PySem.Spec PyProof.Rows L2
/-! ### list(f(..)) where nothing is raised; str of an int -/
@[simp] def dListGN (n : Nat) (W : DCG) (tl : DA) : DE := fun ρ M P => tl ρ M fun ds M1 => ds.length = n ∧ W ds M1 (fun out M2 => P (.lst out) M2) xNo
section
variable {X : Cx} {e : Expr} {es : List Expr} {tl : DA} {pos pos' p p' : Pos}
theorem pd_listGN {k n : Nat} {f : Addr} {fd : FuncData} {ps : List Str} {W : DCG} {x : Str} (F : GFn X.prog X.w X.K X.mg X.base k f fd ps (spG n W X.K)) (hr : Room (k + 3) X.A) (hgl : Gl X "list") (hml : X.mg "list" = none) (hg : Gl X x) (hm : X.mg x = some (.ref f)) (hk : PySem.W.keepIn X.K (.ref f) = true)
    (hb : Binds X.K fd ps []) (ha : PDA X (e :: es) tl) (hdb : (x == ("__debug__" : Str)) = false := by decide) (he : starEach (e :: es) X.env = (false, eval e X.env) :: starEach es X.env := by rfl) (hpl : (backTo pos' (starEach es X.env)).any (·.1) = false := by rfl)
    (he2 : starEach [.Call (.Name x p') (e :: es) [] pos'] X.env = (false, eval (.Call (.Name x p') (e :: es) [] pos') X.env) :: starEach [] X.env := by rfl) :
    PD X (.Call (.Name "list" p) [.Call (.Name x p') (e :: es) [] pos'] [] pos) (dListGN n W tl) := by
  obtain ⟨u, pa, s⟩ := ha.ex
  refine ⟨_, pe_listG (E := E0) (pgen_call F (hr.mono (by omega)) hg hm hk hb .nil pa hdb he hpl) (fun pins σ H s e s' I c => ?_) (fun cls d H h => h.elim) hr hgl hml (by decide +kernel) (by decide) (by decide) he2, ?_⟩
  · obtain ⟨_, _, _, _, _, _, _, _, _, _, _, _, z⟩ := c
    exact z.elim
  intro as σ ρ L H M P Q hE A h q
  refine s as σ ρ L H M _ _ hE A h fun vs ds L1 H1 M1 s1 A1 h1 r1 => ?_
  show spG n W X.K (vs ++ []) H1 _ _
  rw [List.append_nil]
  refine ⟨by rw [r1.length]; exact h1.1, as, M1, L1, ds, _, xNo, r1, A1, h1.2, fun ys out L2 H2 M2 s2 A2 p2 r2 => ?_, XC.no⟩
  intro a ha
  have la : L2 a = none := lowfree A2 ha
  exact q (.ref a) (.lst out) (upd L2 a (.lst ys)) _ M2 ((s1.trans A1 s2).trans A2 (Step.know A2 ha)) (A2.know ha) p2 (.lst (.inl (.inl upd_same)) (r2.mono (Ex.new la) (Pre.refl _)))
theorem pdx_listGK {K : PySem.W.Frag} {E : XK} (hK : X.K = K) {k n : Nat} {f : Addr} {fd : FuncData} {ps : List Str} {W : DCG} {x : Str} (tk : Takes X (fun cls d _ H => E cls d H)) (F : GFn X.prog X.w X.K X.mg X.base k f fd ps (spG n W X.K)) (hr : Room (k + 3) X.A) (hgl : Gl X "list") (hml : X.mg "list" = none) (hg : Gl X x) (hm : X.mg x = some (.ref f)) (hk : PySem.W.keepIn X.K (.ref f) = true)
    (hb : Binds X.K fd ps []) (ha : PDA X (e :: es) tl) (hdb : (x == ("__debug__" : Str)) = false := by decide) (he : starEach (e :: es) X.env = (false, eval e X.env) :: starEach es X.env := by rfl) (hpl : (backTo pos' (starEach es X.env)).any (·.1) = false := by rfl)
    (he2 : starEach [.Call (.Name x p') (e :: es) [] pos'] X.env = (false, eval (.Call (.Name x p') (e :: es) [] pos') X.env) :: starEach [] X.env := by rfl) :
    PDX X E (.Call (.Name "list" p) [.Call (.Name x p') (e :: es) [] pos'] [] pos) (dListG K n W tl) := by
  subst hK
  exact pdx_listG tk F hr hgl hml hg hm hk hb ha hdb he hpl he2
@[simp] def oStrI : DC := fun xs M P => ∃ i : Int, xs = [.int i] ∧ i.natAbs.log2 < 1920 ∧ P (.str (toString i)) M
theorem sc_strI {K : PySem.W.Frag} : SimC K (fun xs H Q => ∃ i : Int, xs = [V.int i] ∧ i.natAbs.log2 < 1920 ∧ Q (.str (toString i)) H) oStrI := by
  intro as L H M xs ds P Q A r ⟨i, h, h2, p⟩ q
  subst h
  cases r with
  | cons r1 r2 =>
    cases r2
    cases r1
    exact ⟨i, rfl, h2, q _ _ L H M .refl A p (.str _)⟩
end
/-! ### walks of two clauses; generators' loops -/
theorem lcIn_map {g : DG} {te : DE} {ρ : Rho} {k : List D → Ms → Prop} {M : Ms} (f : D → D) : ∀ (es acc : List D), (∀ e ∈ es, ∀ R : D → Ms → Prop, R (f e) M → g e ρ fun ρ' => te ρ' M R) → acc.length + es.length ≤ sizeLine → k (acc ++ es.map f) M → lcIn g dYes te ρ k es acc M
  | [], acc, _, _, p => by
    show k acc M
    simpa using p
  | d :: r, acc, h, hz, p => by
    rw [List.length_cons] at hz
    exact h d List.mem_cons_self (fun y M2 => acc.length < sizeLine ∧ lcIn g dYes te ρ k r (acc ++ [y]) M2) ⟨by omega, lcIn_map f r (acc ++ [f d]) (fun d' h' => h d' (List.mem_cons_of_mem _ h')) (by rw [List.length_append, List.length_singleton]; omega) (by simpa using p)⟩
theorem lc2_map {g g1 : DG} {it1 : DA} {te : DE} {vs1 : List Nat} {ρ : Rho} {P : D → Ms → Prop} {M : Ms} (f : D → List D) : ∀ (ds acc : List D), (∀ d ∈ ds, ∀ (acc : List D) (k : List D → Ms → Prop), acc.length + (f d).length ≤ sizeLine → k (acc ++ f d) M → g d ρ fun ρ' => it1 ρ' M fun ds1 M2 => lcIn g1 dYes te (wipeR ρ' vs1) k ds1 acc M2) →
    acc.length + (ds.flatMap f).length ≤ sizeLine → P (.lst (acc ++ ds.flatMap f)) M → lc2Run g dYes it1 g1 dYes te vs1 ρ P ds acc M
  | [], acc, _, _, p => by
    show P (.lst acc) M
    simpa using p
  | d :: r, acc, h, hz, p => by
    rw [List.flatMap_cons, List.length_append] at hz
    refine h d List.mem_cons_self acc (fun acc' M' => lc2Run g dYes it1 g1 dYes te vs1 ρ P r acc' M') (by omega) (lc2_map f r (acc ++ f d) (fun d' h' => h d' (List.mem_cons_of_mem _ h')) (by rw [List.length_append]; omega) ?_)
    rw [List.append_assoc, ← List.flatMap_cons]
    exact p
theorem yRun_ind {g : DG} {body : GX} {De : DGE} {Xd : XD} (I : Nat → List D → Rho → Ms → Prop) (is : List D) (step : ∀ (k : Nat) (d : D) (ds : List D) (ρ : Rho) (M : Ms) (N : List D → Rho → Ms → Prop), is[k]? = some d → I k ds ρ M → (∀ ds2 ρ2 M2, I (k + 1) ds2 ρ2 M2 → N ds2 ρ2 M2) → g d ρ fun ρ' => body { De with nx := N, ct := N, bk := De.nx } Xd ds ρ' M)
    (fin : ∀ ds ρ M, I is.length ds ρ M → De.nx ds ρ M) {ds : List D} {ρ : Rho} {M : Ms} (h : I 0 ds ρ M) : yRun g body De Xd is ds ρ M := by
  have key : ∀ (r : List D) (k : Nat) (ds : List D) (ρ : Rho) (M : Ms), is.drop k = r → k + r.length = is.length → I k ds ρ M → yRun g body De Xd r ds ρ M := by
    intro r
    induction r with
    | nil =>
      intro k ds ρ M _ hl h
      have e : k = is.length := by simpa using hl
      subst e
      exact fin ds ρ M h
    | cons d r ih =>
      intro k ds ρ M hd hl h
      have hk : is[k]? = some d := by
        have := congrArg (·[0]?) hd
        simpa using this
      rw [List.length_cons] at hl
      have hr : is.drop (k + 1) = r := by
        have := congrArg List.tail hd
        simpa using this
      exact step k d ds ρ M (fun ds2 ρ2 M2 => yRun g body De Xd r ds2 ρ2 M2) hk h fun ds2 ρ2 M2 h2 => ih (k + 1) ds2 ρ2 M2 hr (by omega) h2
  exact key is 0 ds ρ M (by simp) (by simp) h
/-! ### lists of tuples of ints -/
def tI (xs : List Int) : D := .tup (dI xs)
theorem plain_tuples : ∀ es : List (List Int), plainA (es.map tI) = true
  | [] => rfl
  | x :: xs => by show (plainA (dI x) && plainA (xs.map tI)) = true; rw [plain_ints, plain_tuples xs]; rfl
theorem lay_tuples : ∀ es : List (List Int), PyData.canLayAll0 (toPA (es.map tI)) = true
  | [] => rfl
  | x :: xs => by show (PyData.canLayAll0 (toPA (dI x)) && PyData.canLayAll0 (toPA (xs.map tI))) = true; rw [lay_ints, lay_tuples xs]; rfl
theorem depth_tuples : ∀ es : List (List Int), PyData.depthAll (toPA (es.map tI)) ≤ 1
  | [] => Nat.zero_le _
  | x :: xs => by
    show max (PyData.depthAll (toPA (dI x)) + 1) (PyData.depthAll (toPA (xs.map tI))) ≤ 1
    rw [depth_ints]
    have := depth_tuples xs
    omega
theorem okD_tuples (es : List (List Int)) : okD (.lst (es.map tI)) = true := by
  have h1 : plain (.lst (es.map tI)) = true := plain_tuples es
  have h2 : SeqAt.shaped (toP (.lst (es.map tI))) = true := by
    show (PyData.canLayAll0 (toPA (es.map tI)) && decide (PyData.depthAll (toPA (es.map tI)) + 1 ≤ 64)) = true
    have := depth_tuples es
    rw [lay_tuples, decide_eq_true (by omega)]
    rfl
  unfold okD
  rw [h1, h2]
  rfl
/-! ### a lambda's scope -/
def lamSb (sc scope : Scope) : Bool := (match scope.kind with | .function => true | _ => false) && !scope.isCoroutine && !scope.isGenerator && scope.names.all fun y =>
  (match y.2 with | .local => false | .cell => false | _ => true) && (match y.2 with | .free => (match sc.names.lookup y.1 with | some .cell => true | some .free => true | _ => false) | _ => true)
theorem lamS_by {sc scope : Scope} (h : lamSb sc scope = true) : LamX.LamS sc scope := by
  unfold lamSb at h
  simp only [Bool.and_eq_true] at h
  obtain ⟨⟨⟨h1, h2⟩, h3⟩, h4⟩ := h
  refine ⟨?_, by simpa using h2, by simpa using h3, fun y hy => ?_, fun y hy hf => ?_⟩
  · cases hk : scope.kind <;> rw [hk] at h1 <;> first | rfl | cases h1
  · have := List.all_eq_true.mp h4 y hy
    simp only [Bool.and_eq_true] at this
    constructor
    · intro z; rw [z] at this; cases this.1
    · intro z; rw [z] at this; cases this.1
  · have := (Bool.and_eq_true_iff.mp (List.all_eq_true.mp h4 y hy)).2
    rw [hf] at this
    cases hl : sc.names.lookup y.1 with
    | none => rw [hl] at this; cases this
    | some k => rw [hl] at this; cases k <;> first | exact .inl rfl | exact .inr rfl | cases this
end Pd

set_option Elab.async false
set_option linter.all false
set_option maxRecDepth 100000
set_option maxHeartbeats 1000000
namespace Pd
open PySem PySem.Spec PyProof.Rows L2
/-! ### x = []; a statement that fills x; from then on x is data -/
section
variable {K : PySem.W.Frag} {x : Addr} {as : List Addr} {M1 : Ms} {L1 H1 : Hp}
theorem hid_step (hx : H1 x = none) (o : HO) : Step as L1 H1 as L1 (upd H1 x o) := by
  refine ⟨fun a u _ h => ?_, Ex.refl _, fun _ h _ => h, Pre.refl _, fun _ h => .inl h⟩
  rw [upd_ne (ne_of_none h hx)]; exact h
theorem hid_at (A1 : At K as M1 L1 H1) (hx : H1 x = none) (o : HO) : At K as M1 L1 (upd H1 x o) := by
  refine ⟨fun a u h => ?_, A1.len, A1.nd, fun k a m e1 e2 => ?_, A1.nt⟩
  · rw [upd_ne (ne_of_none (A1.low a u h) hx)]; exact A1.low a u h
  · obtain ⟨h3, u, h4, h5⟩ := A1.mo k a m e1 e2
    exact ⟨h3, u, by rw [upd_ne (ne_of_none h4 hx)]; exact h4, h5.1, h5.2.keep (KeepC.new hx)⟩
theorem list_out {M4 : Ms} {ds : List D} {L3 H3 : Hp} (A1 : At K as M1 L1 H1) (hx : H1 x = none) (s3 : Step (as ++ [x]) L1 (upd H1 x (.lst [])) (as ++ [x]) L3 H3) (A3 : At K (as ++ [x]) (M4 ++ [.lst ds]) L3 H3)
    (hl4 : M4.length = M1.length) (hap : apartA M1.length ds = true) (hapM : apartM M1.length M4 = true) : ∃ L4, Ex L3 L4 ∧ Step as L1 H1 as L4 H3 ∧ At K as M4 L4 H3 ∧ Rp K as L4 (.ref x) (.lst ds) := by
  have xa : x ∉ as := fun z => (A1.held z).2 hx
  have lx : L1 x = none := lowfree A1 hx
  have e0 : ∀ b o, H1 b = some o → (upd H1 x (.lst [])) b = some o := fun b o e => by
    rw [upd_ne (ne_of_none e hx)]
    exact e
  have gx : (as ++ [x])[as.length]? = some x := by rw [List.getElem?_append_right (Nat.le_refl _), Nat.sub_self]; rfl
  have gm : (M4 ++ [MO.lst ds])[as.length]? = some (.lst ds) := by rw [A1.len, ← hl4, List.getElem?_append_right (Nat.le_refl _), Nat.sub_self]; rfl
  obtain ⟨xs, g1, g2⟩ := A3.lst gx gm
  have g3 : RpA K as L3 xs ds := g2.cut (by rw [A1.len]; exact hap)
  have lx3 : L3 x = none := s3.hid x lx (by rw [upd_same]; simp)
  have A4 : At K as M4 (upd L3 x (.lst xs)) H3 := by
    refine ⟨fun b o e => ?_, by rw [hl4]; exact A1.len, A1.nd, fun k a m e1 e2 => ?_, A3.nt.new (fun ps z => by cases z)⟩
    · by_cases hb : b = x
      · subst hb; rw [upd_same] at e; cases e; exact g1
      · rw [upd_ne hb] at e; exact A3.low b o e
    · have hk : k < as.length := (List.getElem?_eq_some_iff.mp e1).1
      obtain ⟨h5, o, h6, h7⟩ := A3.mo k a m (by rw [List.getElem?_append_left hk]; exact e1) (by rw [List.getElem?_append_left (by rw [hl4, ← A1.len]; exact hk)]; exact e2)
      have hax : a ≠ x := fun z => xa (by rw [← z]; exact List.mem_of_getElem? e1)
      exact ⟨by rw [upd_ne hax]; exact h5, o, h6, (h7.1.cut (List.mem_of_getElem? e2) (by rw [A1.len]; exact hapM)).mono (Ex.new lx3) (Pre.refl _), h7.2⟩
  have s4 : Step as L1 H1 as (upd L3 x (.lst xs)) H3 := by
    refine ⟨fun b o hb e => ?_, fun b o e => ?_, fun b e e' => ?_, Pre.refl _, fun _ e => .inl e⟩
    · have hbx : b ≠ x := ne_of_none e hx
      refine s3.up b o (fun z => ?_) (e0 b o e)
      rcases List.mem_append.mp z with z | z
      · exact hb z
      · exact hbx (List.mem_singleton.mp z)
    · rw [upd_ne (fun z => by rw [z, lx] at e; cases e)]; exact s3.k b o e
    · have hbx : b ≠ x := fun z => e' (by rw [z]; exact hx)
      rw [upd_ne hbx]
      refine s3.hid b e ?_
      cases q2 : H1 b with
      | none => exact absurd q2 e'
      | some o => rw [e0 b o q2]; simp
  exact ⟨_, Ex.new lx3, s4, A4, .lst (.inl (.inl upd_same)) (g3.mono (Ex.new lx3) (Pre.refl _))⟩
end
@[simp] def sBuild (i : Nat) (t rest : DS) : DS := fun De ρ M => t { nx := (fun ρ' M' => ∃ M3 ds, M' = M3 ++ [MO.lst ds] ∧ M3.length = M.length ∧ apartM M.length M3 = true ∧ apartA M.length ds = true ∧ (ρ'[i]? = some (some (D.mu M.length))) ∧ rest De ((clean M.length ρ').set i (some (.lst ds))) M3), rt := cutR M.length De.rt, bk := cutE M.length De.bk, ct := cutE M.length De.ct } (ρ.set i (some (.mu M.length))) (M ++ [.lst []])
section
variable {X : Cx} {st : Stmt} {sts : List Stmt} {t s2 : DS} {pos p1 : Pos}
theorem pdss_build {i : Nat} {y : Str} {p' : Pos} (hN : X.N.Nodup) (ht : PDS X st t) (hrest : PDSs X sts s2) (hi : X.N[i]? = some y := by rfl) (hy : Loc X.env.scope y := by first | exact Or.inl rfl | exact Or.inr rfl) (hs : swapsWith (.List [] p1) (some (.Name y p')) pos.line X.env = pure false := by rfl)
    (hf : X.fn y = true ∨ X.env.scope.names.lookup y = some .local := by first | exact .inl rfl | exact .inr rfl | assumption) : PDSs X (.Assign [.Name y p'] (.List [] p1) pos :: st :: sts) (sBuild i t s2) := by
  obtain ⟨u, pt, stt⟩ := ht.ex
  obtain ⟨ur, pr, sr⟩ := hrest.ex
  refine ⟨_, pss_cons (ps_set hN hi hy (pe_lst pa_nil) hs hf) (pss_cons pt pr), ?_⟩
  intro as σ ρ L H M De D hE A h c
  refine ⟨Nat.zero_le _, fun x hx => ?_⟩
  have xa : x ∉ as := fun z => (A.held z).2 hx
  have lx : L x = none := lowfree A hx
  have Ah : At X.K as M L (upd H x (.lst [])) := hid_at A hx _
  have sh : Step as L H as L (upd H x (.lst [])) := hid_step hx _
  have A2 := Ah.add (xs := []) (ds := []) upd_same lx xa .nil
  have gx : (as ++ [x])[M.length]? = some x := by rw [← A.len, List.getElem?_append_right (Nat.le_refl _), Nat.sub_self]; rfl
  have E2 : En X.K (as ++ [x]) L (σ.set i (some (.ref x))) (ρ.set i (some (.mu M.length))) := (hE.mono (Ex.refl _) (pre_app _ _)).set i (.mu gx)
  have fin : ∀ {d : Rho → Ms → Prop} {v : L2.St → Hp → Prop}, EndN X.K as L H d v → EndN X.K (as ++ [x]) L (upd H x (.lst [])) (cutE M.length d) v := by
    intro d v hd σ' ρ' L' H' M' s' A' e' q
    obtain ⟨M3, m', rfl, hl, hap, q⟩ := q
    rw [← A.len] at hap q
    exact hd σ' _ L' H' M3 (sh.cutx Ah hx s') (A'.cut hap) e'.cut q
  refine stt (as ++ [x]) _ _ L (upd H x (.lst [])) _ _ _ E2 A2 h ⟨?_, fun v d L' H' M' s' A' q rv => ?_, fin c.bk, fin c.ct⟩
  · intro σ' ρ' L' H' M' s' A' e' q
    obtain ⟨M3, ds, rfl, hl, hap, hapd, hmu, q⟩ := q
    obtain ⟨L4, x4, s4, A4, r4⟩ := list_out A hx s' A' hl hapd hap
    obtain ⟨v, hv, rv⟩ := e'.at_ i _ hmu
    have ev : v = .ref x := by
      cases rv with
      | mu hk => rw [gx] at hk; cases hk; rfl
    subst ev
    have same : σ'.set i (some (.ref x)) = σ' := by
      apply List.ext_getElem?
      intro j
      rw [List.getElem?_set]
      split
      · rename_i e; subst e
        split
        · exact hv.symm
        · rename_i hlt; exact absurd (List.getElem?_eq_some_iff.mp hv).1 hlt
      · rfl
    have e4 : En X.K as L4 σ' ((clean M.length ρ').set i (some (.lst ds))) := by
      rw [← same, ← A.len]
      exact (e'.cut.mono x4 (Pre.refl _)).set i r4
    exact sr as σ' _ L4 H' M3 De D e4 A4 q (c.step s4 A4)
  · obtain ⟨M3, m', rfl, hl, hap, hd, q⟩ := q
    rw [← A.len] at hap hd
    exact c.rt v d L' H' M3 (sh.cutx Ah hx s') (A'.cut hap) q (rv.cut hd)
/-! ### x.append(e), x a list that grows -/
@[simp] def dApp (i : Nat) (te : DE) : DE := fun ρ M P => ∃ k, ρ[i]? = some (some (.mu k)) ∧ (∃ ds, M[k]? = some (.lst ds)) ∧ te ρ M fun d M1 => ∃ ds, M1[k]? = some (.lst ds) ∧ ds.length < sizeLine ∧ P .non (M1.set k (.lst (ds ++ [d])))
theorem pd_append (i : Nat) {e : Expr} {te : DE} {x : Str} {ap pos p : Pos} (he : PD X e te) (hN : X.N[i]? = some x := by rfl) (hv : Vis X.env.scope x := by first | exact Or.inl rfl | exact Or.inr (Or.inl rfl) | exact Or.inr (Or.inr rfl)) (hd : (x == ("__debug__" : Str)) = false := by decide)
    (hcd : (x == ("__classdict__" : Str)) = false := by decide) (hab : attributeBase (.Name x p) "append" X.env (eval (.Name x p) X.env) = eval (.Name x p) X.env := by rfl) (hs : starEach [e] X.env = (false, eval e X.env) :: starEach [] X.env := by rfl)
    (hfew : (((backTo pos (starEach [e] X.env)).all fun x => !x.1) && ((backToKw pos (keywordEach [] X.env)).all fun x => x.1.isSome) && decide ([e].length + ([] : List Keyword).length + (if ([] : List Keyword).isEmpty = true then 0 else 1) < 30)) = true := by rfl)
    (hline : (ap.endLine == pos.line) = true := by rfl) : PD X (.Call (.Attribute (.Name x p) "append" ap) [e] [] pos) (dApp i te) := by
  obtain ⟨u, pe, s⟩ := he.ex
  refine ⟨_, pe_bm PySem.F.plainAttrs_list PySem.F.slot_list_append PySem.F.type_list_append mt_append (pv i hN hv hd hcd) (pa_cons pe pa_nil hs) hab hfew hline hs rfl, ?_⟩
  intro as σ ρ L H M P Q hE A h q
  obtain ⟨k, hk, ⟨ds0, h0⟩, h⟩ := h
  obtain ⟨v, hv, rv⟩ := hE.at_ i _ hk
  cases rv with
  | mu ha =>
    obtain ⟨xs0, g1, g2⟩ := A.lst ha h0
    refine ⟨_, hv, .inl ⟨rfl, xs0, .inl (.inl g1)⟩, ?_⟩
    refine s as σ ρ L H M _ _ hE A h fun v d L1 H1 M1 s1 A1 h1 r1 => ?_
    obtain ⟨ds, hm, hz, p⟩ := h1
    obtain ⟨xs, g3, g4⟩ := A1.lst ha hm
    refine ⟨_, xs, v, rfl, rfl, g3, by rw [g4.length]; exact hz, ?_⟩
    exact q .non .non L1 _ _ (s1.trans A1 (Step.put (List.mem_of_getElem? ha))) (A1.put ha (.lst (g4.append (.one r1)))) p .non
end
end Pd

set_option Elab.async false
set_option linter.all false
set_option maxRecDepth 100000
set_option maxHeartbeats 1000000
namespace Pd
open PySem PySem.Spec PyProof.Rows L2
/-! ### an own operator with any data on its right -/
section
variable {A : Around} {E : Value → Shared → Prop} {s : Shared} {K : PySem.W.Frag} {x C L f : Addr} {h₀ : Heap} {m : Str → Option Value} {ox : Obj} {od : Option Obj} {prog : Program} {w : World} {T nm : String} {b : Value} {fo ro rc : Option Value}
theorem bin1_any {Q : Option Value → Shared → Prop} (KX : K.In s.heap) (J : PySem.W.InstAt s.heap x ox C od) (hT : PySem.W.Looks (model prog w) s.heap (typeOf b) (.type T)) (hc : PySem.W.selfFirst K C = true) (hs : PySem.W.findIn K (.ref C) (PySem.dunder nm) = some (some (.ref f))) (hf : PySem.W.isFn K (.ref f) = true)
    (hr' : PySem.W.findIn K (.ref C) (PySem.dunderR nm) = some rc) (hp : rc = none ∨ ∃ g : Addr, rc = some (.ref g)) (h1 : PySem.W.findIn K (.type T) (PySem.dunder nm) = some fo) (h2 : PySem.W.findIn K (.type T) (PySem.dunderR nm) = some ro) (hsub : PySem.W.subIn K (.type T) (.ref C) = some false)
    (hq : wpAny (model prog w) A (call (.ref f) [.ref x, b]) (PySem.W.CmpBack fun v s' => Q (some v) s') E s) : wpAny (model prog w) A (binaryOp1 nm (.ref x) b) Q E s := by
  obtain ⟨cd, rest, g1, g2⟩ := PySem.W.ksp_first hc
  have try1 : wpAny (model prog w) A (tryMethod (.ref x) (PySem.dunder nm) b) (fun r s' => ∃ v, r = some v ∧ Q (some v) s') E s := PySem.W.ksp_try KX J hs hf hq
  unfold binaryOp1
  refine wpAny_bind (PySem.W.Looks.here J.type ?_)
  refine wpAny_bind (PySem.W.Looks.here hT ?_)
  refine wpAny_bind (PySem.W.Looks.here (PySem.W.fills_K KX g1 g2 hs) ?_)
  simp only
  have ne : ((Value.ref C) == (Value.type T)) = false := rfl
  rw [if_neg (by rw [ne]; exact Bool.false_ne_true)]
  refine wpAny_bind (PySem.W.Looks.here (PySem.W.ksp_fillsT KX h1 h2) ?_)
  cases hb : (fo.isSome && !isSeqSlot fo || ro.isSome && !isSeqSlot ro) with
  | false =>
    simp only [Bool.and_false, Bool.false_and, Bool.false_eq_true, if_false]
    refine wpAny_bind (wpAny_pure ?_)
    simp only [Bool.false_eq_true, if_false, if_true]
    refine wpAny_bind (wpAny_mono try1 (fun r s' ⟨v, e, q⟩ => ?_) fun _ _ z => z)
    subst e
    exact wpAny_pure q
  | true =>
    simp only [Bool.and_self, if_true, Bool.not_false, Bool.and_true]
    refine wpAny_bind (PySem.W.Looks.here (PySem.W.looks_subIn KX hsub) ?_)
    simp only [Bool.false_eq_true, if_false, Bool.not_false, if_true]
    refine wpAny_bind (PySem.W.Looks.here (PySem.W.ksp_inPy KX hs hr' hp) ?_)
    simp only [if_true]
    have fin : ∀ taken : Option Value, wpAny (model prog w) A (do
        let __do_lift ← tryMethod (.ref x) (PySem.dunder nm) b
        match __do_lift with
          | some v => pure (some v)
          | _ => (pure taken : Sem (Option Value))) Q E s := fun taken => wpAny_bind (wpAny_mono try1 (fun r s' ⟨v, e, q⟩ => by subst e; exact wpAny_pure q) fun _ _ z => z)
    have nT : numberSlotInPython (.type T) nm = pure false := rfl
    rw [nT]
    refine wpAny_bind (wpAny_pure ?_)
    simp only [Bool.not_false, if_true]
    refine wpAny_bind (PySem.W.Looks.here (PySem.W.looks_findIn KX h2) ?_)
    refine wpAny_bind (wpAny_mono try1 (fun r s' ⟨v, e, q⟩ => ?_) fun _ _ z => z)
    subst e
    exact wpAny_pure q
theorem bin_any {op : Operator} {Q : Value → Shared → Prop} (KX : K.In s.heap) (J : PySem.W.InstAt s.heap x ox C od) (hT : PySem.W.Looks (model prog w) s.heap (typeOf b) (.type T)) (hc : PySem.W.selfFirst K C = true) (hs : PySem.W.findIn K (.ref C) (PySem.dunder op.info.2) = some (some (.ref f))) (hf : PySem.W.isFn K (.ref f) = true)
    (hr' : PySem.W.findIn K (.ref C) (PySem.dunderR op.info.2) = some rc) (hp : rc = none ∨ ∃ g : Addr, rc = some (.ref g)) (h1 : PySem.W.findIn K (.type T) (PySem.dunder op.info.2) = some fo) (h2 : PySem.W.findIn K (.type T) (PySem.dunderR op.info.2) = some ro) (hsub : PySem.W.subIn K (.type T) (.ref C) = some false)
    (hq : wpAny (model prog w) A (call (.ref f) [.ref x, b]) (PySem.W.CmpBack Q) E s) : wpAny (model prog w) A (binaryOp op (.ref x) b) Q E s := by
  unfold binaryOp
  refine wpAny_holding ?_
  refine wpAny_bind (wpAny_mono (bin1_any (Q := fun r s' => ∃ v, r = some v ∧ Q v s') KX J hT hc hs hf hr' hp h1 h2 hsub (wpAny_mono hq (fun v s' z => ?_) fun _ _ z => z)) (fun r s' ⟨v, e, q⟩ => ?_) fun _ _ z => z)
  · cases v <;> first | exact z | exact ⟨_, rfl, z⟩
  · subst e
    exact wpAny_pure q
end
/-- the type of an operand that the class's operator may meet -/
def Opd (K : PySem.W.Frag) (C : Addr) (op : Operator) (t : Value) : Prop := t = .ref C ∨ ∃ (T : String) (fo ro : Option Value), t = .type T ∧ PySem.W.findIn K (.type T) (PySem.dunder op.info.2) = some fo ∧ PySem.W.findIn K (.type T) (PySem.dunderR op.info.2) = some ro ∧ PySem.W.subIn K (.type T) (.ref C) = some false
def rOwnX (K : PySem.W.Frag) (C : Addr) (op : Operator) (W : DCX) (E : XK) : R2 := fun x y H Q => ∃ a dx fs t, x = .ref a ∧ H a = some (.ins C dx fs) ∧ TyE K H y t ∧ Opd K C op t ∧ spX 2 W K [x, y] H Q E
section
variable {X : Cx} {E : XK} {k : Nat} {C g : Addr} {fd : FuncData} {ps : List Str} {W : DCX} {op : Operator} {rc : Option Value} {pos : Pos} {a b : Expr} {ta tb : DE}
theorem op_ownX (hx : Passes (L2.CX X.prog X.w) X E) (hc : PySem.W.selfFirst X.K C = true) (hs : PySem.W.findIn X.K (.ref C) (PySem.dunder op.info.2) = some (some (.ref g))) (hf : PySem.W.isFn X.K (.ref g) = true)
    (hr' : PySem.W.findIn X.K (.ref C) (PySem.dunderR op.info.2) = some rc) (hp : rc = none ∨ ∃ g : Addr, rc = some (.ref g)) (F : FnOk X.prog X.w X.K X.mg X.base (L2.CX X.prog X.w) k g fd ps (spX 2 W X.K)) (hb : Binds X.K fd ps []) (hr : Room k X.A) : OpR X (binaryOp op) (rOwnX X.K C op W E) := by
  intro pins s σ H x y v u Q I rx ry h
  obtain ⟨a, dx, fs, t, rfl, ha, ty, ho, q⟩ := h
  cases (show v = Value.ref a from rx)
  obtain ⟨mA, O, _⟩ := ins_get I.hok ha
  obtain ⟨od, J, _⟩ := O.look
  obtain ⟨m, hF⟩ := I.fr
  have run : wpAny (model X.prog X.w) X.A (call (.ref g) [.ref a, u]) (PySem.W.CmpBack (EP X pins σ Q)) X.xe s := by
    refine wpAny_mono (wpAny_call (run_fnR (F.raw hb .nil) hr hx I (vs := [.ref a, y]) (.cons (show RelV (.ref a) (.ref a) from rfl) (.cons ry .nil)) (by rw [List.append_nil]; exact q))) (fun w s' z => ?_) fun _ _ z => z
    obtain ⟨z', H', I', rz, qz⟩ := z
    exact cmpback rz ⟨z', H', I', rz, qz⟩
  have lk := TyE.looks I ty ry
  rcases ho with rfl | ⟨T, fo, ro, rfl, h1, h2, h3⟩
  · exact PySem.W.binop_K hF I.ok.mod.kin J lk hc hs hf run
  · exact bin_any I.kIn J lk hc hs hf hr' hp h1 h2 h3 run
@[simp] def dOpX (K : PySem.W.Frag) (C : Addr) (op : Operator) (W : DCX) (ta tb : DE) : DX := fun ρ M P Xd => ta ρ M fun x M1 => tb ρ M1 fun y M2 => ∃ fs t, x = .ins C fs ∧ DTy K y t ∧ Opd K C op t ∧ W [x, y] M2 P Xd
theorem sim_opX {K : PySem.W.Frag} {ua ub : TE} (ha : SimE K ua ta) (hb : SimE K ub tb) : SimEX K E (tOp (rOwnX K C op W E) ua ub) (dOpX K C op W ta tb) := by
  intro as σ ρ L H M P Xd Q hE A h q xx
  refine ha as σ ρ L H M _ _ hE A h fun x d L1 H1 M1 s1 A1 h1 r1 => ?_
  refine hb as σ ρ L1 H1 M1 _ _ (hE.mono s1.k s1.pre) A1 h1 fun y e L2 H2 M2 s2 A2 h2 r2 => ?_
  obtain ⟨fs, t, rfl, ht, ho, hw⟩ := h2
  have r1' := r1.mono s2.k s2.pre
  have r1'' := r1'
  cases r1' with
  | ins g1 _ => exact ⟨_, _, _, t, rfl, A2.low _ _ g1, dtyE A2 r2 ht, ho, rfl, as, M2, L2, _, P, Xd, .cons r1'' (.cons r2 .nil), A2, hw, fun v d L3 H3 M3 s3 A3 h3 r3 => q v d L3 H3 M3 (s1.trans A1 (s2.trans A2 s3)) A3 h3 r3, (xx.step s1 A1).step s2 A2⟩
theorem pdx_op {K : PySem.W.Frag} (hK : X.K = K) (tk : Takes X (fun cls d _ H => E cls d H)) (hc : PySem.W.selfFirst X.K C = true) (hs : PySem.W.findIn X.K (.ref C) (PySem.dunder op.info.2) = some (some (.ref g))) (hf : PySem.W.isFn X.K (.ref g) = true)
    (hr' : PySem.W.findIn X.K (.ref C) (PySem.dunderR op.info.2) = some rc) (hp : rc = none ∨ ∃ g : Addr, rc = some (.ref g)) (F : FnOk X.prog X.w X.K X.mg X.base (L2.CX X.prog X.w) k g fd ps (spX 2 W X.K)) (hb : Binds X.K fd ps []) (hr : Room k X.A) (ha : PD X a ta) (hb' : PD X b tb) :
    PDX X E (.BinOp a op b pos) (dOpX K C op W ta tb) := by
  subst hK
  obtain ⟨ua, pa, sa⟩ := ha.ex
  obtain ⟨ub, pb, sb⟩ := hb'.ex
  exact ⟨_, pe_op (op_ownX (passes_call tk fun _ _ _ _ h => h) hc hs hf hr' hp F hb hr) pa pb, sim_opX sa sb⟩
/-- .. where it does not raise -/
@[simp] def dOpXN (K : PySem.W.Frag) (C : Addr) (op : Operator) (W : DCX) (ta tb : DE) : DE := fun ρ M P => dOpX K C op W ta tb ρ M P xNo
theorem pd_opN {K : PySem.W.Frag} (hK : X.K = K) (hc : PySem.W.selfFirst X.K C = true) (hs : PySem.W.findIn X.K (.ref C) (PySem.dunder op.info.2) = some (some (.ref g))) (hf : PySem.W.isFn X.K (.ref g) = true)
    (hr' : PySem.W.findIn X.K (.ref C) (PySem.dunderR op.info.2) = some rc) (hp : rc = none ∨ ∃ g : Addr, rc = some (.ref g)) (F : FnOk X.prog X.w X.K X.mg X.base (L2.CX X.prog X.w) k g fd ps (spX 2 W X.K)) (hb : Binds X.K fd ps []) (hr : Room k X.A) (ha : PD X a ta) (hb' : PD X b tb) :
    PD X (.BinOp a op b pos) (dOpXN K C op W ta tb) := by
  subst hK
  obtain ⟨ua, pa, sa⟩ := ha.ex
  obtain ⟨ub, pb, sb⟩ := hb'.ex
  exact ⟨_, pe_op (op_ownX (E := E0) passL hc hs hf hr' hp F hb hr) pa pb, sim_ofX (sim_opX (E := E0) sa sb)⟩
end
end Pd

set_option Elab.async false
set_option linter.all false
set_option maxRecDepth 100000
set_option maxHeartbeats 1000000
namespace Pd
open PySem PySem.Spec PyProof.Rows L2
/-! ### the repr of lists and tuples of small things -/
theorem join_ok (sep : Str) (hs : PyData.strOk sep = true) : ∀ ts : List Str, (∀ t ∈ ts, PyData.strOk t = true) → PyData.strOk (Str.join sep ts) = true
  | [], _ => by show PyData.strOk ⟨#[]⟩ = true; unfold PyData.strOk; simp
  | [t], h => h t List.mem_cons_self
  | t :: u :: r, h => by
    show PyData.strOk (t ++ sep ++ Str.join sep (u :: r)) = true
    rw [strOk_append, strOk_append, h t List.mem_cons_self, hs, join_ok sep hs (u :: r) fun x hx => h x (List.mem_cons_of_mem _ hx)]
    rfl
theorem tupleText_ok (ts : List Str) (h : ∀ t ∈ ts, PyData.strOk t = true) : PyData.strOk (tupleText ts) = true := by
  unfold tupleText
  rw [strOk_append, strOk_append, strOk_of, join_ok _ (strOk_of _) ts h]
  split <;> rw [strOk_of] <;> rfl
theorem listText_ok (ts : List Str) (h : ∀ t ∈ ts, PyData.strOk t = true) : PyData.strOk (listText ts) = true := by
  rw [listText_eq_join, strOk_append, strOk_append, strOk_of, join_ok _ (strOk_of _) ts h, strOk_of]
  rfl
/-- data whose repr is told, has at most n signs and may be compared; at most k deep -/
structure Sm (n k : Nat) (d : D) : Prop where
  pl : plainR d = true
  sh : (toP d).showable = true
  sz : (reprD d).length ≤ n
  dp : (toP d).depth ≤ k
  ok : PyData.strOk (reprD d) = true
theorem Sm.mono {n n' k k' : Nat} {d : D} (h : Sm n k d) (h1 : n ≤ n') (h2 : k ≤ k') : Sm n' k' d := ⟨h.pl, h.sh, Nat.le_trans h.sz h1, Nat.le_trans h.dp h2, h.ok⟩
theorem Sm.shows {n k : Nat} {d : D} (h : Sm n k d) (h1 : n ≤ sizeLine) (h2 : k ≤ 60) : Shows d := ⟨h.pl, h.sh, Nat.le_trans h.sz h1, Nat.le_trans h.dp h2⟩
theorem plainRA_of : ∀ ds : List D, (∀ d ∈ ds, plainR d = true) → plainRA ds = true
  | [], _ => rfl
  | d :: ds, h => by show (plainR d && plainRA ds) = true; rw [h d List.mem_cons_self, plainRA_of ds fun x hx => h x (List.mem_cons_of_mem _ hx)]; rfl
theorem showA_of : ∀ ds : List D, (∀ d ∈ ds, (toP d).showable = true) → PyData.showableAll (toPA ds) = true
  | [], _ => rfl
  | d :: ds, h => by show ((toP d).showable && PyData.showableAll (toPA ds)) = true; rw [h d List.mem_cons_self, showA_of ds fun x hx => h x (List.mem_cons_of_mem _ hx)]; rfl
theorem depthA_of {k : Nat} : ∀ ds : List D, (∀ d ∈ ds, (toP d).depth ≤ k) → PyData.depthAll (toPA ds) ≤ k
  | [], _ => Nat.zero_le _
  | d :: ds, h => by
    show max (toP d).depth (PyData.depthAll (toPA ds)) ≤ k
    have h1 := h d List.mem_cons_self
    have h2 := depthA_of ds fun x hx => h x (List.mem_cons_of_mem _ hx)
    omega
theorem shownA : ∀ ds : List D, PyData.shownAll (toPA ds) = ds.map reprD
  | [] => rfl
  | d :: ds => by show (toP d).shown :: PyData.shownAll (toPA ds) = _; rw [shownA ds]; rfl
theorem sum_le {n : Nat} : ∀ ds : List D, (∀ d ∈ ds, (reprD d).length ≤ n) → ((ds.map reprD).map fun x => x.length).sum ≤ ds.length * n
  | [], _ => by simp
  | d :: ds, h => by
    have h1 := h d List.mem_cons_self
    have h2 := sum_le ds fun x hx => h x (List.mem_cons_of_mem _ hx)
    rw [List.map_cons, List.map_cons, List.sum_cons, List.length_cons, Nat.succ_mul]
    omega
theorem sm_tup {n k m : Nat} {ds : List D} (h : ∀ d ∈ ds, Sm n k d) (hm : ds.length ≤ m) : Sm (m * (n + 2) + 3) (k + 1) (.tup ds) := by
  have hl : ds.length * n + 2 * ds.length ≤ m * (n + 2) := by
    have := Nat.mul_le_mul_right (n + 2) hm
    rw [Nat.mul_add] at this
    omega
  refine ⟨plainRA_of ds fun d hd => (h d hd).pl, showA_of ds fun d hd => (h d hd).sh, ?_, ?_, ?_⟩
  · show (tupleText (PyData.shownAll (toPA ds))).length ≤ _
    rw [shownA]
    have h1 := tupleText_len_le (ds.map reprD)
    have h2 := sum_le ds fun d hd => (h d hd).sz
    rw [List.length_map] at h1
    omega
  · show PyData.depthAll (toPA ds) + 1 ≤ k + 1
    have := depthA_of ds fun d hd => (h d hd).dp
    omega
  · show PyData.strOk (tupleText (PyData.shownAll (toPA ds))) = true
    rw [shownA]
    refine tupleText_ok _ fun t ht => ?_
    obtain ⟨d, hd, rfl⟩ := List.mem_map.mp ht
    exact (h d hd).ok
theorem sm_lst {n k m : Nat} {ds : List D} (h : ∀ d ∈ ds, Sm n k d) (hm : ds.length ≤ m) : Sm (m * (n + 2) + 3) (k + 1) (.lst ds) := by
  have hl : ds.length * n + 2 * ds.length ≤ m * (n + 2) := by
    have := Nat.mul_le_mul_right (n + 2) hm
    rw [Nat.mul_add] at this
    omega
  refine ⟨plainRA_of ds fun d hd => (h d hd).pl, showA_of ds fun d hd => (h d hd).sh, ?_, ?_, ?_⟩
  · show (listText (PyData.shownAll (toPA ds))).length ≤ _
    rw [shownA]
    have h1 := listText_len_le (ds.map reprD)
    have h2 := sum_le ds fun d hd => (h d hd).sz
    rw [List.length_map] at h1
    omega
  · show PyData.depthAll (toPA ds) + 1 ≤ k + 1
    have := depthA_of ds fun d hd => (h d hd).dp
    omega
  · show PyData.strOk (listText (PyData.shownAll (toPA ds))) = true
    rw [shownA]
    refine listText_ok _ fun t ht => ?_
    obtain ⟨d, hd, rfl⟩ := List.mem_map.mp ht
    exact (h d hd).ok
/-- an int of at most 1000 -/
theorem sm_int {i : Int} (h : i.natAbs ≤ 1000) : Sm sizeLine 0 (.int i) := by
  have hl : i.natAbs.log2 < 1920 := by
    have := Nat.log2_le_self i.natAbs
    omega
  exact ⟨rfl, decide_eq_true hl, int_text_fits hl, Nat.le_refl _, strOk_of _⟩
/-- .. of at most five signs -/
theorem sm_int5 : ∀ i : Int, i.natAbs ≤ 1001 → Sm 5 0 (.int i) := by
  intro i h
  have key : ∀ n : Fin 1002, (Str.ofString (toString (n.val : Int))).length ≤ 5 ∧ (Str.ofString (toString (-(n.val : Int)))).length ≤ 5 := by decide +kernel
  have hl : i.natAbs.log2 < 1920 := by
    have := Nat.log2_le_self i.natAbs
    omega
  refine ⟨rfl, decide_eq_true hl, ?_, Nat.le_refl _, strOk_of _⟩
  show (Str.ofString (toString i)).length ≤ 5
  have k := key ⟨i.natAbs, by omega⟩
  rcases Int.natAbs_eq i with e | e
  · rw [e]; exact k.1
  · rw [e]; exact k.2
end Pd

set_option Elab.async false
set_option linter.all false
set_option maxRecDepth 100000
set_option maxHeartbeats 1000000
namespace Pd
open PySem PySem.Spec PyProof.Rows L2
/-! ### < of tuples of ints -/
@[simp] def oLtT : D2 := fun x y M P => ∃ ns ms : List Int, x = .tup (dI ns) ∧ y = .tup (dI ms) ∧ P (.bl (HT.lexLt ns ms)) M
theorem sr_ltT {K : PySem.W.Frag} : SimR K (rLtT K) oLtT := by
  intro as L H M x y d e P Q A r1 r2 ⟨ns, ms, h1, h2, p⟩ q
  subst h1; subst h2
  cases r1 with
  | tup g1 w1 =>
    cases r2 with
    | tup g2 w2 =>
      have e1 := w1.ints
      have e2 := w2.ints
      subst e1; subst e2
      exact ⟨_, _, ns, ms, rfl, rfl, ex_t A.low g1, ex_t A.low g2, q _ _ L H M .refl A p (.bl _)⟩
end Pd

set_option Elab.async false
set_option linter.all false
set_option maxRecDepth 100000
set_option maxHeartbeats 1000000
namespace Pd
open PySem PySem.Spec PyProof.Rows L2
/-! ### s[lo:hi] of a list or a tuple, the whole of it too -/
def rSlS (K : PySem.W.Frag) (x : V) (lo hi : Option Int) (H : Hp) (Q : VK) : Prop := rSlL K x lo hi H Q ∨ rSlA K x lo hi H Q
theorem sl_seq {X : Cx} : SlR X (rSlS X.K) := by
  intro pins s σ H x v vl vu lo hi sl Q I r hs p1 p2 h
  rcases h with h | h
  · exact sl_list pins s σ H x v vl vu lo hi sl Q I r hs p1 p2 h
  · exact sl_tupA pins s σ H x v vl vu lo hi sl Q I r hs p1 p2 h
def likeD : D → List D → D
  | .lst _, xs => .lst xs
  | .tup _, xs => .tup xs
  | d, _ => d
theorem cutD_whole {ds : List D} {l u : Option Int} (h : HT.sIx ds.length 0 l = 0 ∧ HT.sIx ds.length ds.length u = ds.length) : cutD ds l u = ds := by
  unfold cutD
  rw [h.1, h.2]
  simp
@[simp] def dSlS (t : DE) (tl tu : DO) : DE := fun ρ M P => t ρ M fun d M1 => ∃ ds, isSeq d ds ∧ tl ρ M1 fun l M2 => tu ρ M2 fun u M3 => P (likeD d (cutD ds l u)) M3
section
variable {X : Cx} {e : Expr} {lo hi : Option Expr} {t : DE} {tl tu : DO} {p2 pos : Pos}
theorem pd_slS (he : PD X e t) (hl : PDO X lo tl) (hu : PDO X hi tu) : PD X (.Subscript e (.Slice lo hi none p2) pos) (dSlS t tl tu) := by
  obtain ⟨u, p, s⟩ := he.ex
  obtain ⟨ul, pl, sl⟩ := hl.ex
  obtain ⟨uu, pu, su⟩ := hu.ex
  refine ⟨_, pe_slice sl_seq p pl pu, ?_⟩
  intro as σ ρ L H M P Q hE A h q
  refine s as σ ρ L H M _ _ hE A h fun v d L1 H1 M1 s1 A1 h1 r1 => ?_
  obtain ⟨ds, hd, h1⟩ := h1
  refine sl as σ ρ L1 H1 M1 _ _ (hE.mono s1.k s1.pre) A1 h1 fun l L2 H2 M2 s2 A2 h2 => ?_
  have s12 := s1.trans A1 s2
  refine su as σ ρ L2 H2 M2 _ _ (hE.mono s12.k s12.pre) A2 h2 fun w L3 H3 M3 s3 A3 h3 => ?_
  have s23 := s2.trans A2 s3
  rcases hd with rfl | rfl
  · cases r1 with
    | lst hs ra =>
      refine .inl ⟨_, _, rfl, ex_l (s23.k.trans A3.low) hs, fun p hp => ?_⟩
      have lp := lowfree A3 hp
      exact q _ _ _ _ M3 ((s12.trans A2 s3).trans A3 (Step.know A3 hp)) (A3.know hp) h3 (.lst (.inl (.inl upd_same)) ((ra.slice l w).mono (s23.k.trans (Ex.new lp)) (Pre.refl _)))
  · have r1' := r1
    cases r1 with
    | tup hs ra =>
      refine .inr ⟨_, _, rfl, ex_t (s23.k.trans A3.low) hs, fun hw => ?_, fun _ p hp => ?_⟩
      · rw [ra.length] at hw
        have h3' : P (likeD (.tup ds) (cutD ds l w)) M3 := h3
        rw [cutD_whole hw] at h3'
        exact q _ _ _ _ M3 (s12.trans A2 s3) A3 h3' (r1'.mono s23.k (Pre.refl _))
      · have lp := lowfree A3 hp
        exact q _ _ _ _ M3 ((s12.trans A2 s3).trans A3 (Step.know A3 hp)) (A3.know hp) h3 (.tup (.inl (.inl upd_same)) ((ra.slice l w).mono (s23.k.trans (Ex.new lp)) (Pre.refl _)))
end
/-! ### a field of an instance that is being made -/
@[simp] def dFldMu (K : PySem.W.Frag) (t : DE) (f : Str) : DE := fun ρ M P => t ρ M fun x M1 => ∃ j C fs v, x = .mu j ∧ M1[j]? = some (.ins C fs) ∧ Cls K C ∧ NoAttr K C f ∧ fs.lookup f = some v ∧ P v M1
theorem pd_fldMu {X : Cx} {K : PySem.W.Frag} {e : Expr} {t : DE} {pos : Pos} {f : Str} (hK : X.K = K) (he : PD X e t) (hb : attributeBase e f X.env (eval e X.env) = eval e X.env := by rfl) : PD X (.Attribute e f pos) (dFldMu K t f) := by
  subst hK
  obtain ⟨u, p, s⟩ := he.ex
  refine ⟨_, pe_fld p hb, ?_⟩
  intro as σ ρ L H M P Q hE A h q
  refine s as σ ρ L H M _ _ hE A h fun v d L1 H1 M1 s1 A1 h1 r1 => ?_
  obtain ⟨j, C, fs, w, rfl, hm, c, n, hl, p⟩ := h1
  cases r1 with
  | mu hj =>
    obtain ⟨dx, fv, g1, g2⟩ := A1.ins hj hm
    obtain ⟨z, h2, h3⟩ := g2.look hl
    exact ⟨_, C, _, _, z, rfl, g1, c, n, h2, q _ _ L1 H1 M1 s1 A1 p h3⟩
end Pd

set_option Elab.async false
set_option linter.all false
set_option maxRecDepth 100000
set_option maxHeartbeats 1000000
namespace Pd
open PySem PySem.Spec PyProof.Rows L2
/-! ### the keys of a dict that is known -/
@[simp] def iKeyD (t : DE) : DA := fun ρ M P => t ρ M fun d M1 => ∃ ks ds, d = .dic ks ds ∧ P (ks.map keyD) M1
theorem rp_key {K : PySem.W.Frag} {as : List Addr} {L : Hp} (k : Key) : Rp K as L (kV k) (keyD k) := by
  cases k with
  | inl i => exact .int i
  | inr x => exact .str x
theorem walks_keys {K : PySem.W.Frag} {as : List Addr} {L0 : Hp} {a : Addr} {o : Obj} {ks : List Key} {vs : List V} (h : L0 a = some (.frz o (.dK (ks.zip vs)))) (hl : ks.length = vs.length) : Walks K (Itk a o (ks.zip vs)) as L0 (ks.map keyD) := by
  intro L H M e A
  have g1 := A.low _ _ (e _ _ h)
  have hz : (ks.zip vs).length = ks.length := by rw [List.length_zip, hl, Nat.min_self]
  refine ⟨fun i hi => ?_, g1, by rw [List.length_map, hz]; exact Nat.le_refl _⟩
  rw [List.length_map] at hi
  refine ⟨⟨g1, by rw [hz]; exact hi⟩, fun v H' y => ?_⟩
  obtain ⟨rfl, k, v', h1, rfl⟩ := y
  have hk : ks[i]? = some k := (List.getElem?_zip_eq_some.mp h1).1
  exact ⟨keyD k, L, by rw [List.getElem?_map, hk]; rfl, .refl, A, rp_key k⟩
section
variable {X : Cx} {e tg : Expr} {t : DE} {pos : Pos}
theorem pdi_keys (h : PD X e t) : PDI X tg e (iKeyD t) := by
  obtain ⟨u, p, s⟩ := h.ex
  refine ⟨_, pi_keys p, ?_⟩
  intro as σ ρ L H M P R hE A hh q
  refine s as σ ρ L H M _ _ hE A hh fun v d L1 H1 M1 s1 A1 h1 r1 => ?_
  obtain ⟨ks, ds, rfl, p1⟩ := h1
  cases r1 with
  | dic hf hl rr =>
    obtain ⟨o, hf⟩ := hf
    exact ⟨_, o, rfl, .inl ⟨_, A1.low _ _ hf, q _ _ L1 H1 M1 s1 A1 p1 (walks_keys hf hl)⟩⟩
/-- an expression that is not come to -/
@[simp] def dNeverT : DT := fun _ _ _ => False
@[simp] def dNever : DE := fun _ _ _ => False
theorem pd_never : PD X e dNever := ⟨fun _ _ _ => False, ⟨fun _ _ _ _ _ _ h => False.elim h⟩, fun _ _ _ _ _ _ _ _ _ _ h _ => False.elim h⟩
theorem pdt_never : PDT X e dNeverT := ⟨fun _ _ _ => False, ⟨fun _ _ _ _ _ _ h => False.elim h⟩, fun _ _ _ _ _ _ _ _ _ _ h _ => False.elim h⟩
/-! ### a text, many times -/
theorem rep_size (z : Array Nat) : ∀ (n : Nat) (acc : Array Nat), ((List.replicate n z).foldl (· ++ ·) acc).size = acc.size + n * z.size
  | 0, acc => by simp
  | n + 1, acc => by
    rw [List.replicate_succ, List.foldl_cons, rep_size z n, Array.size_append, Nat.succ_mul]
    omega
def repS (z : Str) (k : Int) : Str := if k = 1 then z else ⟨(List.replicate k.toNat z.cps).foldl (· ++ ·) #[]⟩
def rRepS : R2 := fun x y H Q => ∃ (z : Str) (k : Int), x = .str z ∧ y = .int k ∧ 1 ≤ k ∧ k ≤ 1000 ∧ 1 ≤ z.length ∧ z.length ≤ 1000 ∧ Q (.str (repS z k)) H
theorem op_repS : OpR X (binaryOp .Mult) rRepS := by
  intro pins s σ H x y v u Q I rx ry h
  obtain ⟨z, k, rfl, rfl, h1, h2, h3, h4, q⟩ := h
  obtain ⟨t, rfl⟩ := rx
  obtain ⟨t2, rfl⟩ := ry
  have hsl : sizeLine = 16777216 := by decide
  have hm : z.length * k.toNat ≤ 1000 * 1000 := Nat.mul_le_mul h4 (by omega)
  refine P.mul_str ?_ (fun _ _ => ?_) (fun _ _ => ?_) ?_
  · rw [decide_eq_false (by omega), decide_eq_false (by omega)]; rfl
  · have : (1000 : Int) ≤ (2 ^ 63 - 1) / k := by
      refine Int.le_ediv_of_mul_le (by omega) ?_
      have : 1000 * k ≤ 1000 * 1000 := by omega
      omega
    omega
  · unfold Builtin.Str.tooLong
    exact decide_eq_false (by omega)
  · rw [if_neg (by omega)]
    have hz0 : (z.length == 0) = false := by simp; omega
    rw [hz0, Bool.or_false]
    by_cases hk : k = 1
    · subst hk
      refine ⟨.str z, H, I, ⟨t, rfl⟩, ?_⟩
      have e : repS z 1 = z := if_pos rfl
      rw [e] at q; exact q
    · have hk' : ¬ (k == 1) = true := by simpa using hk
      rw [if_neg hk']
      refine ⟨?_, ⟨.str (repS z k), H, I.tok _, ⟨s.toks, ?_⟩, q⟩⟩
      · show ((List.replicate k.toNat z.cps).foldl (· ++ ·) #[]).size ≤ sizeLine
        rw [rep_size]
        have : z.length = z.cps.size := rfl
        rw [this] at hm h4
        have e : k.toNat * z.cps.size = z.cps.size * k.toNat := Nat.mul_comm _ _
        simp only [List.size_toArray, List.length_nil]
        omega
      · unfold repS; rw [if_neg hk]
@[simp] def oRepS : D2 := fun x y M P => ∃ (z : Str) (k : Int), x = .str z ∧ y = .int k ∧ 1 ≤ k ∧ k ≤ 1000 ∧ 1 ≤ z.length ∧ z.length ≤ 1000 ∧ P (.str (repS z k)) M
theorem sr_repS {K : PySem.W.Frag} : SimR K rRepS oRepS := by
  intro as L H M x y d e P Q A r1 r2 ⟨z, k, h1, h2, a, b, c, d', p⟩ q
  subst h1; subst h2
  cases r1; cases r2
  exact ⟨z, k, rfl, rfl, a, b, c, d', q _ _ L H M .refl A p (.str _)⟩
/-! ### xs[::-1] -/
@[simp] def dRevL (t : DE) : DE := fun ρ M P => t ρ M fun d M1 => ∃ ds, d = .lst ds ∧ P (.lst ds.reverse) M1
theorem RpA.rev {K : PySem.W.Frag} {as : List Addr} {L : Hp} : ∀ {vs : List V} {ds : List D}, RpA K as L vs ds → RpA K as L vs.reverse ds.reverse
  | _, _, .nil => .nil
  | _, _, .cons r t => by
    rw [List.reverse_cons, List.reverse_cons]
    exact (RpA.rev t).append (.one r)
theorem pd_revL {k : Nat} {p1 p2 p3 : Pos} (h : PD X e t) : PD X (.Subscript e (.Slice none none (some (.UnaryOp .USub (.Constant (.int 1) k p1) p2)) p3) pos) (dRevL t) := by
  obtain ⟨u, p, s⟩ := h.ex
  refine ⟨_, pe_revL p, ?_⟩
  intro as σ ρ L H M P Q hE A hh q
  refine s as σ ρ L H M _ _ hE A hh fun v d L1 H1 M1 s1 A1 h1 r1 => ?_
  obtain ⟨ds, rfl, p1⟩ := h1
  cases r1 with
  | lst hs rr =>
    refine ⟨_, _, rfl, ex_l A1.low hs, fun p' hp' => ?_⟩
    exact q _ _ _ _ M1 (s1.trans A1 (Step.know A1 hp')) (A1.know hp') p1 (.lst (.inl (.inl upd_same)) (rr.rev.mono (Ex.new (lowfree A1 hp')) (Pre.refl _)))
end
/-! ### x = a new list; a statement that changes it; from then on x is data -/
section
variable {K : PySem.W.Frag} {x : Addr} {as : List Addr} {M1 : Ms} {L1 H1 : Hp}
theorem list_outN {M4 : Ms} {ds : List D} {xs0 : List V} {L3 H3 : Hp} (A1 : At K as M1 L1 H1) (hx : H1 x = none) (s3 : Step (as ++ [x]) L1 (upd H1 x (.lst xs0)) (as ++ [x]) L3 H3) (A3 : At K (as ++ [x]) (M4 ++ [.lst ds]) L3 H3)
    (hl4 : M4.length = M1.length) (hap : apartA M1.length ds = true) (hapM : apartM M1.length M4 = true) : ∃ L4, Ex L3 L4 ∧ Step as L1 H1 as L4 H3 ∧ At K as M4 L4 H3 ∧ Rp K as L4 (.ref x) (.lst ds) := by
  have xa : x ∉ as := fun z => (A1.held z).2 hx
  have lx : L1 x = none := lowfree A1 hx
  have e0 : ∀ b o, H1 b = some o → (upd H1 x (.lst xs0)) b = some o := fun b o e => by
    rw [upd_ne (ne_of_none e hx)]
    exact e
  have gx : (as ++ [x])[as.length]? = some x := by rw [List.getElem?_append_right (Nat.le_refl _), Nat.sub_self]; rfl
  have gm : (M4 ++ [MO.lst ds])[as.length]? = some (.lst ds) := by rw [A1.len, ← hl4, List.getElem?_append_right (Nat.le_refl _), Nat.sub_self]; rfl
  obtain ⟨xs, g1, g2⟩ := A3.lst gx gm
  have g3 : RpA K as L3 xs ds := g2.cut (by rw [A1.len]; exact hap)
  have lx3 : L3 x = none := s3.hid x lx (by rw [upd_same]; simp)
  have A4 : At K as M4 (upd L3 x (.lst xs)) H3 := by
    refine ⟨fun b o e => ?_, by rw [hl4]; exact A1.len, A1.nd, fun k a m e1 e2 => ?_, A3.nt.new (fun ps z => by cases z)⟩
    · by_cases hb : b = x
      · subst hb; rw [upd_same] at e; cases e; exact g1
      · rw [upd_ne hb] at e; exact A3.low b o e
    · have hk : k < as.length := (List.getElem?_eq_some_iff.mp e1).1
      obtain ⟨h5, o, h6, h7⟩ := A3.mo k a m (by rw [List.getElem?_append_left hk]; exact e1) (by rw [List.getElem?_append_left (by rw [hl4, ← A1.len]; exact hk)]; exact e2)
      have hax : a ≠ x := fun z => xa (by rw [← z]; exact List.mem_of_getElem? e1)
      exact ⟨by rw [upd_ne hax]; exact h5, o, h6, (h7.1.cut (List.mem_of_getElem? e2) (by rw [A1.len]; exact hapM)).mono (Ex.new lx3) (Pre.refl _), h7.2⟩
  have s4 : Step as L1 H1 as (upd L3 x (.lst xs)) H3 := by
    refine ⟨fun b o hb e => ?_, fun b o e => ?_, fun b e e' => ?_, Pre.refl _, fun _ e => .inl e⟩
    · have hbx : b ≠ x := ne_of_none e hx
      refine s3.up b o (fun z => ?_) (e0 b o e)
      rcases List.mem_append.mp z with z | z
      · exact hb z
      · exact hbx (List.mem_singleton.mp z)
    · rw [upd_ne (fun z => by rw [z, lx] at e; cases e)]; exact s3.k b o e
    · have hbx : b ≠ x := fun z => e' (by rw [z]; exact hx)
      rw [upd_ne hbx]
      refine s3.hid b e ?_
      cases q2 : H1 b with
      | none => exact absurd q2 e'
      | some o => rw [e0 b o q2]; simp
  exact ⟨_, Ex.new lx3, s4, A4, .lst (.inl (.inl upd_same)) (g3.mono (Ex.new lx3) (Pre.refl _))⟩
end
/-- an expression that makes a new list -/
def SimL (K : PySem.W.Frag) (te : TE) (t : DA) : Prop := ∀ as σ ρ L H M P Q, En K as L σ ρ → At K as M L H → t ρ M P →
  (∀ vs ds L' H' M', Step as L H as L' H' → At K as M' L' H' → P ds M' → RpA K as L' vs ds → ∀ p, H' p = none → Q (.ref p) (upd H' p (.lst vs))) → te σ H Q
structure PDL (X : Cx) (e : Expr) (t : DA) : Prop where
  ex : ∃ te, PE X e te ∧ SimL X.K te t
section
variable {X : Cx} {e0 : Expr} {es : List Expr} {st : Stmt} {sts : List Stmt} {t s2 : DS} {pos p1 p : Pos} {te : DE} {tl : DA}
@[simp] def lDisp (tl : DA) : DA := fun ρ M P => tl ρ M fun ds M1 => ds.length ≤ sizeLine ∧ P ds M1
theorem pdl_lst (h : PDA X es tl) : PDL X (.List es pos) (lDisp tl) := by
  obtain ⟨u, pa, s⟩ := h.ex
  refine ⟨_, pe_lst pa, ?_⟩
  intro as σ ρ L H M P Q hE A hh q
  refine s as σ ρ L H M _ _ hE A hh fun vs ds L1 H1 M1 s1 A1 h1 r1 => ⟨by rw [r1.length]; exact h1.1, fun p hp => ?_⟩
  exact q vs ds L1 H1 M1 s1 A1 h1.2 r1 p hp
@[simp] def lList (tl : DA) : DA := fun ρ M P => tl ρ M fun ds M1 => ∃ d xs, ds = [d] ∧ isSeq d xs ∧ P xs M1
theorem pdl_list {x : Str} (hg : Gl X x) (hm : X.mg x = none) (hv : bootBuiltins x = some (.type "list")) (h : PDA X (e0 :: es) tl) (hn : x ≠ "__name__" := by decide) (hdb : (x == ("__debug__" : Str)) = false := by decide)
    (hst : starEach (e0 :: es) X.env = (false, eval e0 X.env) :: starEach es X.env := by rfl) (hpl : (backTo pos (starEach es X.env)).any (·.1) = false := by rfl) : PDL X (.Call (.Name x p) (e0 :: es) [] pos) (lList tl) := by
  obtain ⟨u, pa, s⟩ := h.ex
  refine ⟨_, pe_callTy call_list_of hg hm hv pa hn hdb hst hpl, ?_⟩
  intro as σ ρ L H M P Q hE A hh q
  refine s as σ ρ L H M _ _ hE A hh fun vs ds L1 H1 M1 s1 A1 h1 r1 => ?_
  obtain ⟨d, xs, rfl, hd, p1⟩ := h1
  cases r1 with
  | cons ra rb =>
    cases rb
    obtain ⟨k, a, ys, rfl, hk, rr⟩ := rp_seq ra hd
    refine ⟨a, ys, rfl, ?_, fun l hl => q ys xs L1 H1 M1 s1 A1 p1 rr l hl⟩
    cases k with
    | l => exact .inl (ex_l A1.low hk)
    | t => exact .inr (ex_t A1.low hk)
@[simp] def sBuildN (i : Nat) (tl : DA) (t rest : DS) : DS := fun De ρ M => tl ρ M fun ds0 M1 => t { nx := (fun ρ' M' => ∃ M3 ds, M' = M3 ++ [MO.lst ds] ∧ M3.length = M1.length ∧ apartM M1.length M3 = true ∧ apartA M1.length ds = true ∧ (ρ'[i]? = some (some (D.mu M1.length))) ∧ rest De ((clean M1.length ρ').set i (some (.lst ds))) M3), rt := cutR M1.length De.rt, bk := cutE M1.length De.bk, ct := cutE M1.length De.ct } (ρ.set i (some (.mu M1.length))) (M1 ++ [.lst ds0])
theorem pdss_buildN {i : Nat} {y : Str} {p' : Pos} (hN : X.N.Nodup) (h0 : PDL X e0 tl) (ht : PDS X st t) (hrest : PDSs X sts s2) (hi : X.N[i]? = some y := by rfl) (hy : Loc X.env.scope y := by first | exact Or.inl rfl | exact Or.inr rfl) (hs : swapsWith e0 (some (.Name y p')) pos.line X.env = pure false := by rfl)
    (hf : X.fn y = true ∨ X.env.scope.names.lookup y = some .local := by first | exact .inl rfl | exact .inr rfl | assumption) : PDSs X (.Assign [.Name y p'] e0 pos :: st :: sts) (sBuildN i tl t s2) := by
  obtain ⟨u0, p0, s0⟩ := h0.ex
  obtain ⟨u, pt, stt⟩ := ht.ex
  obtain ⟨ur, pr, sr⟩ := hrest.ex
  refine ⟨_, pss_cons (ps_set hN hi hy p0 hs hf) (pss_cons pt pr), ?_⟩
  intro as σ ρ L0 H0 M0 De D hE0 A0 h c0
  refine s0 as σ ρ L0 H0 M0 _ _ hE0 A0 h fun vs ds0 L H M st0 A h r0 x hx => ?_
  have hE := hE0.mono st0.k st0.pre
  have c := c0.step st0 A
  have xa : x ∉ as := fun z => (A.held z).2 hx
  have lx : L x = none := lowfree A hx
  have Ah : At X.K as M L (upd H x (.lst vs)) := hid_at A hx _
  have sh : Step as L H as L (upd H x (.lst vs)) := hid_step hx _
  have A2 := Ah.add (xs := vs) (ds := ds0) upd_same lx xa r0
  have gx : (as ++ [x])[M.length]? = some x := by rw [← A.len, List.getElem?_append_right (Nat.le_refl _), Nat.sub_self]; rfl
  have E2 : En X.K (as ++ [x]) L (σ.set i (some (.ref x))) (ρ.set i (some (.mu M.length))) := (hE.mono (Ex.refl _) (pre_app _ _)).set i (.mu gx)
  have fin : ∀ {d : Rho → Ms → Prop} {v : L2.St → Hp → Prop}, EndN X.K as L H d v → EndN X.K (as ++ [x]) L (upd H x (.lst vs)) (cutE M.length d) v := by
    intro d v hd σ' ρ' L' H' M' s' A' e' q
    obtain ⟨M3, m', rfl, hl, hap, q⟩ := q
    rw [← A.len] at hap q
    exact hd σ' _ L' H' M3 (sh.cutx Ah hx s') (A'.cut hap) e'.cut q
  refine stt (as ++ [x]) _ _ L (upd H x (.lst vs)) _ _ _ E2 A2 h ⟨?_, fun v d L' H' M' s' A' q rv => ?_, fin c.bk, fin c.ct⟩
  · intro σ' ρ' L' H' M' s' A' e' q
    obtain ⟨M3, ds, rfl, hl, hap, hapd, hmu, q⟩ := q
    obtain ⟨L4, x4, s4, A4, r4⟩ := list_outN A hx s' A' hl hapd hap
    obtain ⟨v, hv, rv⟩ := e'.at_ i _ hmu
    have ev : v = .ref x := by
      cases rv with
      | mu hk => rw [gx] at hk; cases hk; rfl
    subst ev
    have same : σ'.set i (some (.ref x)) = σ' := by
      apply List.ext_getElem?
      intro j
      rw [List.getElem?_set]
      split
      · rename_i e; subst e
        split
        · exact hv.symm
        · rename_i hlt; exact absurd (List.getElem?_eq_some_iff.mp hv).1 hlt
      · rfl
    have e4 : En X.K as L4 σ' ((clean M.length ρ').set i (some (.lst ds))) := by
      rw [← same, ← A.len]
      exact (e'.cut.mono x4 (Pre.refl _)).set i r4
    exact sr as σ' _ L4 H' M3 De D e4 A4 q (c.step s4 A4)
  · obtain ⟨M3, m', rfl, hl, hap, hd, q⟩ := q
    rw [← A.len] at hap hd
    exact c.rt v d L' H' M3 (sh.cutx Ah hx s') (A'.cut hap) q (rv.cut hd)
end
end Pd

set_option Elab.async false
set_option linter.all false
set_option maxRecDepth 100000
set_option maxHeartbeats 3200000
namespace Pd
open PySem PySem.Spec PyProof.Rows L2
/-- an empty set, as it is made -/
abbrev Eset (w : World) : Obj := { cls := .type "set", dict := none, data := .set #[] 0 (.fresh 0 0 (!w.params.followText "set-order")) }
section
variable {P : Program} {w : World} {A : Around} {E : Value → Shared → Prop} {s : Shared}
/-- set(xs) of a list of ints -/
theorem set_of_ints {l : Addr} {its : Array Value} (ns : List Int) {Q : Value → Shared → Prop} (hd : A.handled = none) (L : s.heap.IsList l its) (hi : IntsAre its.toList ns) (hb : ns.length + 1 < scanBound)
    (fin : ∀ (g : Heap) (tk c : Nat), SetR w g s.heap.objs.size (fun j => decide (j ∈ ns)) c → c ≤ ns.length → (∀ b o, s.heap.get? b = some o → g.get? b = some o) → Q (.ref s.heap.objs.size) { s with heap := g, toks := tk }) :
    wpAny (model P w) A (call (.type "set") [.ref l]) Q E s := by
  have hz : its.size = ns.length := by have := IntsAre.length hi; rwa [Array.length_toList] at this
  obtain ⟨cc, tt, mr⟩ := F.called_set.mro
  have md := F.called_set.made
  have sb := F.called_set.sub
  refine wpAny_call (codeAny_of_tree ?_)
  show wpAny _ _ (callAny (.type "set") _) _ _ _
  refine wpAny_pure ⟨Code.quiet_builtin _ (by decide +kernel), codeAny_builtin F.entry_type_call ?_⟩
  rw [Around.under_plain (weight_type_call_type "set" [.ref l] []) rfl]
  have x1 := F.called_set.notType
  have x2 := F.called_set.canCreate
  have x3 := F.typeCall_set_1 (.ref l)
  repeat (any_goals (first | assumption | wp_step))
  refine codeAny_mono (code_set_led1 (.ref l) (E := E) (Q₁ := fun ob s₁ => ob = .ref s.heap.objs.size ∧ s₁ = { s with heap := s.heap.push (Eset w) }) ⟨rfl, rfl⟩) fun r s₁ hr => ?_
  match r, hr with
  | .error e, hr => exact hr
  | .ok (.ret ob), hr =>
    obtain ⟨rfl, rfl⟩ := hr
    have gS : (s.heap.push (Eset w)).get? s.heap.objs.size = some (Eset w) := Heap.get?_push_size _ rfl
    have tS : Shared.TypeIs { s with heap := s.heap.push (Eset w) } (.ref s.heap.objs.size) "set" := ⟨_, gS, rfl⟩
    have y1 := F.called_set.init.lookup
    have y2 := F.called_set.init.bind (.ref s.heap.objs.size)
    repeat (any_goals (first | assumption | wp_step))
    refine codeAny_mono (codeAny_call_builtin (R := wants (fun r s₂ => r = .none ∧ ∃ g tk c, s₂ = { s with heap := g, toks := tk } ∧ SetR w g s.heap.objs.size (fun j => decide (j ∈ ns)) c ∧ c ≤ ns.length ∧ (∀ b o, s.heap.get? b = some o → g.get? b = some o)) E)
      F.called_set.init.plain F.entry_set_init (check_set_init_1 tS ?_)) fun r₂ s₂ hr₂ => ?_
    · obtain ⟨⟨oc, od, dat, sls⟩, ho, hc, n, hdat⟩ := id L
      simp only at hc hdat
      subst hc hdat
      have gl : (s.heap.push (Eset w)).get? l = some { cls := .type "list", dict := od, data := .seq its n, slots := sls } := Heap.get?_push_of_some _ ho
      have z1 := F.sub_list_set
      have z2 := F.sub_list_frozenset
      have z3 : (Value.type "list" == Value.type "dict") = false := by decide
      have L1 : (s.heap.push (Eset w)).IsList l its := ⟨_, gl, rfl, n, rfl⟩
      have lt : l < s.heap.objs.size := Heap.lt_size ho
      have sz : (s.heap.push (Eset w)).objs.size = s.heap.objs.size + 1 := Heap.size_push ..
      unfold Builtin.«set.__init__» noKeywords Builtin.Frozenset.updateFrom
      generalize hq : pyIter = PI
      wp_walk
      subst hq
      refine wpAny_pyIter_list L1 (wpAny_bind (wpAny_runValue ?_))
      have nI : l ≠ (s.heap.push (Eset w)).objs.size := by rw [sz]; exact Nat.ne_of_lt (Nat.lt_succ_of_lt lt)
      have nS : s.heap.objs.size ∉ [(s.heap.push (Eset w)).objs.size, l] := by
        rw [sz]
        simp only [List.mem_cons, List.not_mem_nil, or_false, not_or]
        exact ⟨Nat.ne_of_lt (Nat.lt_succ_self _), Nat.ne_of_gt lt⟩
      have at_ : ∀ (i : Nat) (v : Value), its[i]? = some v → ∃ k t, ns[i]? = some k ∧ v = .int k t := fun i v hv => by
        have hl : i < ns.length := by rw [← hz]; exact (Array.getElem?_eq_some_iff.mp hv).1
        obtain ⟨t, e⟩ := PyProof.Rows.IntsAre.int_at hi i v (by rw [Array.getElem?_toList]; exact hv)
        have e2 : ns[i]? = some (ns.getD i 0) := by rw [List.getD_eq_getElem?_getD, List.getElem?_eq_getElem hl]; rfl
        exact ⟨_, t, e2, e⟩
      refine set_update_ints ((Walks.list (by simp [hd]) _ l nI its).toS) s.heap.objs.size nS ns hz hb at_ (its.size - 0) 0 _ (by omega) (Nat.zero_le _) ⟨⟨_, Heap.get?_push_size _ rfl, rfl, rfl⟩, L1.push _⟩ ⟨0, Nat.le_refl 0, setR_new_at (Heap.get?_push_of_some _ gS)⟩ fun s' c mv hc2 hS2 => ?_
      obtain ⟨g, g2, d2, t2, o2⟩ := s'
      obtain rfl : g2 = s.gens := mv.gens
      obtain rfl : d2 = s.drawn := mv.drawn
      obtain rfl : o2 = s.os := mv.os
      show wpAny _ _ _ _ _ _
      refine wpAny_pure ?_
      show wpAny _ _ (ret Value.none) _ _ _
      rw [hz] at hc2
      refine wpAny_pure ⟨rfl, g, t2, c, rfl, hS2, hc2, fun b o e => ?_⟩
      have hb0 : b < s.heap.objs.size := Heap.lt_size e
      refine mv.heap b o ?_ (Heap.get?_push_of_some _ (Heap.get?_push_of_some _ e))
      rw [sz]
      simp only [List.mem_cons, List.not_mem_nil, or_false, not_or]
      exact ⟨Nat.ne_of_lt hb0, Nat.ne_of_lt (Nat.lt_succ_of_lt hb0)⟩
    · match r₂, hr₂ with
      | .error e, hr₂ => exact hr₂
      | .ok (.ret r), ⟨e1, g, tk, c, e2, hS, hc, hk⟩ =>
        subst e1; subst e2
        repeat (any_goals (first | assumption | wp_step))
        exact fin _ _ _ hS hc hk
      | .ok .next, h => exact h.elim
      | .ok .brk, h => exact h.elim
      | .ok .cont, h => exact h.elim
  | .ok .next, h => exact h.elim
  | .ok .brk, h => exact h.elim
  | .ok .cont, h => exact h.elim
end
section
variable {X : Cx} {e : Expr} {t : DE} {pos pos2 p p2 : Pos}
def rSetI (K : PySem.W.Frag) (w : World) : List V → Hp → VK → Prop := fun xs H Q => ∃ (l : Addr) (ns : List Int), xs = [.ref l] ∧ SqL K H l (ns.map V.int) ∧ ns.length < 64 ∧ ∀ p c, H p = none → c ≤ ns.length → Q (.ref p) (upd H p (SetO w p (fun j => decide (j ∈ ns)) c))
theorem call_setI (hc : X.calm = true) : CallR X (.type "set") (rSetI X.K X.w) := by
  intro pins s σ H xs us Q I r h
  obtain ⟨l, ns, rfl, hl, h64, q⟩ := h
  obtain ⟨u, rfl, rx⟩ := vals1 r
  cases rx
  obtain ⟨its, rv, pl, _⟩ := I.list hl
  have hsc : scanBound = 4096 := by decide
  refine set_of_ints ns (I.ok.hd hc) pl.isList (by rw [List.toList_toArray]; exact ints_of_vals rv) (by omega) fun g tk c hS hc2 hk => ?_
  exact ⟨.ref s.heap.objs.size, _, I.laid (t' := tk) hk (Nat.le_refl _) (setO_new hS), rfl, q _ _ (I.hok.fresh (Nat.le_refl _)) hc2⟩
theorem rp_ints {K : PySem.W.Frag} {as : List Addr} {L : Hp} : ∀ ns : List Int, RpA K as L (ns.map V.int) (dI ns)
  | [] => .nil
  | n :: ns => .cons (.int n) (rp_ints ns)
/-- sorted(set(e)), e a list of ints -/
@[simp] def dSortSet (t : DE) : DE := fun ρ M P => t ρ M fun d M1 => ∃ ns : List Int, d = .lst (dI ns) ∧ ns.length < 64 ∧ ∀ ms : List Int, ms.Pairwise (· < ·) → (∀ k, k ∈ ms ↔ k ∈ ns) → P (.lst (dI ms)) M1
theorem pd_sortSet (hc : X.calm = true) (hg : Gl X "sorted") (hm : X.mg "sorted" = none) (hg2 : Gl X "set") (hm2 : X.mg "set" = none) (h : PD X e t) (hst : starEach [e] X.env = (false, eval e X.env) :: starEach [] X.env := by rfl) (hst2 : starEach [.Call (.Name "set" p2) [e] [] pos2] X.env = (false, eval (.Call (.Name "set" p2) [e] [] pos2) X.env) :: starEach [] X.env := by rfl) :
    PD X (.Call (.Name "sorted" p) [.Call (.Name "set" p2) [e] [] pos2] [] pos) (dSortSet t) := by
  obtain ⟨u, pe, s⟩ := h.ex
  refine ⟨_, pe_callB (cr_sortedSet hc) hg hm (by decide +kernel) (pa_cons (pe_callTy (call_setI hc) hg2 hm2 (by decide +kernel) (pa_cons pe pa_nil hst) (by decide) (by decide) hst (by rfl)) pa_nil hst2) (by decide) (by decide) hst2 (by rfl), ?_⟩
  intro as σ ρ L H M P Q hE A hh q
  refine s as σ ρ L H M _ _ hE A hh fun v d L1 H1 M1 s1 A1 h1 r1 => ?_
  obtain ⟨ns, rfl, h64, p1⟩ := h1
  cases r1 with
  | lst hs ra =>
    have ev := RpA.ints ra
    subst ev
    refine ⟨_, ns, rfl, ex_l A1.low hs, h64, fun a c ha hcl => ?_⟩
    refine ⟨a, _, c, rfl, upd_same, by omega, fun ms b hms hmem hlen hb => ?_⟩
    have s2 := Step.know (o := SetO X.w a (fun j => decide (j ∈ ns)) c) A1 ha
    have A2 := A1.know (o := SetO X.w a (fun j => decide (j ∈ ns)) c) ha (fun ps z => by cases z)
    have lb := lowfree A2 hb
    exact q _ _ _ _ M1 ((s1.trans A1 s2).trans A2 (Step.know A2 hb)) (A2.know hb) (p1 ms hms fun k => by rw [hmem]; simp) (.lst (.inl (.inl upd_same)) (rp_ints ms))
end
/-! ### x, y = a, []; a statement that fills y; from then on y is data -/
@[simp] def sBuildP (i j : Nat) (ta : DE) (t rest : DS) : DS := fun De ρ M => ta ρ M fun d M1 => t { nx := (fun ρ' M' => ∃ M3 ds, M' = M3 ++ [MO.lst ds] ∧ M3.length = M1.length ∧ apartM M1.length M3 = true ∧ apartA M1.length ds = true ∧ (ρ'[j]? = some (some (D.mu M1.length))) ∧ rest De ((clean M1.length ρ').set j (some (.lst ds))) M3), rt := cutR M1.length De.rt, bk := cutE M1.length De.bk, ct := cutE M1.length De.ct } ((ρ.set i (some d)).set j (some (.mu M1.length))) (M1 ++ [.lst []])
section
variable {X : Cx} {a : Expr} {st : Stmt} {sts : List Stmt} {t s2 : DS} {ta : DE} {pos p1 : Pos}
theorem pdss_buildP (i j : Nat) {x y : Str} {px py pt : Pos} {kt k2 pt2} (hc : X.calm = true) (hN : X.N.Nodup) (ha : PD X a ta) (ht : PDS X st t) (hrest : PDSs X sts s2) (hij : i ≠ j) (hi : X.N[i]? = some x := by rfl) (hj : X.N[j]? = some y := by rfl)
    (hx : X.env.scope.names.lookup x = some .local := by rfl) (hy : X.env.scope.names.lookup y = some .local := by rfl)
    (hw : swappedStores [.Tuple [.Name x px, .Name y py] kt pt] (.Tuple [a, .List [] p1] k2 pt2) X.env = pure (some [x, y]) := by rfl)
    (hs : swapsWithSole [.Tuple [.Name x px, .Name y py] kt pt] (.Tuple [a, .List [] p1] k2 pt2) pos.line X.env = pure false := by rfl)
    (h1 : starEach [a, .List [] p1] X.env = (false, eval a X.env) :: starEach [.List [] p1] X.env := by rfl) (h2 : starEach [.List [] p1] X.env = (false, eval (.List [] p1) X.env) :: starEach [] X.env := by rfl) :
    PDSs X (.Assign [.Tuple [.Name x px, .Name y py] kt pt] (.Tuple [a, .List [] p1] k2 pt2) pos :: st :: sts) (sBuildP i j ta t s2) := by
  obtain ⟨ua, pa, sa⟩ := ha.ex
  obtain ⟨u, pt, stt⟩ := ht.ex
  obtain ⟨ur, pr, sr⟩ := hrest.ex
  refine ⟨_, pss_cons (ps_par hc hN hi hj hij hx hy (pa_cons pa (pa_cons (pe_lst pa_nil) pa_nil h2) h1) hw hs) (pss_cons pt pr), ?_⟩
  intro as σ ρ L0 H0 M0 De D hE0 A0 h c0
  refine sa as σ ρ L0 H0 M0 _ _ hE0 A0 h fun v d L H M st0 A h r0 => ⟨Nat.zero_le _, fun x hx => ⟨_, _, rfl, ?_⟩⟩
  have hE := hE0.mono st0.k st0.pre
  have c := c0.step st0 A
  have xa : x ∉ as := fun z => (A.held z).2 hx
  have lx : L x = none := lowfree A hx
  have Ah : At X.K as M L (upd H x (.lst [])) := hid_at A hx _
  have sh : Step as L H as L (upd H x (.lst [])) := hid_step hx _
  have A2 := Ah.add (xs := []) (ds := []) upd_same lx xa .nil
  have gx : (as ++ [x])[M.length]? = some x := by rw [← A.len, List.getElem?_append_right (Nat.le_refl _), Nat.sub_self]; rfl
  have E2 : En X.K (as ++ [x]) L ((σ.set i (some v)).set j (some (.ref x))) ((ρ.set i (some d)).set j (some (.mu M.length))) := ((hE.set i r0).mono (Ex.refl _) (pre_app _ _)).set j (.mu gx)
  have fin : ∀ {d : Rho → Ms → Prop} {v : L2.St → Hp → Prop}, EndN X.K as L H d v → EndN X.K (as ++ [x]) L (upd H x (.lst [])) (cutE M.length d) v := by
    intro d v hd σ' ρ' L' H' M' s' A' e' q
    obtain ⟨M3, m', rfl, hl, hap, q⟩ := q
    rw [← A.len] at hap q
    exact hd σ' _ L' H' M3 (sh.cutx Ah hx s') (A'.cut hap) e'.cut q
  refine stt (as ++ [x]) _ _ L (upd H x (.lst [])) _ _ _ E2 A2 h ⟨?_, fun v d L' H' M' s' A' q rv => ?_, fin c.bk, fin c.ct⟩
  · intro σ' ρ' L' H' M' s' A' e' q
    obtain ⟨M3, ds, rfl, hl, hap, hapd, hmu, q⟩ := q
    obtain ⟨L4, x4, s4, A4, r4⟩ := list_outN A hx s' A' hl hapd hap
    obtain ⟨v, hv, rv⟩ := e'.at_ j _ hmu
    have ev : v = .ref x := by
      cases rv with
      | mu hk => rw [gx] at hk; cases hk; rfl
    subst ev
    have same : σ'.set j (some (.ref x)) = σ' := by
      apply List.ext_getElem?
      intro k
      rw [List.getElem?_set]
      split
      · rename_i e; subst e
        split
        · exact hv.symm
        · rename_i hlt; exact absurd (List.getElem?_eq_some_iff.mp hv).1 hlt
      · rfl
    have e4 : En X.K as L4 σ' ((clean M.length ρ').set j (some (.lst ds))) := by
      rw [← same, ← A.len]
      exact (e'.cut.mono x4 (Pre.refl _)).set j r4
    exact sr as σ' _ L4 H' M3 De D e4 A4 q (c.step s4 A4)
  · obtain ⟨M3, m', rfl, hl, hap, hd, q⟩ := q
    rw [← A.len] at hap hd
    exact c.rt v d L' H' M3 (sh.cutx Ah hx s') (A'.cut hap) q (rv.cut hd)
end
end Pd

set_option Elab.async false
set_option linter.all false
set_option maxRecDepth 100000
set_option maxHeartbeats 4000000
namespace Pd
open PySem PySem.Spec PyProof.Rows L2
theorem p29 : (0 : Int) < 2147483629 := by decide
theorem p47 : (0 : Int) < 2147483647 := by decide
theorem z2 : 2 ≤ sizeLine := by decide
/-- the law's source is changeable object number k -/
def SrcAt (k : Nat) (M : Ms) : Prop := ∃ n s : Int, M[k]? = some (.lst [.int n, .int s]) ∧ 0 ≤ s ∧ s < 2147483647
theorem SrcAt.set {k : Nat} {M : Ms} (h : SrcAt k M) {n s : Int} (h0 : 0 ≤ s) (h1 : s < 2147483647) : SrcAt k (M.set k (.lst [.int n, .int s])) := by
  obtain ⟨_, _, e, _⟩ := h
  exact ⟨n, s, List.getElem?_set_self (List.getElem?_eq_some_iff.mp e).1, h0, h1⟩
theorem lc_fmap {g : DG} {tt : DT} {te : DE} {ρ : Rho} {P : D → Ms → Prop} {M : Ms} (f : D → Option D) : ∀ (ds acc : List D), (∀ d ∈ ds, ∀ (R : D → Ms → Prop) (S : Ms → Prop), (∀ y, f d = some y → R y M) → (f d = none → S M) → g d ρ fun ρ' => tt ρ' M fun b M1 => if b = true then te ρ' M1 R else S M1) →
    acc.length + ds.length ≤ sizeLine → P (.lst (acc ++ ds.filterMap f)) M → lcRun g tt te ρ P ds acc M
  | [], acc, _, _, p => by
    show P (.lst acc) M
    simpa using p
  | d :: r, acc, h, hz, p => by
    rw [List.length_cons] at hz
    refine h d List.mem_cons_self (fun y M2 => acc.length < sizeLine ∧ lcRun g tt te ρ P r (acc ++ [y]) M2) (fun M1 => lcRun g tt te ρ P r acc M1) (fun y hy => ⟨by omega, ?_⟩) fun hn => ?_
    · refine lc_fmap f r (acc ++ [y]) (fun d' h' => h d' (List.mem_cons_of_mem _ h')) (by rw [List.length_append, List.length_singleton]; omega) ?_
      rw [List.filterMap_cons, hy] at p
      simpa using p
    · refine lc_fmap f r acc (fun d' h' => h d' (List.mem_cons_of_mem _ h')) (by omega) ?_
      rw [List.filterMap_cons, hn] at p
      exact p
theorem lc_indM {g : DG} {te : DE} {ρ : Rho} {P : D → Ms → Prop} (I : List D → Ms → Prop) (N : Nat) (hN : N ≤ sizeLine) (ds0 : List D) (step : ∀ (d : D) (acc : List D) (M : Ms) (R : D → Ms → Prop), d ∈ ds0 → I acc M → acc.length < N → (∀ y M2, I (acc ++ [y]) M2 → R y M2) → g d ρ fun ρ' => te ρ' M R)
    (fin : ∀ acc M, I acc M → acc.length = N → P (.lst acc) M) : ∀ (ds acc : List D) (M : Ms), (∀ d ∈ ds, d ∈ ds0) → I acc M → acc.length + ds.length = N → lcRun g dYes te ρ P ds acc M
  | [], acc, M, _, h, hl => fin acc M h (by simpa using hl)
  | d :: r, acc, M, hm, h, hl => by
    rw [List.length_cons] at hl
    exact step d acc M (fun y M2 => acc.length < sizeLine ∧ lcRun g dYes te ρ P r (acc ++ [y]) M2) (hm d List.mem_cons_self) h (by omega) fun y M2 hy => ⟨by omega, lc_indM I N hN ds0 step fin r (acc ++ [y]) M2 (fun x hx => hm x (List.mem_cons_of_mem _ hx)) hy (by rw [List.length_append, List.length_singleton]; omega)⟩
theorem apartA_of {k : Nat} : ∀ {ds : List D}, (∀ d ∈ ds, apart k d = true) → apartA k ds = true
  | [], _ => rfl
  | d :: ds, h => by show (apart k d && apartA k ds) = true; rw [h d List.mem_cons_self, apartA_of fun x hx => h x (List.mem_cons_of_mem _ hx)]; rfl
theorem srcAt {k : Nat} {M : Ms} (hk : k < M.length) {n s : Int} (h0 : 0 ≤ s) (h1 : s < 2147483647) : SrcAt k (M.set k (.lst [.int n, .int s])) := ⟨n, s, List.getElem?_set_self hk, h0, h1⟩
theorem okM_set {k : Nat} {M : Ms} (h : okM M) (a b : Int) : apartM M.length (M.set k (.lst [.int a, .int b])) = true := by
  refine List.all_eq_true.mpr fun mo hmo => ?_
  rcases List.mem_or_eq_of_mem_set hmo with h2 | rfl
  · exact List.all_eq_true.mp h mo h2
  · rfl
/-- the objects as they are, but for the source -/
def Cu (k : Nat) (M M1 : Ms) : Prop := ∃ n s : Int, 0 ≤ s ∧ s < 2147483647 ∧ M1 = M.set k (.lst [.int n, .int s])
theorem Cu.mk0 {k : Nat} {M : Ms} (h : SrcAt k M) : Cu k M M := by
  obtain ⟨n, s, e, a, b⟩ := h
  refine ⟨n, s, a, b, ?_⟩
  apply List.ext_getElem?
  intro j
  rw [List.getElem?_set]
  split
  · rename_i e2; subst e2
    first | exact e | rw [if_pos (List.getElem?_eq_some_iff.mp e).1, e]
  · rfl
section
variable {k j : Nat} {M M1 : Ms} {mo : MO}
theorem Cu.len (c : Cu k M M1) : M1.length = M.length := by obtain ⟨_, _, _, _, rfl⟩ := c; exact List.length_set
theorem Cu.src (c : Cu k M M1) (hk : k < M.length) : SrcAt k M1 := by obtain ⟨n, s, a, b, rfl⟩ := c; exact srcAt hk a b
theorem Cu.set (c : Cu k M M1) {n s : Int} (h0 : 0 ≤ s) (h1 : s < 2147483647) : Cu k M (M1.set k (.lst [.int n, .int s])) := by
  obtain ⟨_, _, _, _, rfl⟩ := c
  exact ⟨n, s, h0, h1, List.set_set _⟩
theorem Cu.ok (c : Cu k M M1) (h : okM M) : okM M1 := by
  have e := c.len
  obtain ⟨n, s, _, _, rfl⟩ := c
  unfold okM
  rw [e]
  exact okM_set h n s
theorem Cu.get (c : Cu k M M1) (hj : M[j]? = some mo) (h : j ≠ k) : M1[j]? = some mo := by
  obtain ⟨n, s, _, _, rfl⟩ := c
  rw [List.getElem?_set_ne h.symm]; exact hj
theorem SrcAt.app (h : SrcAt k M) (x : MO) : SrcAt k (M ++ [x]) := by
  obtain ⟨n, s, e, a, b⟩ := h
  exact ⟨n, s, by rw [List.getElem?_append_left (List.getElem?_eq_some_iff.mp e).1]; exact e, a, b⟩
theorem SrcAt.lt (h : SrcAt k M) : k < M.length := by obtain ⟨n, s, e, _⟩ := h; exact (List.getElem?_eq_some_iff.mp e).1
theorem set_app (hk : k < M.length) (x y : MO) : (M ++ [x]).set k y = M.set k y ++ [x] := List.set_append_left _ _ hk
theorem get_app (hj : M[j]? = some mo) (x : MO) : (M ++ [x])[j]? = some mo := by rw [List.getElem?_append_left (List.getElem?_eq_some_iff.mp hj).1]; exact hj
theorem at_rho {t : DS} {De : DEnds} {ρ ρ' : Rho} {M : Ms} (e : ρ = ρ') (h : t De ρ' M) : t De ρ M := e ▸ h
theorem clean_x (k : Nat) (o : Option D) (ρ : Rho) : ∃ o', clean k (o :: ρ) = o' :: clean k ρ := ⟨_, rfl⟩
theorem clean_cons (k : Nat) (d : D) (ρ : Rho) (h : apart k d = true) : clean k (some d :: ρ) = some d :: clean k ρ := by
  show (if apart k d = true then some d else none) :: clean k ρ = _
  rw [if_pos h]
theorem clean_mu (k : Nat) (ρ : Rho) : clean k (some (.mu k) :: ρ) = none :: clean k ρ := by
  show (if decide (k < k) = true then _ else none) :: clean k ρ = _
  rw [decide_eq_false (Nat.lt_irrefl k)]; rfl
theorem clean_lt {k j : Nat} (h : j < k) (ρ : Rho) : clean k (some (.mu j) :: ρ) = some (.mu j) :: clean k ρ := clean_cons k _ ρ (decide_eq_true h)
theorem clean_no (k : Nat) (ρ : Rho) : clean k (none :: ρ) = none :: clean k ρ := rfl
theorem apartA_all (k : Nat) : ∀ ds : List D, (∀ d ∈ ds, apart k d = true) → apartA k ds = true := fun ds h => apartA_of h
end
mutual
theorem plain_apart (k : Nat) : ∀ d : D, plainR d = true → apart k d = true
  | .non, _ => rfl
  | .bl _, _ => rfl
  | .int _, _ => rfl
  | .str _, _ => rfl
  | .lst ds, h => plain_apartA k ds h
  | .tup ds, h => plain_apartA k ds h
  | .dic _ ds, h => plain_apartA k ds h
theorem plain_apartA (k : Nat) : ∀ ds : List D, plainRA ds = true → apartA k ds = true
  | [], _ => rfl
  | d :: ds, h => by
    have h' := Bool.and_eq_true_iff.mp h
    show (apart k d && apartA k ds) = true
    rw [plain_apart k d h'.1, plain_apartA k ds h'.2]; rfl
end
mutual
theorem apart_up {k k' : Nat} (hk : k ≤ k') : ∀ d : D, apart k d = true → apart k' d = true
  | .non, _ => rfl
  | .bl _, _ => rfl
  | .int _, _ => rfl
  | .str _, _ => rfl
  | .ob _, _ => rfl
  | .ty _, _ => rfl
  | .tfz _, _ => rfl
  | .lst ds, h => apartA_up hk ds h
  | .tup ds, h => apartA_up hk ds h
  | .dic _ ds, h => apartA_up hk ds h
  | .dit _ ds, h => apartA_up hk ds h
  | .ins _ fs, h => apartF_up hk fs h
  | .exc _ fs, h => apartF_up hk fs h
  | .mu j, h => decide_eq_true (Nat.lt_of_lt_of_le (of_decide_eq_true h) hk)
theorem apartA_up {k k' : Nat} (hk : k ≤ k') : ∀ ds : List D, apartA k ds = true → apartA k' ds = true
  | [], _ => rfl
  | d :: ds, h => by
    have h' := Bool.and_eq_true_iff.mp h
    show (apart k' d && apartA k' ds) = true
    rw [apart_up hk d h'.1, apartA_up hk ds h'.2]; rfl
theorem apartF_up {k k' : Nat} (hk : k ≤ k') : ∀ fs : List (Str × D), apartF k fs = true → apartF k' fs = true
  | [], _ => rfl
  | (f, d) :: fs, h => by
    have h' := Bool.and_eq_true_iff.mp h
    show (apart k' d && apartF k' fs) = true
    rw [apart_up hk d h'.1, apartF_up hk fs h'.2]; rfl
end
theorem okM_app {M : Ms} {ds : List D} (h : okM M) (hd : apartA M.length ds = true) : okM (M ++ [.lst ds]) := by
  unfold okM
  rw [List.length_append, List.length_singleton]
  refine List.all_eq_true.mpr fun mo hmo => ?_
  rcases List.mem_append.mp hmo with h2 | h2
  · have := List.all_eq_true.mp h mo h2
    cases mo with
    | lst ds => exact apartA_up (Nat.le_succ _) ds this
    | ins C fs => exact apartF_up (Nat.le_succ _) fs this
    | tab P q => rfl
    | dic ks ds => exact apartA_up (Nat.le_succ _) ds this
    | dit ks ds => exact apartA_up (Nat.le_succ _) ds this
  · rw [List.mem_singleton.mp h2]; exact apartA_up (Nat.le_succ _) ds hd
theorem okD_two {a x : Str} (ha : PyData.strOk a = true) (h : PyData.strOk x = true) : okD (.lst [.str a, .str x]) = true := by
  show ((true && (true && true)) && ((PyData.strOk a && (PyData.strOk x && true)) && decide (max 0 (max 0 0) + 1 ≤ 64))) = true
  rw [ha, h]; rfl
theorem okD_22 {a x : Str} (ha : PyData.strOk a = true) (h : PyData.strOk x = true) : okD (.lst [.lst [.str a, .str x], .lst [.str a, .str x]]) = true := by
  show (((true && (true && true)) && ((true && (true && true)) && true)) && (((PyData.strOk a && (PyData.strOk x && true)) && ((PyData.strOk a && (PyData.strOk x && true)) && true)) && decide (max (max 0 (max 0 0) + 1) (max (max 0 (max 0 0) + 1) 0) + 1 ≤ 64))) = true
  rw [ha, h]; rfl
def hdsOf (st : Stmt) : List ExceptHandler := match defBody st with | .Try _ hs _ _ _ :: _ => hs | _ => []
def isI : D → Bool | .int _ => true | _ => false
/-- the built-in type of data -/
def tyN : D → Option String
  | .non => some "NoneType" | .bl _ => some "bool" | .int _ => some "int" | .str _ => some "str" | .lst _ => some "list" | .tup _ => some "tuple" | .dic _ _ => some "dict" | _ => none
theorem dty {K : PySem.W.Frag} {d : D} {t : String} (h : tyN d = some t) : DTy K d (.type t) := by
  cases d <;> simp only [tyN, Option.some.injEq, reduceCtorEq] at h <;> subst h <;> constructor
/-- has_items -/
def hasB (lo hi : Int) : D → Bool
  | .lst xs => decide (lo ≤ (xs.length : Int)) && decide ((xs.length : Int) ≤ hi)
  | .tup xs => decide (lo ≤ (xs.length : Int)) && decide ((xs.length : Int) ≤ hi)
  | _ => false
theorem seq_or {K : PySem.W.Frag} {d : D} {t : String} (h : tyN d = some t) : (∃ xs, isSeq d xs ∧ PySem.W.kitAny K (.type t) [.type "list", .type "tuple"] = some true ∧ ∀ lo hi, hasB lo hi d = (decide (lo ≤ (xs.length : Int)) && decide ((xs.length : Int) ≤ hi))) ∨ (PySem.W.kitAny K (.type t) [.type "list", .type "tuple"] = some false ∧ ∀ lo hi, hasB lo hi d = false) := by
  cases d <;> simp only [tyN, Option.some.injEq, reduceCtorEq] at h <;> subst h
  case lst xs => exact .inl ⟨xs, .inl rfl, rfl, fun _ _ => rfl⟩
  case tup xs => exact .inl ⟨xs, .inr rfl, rfl, fun _ _ => rfl⟩
  all_goals exact .inr ⟨rfl, fun _ _ => rfl⟩
/-- all_between -/
def btwB (lo hi : Int) : D → Bool
  | .int x => decide (lo ≤ x) && decide (x ≤ hi)
  | _ => false
def itemsD : D → Option (List D) | .lst xs => some xs | .tup xs => some xs | _ => none
theorem isSeq_items {d : D} {xs : List D} (h : isSeq d xs) : itemsD d = some xs := by rcases h with rfl | rfl <;> rfl
def rowsOf (d : D) : List D := (itemsD d).getD []
def tupOf (d : D) : D := .tup (rowsOf d)
def Typed1 (d : D) : Prop := (∃ t, tyN d = some t) ∧ ∀ xs, itemsD d = some xs → xs.length ≤ 1000 ∧ ∀ x ∈ xs, ∃ t, tyN x = some t
theorem ty_int (xs : List Int) : ∀ x ∈ dI xs, ∃ t, tyN x = some t := fun x hx => by obtain ⟨i, _, rfl⟩ := List.mem_map.mp hx; exact ⟨_, rfl⟩
theorem typed_tI {xs : List Int} (h : xs.length ≤ 1000) : Typed1 (tI xs) := ⟨⟨_, rfl⟩, fun ys e => by cases e; exact ⟨by rw [List.length_map]; exact h, ty_int xs⟩⟩
theorem ty_nil {d : D} {t : String} (h : tyN d = some t) (hi : itemsD d = none ∨ itemsD d = some []) : Typed1 d := ⟨⟨t, h⟩, fun xs e => by
  rcases hi with hi | hi <;> rw [hi] at e <;> cases e
  exact ⟨Nat.zero_le _, fun _ h => nomatch h⟩⟩
theorem noSeq {d : D} (hb : ∀ lo hi, hasB lo hi d = false) : itemsD d = none := by
  cases d
  case lst xs => have := hb 0 (xs.length : Int); simp [hasB] at this
  case tup xs => have := hb 0 (xs.length : Int); simp [hasB] at this
  all_goals rfl
theorem okD_tI (e : List Int) : okD (tI e) = true := okD_tup e
theorem cut1 (xs : List D) : Pd.cutD xs (some 1) none = xs.drop 1 := by
  cases xs with
  | nil => rfl
  | cons x r => unfold Pd.cutD; simp [HT.sIx]
/-- data that may be compared, at most k deep -/
structure Lay (k : Nat) (d : D) : Prop where
  pl : plain d = true
  la : PyData.canLay0 (toP d) = true
  dp : (toP d).depth ≤ k
theorem Lay.up {k k' : Nat} {d : D} (h : Lay k d) (hk : k ≤ k') : Lay k' d := ⟨h.pl, h.la, Nat.le_trans h.dp hk⟩
theorem layA {k : Nat} : ∀ ds : List D, (∀ d ∈ ds, Lay k d) → plainA ds = true ∧ PyData.canLayAll0 (toPA ds) = true ∧ PyData.depthAll (toPA ds) ≤ k
  | [], _ => ⟨rfl, rfl, Nat.zero_le _⟩
  | d :: ds, h => by
    obtain ⟨a, b, c⟩ := layA ds fun x hx => h x (List.mem_cons_of_mem _ hx)
    have x := h d List.mem_cons_self
    refine ⟨?_, ?_, ?_⟩
    · show (plain d && plainA ds) = true; rw [x.pl, a]; rfl
    · show (PyData.canLay0 (toP d) && PyData.canLayAll0 (toPA ds)) = true; rw [x.la, b]; rfl
    · show max (toP d).depth (PyData.depthAll (toPA ds)) ≤ k; exact Nat.max_le.mpr ⟨x.dp, c⟩
theorem lay_lst {k : Nat} {ds : List D} (h : ∀ d ∈ ds, Lay k d) : Lay (k + 1) (.lst ds) := by
  obtain ⟨a, b, c⟩ := layA ds h
  exact ⟨a, b, Nat.succ_le_succ c⟩
theorem lay_tup {k : Nat} {ds : List D} (h : ∀ d ∈ ds, Lay k d) : Lay (k + 1) (.tup ds) := by
  obtain ⟨a, b, c⟩ := layA ds h
  exact ⟨a, b, Nat.succ_le_succ c⟩
theorem lay_int {i : Int} : Lay 0 (.int i) := ⟨rfl, rfl, Nat.zero_le _⟩
theorem lay_non : Lay 0 .non := ⟨rfl, rfl, Nat.zero_le _⟩
theorem okD_lstL {k : Nat} {ds : List D} (h : ∀ d ∈ ds, Lay k d) (hk : k ≤ 60) : okD (.lst ds) = true := by
  obtain ⟨a, b, c⟩ := layA ds h
  show (plainA ds && (PyData.canLayAll0 (toPA ds) && decide (PyData.depthAll (toPA ds) + 1 ≤ 64))) = true
  rw [a, b, decide_eq_true (by omega)]; rfl
theorem okD_tupL {k : Nat} {ds : List D} (h : ∀ d ∈ ds, Lay k d) (hk : k ≤ 60) : okD (.tup ds) = true := okD_lstL h hk
theorem at_val {k : D → Ms → Prop} {d d' : D} {M : Ms} (e : d = d') (h : k d' M) : k d M := e ▸ h
end Pd

set_option Elab.async false
set_option linter.all false
set_option maxRecDepth 100000
set_option maxHeartbeats 3200000
namespace Pd
open PySem PySem.Spec PyProof.Rows L2
/-! ### t.index(e), t a tuple of ints of the run, e within -/
section
variable {X : Cx} {e o : Expr} {t td te : DE} {pos p : Pos}
def tTIdx (td te : TE) : TE := fun σ H Q => td σ H fun x H1 => ∃ (a : Addr) (ob : Obj) (ns : List Int), x = .ref a ∧ H1 a = some (.frz ob (.tup (ns.map V.int))) ∧ ob.cls = .type "tuple" ∧ ob.dict = none ∧ tCons te tNil σ H1 fun vs H2 => ∃ k : Int, vs = [.int k] ∧ H2 a = some (.frz ob (.tup (ns.map V.int))) ∧ k ∈ ns ∧ Q (.int (ns.idxOf k)) H2
theorem pe_tidx {ap pos : Pos} (hu : X.A.units + 64 < cLine) {to te : TE} (ho : PE X o to) (he : PE X e te) (hab : attributeBase o "index" X.env (eval o X.env) = eval o X.env := by rfl) (hs : starEach [e] X.env = (false, eval e X.env) :: starEach [] X.env := by rfl)
    (hfew : (((backTo pos (starEach [e] X.env)).all fun x => !x.1) && ((backToKw pos (keywordEach [] X.env)).all fun x => x.1.isSome) && decide ([e].length + ([] : List Keyword).length + (if ([] : List Keyword).isEmpty = true then 0 else 1) < 30)) = true := by rfl)
    (hline : (ap.endLine == pos.line) = true := by rfl) : PE X (.Call (.Attribute o "index" ap) [e] [] pos) (tTIdx to te) := by
  refine ⟨fun pins s σ H Q I h => ?_⟩
  refine wpAny_Call_method hab hfew hline PySem.F.plainAttrs_tuple PySem.F.slot_tuple_index PySem.F.type_tuple_index (thn (ho.run pins s σ H _ I h) fun u s1 ⟨x, H1, I1, rx, q⟩ => ?_)
  obtain ⟨a, ob, ns, rfl, ha, hc, hd, q⟩ := q
  obtain rfl : u = Value.ref a := rx
  have hg : s1.heap.get? a = some ob := (I1.hok a _ ha).1
  refine ⟨⟨ob, hg, hc⟩, fun b eb => by cases eb; exact ⟨ob, hg, hd⟩, ?_⟩
  refine callWith_method1 (first := [.ref a]) (thn ((pa_cons he pa_nil hs).run pos pins s1 σ H1 (fun vs H2 => ∃ k : Int, vs = [.int k] ∧ H2 a = some (.frz ob (.tup (ns.map V.int))) ∧ k ∈ ns ∧ Q (.int (ns.idxOf k)) H2) I1 q) fun us s2 ⟨vs, H2, I2, r, k, ek, ha2, hm, q2⟩ => ?_) hs rfl
  subst ek
  obtain ⟨u, rfl, ru⟩ := vals1 r
  obtain ⟨tk, rfl⟩ := ru
  obtain ⟨its, hv, hl, _⟩ := I2.tuple (.inl (.inr ⟨ob, ha2⟩))
  obtain ⟨as, hr⟩ := Dp.readsAll I2 _ _ _ (dp_ints ns) hv
  exact PySem.W.index_tuple_datum (α := Int) hl ⟨as, hr⟩ ⟨_, .int _ _⟩ (by show X.A.units + 1 + 0 < cLine; omega) hm ⟨.int (ns.idxOf k), H2, I2.tok _, ⟨_, rfl⟩, q2⟩
@[simp] def dTIdx (td te : DE) : DE := fun ρ M P => td ρ M fun d M1 => ∃ ns : List Int, d = .tfz ns ∧ te ρ M1 fun y M2 => ∃ k : Int, y = .int k ∧ k ∈ ns ∧ P (.int (ns.idxOf k)) M2
theorem pd_tidx {ap pos : Pos} (hu : X.A.units + 64 < cLine) (ho : PD X o td) (he : PD X e te) (hab : attributeBase o "index" X.env (eval o X.env) = eval o X.env := by rfl) (hs : starEach [e] X.env = (false, eval e X.env) :: starEach [] X.env := by rfl)
    (hfew : (((backTo pos (starEach [e] X.env)).all fun x => !x.1) && ((backToKw pos (keywordEach [] X.env)).all fun x => x.1.isSome) && decide ([e].length + ([] : List Keyword).length + (if ([] : List Keyword).isEmpty = true then 0 else 1) < 30)) = true := by rfl)
    (hline : (ap.endLine == pos.line) = true := by rfl) : PD X (.Call (.Attribute o "index" ap) [e] [] pos) (dTIdx td te) := by
  obtain ⟨uo, po, so⟩ := ho.ex
  obtain ⟨u, pe, s⟩ := he.ex
  refine ⟨_, pe_tidx hu po pe hab hs hfew hline, ?_⟩
  intro as σ ρ L H M P Q hE A h q
  refine so as σ ρ L H M _ _ hE A h fun v d L1 H1 M1 s1 A1 h1 r1 => ?_
  obtain ⟨ns, rfl, h1⟩ := h1
  cases r1 with
  | tfz hf =>
    obtain ⟨ob, hf, hc, hd⟩ := hf
    refine ⟨_, ob, ns, rfl, A1.low _ _ hf, hc, hd, ?_⟩
    refine s as σ ρ L1 H1 M1 _ _ (hE.mono s1.k s1.pre) A1 h1 fun v d L2 H2 M2 s2 A2 h2 r2 => ?_
    obtain ⟨k, rfl, hm, p⟩ := h2
    cases r2
    exact ⟨k, rfl, A2.low _ _ (s2.k _ _ hf), hm, q _ _ L2 H2 M2 (s1.trans A1 s2) A2 p (.int _)⟩
/-! ### a tuple of the run, as a tuple -/
def fgD : D → D | .tfz ns => .tup (dI ns) | d => d
theorem rp_ints' {K : PySem.W.Frag} {as : List Addr} {L : Hp} : ∀ ns : List Int, RpA K as L (ns.map V.int) (dI ns)
  | [] => .nil
  | n :: ns => .cons (.int n) (rp_ints' ns)
theorem Rp.fg {K : PySem.W.Frag} {as : List Addr} {L : Hp} {v : V} {d : D} (r : Rp K as L v d) : Rp K as L v (fgD d) := by
  cases r with
  | tfz h => obtain ⟨o, h, _⟩ := h; exact .tup (.inl (.inr ⟨o, h⟩)) (rp_ints' _)
  | non => exact .non
  | bl b => exact .bl b
  | int i => exact .int i
  | str x => exact .str x
  | lst h r => exact .lst h r
  | tup h r => exact .tup h r
  | ins h r => exact .ins h r
  | mu h => exact .mu h
  | ob a => exact .ob a
  | ty n => exact .ty n
  | exc h1 h2 r => exact .exc h1 h2 r
  | exc0 h => exact .exc0 h
  | dic h l r => exact .dic h l r
  | dit h l r => exact .dit h l r
@[simp] def dFg (t : DE) : DE := fun ρ M P => t ρ M fun d M1 => P (fgD d) M1
theorem pd_fg (h : PD X e t) : PD X e (dFg t) := by
  obtain ⟨u, p, s⟩ := h.ex
  refine ⟨u, p, ?_⟩
  intro as σ ρ L H M P Q hE A h q
  exact s as σ ρ L H M _ _ hE A h fun v d L1 H1 M1 s1 A1 h1 r1 => q v _ L1 H1 M1 s1 A1 h1 r1.fg
/-! ### tuple(e): a list, or a tuple -/
def rMkT (K : PySem.W.Frag) : List V → Hp → VK → Prop := fun xs H Q => ∃ p ys, xs = [.ref p] ∧ ((SqL K H p ys ∧ ∀ (l : Addr) (o : Obj), o.cls = .type "tuple" → o.dict = none → H l = none → Q (.ref l) (upd H l (.frz o (.tup ys)))) ∨ (SqT K H p ys ∧ Q (.ref p) H))
theorem call_mkT : CallR X (.type "tuple") (rMkT X.K) := by
  intro pins s σ H xs us Q I r h
  obtain ⟨p, ys, rfl, h⟩ := h
  rcases h with ⟨hl, q⟩ | ⟨ht, q⟩
  · obtain ⟨u, rfl, rx⟩ := vals1 r
    obtain rfl : u = Value.ref p := rx
    obtain ⟨its, hv, pl, hz⟩ := I.list hl
    have hz2 : its.toArray.size ≤ sizeLine := by rw [List.size_toArray, ← hv.length]; exact hz
    refine call_tuple_list pl.isList (fun h' keep => ?_) hz2
    have g0 : s.heap.get? h'.objs.size = none := by
      cases e : s.heap.get? h'.objs.size with
      | none => rfl
      | some o => exact absurd (Heap.lt_size (keep _ _ e)) (Nat.lt_irrefl _)
    have gN : (h'.push { cls := .type "tuple", data := .seq its.toArray }).get? h'.objs.size = some { cls := .type "tuple", data := .seq its.toArray } := Heap.get?_push_size _ rfl
    refine ⟨.ref h'.objs.size, _, I.laidN (t' := s.toks) (a := h'.objs.size) (o := .frz { cls := .type "tuple", data := .seq its.toArray } (.tup ys)) (fun b o e => Heap.get?_push_of_some _ (keep b o e)) g0 (I.hok.gone g0) ⟨gN, hz, its, hv, ⟨_, gN, rfl, _, rfl⟩⟩, rfl, q _ _ rfl rfl (I.hok.gone g0)⟩
  · exact call_tuple_of pins s σ H _ us Q I r ⟨p, ys, rfl, .inr ⟨ht, q⟩⟩
end
end Pd

set_option Elab.async false
set_option linter.all false
set_option maxRecDepth 100000
set_option maxHeartbeats 3200000
namespace Pd
open PySem PySem.Spec PyProof.Rows L2
@[simp] def oMkT : DC := fun xs M P => ∃ (d : D) (ns : List Int), xs = [d] ∧ ((d = .lst (dI ns) ∧ P (.tfz ns) M) ∨ (d = .tup (dI ns) ∧ P d M) ∨ (d = .tfz ns ∧ P d M))
theorem sc_mkT {K : PySem.W.Frag} : SimC K (rMkT K) oMkT := by
  intro as L H M xs ds P Q A r ⟨d, ns, h, hd⟩ q
  subst h
  cases r with
  | cons r1 r2 =>
    cases r2
    rcases hd with ⟨rfl, p⟩ | ⟨rfl, p⟩ | ⟨rfl, p⟩
    · cases r1 with
      | lst hs ra =>
        have ev := RpA.ints ra
        subst ev
        exact ⟨_, _, rfl, .inl ⟨ex_l A.low hs, fun l o hc hd hl => q _ _ _ _ M (Step.know A hl) (A.know hl) p (.tfz ⟨o, upd_same, hc, hd⟩)⟩⟩
    · have r0 := r1
      cases r1 with
      | tup hs ra => exact ⟨_, _, rfl, .inr ⟨ex_t A.low hs, q _ _ L H M .refl A p r0⟩⟩
    · have r0 := r1
      cases r1 with
      | tfz hf =>
        obtain ⟨o, hf, _⟩ := hf
        exact ⟨_, _, rfl, .inr ⟨.inl (.inr ⟨o, A.low _ _ hf⟩), q _ _ L H M .refl A p r0⟩⟩
/-! ### sorted(e, reverse=True), e a list of tuples of ints -/
def encR (b : V × List Int) : PyData := .tuple (b.2.map PyData.int)
def leD (a b : List Int) : Bool := !decide (a < b)
theorem leR_eq : PySem.W.dataLe true encR = fun a b => leD a.2 b.2 := by
  rw [PySem.W.dataLe_eq]
  funext a b
  show (!PySem.W.dataLt (encR a) (encR b)) = _
  have : PySem.W.dataLt (encR a) (encR b) = decide (a.2 < b.2) := by
    unfold encR
    rw [PySem.W.dataLt_tuple]; exact PySem.W.dataLt_ints _ _
  rw [this]; rfl
def rSortRev (K : PySem.W.Frag) : List V → List V → Hp → VK → Prop := fun xs zs H Q => ∃ (l : Addr) (bs : List (V × List Int)), xs = [.ref l] ∧ zs = [.bl true] ∧ SqL K H l (bs.map (·.1)) ∧ (∀ b ∈ bs, Dp K H b.1 (encR b) ∧ b.2 ≠ []) ∧
  ∀ p, H p = none → Q (.ref p) (upd H p (.lst ((bs.mergeSort fun a b => leD a.2 b.2).map (·.1))))
theorem each_vals : ∀ {bs : List (V × List Int)} {us : List Value}, Vals (bs.map (·.1)) us → PySem.W.EachIs (fun u b => RelV b.1 u) us bs
  | [], _, r => by cases r; exact .nil
  | b :: bs, _, .cons r t => .cons r (each_vals t)
theorem vals_each : ∀ {bs : List (V × List Int)} {us : List Value}, PySem.W.EachIs (fun u b => RelV b.1 u) us bs → Vals (bs.map (·.1)) us
  | _, _, .nil => .nil
  | _, _, .cons r t => .cons r (vals_each t)
theorem each_reads {X : Cx} {pins : List (Addr × Obj)} {s : Shared} {σ : L2.St} {H : Hp} (I : Inv X pins σ H s) : ∀ {bs : List (V × List Int)} {us : List Value}, (∀ b ∈ bs, Dp X.K H b.1 (encR b) ∧ b.2 ≠ []) → Vals (bs.map (·.1)) us → PySem.W.EachIs (fun u b => ∃ as, Reads s.heap u (encR b) as) us bs
  | [], _, _, r => by cases r; exact .nil
  | b :: bs, _, h, .cons r t => .cons (Dp.reads I _ _ _ (h b List.mem_cons_self).1 r) (each_reads I (fun c hc => h c (List.mem_cons_of_mem _ hc)) t)
theorem cr_sortRev {X : Cx} (hu : X.A.units + 64 < cLine) : CallRK X (.builtin "sorted") ["reverse"] (rSortRev X.K) := by
  intro pins s σ H xs zs us ws Q I r rz h
  obtain ⟨l, bs, rfl, rfl, hl, hb, q⟩ := h
  obtain ⟨u, rfl, rx⟩ := vals1 r
  obtain rfl : u = Value.ref l := rx
  obtain ⟨w, rfl, rw_⟩ := vals1 rz
  obtain rfl : w = Value.bool true := rw_
  obtain ⟨its, hv, pl, hz⟩ := I.list hl
  refine PySem.W.sorted_rev_data (enc := encR) (R := fun u b => RelV b.1 u) (vs := its) (bs := bs) pl.isList (each_vals hv) (each_reads I hb hv) ?_ ?_ (by rw [List.length_map] at hz; exact hz) (fun b _ => ?_) (fun out hlen ho => ?_)
  · refine PySem.W.AllAlike.of fun b b' => ?_
    exact PySem.W.alike_ints b.2 b'.2
  · refine .inl fun d hd => ?_
    obtain ⟨b, hm, rfl⟩ := List.mem_map.mp hd
    have := (hb b hm).2
    unfold encR
    cases e : b.2 with
    | nil => exact absurd e this
    | cons x r => exact ⟨_, _, rfl⟩
  · have : (encR b).depth = 1 := by unfold encR; show (PyData.depthAll _) + 1 = 1; rw [PySem.W.depth_ints]
    omega
  · rw [leR_eq] at ho
    obtain ⟨e, he⟩ := sortedAll_at s.heap its out.toArray
    have keep : ∀ (b : Addr) (o : Obj), s.heap.get? b = some o → (sortedAll s.heap its out.toArray).get? b = some o := fun b o h => sortedAll_old h
    refine ⟨.ref (s.heap.objs.size + 1), _, I.laid (t' := s.toks) (a := s.heap.objs.size + 1) (o := .lst ((bs.mergeSort fun a b => leD a.2 b.2).map (·.1))) keep (Nat.le_succ _) ⟨?_, out, e, vals_each ho, he⟩, rfl, q _ (I.hok.fresh (Nat.le_succ _))⟩
    rw [List.length_map, List.length_mergeSort]
    rw [List.length_map] at hz; exact hz
theorem rp_zip {K : PySem.W.Frag} {as : List Addr} {L H : Hp} (e : Ex L H) : ∀ {xs : List V} {rows : List (List Int)}, (∀ r ∈ rows, r ≠ []) → RpA K as L xs (rows.map D.tfz) → ∃ bs : List (V × List Int), bs.map (·.1) = xs ∧ bs.map (·.2) = rows ∧ (∀ b ∈ bs, Rp K as L b.1 (.tfz b.2)) ∧ ∀ b ∈ bs, Dp K H b.1 (encR b) ∧ b.2 ≠ []
  | _, [], _, h => by cases h; exact ⟨[], rfl, rfl, (fun _ h => nomatch h), (fun _ h => nomatch h)⟩
  | _, r :: rows, hne, h => by
    cases h with
    | cons r1 rt =>
      rename_i v vs
      obtain ⟨bs, h1, h2, h4, h3⟩ := rp_zip e (fun x hx => hne x (List.mem_cons_of_mem _ hx)) rt
      refine ⟨(v, r) :: bs, by rw [List.map_cons, h1], by rw [List.map_cons, h2], fun b hb => ?_, fun b hb => ?_⟩
      · rcases List.mem_cons.mp hb with rfl | hb
        · exact r1
        · exact h4 b hb
      · rcases List.mem_cons.mp hb with rfl | hb
        · exact ⟨r1.dp e rfl, hne r List.mem_cons_self⟩
        · exact h3 b hb
theorem rp_pairs {K : PySem.W.Frag} {as : List Addr} {L : Hp} : ∀ {bs : List (V × List Int)}, (∀ b ∈ bs, Rp K as L b.1 (.tfz b.2)) → RpA K as L (bs.map (·.1)) ((bs.map (·.2)).map D.tfz)
  | [], _ => .nil
  | b :: bs, h => .cons (h b List.mem_cons_self) (rp_pairs fun c hc => h c (List.mem_cons_of_mem _ hc))
section
variable {X : Cx} {e : Expr} {t : DE} {pos p p2 kp : Pos} {kt : Nat}
@[simp] def dSortRev (t : DE) (tk : DA) : DE := fun ρ M P => t ρ M fun d M1 => ∃ rows : List (List Int), d = .lst (rows.map D.tfz) ∧ (∀ r ∈ rows, r ≠ []) ∧ tk ρ M1 fun zs M2 => zs = [.bl true] ∧ P (.lst ((rows.mergeSort leD).map D.tfz)) M2
theorem pd_sortRev {kws : List Keyword} {tk : DA} (hu : X.A.units + 64 < cLine) (hg : Gl X "sorted") (hm : X.mg "sorted" = none) (h : PD X e t) (hk : PDK X kws tk)
    (h1 : backTo pos (starEach [e] X.env) = (false, eval e X.env) :: backTo pos (starEach [] X.env) := by rfl) (h2 : ((backTo pos (starEach [e] X.env)).any fun x => x.1) = false := by rfl)
    (h3 : ((backToKw pos (keywordEach kws X.env)).all fun x => x.1.isSome) = true := by rfl) (h4 : ((backToKw pos (keywordEach kws X.env)).any fun x => x.1.isNone) = false := by rfl) (h5 : List.filterMap (fun x => x.1) (backToKw pos (keywordEach kws X.env)) = [("reverse" : Str)] := by rfl)
    (hs : starEach [e] X.env = (false, eval e X.env) :: starEach [] X.env := by rfl) :
    PD X (.Call (.Name "sorted" p) [e] kws pos) (dSortRev t tk) := by
  obtain ⟨u, pe, s⟩ := h.ex
  obtain ⟨uk, pk, sk⟩ := hk.ex
  refine ⟨_, pe_callBK (cr_sortRev hu) hg hm (by decide +kernel) (pa_cons pe pa_nil hs) pk (by decide) (by decide) h1 h2 h3 h4 h5, ?_⟩
  intro as σ ρ L H M P Q hE A hh q
  refine s as σ ρ L H M _ _ hE A hh fun v d L1 H1 M1 s1 A1 h1 r1 => ?_
  obtain ⟨rows, rfl, hne, h1⟩ := h1
  cases r1 with
  | lst hs ra =>
    refine sk as σ ρ L1 H1 M1 _ _ (hE.mono s1.k s1.pre) A1 h1 fun vs ds L2 H2 M2 s2 A2 h2 r2 => ?_
    obtain ⟨rfl, p⟩ := h2
    cases r2 with
    | cons rb rn =>
      cases rn
      cases rb
      obtain ⟨bs, e1, e2, e4, e3⟩ := rp_zip (A2.low) hne (ra.mono s2.k s2.pre)
      refine ⟨_, bs, rfl, rfl, ?_, e3, fun a ha => ?_⟩
      · rw [e1]; exact ex_l A2.low (ex_l s2.k hs)
      · refine q _ _ _ _ M2 ((s1.trans A1 s2).trans A2 (Step.know A2 ha)) (A2.know ha) p (.lst (.inl (.inl upd_same)) ?_)
        have e5 : (bs.mergeSort fun a b => leD a.2 b.2).map (·.2) = rows.mergeSort leD := by
          rw [← e2]
          exact List.map_mergeSort (fun _ _ _ _ => rfl)
        rw [← e5]
        exact (rp_pairs fun b hb => e4 b ((List.mem_mergeSort).mp hb)).mono (Ex.new (lowfree A2 ha)) (Pre.refl _)
/-! ### reversed(list(e)) -/
@[simp] def iRev (t : DE) : DA := fun ρ M P => t ρ M fun d M1 => ∃ ds, d = .lst ds ∧ P ds.reverse M1
theorem walks_rev {K : PySem.W.Frag} {as : List Addr} {L0 : Hp} {a : Addr} {xs : List V} {ds : List D} (h : SqL K L0 a xs) (r : RpA K as L0 xs ds) : Walks K (Itv K a xs.length) as L0 ds.reverse := by
  intro L H M e A
  have g1 : SqL K H a xs := ex_l A.low (ex_l e h)
  have hz := r.length
  refine ⟨fun i hi => ?_, by show xs.length ≤ _; rw [List.length_reverse, hz]; exact Nat.le_refl _⟩
  rw [List.length_reverse] at hi
  have hx : xs.length - 1 - i < xs.length := by omega
  refine ⟨⟨by omega, xs, xs[xs.length - 1 - i], g1, List.getElem?_eq_getElem hx⟩, fun x H' y => ?_⟩
  obtain ⟨rfl, hy⟩ := y
  obtain ⟨d, hd, rd⟩ := r.getV (hy xs g1)
  refine ⟨d, L, ?_, .refl, A, rd.mono e (Pre.refl _)⟩
  rw [List.getElem?_reverse (by omega), ← hz]; exact hd
theorem pdi_rev {tg : Expr} (hg : Gl X "reversed") (hm : X.mg "reversed" = none) (h : PD X e t) (hs : starEach [e] X.env = (false, eval e X.env) :: starEach [] X.env := by rfl) : PDI X tg (.Call (.Name "reversed" p) [e] [] pos) (iRev t) := by
  obtain ⟨u, pe, s⟩ := h.ex
  refine ⟨_, RT.pi_revA hg hm pe hs, ?_⟩
  intro as σ ρ L H M P R hE A hh q
  refine s as σ ρ L H M _ _ hE A hh fun v d L1 H1 M1 s1 A1 h1 r1 => ?_
  obtain ⟨ds, rfl, p⟩ := h1
  cases r1 with
  | lst hs ra => exact ⟨_, _, rfl, .inl ⟨ex_l A1.low hs, q _ _ L1 H1 M1 s1 A1 p (walks_rev hs ra)⟩⟩
end
end Pd

set_option Elab.async false
set_option linter.all false
set_option maxRecDepth 100000
set_option maxHeartbeats 3200000
namespace Pd
open PySem PySem.Spec PyProof.Rows L2
/-! ### {k: v for x in xs}, the keys unlike -/
def dcRun (g : DG) (tk tv : DE) (ρ : Rho) (P : D → Ms → Prop) : List D → List Key → List D → Ms → Prop
  | [], ks, acc, M => P (.dic ks acc) M
  | d :: r, ks, acc, M => g d ρ fun ρ' => tk ρ' M fun kd M1 => tv ρ' M1 fun y M2 => ∃ k, kd = keyD k ∧ k ∉ ks ∧ acc.length < sizeLine ∧ dcRun g tk tv ρ P r (ks ++ [k]) (acc ++ [y]) M2
@[simp] def dDc (it : DA) (g : DG) (tk tv : DE) (vs : List Nat) : DE := fun ρ M P => it ρ M fun ds M1 => dcRun g tk tv (wipeR ρ vs) P ds [] [] M1
theorem putK_new {ks : List Key} {xs : List V} {k : Key} {v : V} (hl : ks.length = xs.length) (h : k ∉ ks) : putK (ks.zip xs) k v = (ks ++ [k]).zip (xs ++ [v]) := by
  unfold putK
  rw [if_neg, List.zip_append hl]
  · rfl
  · intro z
    obtain ⟨kv, hm, e⟩ := List.any_eq_true.mp z
    have e := of_decide_eq_true e
    exact h (e ▸ (List.of_mem_zip (a := kv.1) (b := kv.2) hm).1)
theorem keyD_rp {K : PySem.W.Frag} {as : List Addr} {L : Hp} {v : V} {k : Key} (r : Rp K as L v (keyD k)) : v = kV k := by
  cases k with
  | inl i => cases r; rfl
  | inr i => cases r; rfl
theorem sim_dc {K : PySem.W.Frag} {wi : TI} {it : DA} {g' : TG} {g : DG} {us : List Nat} {ut : TT} {uk uv : TE} {tk tv : DE} {vs : List Nat} (hus : ∀ i ∈ us, i ∈ vs) (s : SimI K wi it) (sg : SimG K g' g us) (st : SimT K ut dYes) (sk : SimE K uk tk) (se : SimE K uv tv) :
    SimE K (tFrzK (tDc wi g' ut uk uv vs)) (dDc it g tk tv vs) := by
  intro as σ ρ L H M P Q hE A h q
  refine s as σ ρ L H M _ _ hE A h fun J ds L1 H1 M1 s1 A1 h1 w1 => ?_
  intro D hD
  have base : ∀ {L' H' : Hp} {M' : Ms} {acc : List (Key × V)}, At K as M' L' H' → H' D = some (.dK acc) → L' D = none → D ∉ as → ∀ acc', At K as M' L' (upd H' D (.dK acc')) := by
    intro L' H' M' acc A' hd hl hn acc'
    refine ⟨fun a o h => ?_, A'.len, A'.nd, fun k a m e1 e2 => ?_, A'.nt⟩
    · have e : a ≠ D := fun z => by rw [z, hl] at h; cases h
      rw [upd_ne e]; exact A'.low a o h
    · obtain ⟨h3, o, h4, h5⟩ := A'.mo k a m e1 e2
      have e : a ≠ D := fun z => hn (by rw [← z]; exact List.mem_of_getElem? e1)
      exact ⟨h3, o, by rw [upd_ne e]; exact h4, h5.1, h5.2.keep (KeepC.over hd rfl)⟩
  have dn : D ∉ as := fun z => (A1.held z).2 hD
  have ld : L1 D = none := lowfree A1 hD
  refine ⟨fun i m H' => m = ds.length - i ∧ i ≤ ds.length ∧ ∃ L' M' ks xs acc, Step as L1 H1 as L' H' ∧ At K as M' L' H' ∧ H' D = some (.dK (ks.zip xs)) ∧ L' D = none ∧ ks.length = xs.length ∧ RpA K as L' xs acc ∧ dcRun g tk tv (wipeR ρ vs) P (ds.drop i) ks acc M',
    ⟨ds.length, by simp, Nat.zero_le _, L1, M1, [], [], [], ⟨fun a o _ h => ?_, Ex.refl _, fun _ h _ => h, Pre.refl _, fun _ h => .inl h⟩, ?_, upd_same, ld, rfl, .nil, h1⟩, ?_⟩
  · rw [upd_ne (ne_of_none h hD)]; exact h
  · refine ⟨fun a o h => ?_, A1.len, A1.nd, fun k a m e1 e2 => ?_, A1.nt⟩
    · rw [upd_ne (ne_of_none (A1.low a o h) hD)]; exact A1.low a o h
    · obtain ⟨h3, o, h4, h5⟩ := A1.mo k a m e1 e2
      exact ⟨h3, o, by rw [upd_ne (ne_of_none h4 hD)]; exact h4, h5.1, h5.2.keep (KeepC.new hD)⟩
  rintro i m H' ⟨rfl, hi, L', M', ks, xs, acc, s', A', hd', ld', hkl, ra, hf⟩
  obtain ⟨wg, ws⟩ := w1 L' H' M' s'.k A'
  have upD : ∀ {L2 H2 : Hp} {M2 : Ms}, Step as L1 H1 as L2 H2 → At K as M2 L2 H2 → ∀ acc', Step as L1 H1 as L2 (upd H2 D (.dK acc')) := by
    intro L2 H2 M2 s2 A2 acc'
    exact ⟨fun a o ha h => by rw [upd_ne (ne_of_none h hD)]; exact s2.up a o ha h, s2.k, s2.hid, s2.pre, s2.new⟩
  by_cases hlt : i < ds.length
  · obtain ⟨go, wy⟩ := wg i hlt
    rw [List.drop_eq_getElem_cons hlt] at hf
    refine .inr ⟨go, fun H2 => ∃ L' M' ks xs acc, Step as L1 H1 as L' H2 ∧ At K as M' L' H2 ∧ H2 D = some (.dK (ks.zip xs)) ∧ L' D = none ∧ ks.length = xs.length ∧ RpA K as L' xs acc ∧ dcRun g tk tv (wipeR ρ vs) P (ds.drop (i + 1)) ks acc M', fun H2 q => ⟨ds.length - (i + 1), by omega, rfl, hlt, q⟩, fun x H2 y => ?_⟩
    obtain ⟨d, L2, hd, s2, A2, r2⟩ := wy x H2 y
    rw [List.getElem?_eq_getElem hlt] at hd
    cases hd
    have hE2 : En K as L2 (wipeS σ vs) (wipeR ρ vs) := ((hE.mono (s1.k.trans (s'.k.trans s2.k)) (Pre.refl _)).wipe vs)
    have hd2 : H2 D = some (.dK (ks.zip xs)) := s2.up D _ dn hd'
    have ld2 : L2 D = none := s2.hid D ld' (by rw [hd']; simp)
    refine sg as L2 H2 x _ _ _ M' _ _ hE2 A2 r2 hf fun σ3 ρ3 e3 p3 wp => ⟨?_, ?_⟩
    · have z := wp vs hus
      rw [z, wipe_wipe]
    · refine st as σ3 ρ3 L2 H2 M' (fun b M => b = true ∧ tk ρ3 M _) _ e3 A2 ⟨rfl, p3⟩ fun b L3 H3 M3 s3 A3 h3 => ?_
      obtain ⟨rfl, h3⟩ := h3
      have s13 := (s'.trans A' s2).trans A2 s3
      have hd3 : H3 D = some (.dK (ks.zip xs)) := s3.up D _ dn hd2
      have ld3 : L3 D = none := s3.hid D ld2 (by rw [hd2]; simp)
      rw [if_pos rfl]
      refine sk as σ3 ρ3 L3 H3 M3 _ _ (e3.mono s3.k s3.pre) A3 h3 fun kv kd L4 H4 M4 s4 A4 h4 r4 => ?_
      have hd4 : H4 D = some (.dK (ks.zip xs)) := s4.up D _ dn hd3
      have ld4 : L4 D = none := s4.hid D ld3 (by rw [hd3]; simp)
      have s14 := s13.trans A3 s4
      refine se as σ3 ρ3 L4 H4 M4 _ _ ((e3.mono s3.k s3.pre).mono s4.k s4.pre) A4 h4 fun v z L5 H5 M5 s5 A5 h5 r5 => ?_
      obtain ⟨k, rfl, hk, hz, h5⟩ := h5
      have hd5 : H5 D = some (.dK (ks.zip xs)) := s5.up D _ dn hd4
      have ld5 : L5 D = none := s5.hid D ld4 (by rw [hd4]; simp)
      have s15 := s14.trans A4 s5
      have ra5 := ra.mono (s2.k.trans (s3.k.trans (s4.k.trans s5.k))) (Pre.refl as)
      have ek := keyD_rp r4
      refine ⟨ks.zip xs, k, ek, hd5, by rw [List.length_zip, hkl, Nat.min_self, ra.length]; exact hz, L5, M5, ks ++ [k], xs ++ [v], acc ++ [z], upD s15 A5 _, base A5 hd5 ld5 dn _, ?_, ld5, by rw [List.length_append, List.length_append, hkl]; rfl, ra5.append (.one r5), h5⟩
      rw [upd_same, putK_new hkl hk]
  · have e : i = ds.length := by omega
    subst e
    rw [List.drop_length] at hf
    refine .inl ⟨ws, D, ks.zip xs, rfl, hd', fun o => ?_⟩
    have hD0 : H D = none := by
      cases e : H D with
      | none => rfl
      | some o => have := s1.up D _ dn e; rw [hD] at this; cases this
    exact q _ _ _ _ M' ((s1.trans A1 s').shown hD0 ld') (A'.shown ld' dn (KeepC.over hd' rfl) (fun ps z => by cases z)) hf (.dic (vs := xs) ⟨o, upd_same⟩ hkl (ra.mono (Ex.new ld') (Pre.refl _)))
section
variable {X : Cx}
theorem pd_dc {kx vx tg iter : Expr} {scope : Scope} (own : List (Str × Nat)) {pos : Pos} {it : DA} {g : DG} {us : List Nat} {tk tv : DE} (hc : X.calm = true) (hN : X.N.Nodup) (hi : PDI X tg iter it) (ok : BlkOk X.N X.env.scope scope own)
    (hg : ∀ (s : Shared) (H : Hp) (C : Addr) (cl : List (Str × Addr)) (fp : List Addr), PDG (X.blk s H scope (compEnvC scope cl C X.env) fp) tg g us)
    (hk : ∀ (s : Shared) (H : Hp) (C : Addr) (cl : List (Str × Addr)) (fp : List Addr), PD (X.blk s H scope (compEnvC scope cl C X.env) fp) kx tk)
    (he : ∀ (s : Shared) (H : Hp) (C : Addr) (cl : List (Str × Addr)) (fp : List Addr), PD (X.blk s H scope (compEnvC scope cl C X.env) fp) vx tv) (hu : ∀ i ∈ us, i ∈ own.map (·.2) := by decide) (hs : ∀ x, foldedSetIterable iter X.env x = pure x := by intro _; rfl) :
    PD X (.DictComp kx vx [⟨tg, iter, [], 0⟩] scope pos) (dDc it g tk tv (own.map (·.2))) := by
  obtain ⟨wi, p, s⟩ := hi.ex
  have ht : ∀ (s : Shared) (H : Hp) (C : Addr) (cl : List (Str × Addr)) (fp : List Addr), PDTs (X.blk s H scope (compEnvC scope cl C X.env) fp) [] dYes := fun a b c d e => pdts_nil
  exact ⟨_, pe_frzK (pe_dc hc hN p ok (fun a b c d e => (hg a b c d e).up) (fun a b c d e => (ht a b c d e).up) (fun a b c d e => (hk a b c d e).up) (fun a b c d e => (he a b c d e).up) hs), sim_dc hu s (sim_upG g us) (sim_upT dYes) (sim_upE tk) (sim_upE tv)⟩
/-! ### d.get(e, f) -/
def dicGet (ks : List Key) (ds : List D) (k : Key) : Option D := ((ks.zip ds).find? fun kv => decide (kv.1 = k)).map (·.2)
@[simp] def dGet2 (td ty tx : DE) : DE := fun ρ M P => td ρ M fun d M1 => ∃ ks ds, d = .dic ks ds ∧ ty ρ M1 fun y M2 => tx ρ M2 fun z M3 => ∃ k, y = keyD k ∧ P ((dicGet ks ds k).getD z) M3
theorem rp_get {K : PySem.W.Frag} {as : List Addr} {L : Hp} (k : Key) : ∀ {ks : List Key} {vs : List V} {ds : List D}, RpA K as L vs ds → (valV (ks.zip vs) k = none ∧ dicGet ks ds k = none) ∨ ∃ v d, valV (ks.zip vs) k = some v ∧ dicGet ks ds k = some d ∧ Rp K as L v d
  | [], vs, ds, _ => .inl ⟨rfl, rfl⟩
  | k0 :: ks, _, _, .nil => .inl ⟨rfl, rfl⟩
  | k0 :: ks, _, _, .cons (v := v) (d := d) r t => by
    by_cases e : k0 = k
    · refine .inr ⟨v, d, ?_, ?_, r⟩
      · unfold valV; rw [List.zip_cons_cons, List.find?_cons_of_pos (by simpa using e)]; rfl
      · unfold dicGet; rw [List.zip_cons_cons, List.find?_cons_of_pos (by simpa using e)]; rfl
    · rcases rp_get k (ks := ks) t with ⟨h1, h2⟩ | ⟨v', d', h1, h2, h3⟩
      · refine .inl ⟨?_, ?_⟩
        · unfold valV at h1 ⊢; rw [List.zip_cons_cons, List.find?_cons_of_neg (by simpa using e)]; exact h1
        · unfold dicGet at h2 ⊢; rw [List.zip_cons_cons, List.find?_cons_of_neg (by simpa using e)]; exact h2
      · refine .inr ⟨v', d', ?_, ?_, h3⟩
        · unfold valV at h1 ⊢; rw [List.zip_cons_cons, List.find?_cons_of_neg (by simpa using e)]; exact h1
        · unfold dicGet at h2 ⊢; rw [List.zip_cons_cons, List.find?_cons_of_neg (by simpa using e)]; exact h2
theorem pd_dget2 {o e f : Expr} {apos cpos : Pos} {td ty tx : DE} (hu : X.A.units + 64 < cLine) (ho : PD X o td) (he : PD X e ty) (hf : PD X f tx) (h1 : attributeBase o "get" X.env (eval o X.env) = eval o X.env := by rfl)
    (h2 : (((backTo cpos (starEach [e, f] X.env)).all fun x => !x.1) && ((backToKw cpos (keywordEach [] X.env)).all fun x => x.1.isSome) && decide ([e, f].length + ([] : List Keyword).length + (if ([] : List Keyword).isEmpty = true then 0 else 1) < 30)) = true := by rfl)
    (h3 : (apos.endLine == cpos.line) = true := by rfl) (h4 : backTo cpos (starEach [e, f] X.env) = [(false, eval e X.env), (false, eval f X.env)] := by rfl) :
    PD X (.Call (.Attribute o "get" apos) [e, f] [] cpos) (dGet2 td ty tx) := by
  obtain ⟨u1, p1, s1⟩ := ho.ex
  obtain ⟨u2, p2, s2⟩ := he.ex
  obtain ⟨u3, p3, s3⟩ := hf.ex
  refine ⟨_, pe_dget2 (by omega) p1 p2 p3 ⟨h1, h2, h3, h4⟩, ?_⟩
  intro as σ ρ L H M P Q hE A hh q
  refine s1 as σ ρ L H M _ _ hE A hh fun v d L1 H1 M1 st1 A1 h1 r1 => ?_
  obtain ⟨ks, ds, rfl, h1⟩ := h1
  cases r1 with
  | dic hd hl ra =>
    obtain ⟨ob, hd⟩ := hd
    refine ⟨_, rfl, ?_, ?_⟩
    · exact .inl ⟨_, .inr ⟨ob, A1.low _ _ hd⟩⟩
    refine s2 as σ ρ L1 H1 M1 _ _ (hE.mono st1.k st1.pre) A1 h1 fun y dy L2 H2 M2 st2 A2 h2 r2 => ?_
    have st12 := st1.trans A1 st2
    refine s3 as σ ρ L2 H2 M2 _ _ (hE.mono st12.k st12.pre) A2 h2 fun z dz L3 H3 M3 st3 A3 h3 r3 => ?_
    obtain ⟨k, rfl, p⟩ := h3
    have ek := keyD_rp r2
    have ra3 := ra.mono (st2.k.trans st3.k) (st2.pre.trans st3.pre)
    have hd3 : H3 _ = some (.frz ob (.dK (ks.zip _))) := A3.low _ _ (st3.k _ _ (st2.k _ _ hd))
    have st13 := st12.trans A2 st3
    rcases rp_get k (ks := ks) ra3 with ⟨e1, e2⟩ | ⟨v', d', e1, e2, r⟩
    · rw [e2] at p
      exact ⟨none, .inl ⟨_, k, .inr ⟨ob, hd3⟩, ek, e1.symm⟩, q z dz L3 H3 M3 st13 A3 p r3⟩
    · rw [e2] at p
      exact ⟨some v', .inl ⟨_, k, .inr ⟨ob, hd3⟩, ek, e1.symm⟩, q v' d' L3 H3 M3 st13 A3 p r⟩
end
end Pd

set_option Elab.async false
set_option linter.all false
set_option maxRecDepth 100000
set_option maxHeartbeats 3200000
namespace Pd
open PySem PySem.Spec PyProof.Rows L2 PySem.HandSPX
section
variable {X : Cx} {k n : Nat} {C g : Addr} {fd : FuncData} {ps : List Str} {e o : Expr} {es : List Expr} {t : DE} {tl : DA} {pos apos p pos2 : Pos} {m : Str} {pl : Sem Bool}
/-! ### o.m(e, ..), a method that raises nothing -/
@[simp] def dMethD (C : Addr) (m : Str) (n : Nat) (W : DC) (t : DE) (tl : DA) : DE := fun ρ M P => t ρ M fun x M1 => ∃ fs, x = .ins C fs ∧ fs.lookup m = none ∧ tl ρ M1 fun ds M2 => ds.length + 1 = n ∧ W (x :: ds) M2 P
theorem pd_methD {W : DC} (he : PD X o t) (c : Cls X.K C) (hm : Meth X.K C m g) (F : FnOk X.prog X.w X.K X.mg X.base CX0 k g fd ps (spD n W X.K)) (hr : Room k X.A) (hb : Binds X.K fd ps []) (ha : PDA X (e :: es) tl)
    (hst : starEach (e :: es) X.env = (false, eval e X.env) :: starEach es X.env := by rfl) (hpl : (backTo pos (starEach es X.env)).any (·.1) = false := by rfl)
    (ht : eval (.Call (.Attribute o m apos) (e :: es) [] pos) X.env = (do
      let ov ← eval o X.env
      standAt apos.atName
      let (f, first) ← holding [ov] (getMethod ov m pl)
      callWith pos f first (backTo pos (starEach (e :: es) X.env)) (backToKw pos (keywordEach [] X.env))) := by rfl) :
    PD X (.Call (.Attribute o m apos) (e :: es) [] pos) (dMethD C m n W t tl) := by
  obtain ⟨u, p, s⟩ := he.ex
  obtain ⟨ua, pa, sa⟩ := ha.ex
  refine ⟨_, pe_meth p c hm F hr hb .nil (pass0 (X := X)) pa hst hpl ht, ?_⟩
  intro as σ ρ L H M P Q hE A h q
  refine s as σ ρ L H M _ _ hE A h fun v d L1 H1 M1 s1 A1 h1 r1 => ?_
  obtain ⟨fs, rfl, hl, h1⟩ := h1
  have r0 := r1
  cases r1 with
  | ins g1 rf =>
    refine ⟨_, _, _, rfl, A1.low _ _ g1, rf.lookN hl, sa as σ ρ L1 H1 M1 _ _ (hE.mono s1.k s1.pre) A1 h1 fun vs ds L2 H2 M2 s2 A2 h2 r2 => ?_⟩
    rw [List.append_nil]
    have s12 := s1.trans A1 s2
    exact sp_of A2 (.cons (r0.mono s2.k s2.pre) r2) (by rw [List.length_cons]; exact h2.1) h2.2 fun v z L3 H3 M3 s3 A3 h3 r3 => q v z L3 H3 M3 (s12.trans A2 s3) A3 h3 r3
/-! ### list(o.m()), a generator method -/
@[simp] def dListGM (C : Addr) (m : Str) (W : DCG) (t : DE) : DE := fun ρ M P => t ρ M fun x M1 => ∃ fs, x = .ins C fs ∧ fs.lookup m = none ∧ W [x] M1 (fun out M2 => P (.lst out) M2) xNo
theorem pd_listGM {W : DCG} (he : PD X o t) (c : Cls X.K C) (hm : Meth X.K C m g) (F : GFn X.prog X.w X.K X.mg X.base k g fd ps (spG 1 W X.K)) (hr : Room (k + 3) X.A) (hb : Binds X.K fd ps []) (hgl : Gl X "list") (hml : X.mg "list" = none)
    (ht : eval (.Call (.Attribute o m apos) [] [] pos) X.env = (do
      let ov ← eval o X.env
      standAt apos.atName
      let (f, first) ← holding [ov] (getMethod ov m pl)
      callWith pos f first (backTo pos (starEach [] X.env)) (backToKw pos (keywordEach [] X.env))) := by rfl)
    (he2 : starEach [.Call (.Attribute o m apos) [] [] pos] X.env = (false, eval (.Call (.Attribute o m apos) [] [] pos) X.env) :: starEach [] X.env := by rfl) :
    PD X (.Call (.Name "list" p) [.Call (.Attribute o m apos) [] [] pos] [] pos2) (dListGM C m W t) := by
  obtain ⟨u, pe, s⟩ := he.ex
  refine ⟨_, pe_listG (E := E0) (pgen_meth0 pe c hm F (hr.mono (by omega)) hb .nil ht) (fun pins σ H s e s' I c => ?_) (fun cls d H h => h.elim) hr hgl hml (by decide +kernel) (by decide) (by decide) he2, ?_⟩
  · obtain ⟨_, _, _, _, _, _, _, _, _, _, _, _, z⟩ := c
    exact z.elim
  intro as σ ρ L H M P Q hE A h q
  refine s as σ ρ L H M _ _ hE A h fun v d L1 H1 M1 s1 A1 h1 r1 => ?_
  obtain ⟨fs, rfl, hl, h1⟩ := h1
  have r0 := r1
  cases r1 with
  | ins g1 rf =>
    refine ⟨_, _, _, rfl, A1.low _ _ g1, rf.lookN hl, ?_⟩
    refine ⟨rfl, as, M1, L1, _, _, xNo, .cons r0 .nil, A1, h1, fun ys out L2 H2 M2 s2 A2 p2 r2 => ?_, XC.no⟩
    intro a ha
    have la : L2 a = none := lowfree A2 ha
    exact q (.ref a) (.lst out) (upd L2 a (.lst ys)) _ M2 ((s1.trans A1 s2).trans A2 (Step.know A2 ha)) (A2.know ha) p2 (.lst (.inl (.inl upd_same)) (r2.mono (Ex.new la) (Pre.refl _)))
end
/-! ### x not in xs, over data -/
section
variable {X : Cx} {K : PySem.W.Frag}
def rNinI (K : PySem.W.Frag) : R2 := fun x y H Q => ∃ d ds, Dp K H x d ∧ Dp K H y (.list ds) ∧ SeqAt.shaped (.list ds) = true ∧ SeqAt.shaped d = true ∧ d.depth ≤ 60 ∧ Q (.bl (!ds.any fun z => PyData.eqv z d)) H
theorem op_ninI (hu : X.A.units + 64 < cLine) : OpR X (compareOp .NotIn) (rNinI X.K) := by
  intro pins s σ H x y v u Q I r1 r2 h
  obtain ⟨d, ds, h1, h2, h4, h3, hd, q⟩ := h
  obtain ⟨bs, rx⟩ := Dp.reads I d x v h1 r1
  obtain ⟨as, ry⟩ := Dp.reads I _ y u h2 r2
  have hc := SeqAt.canLay_of_shaped h4
  exact SeqAt.notIn_list_reads ry rx (by simpa [PyData.canLay0] using hc) (SeqAt.canLay_of_shaped h3) (by omega) ⟨.bl _, H, I, rfl, q⟩
@[simp] def oNinI : D2 := fun x y M P => ∃ ds, y = .lst ds ∧ okD x = true ∧ okD y = true ∧ (toP x).depth ≤ 60 ∧ P (.bl (!ds.any fun z => eqD z x)) M
theorem sr_ninI : SimR K (rNinI K) oNinI := by
  intro as L H M x y d e P Q A r1 r2 ⟨ds, h1, h2, h3, h4, p⟩ q
  subst h1
  have e1 := Bool.and_eq_true_iff.mp h2
  have e2 := Bool.and_eq_true_iff.mp h3
  have d1 := r1.dp A.low e1.1
  have d2 := r2.dp A.low e2.1
  refine ⟨toP d, toPA ds, d1, d2, e2.2, e1.2, h4, ?_⟩
  have : (toPA ds).any (fun z => PyData.eqv z (toP d)) = ds.any fun z => eqD z d := by rw [toPA_map, List.any_map]; rfl
  rw [this]
  exact q _ _ L H M .refl A p (.bl _)
end
/-! ### any(xs), xs a list of ints -/
section
variable {X : Cx}
def rAnyLI (K : PySem.W.Frag) : List V → Hp → VK → Prop := fun vs H Q => ∃ (a : Addr) (ns : List Int), vs = [V.ref a] ∧ SqL K H a (ns.map V.int) ∧ Q (.bl (ns.any fun n => n != 0)) H
theorem cr_anyLI (hc : X.calm = true) : CallR X (.builtin "any") (rAnyLI X.K) := by
  intro pins s σ H vs us Q I r h
  obtain ⟨a, ns, rfl, hs, q⟩ := h
  obtain ⟨its, rv, pl, _⟩ := I.list hs
  have hl : s.heap.IsList a its.toArray := pl.isList
  rw [Vals.ref1 r]
  have hlt : a < s.heap.objs.size := by obtain ⟨o, e, _⟩ := hl; exact Heap.lt_size e
  have hlen := rv.length
  rw [List.length_map] at hlen
  refine call_any_walk (wpAny_pyIter_list hl ?_)
  refine ⟨_, _, _, _, _, _, fun i => (ns.getD i 0) != 0, rfl, Walks.list (A := X.A.in1) (I.ok.hd hc) _ a (Nat.ne_of_lt hlt) its.toArray, ⟨⟨_, Heap.get?_push_size _ rfl, rfl, rfl⟩, hl.push _⟩, fun i v s' Q' E' hv hq => ?_, fun h' tk hk => ?_⟩
  · have hv' : its[i]? = some v := by simpa using hv
    obtain ⟨n, hn⟩ : ∃ n, ns[i]? = some n := by
      have h1 : i < its.length := (List.getElem?_eq_some_iff.mp hv').1
      exact ⟨ns[i]'(by omega), List.getElem?_eq_getElem (by omega)⟩
    obtain ⟨u, hu, ru⟩ := rv.get (i := i) (x := .int n) (by rw [List.getElem?_map, hn]; rfl)
    rw [hv'] at hu
    cases hu
    obtain ⟨t, rfl⟩ := ru
    have hg : ns.getD i 0 = n := by rw [List.getD_eq_getElem?_getD, hn]; rfl
    simp only [hg] at hq
    exact PyProof.Rows.truthy_int hq
  · refine ⟨.bl _, H, I.kept fun b o eo => hk b o (fun hmem => ?_) (Heap.get?_push_of_some _ eo), ?_, q⟩
    · rcases List.mem_cons.mp hmem with e1 | hmem
      · exact absurd (e1 ▸ Heap.lt_size eo) (Nat.lt_irrefl _)
      · cases hmem
    · show Value.bool _ = Value.bool _
      rw [← any_rangeI, List.size_toArray, ← hlen]
@[simp] def oAnyLI : DC := fun xs M P => ∃ ns : List Int, xs = [.lst (dI ns)] ∧ P (.bl (ns.any fun n => n != 0)) M
theorem sc_anyLI {K : PySem.W.Frag} : SimC K (rAnyLI K) oAnyLI := by
  intro as L H M xs ds P Q A r ⟨ns, h, p⟩ q
  subst h
  cases r with
  | cons r1 r2 =>
    cases r2
    cases r1 with
    | lst hs ra =>
      have ev := RpA.ints ra
      subst ev
      exact ⟨_, ns, rfl, ex_l A.low hs, q _ _ L H M .refl A p (.bl _)⟩
end
end Pd

/-! Rows modulo p: what spaces do, in plain Lean; settled for the sizes that are drawn by looking at all spaces. -/
namespace Spc
abbrev Rw := List Int
def mn (p : Int) (row other : Rw) (t : Int) : Rw := List.zipWith (fun a b => (a - t * b) % p) row other
def at_ (l : Rw) (i : Nat) : Int := l.getD i 0
def ld (l : Rw) : Nat := l.idxOf 1
def rmd (p : Int) : List Rw → Rw → Rw
  | [], row => row
  | l :: R, row => rmd p R (mn p row l (at_ row (ld l)))
def nz (row : Rw) : Bool := row.any fun n => n != 0
def fst1 (row : Rw) : Int := (row.filter fun n => n != 0).headD 0
def rngL (p : Int) : List Int := (List.range p.toNat).map fun (k : Nat) => (k : Int)
def inv1 (p : Int) (f : Int) : Int := ((rngL p).filter fun k => k * f % p == 1).headD 0
def led (p : Int) (row : Rw) : Rw := row.map fun a => a * inv1 p (fst1 row) % p
/-- a > b, as Python compares tuples -/
def gtR : Rw → Rw → Bool
  | [], _ => false
  | _ :: _, [] => true
  | a :: x, b :: y => if a = b then gtR x y else decide (b < a)
def insD (x : Rw) : List Rw → List Rw
  | [] => [x]
  | y :: l => if gtR y x then y :: insD x l else x :: y :: l
def srtD : List Rw → List Rw
  | [] => []
  | x :: l => insD x (srtD l)
def step (p : Int) (R : List Rw) (y : Rw) : List Rw :=
  if nz (rmd p R y) then srtD (led p (rmd p R y) :: R.map fun o => rmd p [led p (rmd p R y)] o) else R
def red (p : Int) (rows : List Rw) : List Rw := rows.foldl (step p) []
def forced (R : List Rw) (p : Int) (free : Nat) (i : Nat) : Int := match R.find? fun r => ld r == i with | some r => -(at_ r free) % p | none => 0
def zrow (p : Int) (n : Nat) (R : List Rw) (free : Nat) : Rw := (List.range n).map fun i => if i = free then 1 else forced R p free i
def zrows (p : Int) (n : Nat) (R : List Rw) : List Rw := red p (((List.range n).filter fun i => !((R.map ld).contains i)).map (zrow p n R))
def zero (n : Nat) : Rw := List.replicate n 0
def given (p : Int) (n : Nat) (R : List Rw) : List Rw := R.foldl (fun rows l => rows.flatMap fun row => (rngL p).map fun t => mn p row l (-t)) [zero n]
def dot (x y : Rw) (p : Int) : Int := (List.zipWith (fun a b => a * b) x y).sum % p
def allD (p : Int) : Nat → List Rw
  | 0 => [[]]
  | n + 1 => (allD p n).flatMap fun d => (rngL p).map fun v => d ++ [v]
def blind (p : Int) (n : Nat) (R : List Rw) (item : Rw) : Option Rw := (zrows p n R).reverse.find? fun d => dot item d p != 0
/-- what is asked of the spaces of one form -/
def zs (p : Int) (n : Nat) (R : List Rw) : List Rw := given p n (zrows p n R)
def good (p : Int) (n : Nat) (SP : List (List Rw)) (R : List Rw) : Bool :=
  (allD p n).all fun y => SP.contains (step p R y) && (zs p n (step p R y) == (zs p n R).filter fun d => dot y d p == 0) && (blind p n R y == ((zs p n R).find? fun d => dot y d p != 0)) && ((!nz (rmd p R y)) == ((zs p n R).find? fun d => dot y d p != 0).isNone)
def shpB (p : Int) (n : Nat) (SP : List (List Rw)) : Bool :=
  SP.contains [] && (zs p n [] == allD p n) && SP.all (fun R => decide (R.length ≤ 4) && decide ((R.map ld).Nodup) && R.all fun l => decide (l.length = n) && l.contains 1 && l.all fun x => decide (0 ≤ x) && decide (x < p)) && (rngL p).all fun f => f == 0 || (rngL p).any fun k => k * f % p == 1
end Spc

namespace Spc
set_option maxRecDepth 100000
def SP21 : List (List Rw) := [[], [[1]]]
theorem shp21 : shpB 2 1 SP21 = true := by decide +kernel
theorem good21 : (SP21.all fun R => good 2 1 SP21 R) = true := by decide +kernel
def SP22 : List (List Rw) := [[], [[0, 1]], [[1, 0]], [[1, 1]], [[1, 0], [0, 1]]]
theorem shp22 : shpB 2 2 SP22 = true := by decide +kernel
theorem good22 : (SP22.all fun R => good 2 2 SP22 R) = true := by decide +kernel
def SP23 : List (List Rw) := [[], [[0, 0, 1]], [[0, 1, 0]], [[0, 1, 1]], [[1, 0, 0]], [[1, 0, 1]], [[1, 1, 0]], [[1, 1, 1]], [[0, 1, 0], [0, 0, 1]], [[1, 0, 0], [0, 0, 1]], [[1, 0, 0], [0, 1, 0]], [[1, 0, 0], [0, 1, 1]], [[1, 0, 1], [0, 1, 0]], [[1, 0, 1], [0, 1, 1]], [[1, 1, 0], [0, 0, 1]], [[1, 0, 0], [0, 1, 0], [0, 0, 1]]]
theorem shp23 : shpB 2 3 SP23 = true := by decide +kernel
theorem good23 : (SP23.all fun R => good 2 3 SP23 R) = true := by decide +kernel
def SP24 : List (List Rw) := [[], [[0, 0, 0, 1]], [[0, 0, 1, 0]], [[0, 0, 1, 1]], [[0, 1, 0, 0]], [[0, 1, 0, 1]], [[0, 1, 1, 0]], [[0, 1, 1, 1]], [[1, 0, 0, 0]], [[1, 0, 0, 1]], [[1, 0, 1, 0]], [[1, 0, 1, 1]], [[1, 1, 0, 0]], [[1, 1, 0, 1]], [[1, 1, 1, 0]], [[1, 1, 1, 1]], [[0, 0, 1, 0], [0, 0, 0, 1]], [[0, 1, 0, 0], [0, 0, 0, 1]], [[0, 1, 0, 0], [0, 0, 1, 0]], [[0, 1, 0, 0], [0, 0, 1, 1]], [[0, 1, 0, 1], [0, 0, 1, 0]], [[0, 1, 0, 1], [0, 0, 1, 1]], [[0, 1, 1, 0], [0, 0, 0, 1]], [[1, 0, 0, 0], [0, 0, 0, 1]], [[1, 0, 0, 0], [0, 0, 1, 0]], [[1, 0, 0, 0], [0, 0, 1, 1]], [[1, 0, 0, 0], [0, 1, 0, 0]], [[1, 0, 0, 0], [0, 1, 0, 1]], [[1, 0, 0, 0], [0, 1, 1, 0]], [[1, 0, 0, 0], [0, 1, 1, 1]], [[1, 0, 0, 1], [0, 0, 1, 0]], [[1, 0, 0, 1], [0, 0, 1, 1]], [[1, 0, 0, 1], [0, 1, 0, 0]], [[1, 0, 0, 1], [0, 1, 0, 1]], [[1, 0, 0, 1], [0, 1, 1, 0]], [[1, 0, 0, 1], [0, 1, 1, 1]], [[1, 0, 1, 0], [0, 0, 0, 1]], [[1, 0, 1, 0], [0, 1, 0, 0]], [[1, 0, 1, 0], [0, 1, 0, 1]], [[1, 0, 1, 0], [0, 1, 1, 0]], [[1, 0, 1, 0], [0, 1, 1, 1]], [[1, 0, 1, 1], [0, 1, 0, 0]], [[1, 0, 1, 1], [0, 1, 0, 1]], [[1, 0, 1, 1], [0, 1, 1, 0]], [[1, 0, 1, 1], [0, 1, 1, 1]], [[1, 1, 0, 0], [0, 0, 0, 1]], [[1, 1, 0, 0], [0, 0, 1, 0]], [[1, 1, 0, 0], [0, 0, 1, 1]], [[1, 1, 0, 1], [0, 0, 1, 0]], [[1, 1, 0, 1], [0, 0, 1, 1]], [[1, 1, 1, 0], [0, 0, 0, 1]], [[0, 1, 0, 0], [0, 0, 1, 0], [0, 0, 0, 1]], [[1, 0, 0, 0], [0, 0, 1, 0], [0, 0, 0, 1]], [[1, 0, 0, 0], [0, 1, 0, 0], [0, 0, 0, 1]], [[1, 0, 0, 0], [0, 1, 0, 0], [0, 0, 1, 0]], [[1, 0, 0, 0], [0, 1, 0, 0], [0, 0, 1, 1]], [[1, 0, 0, 0], [0, 1, 0, 1], [0, 0, 1, 0]], [[1, 0, 0, 0], [0, 1, 0, 1], [0, 0, 1, 1]], [[1, 0, 0, 0], [0, 1, 1, 0], [0, 0, 0, 1]], [[1, 0, 0, 1], [0, 1, 0, 0], [0, 0, 1, 0]], [[1, 0, 0, 1], [0, 1, 0, 0], [0, 0, 1, 1]], [[1, 0, 0, 1], [0, 1, 0, 1], [0, 0, 1, 0]], [[1, 0, 0, 1], [0, 1, 0, 1], [0, 0, 1, 1]], [[1, 0, 1, 0], [0, 1, 0, 0], [0, 0, 0, 1]], [[1, 0, 1, 0], [0, 1, 1, 0], [0, 0, 0, 1]], [[1, 1, 0, 0], [0, 0, 1, 0], [0, 0, 0, 1]], [[1, 0, 0, 0], [0, 1, 0, 0], [0, 0, 1, 0], [0, 0, 0, 1]]]
theorem shp24 : shpB 2 4 SP24 = true := by decide +kernel
theorem good24 : (SP24.all fun R => good 2 4 SP24 R) = true := by decide +kernel
def SP31 : List (List Rw) := [[], [[1]]]
theorem shp31 : shpB 3 1 SP31 = true := by decide +kernel
theorem good31 : (SP31.all fun R => good 3 1 SP31 R) = true := by decide +kernel
def SP32 : List (List Rw) := [[], [[0, 1]], [[1, 0]], [[1, 1]], [[1, 2]], [[1, 0], [0, 1]]]
theorem shp32 : shpB 3 2 SP32 = true := by decide +kernel
theorem good32 : (SP32.all fun R => good 3 2 SP32 R) = true := by decide +kernel
def SP33 : List (List Rw) := [[], [[0, 0, 1]], [[0, 1, 0]], [[0, 1, 1]], [[0, 1, 2]], [[1, 0, 0]], [[1, 0, 1]], [[1, 0, 2]], [[1, 1, 0]], [[1, 1, 1]], [[1, 1, 2]], [[1, 2, 0]], [[1, 2, 1]], [[1, 2, 2]], [[0, 1, 0], [0, 0, 1]], [[1, 0, 0], [0, 0, 1]], [[1, 0, 0], [0, 1, 0]], [[1, 0, 0], [0, 1, 1]], [[1, 0, 0], [0, 1, 2]], [[1, 0, 1], [0, 1, 0]], [[1, 0, 1], [0, 1, 1]], [[1, 0, 1], [0, 1, 2]], [[1, 0, 2], [0, 1, 0]], [[1, 0, 2], [0, 1, 1]], [[1, 0, 2], [0, 1, 2]], [[1, 1, 0], [0, 0, 1]], [[1, 2, 0], [0, 0, 1]], [[1, 0, 0], [0, 1, 0], [0, 0, 1]]]
theorem shp33 : shpB 3 3 SP33 = true := by decide +kernel
theorem good33 : (SP33.all fun R => good 3 3 SP33 R) = true := by decide +kernel
def SP52 : List (List Rw) := [[], [[0, 1]], [[1, 0]], [[1, 1]], [[1, 2]], [[1, 3]], [[1, 4]], [[1, 0], [0, 1]]]
theorem shp52 : shpB 5 2 SP52 = true := by decide +kernel
theorem good52 : (SP52.all fun R => good 5 2 SP52 R) = true := by decide +kernel
def SP72 : List (List Rw) := [[], [[0, 1]], [[1, 0]], [[1, 1]], [[1, 2]], [[1, 3]], [[1, 4]], [[1, 5]], [[1, 6]], [[1, 0], [0, 1]]]
theorem shp72 : shpB 7 2 SP72 = true := by decide +kernel
theorem good72 : (SP72.all fun R => good 7 2 SP72 R) = true := by decide +kernel
end Spc

namespace Spc
open Pd
theorem gtR_eq : ∀ x y : Rw, gtR x y = decide (y < x)
  | [], y => by
    have : ¬ (y < ([] : List Int)) := List.not_lt_nil y
    simp [gtR, this]
  | a :: x, [] => by
    have : ([] : List Int) < a :: x := List.nil_lt_cons a x
    simp [gtR, this]
  | a :: x, b :: y => by
    have ih := gtR_eq x y
    have e : (b :: y < a :: x) ↔ b < a ∨ b = a ∧ y < x := List.cons_lt_cons_iff
    unfold gtR
    by_cases h : a = b
    · subst h
      rw [if_pos rfl, ih]
      simp [e]
    · rw [if_neg h]
      have h' : ¬ b = a := fun z => h z.symm
      simp [e, h']
theorem leD_total (a b : Rw) : (leD a b || leD b a) = true := by
  unfold leD
  by_cases h : a < b
  · have : ¬ b < a := List.lt_asymm h
    simp [this]
  · simp [h]
theorem leD_trans (a b c : Rw) (h1 : leD a b = true) (h2 : leD b c = true) : leD a c = true := by
  unfold leD at *
  simp at *
  exact List.le_trans h2 h1
theorem leD_anti (a b : Rw) (h1 : leD a b = true) (h2 : leD b a = true) : a = b := by
  unfold leD at *
  simp at *
  exact List.le_antisymm h2 h1
theorem insD_perm (x : Rw) : ∀ l, (insD x l).Perm (x :: l)
  | [] => List.Perm.refl _
  | y :: l => by
    unfold insD
    split
    · exact ((insD_perm x l).cons y).trans (List.Perm.swap x y l)
    · exact List.Perm.refl _
theorem srtD_perm : ∀ l, (srtD l).Perm l
  | [] => List.Perm.refl _
  | x :: l => (insD_perm x _).trans ((srtD_perm l).cons x)
theorem insD_sorted (x : Rw) : ∀ l, l.Pairwise (fun a b => leD a b = true) → (insD x l).Pairwise fun a b => leD a b = true
  | [], _ => List.pairwise_singleton _ _
  | y :: l, h => by
    obtain ⟨h1, h2⟩ := List.pairwise_cons.mp h
    unfold insD
    by_cases e : gtR y x = true
    · rw [if_pos e]
      have hyx : leD y x = true := by
        rw [gtR_eq] at e
        have := of_decide_eq_true e
        unfold leD
        have h3 : ¬ y < x := List.lt_asymm this
        simp [h3]
      refine List.pairwise_cons.mpr ⟨fun z hz => ?_, insD_sorted x l h2⟩
      rcases List.mem_cons.mp ((insD_perm x l).mem_iff.mp hz) with rfl | hz
      · exact hyx
      · exact h1 z hz
    · rw [if_neg e]
      have hxy : leD x y = true := by
        rw [gtR_eq] at e
        unfold leD
        simpa using e
      exact List.pairwise_cons.mpr ⟨fun z hz => by
        rcases List.mem_cons.mp hz with rfl | hz
        · exact hxy
        · exact leD_trans _ _ _ hxy (h1 z hz), h⟩
theorem srtD_sorted : ∀ l, (srtD l).Pairwise fun a b => leD a b = true
  | [] => List.Pairwise.nil
  | x :: l => insD_sorted x _ (srtD_sorted l)
theorem sort_eq (l : List Rw) : l.mergeSort leD = srtD l :=
  List.Perm.eq_of_pairwise (fun a b _ _ => leD_anti a b) (List.pairwise_mergeSort leD_trans leD_total l) (srtD_sorted l) ((List.mergeSort_perm l leD).trans (srtD_perm l).symm)
theorem mem_allD {p : Int} (hp : 0 ≤ p) : ∀ {n : Nat} {y : Rw}, y.length = n → (∀ x ∈ y, 0 ≤ x ∧ x < p) → y ∈ allD p n
  | 0, y, hl, _ => by rw [List.length_eq_zero_iff.mp hl]; exact List.mem_singleton.mpr rfl
  | n + 1, y, hl, h => by
    have hne : y ≠ [] := fun z => by rw [z] at hl; cases hl
    have e := List.dropLast_concat_getLast hne
    rw [← e]
    refine List.mem_flatMap.mpr ⟨y.dropLast, mem_allD hp (by rw [List.length_dropLast, hl]; rfl) (fun x hx => h x ((List.dropLast_sublist y).subset hx)), List.mem_map.mpr ⟨y.getLast hne, ?_, rfl⟩⟩
    have := h _ (List.getLast_mem hne)
    refine List.mem_map.mpr ⟨(y.getLast hne).toNat, List.mem_range.mpr (by omega), by omega⟩
theorem allD_mem {p : Int} : ∀ {n : Nat} {y : Rw}, y ∈ allD p n → y.length = n ∧ ∀ x ∈ y, 0 ≤ x ∧ x < p
  | 0, y, h => by rw [List.mem_singleton.mp h]; exact ⟨rfl, fun _ z => nomatch z⟩
  | n + 1, y, h => by
    obtain ⟨d, hd, hy⟩ := List.mem_flatMap.mp h
    obtain ⟨v, hv, rfl⟩ := List.mem_map.mp hy
    obtain ⟨k, hk, rfl⟩ := List.mem_map.mp hv
    obtain ⟨h1, h2⟩ := allD_mem hd
    refine ⟨by rw [List.length_append, h1]; rfl, fun x hx => ?_⟩
    rcases List.mem_append.mp hx with hx | hx
    · exact h2 x hx
    · rw [List.mem_singleton.mp hx]; have := List.mem_range.mp hk; omega
end Spc

set_option Elab.async false
set_option linter.all false
set_option maxRecDepth 100000
set_option maxHeartbeats 4000000
/-! Sets of many tuples of ints, few of them unlike. -/
namespace Pd
open PySem PySem.Spec PyProof.Rows L2
/-- a list without doubles whose items stand in another one is not longer -/
theorem nd_le {α : Type} [DecidableEq α] : ∀ (l U : List α), l.Nodup → (∀ x ∈ l, x ∈ U) → l.length ≤ U.length
  | [], _, _, _ => Nat.zero_le _
  | x :: l, U, h, hs => by
    have h1 := List.nodup_cons.mp h
    have hx := hs x List.mem_cons_self
    have := nd_le l (U.erase x) h1.2 fun y hy => by
      have hne : y ≠ x := fun e => by rw [e] at hy; exact h1.1 hy
      exact (List.mem_erase_of_ne hne).mpr (hs y (List.mem_cons_of_mem _ hy))
    have hp := List.length_pos_of_mem hx
    rw [List.length_erase_of_mem hx] at this
    rw [List.length_cons]
    omega
def FewOf (U : List (List Int)) (ks : List (Addr × List Int)) : Prop := U.length + 1 < 64 ∧ ∀ q ∈ ks, q.2 ∈ U
theorem FewOf.room {U : List (List Int)} {ks L : List (Addr × List Int)} {i : Nat} (f : FewOf U ks) (g : Got ks i L) (nd : (L.map (·.2)).Nodup) : L.length + 1 < 64 := by
  have h := nd_le _ U nd fun x hx => by
    obtain ⟨q, hq, rfl⟩ := List.mem_map.mp hx
    exact f.2 q (List.mem_of_mem_take (g.sub q hq))
  rw [List.length_map] at h
  have := f.1
  omega
section
variable {P : Program} {w : World} {A : Around} {E : Value → Shared → Prop}
/-- the set at z, when i items are in it -/
def Half (P : Program) (w : World) (z : Addr) (ks : List (Addr × List Int)) (g0 : Heap) (i : Nat) (h : Heap) : Prop :=
  (∀ b o, g0.get? b = some o → h.get? b = some o) ∧ ∃ L es ep t, SetTR P w h z L es ep t ∧ Got ks i L
theorem Half.same {z : Addr} {ks : List (Addr × List Int)} {g0 h h' : Heap} {i : Nat} (H : Half P w z ks g0 i h) (tup : ∀ q ∈ ks, IsT P w g0 q.2 q.1) (hz : ∀ o, h.get? z = some o → h'.get? z = some o) (k : ∀ b o, g0.get? b = some o → h'.get? b = some o) : Half P w z ks g0 i h' := by
  obtain ⟨_, L, es, ep, t, R, g⟩ := H
  exact ⟨k, L, es, ep, t, R.keep hz fun q hq => isT_keep (tup q (List.mem_of_mem_take (g.sub q hq))) k, g⟩
/-- one more -/
theorem Half.add {z : Addr} {ks : List (Addr × List Int)} {U : List (List Int)} {g0 : Heap} {i : Nat} {s : Shared} {q : Addr × List Int} (H : Half P w z ks g0 i s.heap) (few : FewOf U ks) (tup : ∀ q ∈ ks, IsT P w g0 q.2 q.1) (z0 : g0.get? z = none) (hq : ks[i]? = some q) (hu : A.units < cLine) {Q : Bool → Shared → Prop}
    (next : ∀ b h' tk, Heap.SameBut z s.heap h' → s.toks ≤ tk → Half P w z ks g0 (i + 1) h' → Q b { s with heap := h', toks := tk }) : wpAny (model P w) A (setAdd z (.ref q.1)) Q E s := by
  obtain ⟨k, L, es, ep, t, R, g⟩ := H
  have hx : IsT P w s.heap q.2 q.1 := isT_keep (tup q (List.mem_of_getElem? hq)) k
  unfold setAdd
  refine wpAny_holding (wpAny_bind (wpAny_pyHash_tuple hu hx ?_))
  refine add_at (s := { s with toks := s.toks + (q.2.length + 1) }) R hx hu (few.room g R.nd) fun b h' L' es' ep' t' sb R' old new => ?_
  refine next b h' _ sb (Nat.le_add_right _ _) ⟨fun c o e => (sb.2 c fun y => by rw [y, z0] at e; cases e).trans (k c o e), L', es', ep', t', R', ?_⟩
  by_cases c : q.2 ∈ L.map (·.2)
  · rw [old c]; exact g.same hq c
  · exact g.more hq (new c)
theorem fill_set {I z : Addr} {fp wr : List Addr} {G : Array GenState → Array GenState → Prop} {Pv : Nat → Value → Prop} {St : Nat → Shared → Prop} {R : Result → Shared → Prop} {ks : List (Addr × List Int)} {U : List (List Int)} {g0 : Heap} {s0 : Shared}
    (W : WalksS P w A.in1 I fp wr G ks.length Pv St) (zf : z ∉ fp) (few : FewOf U ks) (val : ∀ i v, Pv i v → ∃ q, ks[i]? = some q ∧ v = .ref q.1) (tup : ∀ q ∈ ks, IsT P w g0 q.2 q.1) (z0 : g0.get? z = none) (w0 : ∀ b ∈ wr, g0.get? b = none) (hu : A.in1.units < cLine)
    (fin : ∀ s', Moved (z :: wr) G s0 s' → Half P w z ks g0 ks.length s'.heap → R (.ok (.ret .none)) s') :
    ∀ (m i : Nat) (s : Shared), i + m = ks.length → Moved (z :: wr) G s0 s → St i s → Half P w z ks g0 i s.heap → codeAny (model P w) A (.builtin "set.update.loop" ⟨[.ref z, .ref I], []⟩) R s := by
  have zw : z ∉ wr := fun h => zf (W.sub _ h)
  have wide : ∀ b ∈ wr, b ∈ z :: wr := fun b hb => List.mem_cons_of_mem _ hb
  have stay : ∀ {i : Nat} {s s' : Shared}, Moved wr G s s' → Half P w z ks g0 i s.heap → Half P w z ks g0 i s'.heap := fun mv H =>
    H.same tup (fun o e => mv.heap z o zw e) fun b o e => mv.heap b o (fun hb => by rw [w0 b hb] at e; cases e) (H.1 b o e)
  intro m
  induction m with
  | zero =>
    intro i s hi m0 st H
    obtain rfl : i = ks.length := hi
    refine codeAny_builtin F.entry_set_update_loop (Around.under_plainId F.plain_set_update_loop _ ▸ ?_)
    show wpAny _ A.in1 (pyNext (.ref I) >>= _) _ _ s
    refine wpAny_bind (W.done s _ _ st fun s' mv => ?_)
    show wpAny _ A.in1 (ret Value.none) _ _ s'
    exact wpAny_pure (fin s' (m0.trans W.gtrans (mv.mono wide)) (stay mv H))
  | succ m ih =>
    intro i s hi m0 st H
    refine codeAny_builtin F.entry_set_update_loop (Around.under_plainId F.plain_set_update_loop _ ▸ ?_)
    show wpAny _ A.in1 (pyNext (.ref I) >>= _) _ _ s
    refine wpAny_bind (W.item i s _ _ (by omega) st fun v s' pv st' mv => ?_)
    obtain ⟨q, hq, rfl⟩ := val i v pv
    show wpAny _ A.in1 (holding [Value.ref q.1] (setAdd z (.ref q.1)) >>= _) _ _ s'
    refine wpAny_bind (wpAny_holding ((stay mv H).add few tup z0 hq hu fun b h' tk sb ht H' => ?_))
    have st2 : St (i + 1) { s' with heap := h', toks := tk } := W.frame _ s' _ _ st' ht fun c hc o e => (sb.2 c fun y => zf (y ▸ hc)).trans e
    refine wpAny_pure ⟨plainId_quiet F.plain_set_update_loop _, ih (i + 1) _ (by omega) ?_ st2 H'⟩
    refine m0.trans W.gtrans ((mv.mono wide).then_heap ht fun c o hc e => ?_)
    exact (sb.2 c fun y => hc (y ▸ List.mem_cons_self)).trans e
end
end Pd
namespace Pd
open PySem PySem.Spec PyProof.Rows L2
section
variable {P : Program} {w : World} {A : Around} {E : Value → Shared → Prop} {s : Shared}
abbrev bareSet (w : World) : Obj := { cls := .type "set", dict := none, data := .set #[] 0 (.fresh 0 0 (!w.params.followText "set-order")) }
theorem half_new {h : Heap} {z : Addr} {ks : List (Addr × List Int)} {g0 : Heap} (o : h.get? z = some (bareSet w)) (k : ∀ b o, g0.get? b = some o → h.get? b = some o) : Half P w z ks g0 0 h :=
  ⟨k, [], #[], 0, _, setTR_fresh o, Got.zero ks⟩
theorem none_behind {h : Heap} {b : Addr} (hb : h.objs.size ≤ b) : h.get? b = none := by
  cases q : h.get? b with
  | none => rfl
  | some o => exact absurd (Nat.lt_of_lt_of_le (Heap.lt_size q) hb) (Nat.lt_irrefl _)
set_option maxHeartbeats 8000000 in
/-- set(xs), xs a list of many tuples, few unlike -/
theorem set_of_list {l : Addr} {items : Array Value} {ks : List (Addr × List Int)} {U : List (List Int)} {Q : Value → Shared → Prop} (hh : A.handled = none) (hl : s.heap.IsList l items) (hit : items.toList = ks.map fun q => Value.ref q.1) (tup : ∀ q ∈ ks, IsT P w s.heap q.2 q.1) (few : FewOf U ks) (hu : A.units + 3 < cLine)
    (hQ : ∀ h' tk, Half P w s.heap.objs.size ks s.heap ks.length h' → Q (.ref s.heap.objs.size) { s with heap := h', toks := tk }) : wpAny (model P w) A (call (.type "set") [.ref l]) Q E s := by
  have hn : items.size = ks.length := by rw [← Array.length_toList, hit, List.length_map]
  obtain ⟨mc, mt, mro⟩ := F.called_set.mro
  have made := F.called_set.made
  have sub := F.called_set.sub
  refine wpAny_call (codeAny_of_tree ?_)
  show wpAny _ _ (callAny (.type "set") _) _ _ _
  refine wpAny_pure ⟨Code.quiet_builtin _ (by decide +kernel), codeAny_builtin F.entry_type_call ?_⟩
  rw [Around.under_plain (weight_type_call_type "set" [.ref l] []) rfl]
  have nt := F.called_set.notType
  have cc := F.called_set.canCreate
  have tc := F.typeCall_set_1 (.ref l)
  repeat (any_goals (first | assumption | wp_step))
  refine codeAny_mono (code_set_led1 (.ref l) (E := E) (Q₁ := fun v s' => v = .ref s.heap.objs.size ∧ s' = { s with heap := s.heap.push (bareSet w) }) ⟨rfl, rfl⟩) fun r s1 hr => ?_
  cases r with
  | error x => exact hr
  | ok fl =>
    cases fl with
    | ret v =>
      obtain ⟨rfl, rfl⟩ := hr
      have hz : (s.heap.push (bareSet w)).get? s.heap.objs.size = some (bareSet w) := Heap.get?_push_size _ rfl
      have ht : Shared.TypeIs { s with heap := s.heap.push (bareSet w) } (.ref s.heap.objs.size) "set" := ⟨_, hz, rfl⟩
      have il := F.called_set.init.lookup
      have ib := F.called_set.init.bind (.ref s.heap.objs.size)
      repeat (any_goals (first | assumption | wp_step))
      refine codeAny_mono (codeAny_call_builtin (R := wants (fun r s' => r = .none ∧ ∃ h' tk, s' = { s with heap := h', toks := tk } ∧ Half P w s.heap.objs.size ks s.heap ks.length h') E) F.called_set.init.plain F.entry_set_init (check_set_init_1 ht ?_)) fun r2 s2 hr2 => ?_
      · obtain ⟨ol, hol, hcl, nl, hdl⟩ := hl
        obtain ⟨oc, od, oa, os⟩ := ol
        simp only at hcl hdl
        subst hcl; subst hdl
        have hlt : l < s.heap.objs.size := Heap.lt_size hol
        have lst : (s.heap.push (bareSet w)).get? l = some { cls := .type "list", dict := od, data := .seq items nl, slots := os } := Heap.get?_push_of_some _ hol
        have ls := F.sub_list_set
        have lf := F.sub_list_frozenset
        have ld : (Value.type "list" == Value.type "dict") = false := by decide
        have isl : (s.heap.push (bareSet w)).IsList l items := ⟨_, lst, rfl, nl, rfl⟩
        unfold Builtin.«set.__init__» noKeywords Builtin.Frozenset.updateFrom
        generalize hPI : pyIter = PI
        wp_walk
        subst hPI
        refine wpAny_pyIter_list isl (wpAny_bind (wpAny_runValue ?_))
        have sz : (s.heap.push (bareSet w)).objs.size = s.heap.objs.size + 1 := Heap.size_push ..
        have hd3 : A.in1.in1.in1.handled = none := by simp [hh]
        have keep : ∀ b o, s.heap.get? b = some o → ((s.heap.push (bareSet w)).push { cls := .type "list_iterator", data := .fields #[.ref l, .int 0 0] }).get? b = some o := fun b o e => Heap.get?_push_of_some _ (Heap.get?_push_of_some _ e)
        have W := (Walks.list (prog := P) (w := w) hd3 (s.heap.push (bareSet w)).objs.size l (by rw [sz]; exact Nat.ne_of_lt (Nat.lt_succ_of_lt hlt)) items).toS
        rw [hn] at W
        refine fill_set (s0 := { s with heap := (s.heap.push (bareSet w)).push { cls := .type "list_iterator", data := .fields #[.ref l, .int 0 0] } }) W (by rw [sz]; simp only [List.mem_cons, List.not_mem_nil, or_false, not_or]; exact ⟨Nat.ne_of_lt (Nat.lt_succ_self _), Nat.ne_of_gt hlt⟩) few (fun i v e => ?_) tup (none_behind (Nat.le_refl _)) (fun b hb => none_behind (by rw [List.mem_singleton.mp hb, sz]; exact Nat.le_succ _)) hu (fun s' mv H => ?_) ks.length 0 _ (Nat.zero_add _) (Moved.refl W.grefl) ⟨⟨_, Heap.get?_push_size _ rfl, rfl, rfl⟩, isl.push _⟩ (half_new (Heap.get?_push_of_some _ hz) keep)
        · have q : items.toList[i]? = some v := by rw [Array.getElem?_toList]; exact e
          rw [hit, List.getElem?_map] at q
          obtain ⟨y, hy, e2⟩ := Option.map_eq_some_iff.mp q
          exact ⟨y, hy, e2.symm⟩
        · obtain ⟨h', g', d', tk', os'⟩ := s'
          obtain rfl : g' = s.gens := mv.gens
          obtain rfl : d' = s.drawn := mv.drawn
          obtain rfl : os' = s.os := mv.os
          show wpAny _ _ _ _ _ _
          refine wpAny_pure ?_
          show wpAny _ _ (ret Value.none) _ _ _
          exact wpAny_pure ⟨rfl, h', tk', rfl, H⟩
      · cases r2 with
        | error x => exact hr2
        | ok f2 =>
          cases f2 with
          | ret r =>
            obtain ⟨rfl, h', tk, rfl, H⟩ := hr2
            repeat (any_goals (first | assumption | wp_step))
            exact hQ _ _ H
          | _ => exact hr2.elim
    | _ => exact hr.elim
end
end Pd

set_option Elab.async false
set_option linter.all false
set_option maxRecDepth 100000
set_option maxHeartbeats 4000000
/-! sorted(set(xs)), xs a list of many tuples of ints, few of them unlike. -/
namespace Pd
open PySem PySem.Spec PyProof.Rows L2
theorem code_le_lex {B : Int} : ∀ {x y : List Int}, x.length = y.length → TS.Bd B x → TS.Bd B y → TS.code B x ≤ TS.code B y → ¬ y < x
  | [], [], _, _, _, _ => List.lt_irrefl _
  | a :: x, b :: y, hl, hx, hy, h => fun z => by
    have hl' : x.length = y.length := by simpa using hl
    rcases List.cons_lt_cons_iff.mp z with z1 | ⟨z0, z2⟩
    · exact absurd (TS.code_lt hl'.symm hy.tail hx.tail z1) (by omega)
    · subst z0
      refine code_le_lex hl' hx.tail hy.tail (Int.not_lt.mp fun c => ?_) z2
      have := (TS.code_same (d := b) hl'.symm).mpr c
      omega
section
variable {X : Cx} {e : Expr} {t : DE} {pos pos2 p p2 : Pos}
def rSetM (K : PySem.W.Frag) (P : Program) (w : World) : List V → Hp → VK → Prop := fun xs H Q => ∃ (l : Addr) (ks : List (Addr × List Int)) (U : List (List Int)), xs = [.ref l] ∧ SqL K H l (ks.map fun q => V.ref q.1) ∧ (∀ q ∈ ks, SqT K H q.1 (q.2.map V.int)) ∧ FewOf U ks ∧
  ∀ a L, H a = none → (∀ q ∈ L, q ∈ ks) → (∀ q ∈ ks, q.2 ∈ L.map (·.2)) → Q (.ref a) (upd H a (SetTO P w a L))
theorem call_setM (hc : X.calm = true) (hu : X.A.units + 64 < cLine) : CallR X (.type "set") (rSetM X.K X.prog X.w) := by
  intro pins s σ H xs us Q I r h
  obtain ⟨l, ks, U, rfl, hl, hk, hf, q⟩ := h
  obtain ⟨u, rfl, rx⟩ := vals1 r
  cases rx
  obtain ⟨its, rv, pl, _⟩ := I.list hl
  refine set_of_list (P := X.prog) (w := X.w) (I.ok.hd hc) pl.isList (by rw [List.toList_toArray]; exact refs_of_vals rv) (fun x hx => I.isT (hk x hx)) hf (by omega) fun h' tk H' => ?_
  obtain ⟨k, L, es, ep, t, R, g⟩ := H'
  refine ⟨.ref s.heap.objs.size, _, I.laid (t' := tk) k (Nat.le_refl _) (setTO_new R.t0), rfl, q _ L (I.hok.fresh (Nat.le_refl _)) (fun x hx => List.mem_of_mem_take (g.sub x hx)) fun x hx => g.all x (by rw [List.take_length]; exact hx)⟩
/-- tuples of ints, with their addresses -/
theorem RpA.tups {K : PySem.W.Frag} {as : List Addr} {L : Hp} : ∀ {vs : List V} {rows : List (List Int)}, RpA K as L vs (rows.map tI) → ∃ ks : List (Addr × List Int), vs = ks.map (fun q => V.ref q.1) ∧ ks.map (·.2) = rows ∧ ∀ q ∈ ks, SqT K L q.1 (q.2.map V.int)
  | _, [], .nil => ⟨[], rfl, rfl, fun _ h => nomatch h⟩
  | _, row :: rows, .cons (.tup (a := a) hs r) ra => by
    obtain ⟨ks, rfl, h2, h3⟩ := RpA.tups ra
    have e := RpA.ints r
    subst e
    exact ⟨(a, row) :: ks, rfl, by rw [List.map_cons, h2], fun q hq => by
      rcases List.mem_cons.mp hq with rfl | hq
      · exact hs
      · exact h3 q hq⟩
theorem rp_tups {K : PySem.W.Frag} {as : List Addr} {L : Hp} : ∀ {ks : List (Addr × List Int)}, (∀ q ∈ ks, SqT K L q.1 (q.2.map V.int)) → RpA K as L (ks.map fun q => V.ref q.1) ((ks.map (·.2)).map tI)
  | [], _ => .nil
  | q :: ks, h => .cons (.tup (h q List.mem_cons_self) (rp_ints _)) (rp_tups fun x hx => h x (List.mem_cons_of_mem _ hx))
/-- sorted(set(e)), e a list of tuples of n ints from 0 to B - 1 -/
@[simp] def dSortSetT (t : DE) : DE := fun ρ M P => t ρ M fun d M1 => ∃ (rows U : List (List Int)) (n : Nat) (B : Int), d = .lst (rows.map tI) ∧ 1 ≤ n ∧ (∀ r ∈ rows, r.length = n ∧ TS.Bd B r ∧ r ∈ U) ∧ U.length + 1 < 64 ∧ ∀ ms : List (List Int), ms.Pairwise (· < ·) → (∀ k, k ∈ ms ↔ k ∈ rows) → P (.lst (ms.map tI)) M1
theorem pd_sortSetT (hc : X.calm = true) (hu : X.A.units + 64 < cLine) (hg : Gl X "sorted") (hm : X.mg "sorted" = none) (hg2 : Gl X "set") (hm2 : X.mg "set" = none) (h : PD X e t) (hst : starEach [e] X.env = (false, eval e X.env) :: starEach [] X.env := by rfl) (hst2 : starEach [.Call (.Name "set" p2) [e] [] pos2] X.env = (false, eval (.Call (.Name "set" p2) [e] [] pos2) X.env) :: starEach [] X.env := by rfl) :
    PD X (.Call (.Name "sorted" p) [.Call (.Name "set" p2) [e] [] pos2] [] pos) (dSortSetT t) := by
  obtain ⟨u, pe, s⟩ := h.ex
  refine ⟨_, pe_callB (cr_sortedT hc) hg hm (by decide +kernel) (pa_cons (pe_callTy (call_setM hc hu) hg2 hm2 (by decide +kernel) (pa_cons pe pa_nil hst) (by decide) (by decide) hst (by rfl)) pa_nil hst2) (by decide) (by decide) hst2 (by rfl), ?_⟩
  intro as σ ρ L H M P Q hE A hh q
  refine s as σ ρ L H M _ _ hE A hh fun v d L1 H1 M1 s1 A1 h1 r1 => ?_
  obtain ⟨rows, U, n, B, rfl, hn, hr, h64, p1⟩ := h1
  cases r1 with
  | lst hs ra =>
    obtain ⟨ks, rfl, rfl, hk⟩ := RpA.tups ra
    have hkr : ∀ q ∈ ks, q.2.length = n ∧ TS.Bd B q.2 ∧ q.2 ∈ U := fun q hq => hr _ (List.mem_map.mpr ⟨q, hq, rfl⟩)
    refine ⟨_, ks, U, rfl, ex_l A1.low hs, fun x hx => ex_t A1.low (hk x hx), ⟨h64, fun x hx => (hkr x hx).2.2⟩, fun a S ha s1' s2' => ?_⟩
    have a2 := Step.know (o := SetTO X.prog X.w a S) A1 ha
    have A2 := A1.know (o := SetTO X.prog X.w a S) ha (fun ps z => by cases z)
    refine ⟨a, S, n, B, rfl, upd_same, fun x hx => ?_, hn, fun x hx => ⟨(hkr x (s1' x hx)).1, (hkr x (s1' x hx)).2.1⟩, fun S' b pm nd hl pw hb => ?_⟩
    · exact ex_t A2.low (ex_t a2.k (hk x (s1' x hx)))
    have lb := lowfree A2 hb
    have hS : ∀ x ∈ S', x ∈ ks := fun x hx => s1' x (pm.mem_iff.mp hx)
    refine q _ _ _ _ M1 ((s1.trans A1 a2).trans A2 (Step.know A2 hb)) (A2.know hb) (p1 (S'.map (·.2)) ?_ fun k => ?_) (.lst (.inl (.inl upd_same)) (rp_tups fun x hx => ex_t (Ex.new lb) (ex_t a2.k (hk x (hS x hx)))))
    · have nd' : S'.Pairwise fun x y => x.2 ≠ y.2 := List.pairwise_map.mp nd
      rw [List.pairwise_map]
      refine List.Pairwise.imp_of_mem (fun {x y} hx hy hc => ?_) (pw.and nd')
      have k1 := hkr x (hS x hx)
      have k2 := hkr y (hS y hy)
      have := code_le_lex (by rw [k1.1, k2.1]) k1.2.1 k2.2.1 hc.1
      rcases Classical.em (x.2 < y.2) with c | c
      · exact c
      · exact absurd (List.le_antisymm this c) hc.2
    · rw [(pm.map (·.2)).mem_iff]
      constructor
      · intro h
        obtain ⟨x, hx, rfl⟩ := List.mem_map.mp h
        exact List.mem_map.mpr ⟨x, s1' x hx, rfl⟩
      · intro h
        obtain ⟨x, hx, rfl⟩ := List.mem_map.mp h
        exact s2' x hx
end
end Pd

set_option Elab.async false
set_option linter.all false
set_option maxRecDepth 100000
set_option maxHeartbeats 4000000
/-! xs.index(True), xs a list of truth values; lists of tuples compared. -/
namespace Pd
open PySem PySem.Spec PyProof.Rows L2
section
variable {X : Cx} {e o : Expr} {t td te : DE}
@[simp] def dLIdxB (td te : DE) : DE := fun ρ M P => td ρ M fun d M1 => ∃ bs : List Bool, d = .lst (bs.map D.bl) ∧ te ρ M1 fun y M2 => y = .bl true ∧ true ∈ bs ∧ P (.int (bs.idxOf true)) M2
theorem idx_at {bs : List Bool} (h : true ∈ bs) : (bs.map V.bl)[bs.idxOf true]? = some (.bl true) ∧ ∀ m z, m < bs.idxOf true → (bs.map V.bl)[m]? = some z → eqV z (.bl true) = false := by
  have hl : bs.idxOf true < bs.length := List.idxOf_lt_length_iff.mpr h
  refine ⟨by rw [List.getElem?_map, List.getElem?_eq_getElem hl, List.getElem_idxOf]; rfl, fun m z hm hz => ?_⟩
  rw [List.getElem?_map, List.getElem?_eq_getElem (by omega)] at hz
  cases hz
  have := List.not_of_lt_findIdx (p := fun x => x == true) (xs := bs) (i := m) hm
  cases hb : bs[m] with
  | true => rw [hb] at this; cases this
  | false => rfl
theorem pd_lidxB {ap pos : Pos} (ho : PD X o td) (he : PD X e te) (hab : attributeBase o "index" X.env (eval o X.env) = eval o X.env := by rfl) (hs : starEach [e] X.env = (false, eval e X.env) :: starEach [] X.env := by rfl)
    (hfew : (((backTo pos (starEach [e] X.env)).all fun x => !x.1) && ((backToKw pos (keywordEach [] X.env)).all fun x => x.1.isSome) && decide ([e].length + ([] : List Keyword).length + (if ([] : List Keyword).isEmpty = true then 0 else 1) < 30)) = true := by rfl)
    (hline : (ap.endLine == pos.line) = true := by rfl) : PD X (.Call (.Attribute o "index" ap) [e] [] pos) (dLIdxB td te) := by
  obtain ⟨uo, po, so⟩ := ho.ex
  obtain ⟨u, pe, s⟩ := he.ex
  refine ⟨_, pe_bm PySem.F.plainAttrs_list PySem.F.slot_list_index PySem.F.type_list_index mt_index po (pa_cons pe pa_nil hs) hab hfew hline hs rfl, ?_⟩
  intro as σ ρ L H M P Q hE A h q
  refine so as σ ρ L H M _ _ hE A h fun v d L1 H1 M1 s1 A1 h1 r1 => ?_
  obtain ⟨bs, rfl, h1⟩ := h1
  cases r1 with
  | lst hl ra =>
    rename_i a xs
    have exs := ra.bls
    subst exs
    refine ⟨.inl ⟨rfl, _, ex_l A1.low hl⟩, ?_⟩
    refine s as σ ρ L1 H1 M1 _ _ (hE.mono s1.k s1.pre) A1 h1 fun v d L2 H2 M2 s2 A2 h2 r2 => ?_
    obtain ⟨rfl, hm, p⟩ := h2
    cases r2
    obtain ⟨i1, i2⟩ := idx_at hm
    refine ⟨a, bs.map V.bl, .bl true, bs.idxOf true, .bl true, rfl, rfl, ex_l A2.low (ex_l s2.k hl), rfl, ?_, i1, rfl, i2, q _ _ L2 H2 M2 (s1.trans A1 s2) A2 p (.int _)⟩
    rw [List.all_map]
    exact List.all_eq_true.mpr fun _ _ => rfl
end
theorem toPA_dI : ∀ ns : List Int, toPA (dI ns) = ns.map PyData.int
  | [] => rfl
  | n :: ns => by show PyData.int n :: toPA (dI ns) = _; rw [toPA_dI ns]; rfl
theorem toP_fg (d : D) : toP (fgD d) = toP d := by
  cases d with
  | tfz ns => show PyData.tuple (toPA (dI ns)) = _; rw [toPA_dI]; rfl
  | _ => rfl
theorem plain_fg (d : D) : plain (fgD d) = plain d := by
  cases d with
  | tfz ns => exact plain_ints ns
  | _ => rfl
theorem toPA_fg : ∀ es : List D, toPA (es.map fgD) = toPA es
  | [] => rfl
  | e :: es => by show toP (fgD e) :: toPA (es.map fgD) = toP e :: toPA es; rw [toP_fg, toPA_fg es]
theorem plainA_fg : ∀ es : List D, plainA (es.map fgD) = plainA es
  | [] => rfl
  | e :: es => by show (plain (fgD e) && plainA (es.map fgD)) = (plain e && plainA es); rw [plain_fg, plainA_fg es]
theorem okD_fgL (es : List D) : okD (.lst es) = okD (.lst (es.map fgD)) := by
  unfold okD
  show (plainA es && SeqAt.shaped (.list (toPA es))) = (plainA (es.map fgD) && SeqAt.shaped (.list (toPA (es.map fgD))))
  rw [toPA_fg, plainA_fg]
theorem eqD_fgL (es : List D) (x : D) : eqD (.lst es) x = eqD (.lst (es.map fgD)) x := by
  unfold eqD
  show PyData.eqv (.list (toPA es)) _ = PyData.eqv (.list (toPA (es.map fgD))) _
  rw [toPA_fg]
theorem eqD_fgR (es : List D) (x : D) : eqD x (.lst es) = eqD x (.lst (es.map fgD)) := by
  unfold eqD
  show PyData.eqv _ (.list (toPA es)) = PyData.eqv _ (.list (toPA (es.map fgD)))
  rw [toPA_fg]
theorem okD_fg (d : D) : okD d = okD (fgD d) := by unfold okD; rw [toP_fg, plain_fg]
theorem eqA_rows : ∀ xs ys : List (List Int), PyData.eqvAll (toPA (xs.map tI)) (toPA (ys.map tI)) = decide (xs = ys)
  | [], [] => rfl
  | [], _ :: _ => rfl
  | _ :: _, [] => rfl
  | x :: xs, y :: ys => by
    have ih := eqA_rows xs ys
    have h1 : PyData.eqvAll (toPA ((x :: xs).map tI)) (toPA ((y :: ys).map tI)) = (eqD (tI x) (tI y) && PyData.eqvAll (toPA (xs.map tI)) (toPA (ys.map tI))) := rfl
    rw [h1, ih, show eqD (tI x) (tI y) = decide (x = y) from eqD_tup x y, Bool.eq_iff_iff]
    simp
theorem eqD_rows (xs ys : List (List Int)) : eqD (.lst (xs.map tI)) (.lst (ys.map tI)) = decide (xs = ys) := eqA_rows xs ys
theorem any_row (z : List Int) : ∀ rows : List (List Int), ((rows.map tI).any fun r => eqD r (tI z)) = rows.contains z
  | [] => rfl
  | r :: rows => by
    have ih := any_row z rows
    rw [List.map_cons, List.any_cons, ih, List.contains_cons, show eqD (tI r) (tI z) = decide (r = z) from eqD_tup r z]
    congr 1
    rw [Bool.eq_iff_iff]
    simp
    exact ⟨fun h => h.symm, fun h => h.symm⟩
end Pd

/-! What spaces give, as lists; settled for the drawn forms by looking at all spaces. -/
namespace Spc
def inR (p : Int) (R : List Rw) (y : Rw) : Bool := !nz (rmd p R y)
/-- all rows that a space gives, ascending -/
def spL (p : Int) (n : Nat) (R : List Rw) : List Rw := (allD p n).filter (inR p R)
/-- the first place that is not 0 -/
def flead (l : Rw) : Nat := l.findIdx fun x => x != 0
def pw (p : Int) : Nat → Int
  | 0 => 1
  | n + 1 => pw p n * p
def asc : List Nat → Bool
  | [] => true
  | [_] => true
  | a :: b :: l => decide (a < b) && asc (b :: l)
/-- each space for itself -/
def chkR (p : Int) (n : Nat) (SP : List (List Rw)) : Bool :=
  SP.all fun R => (red p (spL p n R) == R) && (red p R == R) && (pw p R.length == ((spL p n R).length : Int)) && !(R.contains (zero n)) && asc (R.map flead) && R.all fun l => (at_ l (flead l) == 1) && (decide (flead l < n)) && ((R.map fun o => at_ o (flead l)).sum == 1)
/-- zeros -/
def chkZ (p : Int) (n : Nat) (SP : List (List Rw)) : Bool :=
  SP.all fun R => (zs p n R == (allD p n).filter fun d => R.all fun r => dot r d p == 0) && (zrows p n (zrows p n R) == R) && (zs p n R == spL p n (zrows p n R)) && (R.all fun l => inR p R l)
end Spc

/-! Rows modulo p: the little that is needed of linear algebra. -/
namespace Spc
def sm (x d : Rw) : Int := (List.zipWith (fun a b => a * b) x d).sum
theorem dot_sm (x d : Rw) (p : Int) : dot x d p = sm x d % p := rfl
theorem sm_comm : ∀ x d : Rw, sm x d = sm d x
  | [], d => by cases d <;> rfl
  | a :: x, [] => rfl
  | a :: x, b :: d => by
    have ih := sm_comm x d
    unfold sm at ih ⊢
    rw [List.zipWith_cons_cons, List.zipWith_cons_cons, List.sum_cons, List.sum_cons, ih, Int.mul_comm]
theorem dot_comm (x d : Rw) (p : Int) : dot x d p = dot d x p := by rw [dot_sm, dot_sm, sm_comm]
theorem sm_mn (p t : Int) : ∀ x y d : Rw, x.length = y.length → ∃ k, sm (mn p x y t) d = sm x d - t * sm y d + p * k
  | [], [], d, _ => ⟨0, by show (0 : Int) = 0 - t * 0 + p * 0; simp⟩
  | a :: x, b :: y, [], _ => ⟨0, by show (0 : Int) = 0 - t * 0 + p * 0; simp⟩
  | a :: x, b :: y, c :: d, h => by
    obtain ⟨k, ih⟩ := sm_mn p t x y d (by simpa using h)
    refine ⟨k - ((a - t * b) / p) * c, ?_⟩
    have e : sm (mn p (a :: x) (b :: y) t) (c :: d) = (a - t * b) % p * c + sm (mn p x y t) d := rfl
    have e1 : sm (a :: x) (c :: d) = a * c + sm x d := rfl
    have e2 : sm (b :: y) (c :: d) = b * c + sm y d := rfl
    have e3 : (a - t * b) % p = a - t * b - p * ((a - t * b) / p) := by
      have := Int.emod_add_mul_ediv (a - t * b) p
      omega
    rw [e, ih, e1, e2, e3, Int.sub_mul, Int.sub_mul, Int.mul_sub, Int.mul_add, Int.mul_assoc t b c, Int.mul_assoc p _ c]
    omega
theorem dot_mn {p t : Int} {x y d : Rw} (h : x.length = y.length) : dot (mn p x y t) d p = (dot x d p - t * dot y d p) % p := by
  obtain ⟨k, e⟩ := sm_mn p t x y d h
  rw [dot_sm, dot_sm, dot_sm, e, Int.add_mul_emod_self_left]
  have h1 : (t * (sm y d % p)) % p = (t * sm y d) % p := by rw [Int.mul_emod, Int.emod_emod, ← Int.mul_emod]
  have h2 : (sm x d % p - t * (sm y d % p)) % p = (sm x d - t * sm y d) % p := by rw [Int.sub_emod, Int.emod_emod, h1, ← Int.sub_emod]
  rw [h2]
theorem dot_mnR {p t : Int} {x y d : Rw} (h : x.length = y.length) : dot d (mn p x y t) p = (dot d x p - t * dot d y p) % p := by
  rw [dot_comm, dot_mn h, dot_comm x, dot_comm y]
theorem dot_lo {x d : Rw} {p : Int} (h : 0 < p) : 0 ≤ dot x d p ∧ dot x d p < p := ⟨Int.emod_nonneg _ (by omega), Int.emod_lt_of_pos _ h⟩
end Spc

/-! What spaces give: consequences of the tables. -/
namespace Spc
/-- what is known of the spaces of one form, for what they give -/
structure UF (p : Int) (n : Nat) (SP : List (List Rw)) : Prop where
  p2 : 2 ≤ p
  nil : [] ∈ SP
  low : ∀ R ∈ SP, ∀ l ∈ R, l ∈ allD p n
  stp : ∀ R ∈ SP, ∀ y ∈ allD p n, step p R y ∈ SP
  zst : ∀ R ∈ SP, ∀ y ∈ allD p n, zs p n (step p R y) = (zs p n R).filter fun d => dot y d p == 0
  inz : ∀ R ∈ SP, ∀ y ∈ allD p n, inR p R y = ((zs p n R).find? fun d => dot y d p != 0).isNone
  z0 : zs p n [] = allD p n
  few : (allD p n).length ≤ 60
  inv : ∀ f : Int, 0 < f → f < p → ∃ k ∈ rngL p, k * f % p = 1
  cR : chkR p n SP = true
  cZ : chkZ p n SP = true
section
variable {p : Int} {n : Nat} {SP : List (List Rw)}
theorem UF.rs (U : UF p n SP) {R : List Rw} (hR : R ∈ SP) : red p (spL p n R) = R ∧ red p R = R ∧ pw p R.length = ((spL p n R).length : Int) ∧ R.contains (zero n) = false ∧ asc (R.map flead) = true ∧
    ∀ l ∈ R, at_ l (flead l) = 1 ∧ flead l < n ∧ (R.map fun o => at_ o (flead l)).sum = 1 := by
  have h := List.all_eq_true.mp U.cR R hR
  simp only [Bool.and_eq_true, beq_iff_eq, Bool.not_eq_true', List.all_eq_true, decide_eq_true_eq] at h
  obtain ⟨⟨⟨⟨⟨h1, h2⟩, h3⟩, h4⟩, h5⟩, h6⟩ := h
  exact ⟨h1, h2, h3, h4, h5, fun l hl => ⟨(h6 l hl).1.1, (h6 l hl).1.2, (h6 l hl).2⟩⟩
theorem UF.zz (U : UF p n SP) {R : List Rw} (hR : R ∈ SP) : zs p n R = ((allD p n).filter fun d => R.all fun r => dot r d p == 0) ∧ zrows p n (zrows p n R) = R ∧ zs p n R = spL p n (zrows p n R) ∧ ∀ l ∈ R, inR p R l = true := by
  have h := List.all_eq_true.mp U.cZ R hR
  simp only [Bool.and_eq_true, beq_iff_eq, List.all_eq_true] at h
  obtain ⟨⟨⟨h1, h2⟩, h3⟩, h4⟩ := h
  exact ⟨h1, h2, h3, h4⟩
theorem UF.red_in (U : UF p n SP) : ∀ (rows : List Rw) (R : List Rw), R ∈ SP → (∀ y ∈ rows, y ∈ allD p n) → rows.foldl (step p) R ∈ SP
  | [], _, h, _ => h
  | y :: rows, R, h, hy => U.red_in rows _ (U.stp R h y (hy y List.mem_cons_self)) fun z hz => hy z (List.mem_cons_of_mem _ hz)
theorem UF.redS (U : UF p n SP) {rows : List Rw} (h : ∀ y ∈ rows, y ∈ allD p n) : red p rows ∈ SP := U.red_in rows [] U.nil h
theorem UF.zs_fold (U : UF p n SP) : ∀ (rows : List Rw) (R : List Rw), R ∈ SP → (∀ y ∈ rows, y ∈ allD p n) → zs p n (rows.foldl (step p) R) = (zs p n R).filter fun d => rows.all fun r => dot r d p == 0
  | [], _, _, _ => (List.filter_eq_self.mpr fun _ _ => rfl).symm
  | y :: rows, R, hR, h => by
    have hy := h y List.mem_cons_self
    show zs p n (rows.foldl (step p) (step p R y)) = _
    rw [U.zs_fold rows _ (U.stp R hR y hy) (fun z hz => h z (List.mem_cons_of_mem _ hz)), U.zst R hR y hy, List.filter_filter]
    congr 1
    funext d
    rw [List.all_cons, Bool.and_comm]
theorem UF.zsR (U : UF p n SP) {rows : List Rw} (h : ∀ y ∈ rows, y ∈ allD p n) : zs p n (red p rows) = (allD p n).filter fun d => rows.all fun r => dot r d p == 0 := by
  rw [← U.z0]; exact U.zs_fold rows [] U.nil h
theorem forced_lo (hp : 0 < p) {R : List Rw} {free i : Nat} : 0 ≤ forced R p free i ∧ forced R p free i < p := by
  unfold forced
  split
  · exact ⟨Int.emod_nonneg _ (by omega), Int.emod_lt_of_pos _ hp⟩
  · exact ⟨Int.le_refl _, hp⟩
theorem zrow_mem (hp : 2 ≤ p) (R : List Rw) (free : Nat) : zrow p n R free ∈ allD p n := by
  refine mem_allD (by omega) (by unfold zrow; rw [List.length_map, List.length_range]) fun x hx => ?_
  unfold zrow at hx
  obtain ⟨i, _, rfl⟩ := List.mem_map.mp hx
  split
  · omega
  · exact forced_lo (by omega)
theorem UF.zin (U : UF p n SP) (R : List Rw) : zrows p n R ∈ SP := by
  refine U.redS fun y hy => ?_
  obtain ⟨i, _, rfl⟩ := List.mem_map.mp hy
  exact zrow_mem U.p2 R i
/-- spaces are told by their zeros -/
theorem UF.inj (U : UF p n SP) {R S : List Rw} (hR : R ∈ SP) (hS : S ∈ SP) (h : ∀ d ∈ allD p n, (d ∈ zs p n R ↔ d ∈ zs p n S)) : R = S := by
  obtain ⟨a1, a2, a3, _⟩ := U.zz hR
  obtain ⟨b1, b2, b3, _⟩ := U.zz hS
  have e : zs p n R = zs p n S := by
    rw [a1, b1]
    refine List.filter_congr fun d hd => ?_
    have := h d hd
    rw [a1, b1] at this
    simp only [List.mem_filter, hd, true_and] at this
    exact Bool.eq_iff_iff.mpr this
  rw [a3, b3] at e
  have e2 : zrows p n R = zrows p n S := by
    rw [← (U.rs (U.zin R)).1, e, (U.rs (U.zin S)).1]
  rw [← a2, e2, b2]
theorem UF.mem_zs (U : UF p n SP) {rows : List Rw} (h : ∀ y ∈ rows, y ∈ allD p n) (d : Rw) : d ∈ zs p n (red p rows) ↔ d ∈ allD p n ∧ ∀ r ∈ rows, dot r d p = 0 := by
  rw [U.zsR h, List.mem_filter, List.all_eq_true]
  simp only [beq_iff_eq]
/-- the same rows, however often and in whatever order, give the same space -/
theorem UF.same (U : UF p n SP) {rows rows' : List Rw} (h : ∀ y ∈ rows, y ∈ allD p n) (e : ∀ y, y ∈ rows ↔ y ∈ rows') : red p rows = red p rows' := by
  have h' : ∀ y ∈ rows', y ∈ allD p n := fun y hy => h y ((e y).mpr hy)
  refine U.inj (U.redS h) (U.redS h') fun d hd => ?_
  rw [U.mem_zs h, U.mem_zs h']
  exact ⟨fun ⟨a, b⟩ => ⟨a, fun r hr => b r ((e r).mpr hr)⟩, fun ⟨a, b⟩ => ⟨a, fun r hr => b r ((e r).mp hr)⟩⟩
theorem UF.mem_inR (U : UF p n SP) {R : List Rw} (hR : R ∈ SP) {y : Rw} (hy : y ∈ allD p n) : inR p R y = true ↔ ∀ d ∈ zs p n R, dot y d p = 0 := by
  rw [U.inz R hR y hy, Option.isNone_iff_eq_none, List.find?_eq_none]
  simp only [bne_iff_ne, ne_eq, Decidable.not_not]
theorem UF.mem_z (U : UF p n SP) {R : List Rw} (hR : R ∈ SP) {d : Rw} : d ∈ zs p n R ↔ d ∈ allD p n ∧ ∀ r ∈ R, dot r d p = 0 := by
  rw [(U.zz hR).1, List.mem_filter, List.all_eq_true]
  simp only [beq_iff_eq]
theorem mn_all {x y : Rw} {t : Int} (hp : 2 ≤ p) (hx : x ∈ allD p n) (hy : y ∈ allD p n) : mn p x y t ∈ allD p n := by
  obtain ⟨x1, _⟩ := allD_mem hx
  obtain ⟨y1, _⟩ := allD_mem hy
  refine mem_allD (by omega) (by unfold mn; rw [List.length_zipWith, x1, y1, Nat.min_self]) fun z hz => ?_
  unfold mn at hz
  rw [List.mem_iff_getElem] at hz
  obtain ⟨i, hi, rfl⟩ := hz
  rw [List.getElem_zipWith]
  exact ⟨Int.emod_nonneg _ (by omega), Int.emod_lt_of_pos _ (by omega)⟩
theorem all_len {x y : Rw} (hx : x ∈ allD p n) (hy : y ∈ allD p n) : x.length = y.length := by rw [(allD_mem hx).1, (allD_mem hy).1]
/-- what a space gives is closed -/
theorem UF.clo (U : UF p n SP) {R : List Rw} (hR : R ∈ SP) {x y : Rw} (hx : x ∈ allD p n) (hy : y ∈ allD p n) (h1 : inR p R x = true) (h2 : inR p R y = true) (t : Int) : inR p R (mn p x y t) = true := by
  rw [U.mem_inR hR (mn_all U.p2 hx hy)]
  intro d hd
  rw [dot_mn (all_len hx hy), (U.mem_inR hR hx).mp h1 d hd, (U.mem_inR hR hy).mp h2 d hd]
  simp
/-- adding a row to a space -/
theorem UF.sp (U : UF p n SP) {R : List Rw} (hR : R ∈ SP) {y : Rw} (hy : y ∈ allD p n) {z : Rw} (hz : z ∈ allD p n) :
    inR p (step p R y) z = true ↔ ∃ t, t ∈ rngL p ∧ inR p R (mn p z y t) = true := by
  have hS := U.stp R hR y hy
  have hp := U.p2
  have e0 : (0 : Int) ∈ rngL p := List.mem_map.mpr ⟨0, List.mem_range.mpr (by omega), rfl⟩
  have mz : ∀ d, d ∈ zs p n (step p R y) ↔ d ∈ zs p n R ∧ dot y d p = 0 := fun d => by
    rw [U.zst R hR y hy, List.mem_filter]; simp only [beq_iff_eq]
  rw [U.mem_inR hS hz]
  constructor
  · intro h
    by_cases c : ∃ d0 ∈ zs p n R, dot y d0 p ≠ 0
    · obtain ⟨d0, h0, hn⟩ := c
      have hl := dot_lo (x := y) (d := d0) (p := p) (by omega)
      obtain ⟨k, _, hk⟩ := U.inv (dot y d0 p) (by omega) hl.2
      have hd0 := ((U.mem_z hR).mp h0).1
      refine ⟨k * dot z d0 p % p, List.mem_map.mpr ⟨(k * dot z d0 p % p).toNat, List.mem_range.mpr ?_, ?_⟩, (U.mem_inR hR (mn_all hp hz hy)).mpr fun d hd => ?_⟩
      · have := Int.emod_lt_of_pos (k * dot z d0 p) (show 0 < p by omega)
        have := Int.emod_nonneg (k * dot z d0 p) (show p ≠ 0 by omega)
        omega
      · have := Int.emod_nonneg (k * dot z d0 p) (show p ≠ 0 by omega)
        omega
      have hda := ((U.mem_z hR).mp hd).1
      -- the data d less so much of d0 that y is 0
      have h1 : mn p d d0 (k * dot y d p) ∈ zs p n (step p R y) := by
        rw [mz, U.mem_z hR]
        refine ⟨⟨mn_all hp hda hd0, fun r hr => ?_⟩, ?_⟩
        · rw [dot_mnR (all_len hda hd0), ((U.mem_z hR).mp hd).2 r hr, ((U.mem_z hR).mp h0).2 r hr]
          simp
        · rw [dot_mnR (all_len hda hd0)]
          have e : k * dot y d p * dot y d0 p = dot y d p * (k * dot y d0 p) := by
            rw [Int.mul_comm k, Int.mul_assoc]
          rw [e, Int.sub_emod, Int.mul_emod (dot y d p), hk]
          have e2 : dot y d p % p = dot y d p := Int.emod_eq_of_lt (dot_lo (by omega)).1 (dot_lo (by omega)).2
          rw [e2, Int.mul_one, e2]
          simp
      have h2 := h _ h1
      rw [dot_mnR (all_len hda hd0)] at h2
      rw [dot_mn (all_len hz hy)]
      have e3 : (dot z d p - k * dot z d0 p % p * dot y d p) % p = (dot z d p - k * dot y d p * dot z d0 p) % p := by
        have e4 : k * dot z d0 p % p * dot y d p % p = k * dot y d p * dot z d0 p % p := by
          rw [Int.mul_emod, Int.emod_emod, ← Int.mul_emod]
          congr 1
          rw [Int.mul_assoc, Int.mul_assoc, Int.mul_comm (dot z d0 p)]
        rw [Int.sub_emod, e4, ← Int.sub_emod]
      rw [e3]
      exact h2
    · refine ⟨0, e0, (U.mem_inR hR (mn_all hp hz hy)).mpr fun d hd => ?_⟩
      have hy0 : dot y d p = 0 := Classical.not_not.mp fun hn => c ⟨d, hd, hn⟩
      rw [dot_mn (all_len hz hy), h d ((mz d).mpr ⟨hd, hy0⟩)]
      simp
  · rintro ⟨t, _, ht⟩ d hd
    obtain ⟨h1, h2⟩ := (mz d).mp hd
    have h3 := (U.mem_inR hR (mn_all hp hz hy)).mp ht d h1
    rw [dot_mn (all_len hz hy), h2, Int.mul_zero, Int.sub_zero] at h3
    rw [← h3]
    exact (Int.emod_eq_of_lt (dot_lo (by omega)).1 (dot_lo (by omega)).2).symm
theorem step_len (R : List Rw) (y : Rw) : (step p R y).length = R.length + if inR p R y = true then 0 else 1 := by
  unfold step inR
  cases h : nz (rmd p R y)
  · simp
  · rw [if_pos rfl, (srtD_perm _).length_eq, List.length_cons, List.length_map]
    rfl
/-- of a row already given nothing comes -/
theorem step_same {R : List Rw} {y : Rw} (h : inR p R y = true) : step p R y = R := by
  unfold inR at h
  unfold step
  rw [if_neg (by simpa using h)]
theorem fold_same {R : List Rw} : ∀ {rows : List Rw}, (∀ y ∈ rows, inR p R y = true) → rows.foldl (step p) R = R
  | [], _ => rfl
  | y :: rows, h => by
    show rows.foldl (step p) (step p R y) = R
    rw [step_same (h y List.mem_cons_self)]
    exact fold_same fun z hz => h z (List.mem_cons_of_mem _ hz)
/-- dimensions: rows of B are added to A and to what A and B have in common -/
theorem UF.dim (U : UF p n SP) {B : List Rw} (hB : B ∈ SP) : ∀ (bs A X : List Rw), A ∈ SP → X ∈ SP → (∀ b ∈ bs, b ∈ allD p n ∧ inR p B b = true) → (∀ z ∈ allD p n, inR p B z = true → (inR p A z = true ↔ inR p X z = true)) →
    (bs.foldl (step p) A).length + X.length = (bs.foldl (step p) X).length + A.length
  | [], A, X, _, _, _, _ => Nat.add_comm _ _
  | b :: bs, A, X, hA, hX, hb, he => by
    obtain ⟨b1, b2⟩ := hb b List.mem_cons_self
    have ih := U.dim hB bs (step p A b) (step p X b) (U.stp A hA b b1) (U.stp X hX b b1) (fun c hc => hb c (List.mem_cons_of_mem _ hc)) fun z hz hzB => by
      rw [U.sp hA b1 hz, U.sp hX b1 hz]
      have key : ∀ t, inR p A (mn p z b t) = true ↔ inR p X (mn p z b t) = true := fun t => he _ (mn_all U.p2 hz b1) (U.clo hB hz b1 hzB b2 t)
      exact ⟨fun ⟨t, h1, h2⟩ => ⟨t, h1, (key t).mp h2⟩, fun ⟨t, h1, h2⟩ => ⟨t, h1, (key t).mpr h2⟩⟩
    have l1 := step_len (p := p) A b
    have l2 := step_len (p := p) X b
    have hq := he b b1 b2
    show (bs.foldl (step p) (step p A b)).length + X.length = (bs.foldl (step p) (step p X b)).length + A.length
    by_cases c : inR p A b = true
    · rw [if_pos c] at l1
      rw [if_pos (hq.mp c)] at l2
      omega
    · rw [if_neg c] at l1
      rw [if_neg fun z => c (hq.mpr z)] at l2
      omega
theorem mem_spL {R : List Rw} {y : Rw} : y ∈ spL p n R ↔ y ∈ allD p n ∧ inR p R y = true := List.mem_filter
theorem UF.spL_inj (U : UF p n SP) {R S : List Rw} (hR : R ∈ SP) (hS : S ∈ SP) (h : spL p n R = spL p n S) : R = S := by
  rw [← (U.rs hR).1, h, (U.rs hS).1]
end
/-! allD stands ascending -/
theorem lt_app : ∀ {x y : Rw}, x.length = y.length → x < y → ∀ a b : Rw, x ++ a < y ++ b
  | [], [], _, h, _, _ => absurd h (List.lt_irrefl _)
  | u :: x, v :: y, hl, h, a, b => by
    rw [List.cons_append, List.cons_append, List.cons_lt_cons_iff]
    rcases List.cons_lt_cons_iff.mp h with h | ⟨h1, h2⟩
    · exact .inl h
    · exact .inr ⟨h1, lt_app (by simpa using hl) h2 a b⟩
theorem lt_same : ∀ (x : Rw) {a b : Rw}, a < b → x ++ a < x ++ b
  | [], _, _, h => h
  | u :: x, _, _, h => List.cons_lt_cons_iff.mpr (.inr ⟨rfl, lt_same x h⟩)
theorem pw_flat {α : Type} {r : Rw → Rw → Prop} {f : α → List Rw} {q : α → α → Prop} : ∀ {l : List α}, l.Pairwise q → (∀ a ∈ l, (f a).Pairwise r) → (∀ a ∈ l, ∀ b ∈ l, q a b → ∀ x ∈ f a, ∀ y ∈ f b, r x y) → (l.flatMap f).Pairwise r
  | [], _, _, _ => List.Pairwise.nil
  | a :: l, h, h1, h2 => by
    obtain ⟨h3, h4⟩ := List.pairwise_cons.mp h
    rw [List.flatMap_cons]
    refine List.pairwise_append.mpr ⟨h1 a List.mem_cons_self, pw_flat h4 (fun b hb => h1 b (List.mem_cons_of_mem _ hb)) (fun b hb c hc => h2 b (List.mem_cons_of_mem _ hb) c (List.mem_cons_of_mem _ hc)), fun x hx y hy => ?_⟩
    obtain ⟨b, hb, hy⟩ := List.mem_flatMap.mp hy
    exact h2 a List.mem_cons_self b (List.mem_cons_of_mem _ hb) (h3 b hb) x hx y hy
theorem rngL_asc (p : Int) : (rngL p).Pairwise (· < ·) := by
  unfold rngL
  rw [List.pairwise_map]
  refine List.pairwise_lt_range.imp fun h => ?_
  omega
theorem allD_asc (p : Int) : ∀ n, (allD p n).Pairwise (· < ·)
  | 0 => List.pairwise_singleton _ _
  | n + 1 => by
    refine pw_flat (q := (· < ·)) (allD_asc p n) (fun d _ => ?_) (fun a ha b hb h x hx y hy => ?_)
    · rw [List.pairwise_map]
      exact (rngL_asc p).imp fun h => lt_same d (List.cons_lt_cons_iff.mpr (.inl h))
    · obtain ⟨u, _, rfl⟩ := List.mem_map.mp hx
      obtain ⟨v, _, rfl⟩ := List.mem_map.mp hy
      exact lt_app (by rw [(allD_mem ha).1, (allD_mem hb).1]) h _ _
/-- an ascending list is told by its members -/
theorem asc_eq : ∀ {x y : List Rw}, x.Pairwise (· < ·) → y.Pairwise (· < ·) → (∀ a, a ∈ x ↔ a ∈ y) → x = y := fun {x y} hx hy h => by
  have nd : ∀ {l : List Rw}, l.Pairwise (· < ·) → l.Nodup := fun h => h.imp fun h e => by rw [e] at h; exact List.lt_irrefl _ h
  refine List.Perm.eq_of_pairwise (le := (· < ·)) (fun a b _ _ h1 h2 => absurd h2 (List.lt_asymm h1)) hx hy ?_
  exact (List.perm_ext_iff_of_nodup (nd hx) (nd hy)).mpr h
theorem mn_mn {p t : Int} (hp : 2 ≤ p) : ∀ {x y : Rw}, x.length = y.length → (∀ a ∈ x, 0 ≤ a ∧ a < p) → mn p (mn p x y t) y (-t) = x
  | [], [], _, _ => rfl
  | a :: x, b :: y, hl, h => by
    have ha := h a List.mem_cons_self
    have ih := mn_mn (t := t) hp (x := x) (y := y) (by simpa using hl) fun c hc => h c (List.mem_cons_of_mem _ hc)
    show ((a - t * b) % p - (-t) * b) % p :: mn p (mn p x y t) y (-t) = a :: x
    rw [ih]
    congr 1
    have e : (-t) * b = -(t * b) := Int.neg_mul t b
    rw [e, Int.sub_emod, Int.emod_emod, ← Int.sub_emod]
    have e2 : a - t * b - -(t * b) = a := by omega
    rw [e2]
    exact Int.emod_eq_of_lt ha.1 ha.2
theorem spL_asc (p : Int) (n : Nat) (R : List Rw) : (spL p n R).Pairwise (· < ·) := (allD_asc p n).filter _
theorem spL_nil {p : Int} (n : Nat) (hp : 2 ≤ p) : spL p n [] = [zero n] := by
  refine asc_eq (spL_asc p n []) (List.pairwise_singleton _ _) fun a => ?_
  rw [mem_spL, List.mem_singleton]
  have e : inR p [] a = !nz a := rfl
  rw [e]
  have hz : ∀ a : Rw, (!nz a) = true ↔ ∀ x ∈ a, x = 0 := fun a => by
    unfold nz
    rw [Bool.not_eq_true', List.any_eq_false]
    simp
  rw [hz]
  constructor
  · rintro ⟨h1, h2⟩
    exact List.eq_replicate_of_mem h2 |>.trans (by rw [(allD_mem h1).1]; rfl)
  · rintro rfl
    refine ⟨mem_allD (by omega) (by unfold zero; rw [List.length_replicate]) fun x hx => ?_, fun x hx => List.eq_of_mem_replicate hx⟩
    rw [List.eq_of_mem_replicate hx]
    omega
/-- one row more -/
theorem UF.span {p : Int} {n : Nat} {SP : List (List Rw)} (U : UF p n SP) {R : List Rw} (hR : R ∈ SP) {y : Rw} (hy : y ∈ allD p n) {ms : List Rw} (h1 : ms.Pairwise (· < ·)) (h2 : ∀ k, k ∈ ms ↔ ∃ o ∈ spL p n R, ∃ f ∈ rngL p, k = mn p o y (-f)) : ms = spL p n (step p R y) := by
  refine asc_eq h1 (spL_asc p n _) fun a => ?_
  rw [h2, mem_spL]
  constructor
  · rintro ⟨o, ho, f, hf, rfl⟩
    obtain ⟨o1, o2⟩ := mem_spL.mp ho
    have hm := mn_all (t := -f) U.p2 o1 hy
    refine ⟨hm, (U.sp hR hy hm).mpr ⟨f, hf, ?_⟩⟩
    have e := mn_mn (t := -f) U.p2 (all_len o1 hy) (allD_mem o1).2
    rw [Int.neg_neg] at e
    rw [e]; exact o2
  · rintro ⟨ha, hi⟩
    obtain ⟨t, ht, h3⟩ := (U.sp hR hy ha).mp hi
    exact ⟨mn p a y t, mem_spL.mpr ⟨mn_all U.p2 ha hy, h3⟩, t, ht, (mn_mn U.p2 (all_len ha hy) (allD_mem ha).2).symm⟩
end Spc

/-! The tables of the drawn forms, for what spaces give. -/
namespace Spc
set_option maxRecDepth 100000
theorem cR21 : chkR 2 1 SP21 = true := by decide +kernel
theorem cZ21 : chkZ 2 1 SP21 = true := by decide +kernel
theorem cR22 : chkR 2 2 SP22 = true := by decide +kernel
theorem cZ22 : chkZ 2 2 SP22 = true := by decide +kernel
theorem cR23 : chkR 2 3 SP23 = true := by decide +kernel
theorem cZ23 : chkZ 2 3 SP23 = true := by decide +kernel
theorem cR24 : chkR 2 4 SP24 = true := by decide +kernel
theorem cZ24 : chkZ 2 4 SP24 = true := by decide +kernel
theorem cR31 : chkR 3 1 SP31 = true := by decide +kernel
theorem cZ31 : chkZ 3 1 SP31 = true := by decide +kernel
theorem cR32 : chkR 3 2 SP32 = true := by decide +kernel
theorem cZ32 : chkZ 3 2 SP32 = true := by decide +kernel
theorem cR33 : chkR 3 3 SP33 = true := by decide +kernel
theorem cZ33 : chkZ 3 3 SP33 = true := by decide +kernel
theorem cR52 : chkR 5 2 SP52 = true := by decide +kernel
theorem cZ52 : chkZ 5 2 SP52 = true := by decide +kernel
theorem cR72 : chkR 7 2 SP72 = true := by decide +kernel
theorem cZ72 : chkZ 7 2 SP72 = true := by decide +kernel
end Spc

/-! Spaces joined and met. -/
namespace Spc
/-- what two spaces have in common, as it is calculated -/
def meetR (p : Int) (n : Nat) (A B : List Rw) : List Rw := zrows p n (red p (zrows p n A ++ zrows p n B))
section
variable {p : Int} {n : Nat} {SP : List (List Rw)} {A B : List Rw}
theorem UF.lowA (U : UF p n SP) (hA : A ∈ SP) (hB : B ∈ SP) : ∀ y ∈ A ++ B, y ∈ allD p n := fun y hy => (List.mem_append.mp hy).elim (U.low A hA y) (U.low B hB y)
theorem UF.zeroOf (U : UF p n SP) {c : List Rw} (hc : ∀ y ∈ c, y ∈ allD p n) {d : Rw} (hd : d ∈ allD p n) : (∀ r ∈ red p c, dot r d p = 0) ↔ ∀ r ∈ c, dot r d p = 0 := by
  have e1 := U.mem_z (U.redS hc) (d := d)
  have e2 := U.mem_zs hc d
  exact ⟨fun h => (e2.mp (e1.mpr ⟨hd, h⟩)).2, fun h => (e1.mp (e2.mpr ⟨hd, h⟩)).2⟩
theorem UF.join (U : UF p n SP) {a b : List Rw} (ha : ∀ y ∈ a, y ∈ allD p n) (hb : ∀ y ∈ b, y ∈ allD p n) : red p (red p a ++ red p b) = red p (a ++ b) := by
  have hl := U.lowA (U.redS ha) (U.redS hb)
  have hab : ∀ y ∈ a ++ b, y ∈ allD p n := fun y hy => (List.mem_append.mp hy).elim (ha y) (hb y)
  refine U.inj (U.redS hl) (U.redS hab) fun d hd => ?_
  rw [U.mem_zs hl, U.mem_zs hab]
  refine and_congr_right fun _ => ?_
  rw [List.forall_mem_append, List.forall_mem_append, U.zeroOf ha hd, U.zeroOf hb hd]
theorem UF.zsz (U : UF p n SP) {R : List Rw} (hR : R ∈ SP) : zs p n (zrows p n R) = spL p n R := by
  rw [(U.zz (U.zin R)).2.2.1, (U.zz hR).2.1]
theorem UF.meetS (U : UF p n SP) (A B : List Rw) : meetR p n A B ∈ SP := U.zin _
theorem UF.meet_spL (U : UF p n SP) (hA : A ∈ SP) (hB : B ∈ SP) (y : Rw) : y ∈ spL p n (meetR p n A B) ↔ y ∈ spL p n A ∧ y ∈ spL p n B := by
  have hz := U.lowA (U.zin A) (U.zin B)
  have hJ := U.redS hz
  unfold meetR
  rw [← (U.zz hJ).2.2.1, U.mem_zs hz, ← U.zsz hA, ← U.zsz hB, U.mem_z (U.zin A), U.mem_z (U.zin B), List.forall_mem_append]
  exact ⟨fun ⟨h, a, b⟩ => ⟨⟨h, a⟩, h, b⟩, fun ⟨⟨h, a⟩, _, b⟩ => ⟨h, a, b⟩⟩
theorem UF.meet_in (U : UF p n SP) (hA : A ∈ SP) (hB : B ∈ SP) {y : Rw} (hy : y ∈ allD p n) : inR p (meetR p n A B) y = (inR p A y && inR p B y) := by
  have h := U.meet_spL hA hB y
  rw [mem_spL, mem_spL, mem_spL] at h
  rw [Bool.eq_iff_iff, Bool.and_eq_true]
  exact ⟨fun e => let z := h.mp ⟨hy, e⟩; ⟨z.1.2, z.2.2⟩, fun e => (h.mpr ⟨⟨hy, e.1⟩, hy, e.2⟩).2⟩
theorem UF.own (U : UF p n SP) (hA : A ∈ SP) {r : Rw} (hr : r ∈ A) : r ∈ allD p n ∧ inR p A r = true := ⟨U.low A hA r hr, (U.zz hA).2.2.2 r hr⟩
theorem UF.sub_spL (U : UF p n SP) (hA : A ∈ SP) (hB : B ∈ SP) : (A.all (inR p B)) = ((spL p n A).all (inR p B)) := by
  rw [Bool.eq_iff_iff, List.all_eq_true, List.all_eq_true]
  constructor
  · intro h y hy
    obtain ⟨h1, h2⟩ := mem_spL.mp hy
    refine (U.mem_inR hB h1).mpr fun d hd => (U.mem_inR hA h1).mp h2 d ?_
    refine (U.mem_z hA).mpr ⟨((U.mem_z hB).mp hd).1, fun r hr => (U.mem_inR hB (U.low A hA r hr)).mp (h r hr) d hd⟩
  · exact fun h r hr => h r (mem_spL.mpr (U.own hA hr))
/-- a space within another one adds nothing to it -/
theorem UF.absorb (U : UF p n SP) (hA : A ∈ SP) (hB : B ∈ SP) (h : ∀ r ∈ A, inR p B r = true) : red p (A ++ B) = B := by
  have hl := U.lowA hA hB
  refine U.inj (U.redS hl) hB fun d hd => ?_
  rw [U.mem_zs hl, U.mem_z hB, List.forall_mem_append]
  exact ⟨fun ⟨h1, _, h2⟩ => ⟨h1, h2⟩, fun ⟨h1, h2⟩ => ⟨h1, fun r hr => (U.mem_inR hB (U.low A hA r hr)).mp (h r hr) d ((U.mem_z hB).mpr ⟨h1, h2⟩), h2⟩⟩
theorem UF.meet_sub (U : UF p n SP) (hA : A ∈ SP) (hB : B ∈ SP) : ∀ r ∈ meetR p n A B, inR p B r = true := fun r hr => by
  obtain ⟨h1, h2⟩ := U.own (U.meetS A B) hr
  rw [U.meet_in hA hB h1, Bool.and_eq_true] at h2
  exact h2.2
theorem UF.join_sub (U : UF p n SP) (hA : A ∈ SP) (hB : B ∈ SP) : ∀ r ∈ A, inR p (red p (A ++ B)) r = true := fun r hr => by
  have hl := U.lowA hA hB
  refine (U.mem_inR (U.redS hl) (U.low A hA r hr)).mpr fun d hd => ?_
  exact ((U.mem_zs hl d).mp hd).2 r (List.mem_append.mpr (.inl hr))
theorem red_app (A B : List Rw) : red p (A ++ B) = B.foldl (step p) (red p A) := by unfold red; rw [List.foldl_append]
theorem UF.dims (U : UF p n SP) (hA : A ∈ SP) (hB : B ∈ SP) : (red p (A ++ B)).length + (meetR p n A B).length = A.length + B.length := by
  have hC := U.meetS A B
  have h := U.dim hB B A (meetR p n A B) hA hC (fun b hb => U.own hB hb) fun z hz hzB => by rw [U.meet_in hA hB hz, hzB, Bool.and_true]
  have e1 : red p (A ++ B) = B.foldl (step p) A := by rw [red_app, (U.rs hA).2.1]
  have e2 : red p (meetR p n A B ++ B) = B.foldl (step p) (meetR p n A B) := by rw [red_app, (U.rs hC).2.1]
  rw [U.absorb hC hB (U.meet_sub hA hB)] at e2
  rw [e1, h, ← e2]; omega
theorem UF.meet_self (U : UF p n SP) (hA : A ∈ SP) : meetR p n A A = A := U.spL_inj (U.meetS A A) hA (by
  unfold spL
  exact List.filter_congr fun y hy => by rw [U.meet_in hA hA hy, Bool.and_self])
theorem UF.meet_comm (U : UF p n SP) (hA : A ∈ SP) (hB : B ∈ SP) : meetR p n B A = meetR p n A B := U.spL_inj (U.meetS B A) (U.meetS A B) (by
  unfold spL
  exact List.filter_congr fun y hy => by rw [U.meet_in hA hB hy, U.meet_in hB hA hy, Bool.and_comm])
theorem UF.join_self (U : UF p n SP) (hA : A ∈ SP) : red p (A ++ A) = A := U.absorb hA hA fun r hr => (U.own hA hr).2
theorem UF.join_comm (U : UF p n SP) (hA : A ∈ SP) (hB : B ∈ SP) : red p (B ++ A) = red p (A ++ B) := U.same (U.lowA hB hA) fun y => by
  rw [List.mem_append, List.mem_append]; exact Or.comm
end
end Spc

set_option Elab.async false
set_option linter.all false
set_option maxRecDepth 100000
set_option maxHeartbeats 4000000
namespace K05
open PySem PySem.Spec PyProof.Rows L2 Pd
section
variable {P : Program} {w : World} {K : PySem.W.Frag} {mg : Str → Option Value} {base : Heap}
/-- a def that has defaults -/
theorem pd_fnD {x qual : Str} {st : Stmt} {dvs : List V} {kws : List (Str × V)} {f : Addr} {fd : FuncData} {N ps : List Str} {k : Nat} {W : DC} (F : FunD K x qual (defArgs st) (defBody st) (defScope st) dvs kws f fd) (S : FnScope N ps (defScope st))
    (hbody : ∀ (cdv : Value) (A : Around) (outer : List Env) (s : Shared) (H : Hp) (E : XK), Room k (A.deeper (envOfC qual (defScope st) s.heap.objs.size f cdv)) →
      ∃ t, PDSs (cxOf CX0 P w K mg base N qual (defScope st) f cdv A outer s H E).nox (defBody st) t ∧ ∀ ds M Q, ds.length = ps.length → W ds M Q → t { nx := fun _ M' => Q .non M', rt := Q } (startD N ds) M) :
    FnOk P w K mg base CX0 (k + 1) f fd ps (spD ps.length W K) := by
  refine F.ok S (fun vs H Q E h => h.1) (fun cdv A outer s H vs Q E hr h => ?_)
  obtain ⟨hl, as, M, L, ds, P', r, A0, hw, q⟩ := h
  obtain ⟨t, ht, hb⟩ := hbody cdv A outer s H E hr
  obtain ⟨ts, pt, st'⟩ := ht.ex
  refine ⟨ts, pt.nox, st' as (L2.start N vs) (startD N ds) L H M _ _ (en_start r) A0 (hb ds M P' (by rw [← r.length]; exact hl) hw) ⟨?_, ?_, ?_, ?_⟩⟩
  · exact fun σ' ρ' L' H' M' s1 A1 _ p => q .non .non L' H' M' s1 A1 p .non
  · exact fun v d L' H' M' s1 A1 p r => q v d L' H' M' s1 A1 p r
  · exact fun _ _ _ _ _ _ _ _ p => p.elim
  · exact fun _ _ _ _ _ _ _ _ p => p.elim
end
theorem funD_mk {K : PySem.W.Frag} {x qual : Str} {st : Stmt} {f T E : Addr} {oc : Value} {od an : Option Addr} {osl : Array (Option Value)} {kV doc pm cdv ct c : Value} {dd : Option Addr} {n : Nat} {sl : Array (Option Value)}
    (hl : K.lookup f = some ⟨oc, od, .func (PySem.W.fnOf x qual (defArgs st) (defBody st) (defScope st) (.ref T) kV doc pm an cdv ct), osl⟩) (hc : PySem.W.codeIn K cdv qual = true) (hk : PySem.W.keepIn K (.ref f) = true) (hT : K.lookup T = some ⟨c, dd, .seq #[.ref E] n, sl⟩) :
    FunD K x qual (defArgs st) (defBody st) (defScope st) [V.ref E] [] f (PySem.W.fnOf x qual (defArgs st) (defBody st) (defScope st) (.ref T) kV doc pm an cdv ct) :=
  ⟨⟨oc, od, .ref T, kV, doc, pm, an, cdv, ct, osl, rfl, hl, hc, .inr ⟨by simp, T, _, [.ref E], n, rfl, hT, rfl, .cons rfl .nil⟩, .inl rfl⟩, hk⟩
theorem binds_all {K : PySem.W.Frag} {x qual : Str} {params : Arguments} {body : List Stmt} {scope : Scope} {v : V} {kws : List (Str × V)} {f : Addr} {fd : FuncData} {ps : List Str} (F : FunD K x qual params body scope [v] kws f fd) (n : Nat) (hn : n = ps.length)
    (h : ∀ (T : Addr) (kV doc pm : Value) (an : Option Addr) (cdv ct : Value) (us its : List Value), us.length = n → its.length = [v].length → ∃ k, bindArgs (PySem.W.fnOf x qual params body scope (.ref T) kV doc pm an cdv ct) { pos := us } = seqItems? (.ref T) >>= k ∧ k (some its.toArray) = pure (ps.zip (us ++ its.drop 1))) : Binds K fd ps [] := by
  obtain ⟨ds, h1, h2⟩ := F.binds1 n 1 (by simp) (by simpa using hn) h
  cases h1
  exact h2
def topS (i : Nat) : Stmt := PySem.Challenge.pw_leastreads_k05_whole_spaces_joined_and_m.main.body.getD i (.Pass ⟨0, 0, 0, 0⟩)
abbrev s_is_integer : Stmt := topS 8
theorem sc_is_integer : FnScope ["value"] ["value"] (defScope s_is_integer) := ⟨rfl, rfl, rfl, by decide +kernel, rfl, by decide +kernel, by decide +kernel⟩
abbrev s_is_between : Stmt := topS 9
theorem sc_is_between : FnScope ["value", "low", "high"] ["value", "low", "high"] (defScope s_is_between) := ⟨rfl, rfl, rfl, by decide +kernel, rfl, by decide +kernel, by decide +kernel⟩
abbrev s_has_items : Stmt := topS 10
theorem sc_has_items : FnScope ["value", "least", "most"] ["value", "least", "most"] (defScope s_has_items) := ⟨rfl, rfl, rfl, by decide +kernel, rfl, by decide +kernel, by decide +kernel⟩
abbrev s_all_between : Stmt := topS 11
theorem sc_all_between : FnScope ["items", "low", "high", "item"] ["items", "low", "high"] (defScope s_all_between) := ⟨rfl, rfl, rfl, by decide +kernel, rfl, by decide +kernel, by decide +kernel⟩
abbrev s_is_prime : Stmt := topS 14
theorem sc_is_prime : FnScope ["value"] ["value"] (defScope s_is_prime) := ⟨rfl, rfl, rfl, by decide +kernel, rfl, by decide +kernel, by decide +kernel⟩
abbrev s_is_size : Stmt := topS 15
theorem sc_is_size : FnScope ["prime", "value"] ["prime", "value"] (defScope s_is_size) := ⟨rfl, rfl, rfl, by decide +kernel, rfl, by decide +kernel, by decide +kernel⟩
abbrev s_expect_prime_and_size : Stmt := topS 17
theorem sc_expect_prime_and_size : FnScope ["prime", "size"] ["prime", "size"] (defScope s_expect_prime_and_size) := ⟨rfl, rfl, rfl, by decide +kernel, rfl, by decide +kernel, by decide +kernel⟩
abbrev s_is_sum : Stmt := topS 18
theorem sc_is_sum : FnScope ["prime", "size", "value"] ["prime", "size", "value"] (defScope s_is_sum) := ⟨rfl, rfl, rfl, by decide +kernel, rfl, by decide +kernel, by decide +kernel⟩
abbrev s_Sum_init : Stmt := inClass (topS 19) 0
theorem sc_Sum_init : FnScope ["self", "prime", "factors"] ["self", "prime", "factors"] (defScope s_Sum_init) := ⟨rfl, rfl, rfl, by decide +kernel, rfl, by decide +kernel, by decide +kernel⟩
abbrev s_Sum_prime : Stmt := inClass (topS 19) 2
theorem sc_Sum_prime : FnScope ["self"] ["self"] (defScope s_Sum_prime) := ⟨rfl, rfl, rfl, by decide +kernel, rfl, by decide +kernel, by decide +kernel⟩
abbrev s_Sum_factors : Stmt := inClass (topS 19) 3
theorem sc_Sum_factors : FnScope ["self"] ["self"] (defScope s_Sum_factors) := ⟨rfl, rfl, rfl, by decide +kernel, rfl, by decide +kernel, by decide +kernel⟩
abbrev s_Sum_size : Stmt := inClass (topS 19) 4
theorem sc_Sum_size : FnScope ["self"] ["self"] (defScope s_Sum_size) := ⟨rfl, rfl, rfl, by decide +kernel, rfl, by decide +kernel, by decide +kernel⟩
abbrev s_minus : Stmt := topS 21
theorem sc_minus : FnScope ["prime", "row", "other", "times", "one", "two"] ["prime", "row", "other", "times"] (defScope s_minus) := ⟨rfl, rfl, rfl, by decide +kernel, rfl, by decide +kernel, by decide +kernel⟩
abbrev s_remainder : Stmt := topS 22
theorem sc_remainder : FnScope ["prime", "reduced", "row", "lead"] ["prime", "reduced", "row"] (defScope s_remainder) := ⟨rfl, rfl, rfl, by decide +kernel, rfl, by decide +kernel, by decide +kernel⟩
abbrev s_led_by_one : Stmt := topS 23
theorem sc_led_by_one : FnScope ["prime", "row", "first", "times", "factor", "number"] ["prime", "row"] (defScope s_led_by_one) := ⟨rfl, rfl, rfl, by decide +kernel, rfl, by decide +kernel, by decide +kernel⟩
abbrev s_reduced_rows : Stmt := topS 24
theorem sc_reduced_rows : FnScope ["prime", "rows", "reduced", "row", "rest", "lead", "others", "other"] ["prime", "rows"] (defScope s_reduced_rows) := ⟨rfl, rfl, rfl, by decide +kernel, rfl, by decide +kernel, by decide +kernel⟩
abbrev s_zero_row : Stmt := topS 25
theorem sc_zero_row : FnScope ["prime", "size", "reduced", "free", "forced", "row", "place"] ["prime", "size", "reduced", "free"] (defScope s_zero_row) := ⟨rfl, rfl, rfl, by decide +kernel, rfl, by decide +kernel, by decide +kernel⟩
abbrev s_zero_rows : Stmt := topS 26
theorem sc_zero_rows : FnScope ["prime", "size", "reduced", "leads", "rows", "row", "place"] ["prime", "size", "reduced"] (defScope s_zero_rows) := ⟨rfl, rfl, rfl, by decide +kernel, rfl, by decide +kernel, by decide +kernel⟩
abbrev s_Space_init : Stmt := inClass (topS 28) 0
theorem sc_Space_init : FnScope ["self", "prime", "size", "sums", "item", "row"] ["self", "prime", "size", "sums"] (defScope s_Space_init) := ⟨rfl, rfl, rfl, by decide +kernel, rfl, by decide +kernel, by decide +kernel⟩
abbrev s_Space_len : Stmt := inClass (topS 28) 5
theorem sc_Space_len : FnScope ["self"] ["self"] (defScope s_Space_len) := ⟨rfl, rfl, rfl, by decide +kernel, rfl, by decide +kernel, by decide +kernel⟩
abbrev s_Space_contains : Stmt := inClass (topS 28) 7
theorem sc_Space_contains : FnScope ["self", "x"] ["self", "x"] (defScope s_Space_contains) := ⟨rfl, rfl, rfl, by decide +kernel, rfl, by decide +kernel, by decide +kernel⟩
abbrev s_Space_or : Stmt := inClass (topS 28) 8
theorem sc_Space_or : FnScope ["self", "other"] ["self", "other"] (defScope s_Space_or) := ⟨rfl, rfl, rfl, by decide +kernel, rfl, by decide +kernel, by decide +kernel⟩
abbrev s_Space_and : Stmt := inClass (topS 28) 9
theorem sc_Space_and : FnScope ["self", "other", "ours", "theirs", "joined", "rows", "row"] ["self", "other"] (defScope s_Space_and) := ⟨rfl, rfl, rfl, by decide +kernel, rfl, by decide +kernel, by decide +kernel⟩
abbrev s_Space_eq : Stmt := inClass (topS 28) 10
theorem sc_Space_eq : FnScope ["self", "other"] ["self", "other"] (defScope s_Space_eq) := ⟨rfl, rfl, rfl, by decide +kernel, rfl, by decide +kernel, by decide +kernel⟩
abbrev s_Space_within : Stmt := inClass (topS 28) 11
theorem sc_Space_within : FnScope ["self", "other", "item"] ["self", "other"] (defScope s_Space_within) := ⟨rfl, rfl, rfl, by decide +kernel, rfl, by decide +kernel, by decide +kernel⟩
abbrev s_Space_expect_operand : Stmt := inClass (topS 28) 14
theorem sc_Space_expect_operand : FnScope ["self", "other"] ["self", "other"] (defScope s_Space_expect_operand) := ⟨rfl, rfl, rfl, by decide +kernel, rfl, by decide +kernel, by decide +kernel⟩
abbrev s_law_source : Stmt := topS 30
theorem sc_law_source : FnScope ["_law_script", "_law_turn", "_law_cell", "_law_number", "_law_seed"] ["_law_script", "_law_turn"] (defScope s_law_source) := ⟨rfl, rfl, rfl, by decide +kernel, rfl, by decide +kernel, by decide +kernel⟩
abbrev s_law_draw : Stmt := topS 31
theorem sc_law_draw : FnScope ["_law_source_here", "_law_amount", "_law_digit"] ["_law_source_here", "_law_amount"] (defScope s_law_draw) := ⟨rfl, rfl, rfl, by decide +kernel, rfl, by decide +kernel, by decide +kernel⟩
abbrev s_law_pick : Stmt := topS 32
theorem sc_law_pick : FnScope ["_law_source_here", "_law_items"] ["_law_source_here", "_law_items"] (defScope s_law_pick) := ⟨rfl, rfl, rfl, by decide +kernel, rfl, by decide +kernel, by decide +kernel⟩
abbrev s_law_all_data : Stmt := topS 33
theorem sc_law_all_data : FnScope ["_law_prime", "_law_size", "_law_found", "_law_place", "_law_longer", "_law_data", "_law_value_here"] ["_law_prime", "_law_size"] (defScope s_law_all_data) := ⟨rfl, rfl, rfl, by decide +kernel, rfl, by decide +kernel, by decide +kernel⟩
abbrev s_law_factors : Stmt := topS 35
theorem sc_law_factors : FnScope ["_law_source_here", "_law_prime", "_law_size", "_law_place"] ["_law_source_here", "_law_prime", "_law_size"] (defScope s_law_factors) := ⟨rfl, rfl, rfl, by decide +kernel, rfl, by decide +kernel, by decide +kernel⟩
abbrev s_law_form : Stmt := topS 36
theorem sc_law_form : FnScope ["_law_source_here"] ["_law_source_here"] (defScope s_law_form) := ⟨rfl, rfl, rfl, by decide +kernel, rfl, by decide +kernel, by decide +kernel⟩
abbrev s_law_sums : Stmt := topS 37
theorem sc_law_sums : FnScope ["_law_source_here", "_law_prime", "_law_size", "_law_most", "_law_index"] ["_law_source_here", "_law_prime", "_law_size", "_law_most"] (defScope s_law_sums) := ⟨rfl, rfl, rfl, by decide +kernel, rfl, by decide +kernel, by decide +kernel⟩
abbrev s_law_span : Stmt := topS 38
theorem sc_law_span : FnScope ["_law_rows", "_law_prime", "_law_size", "_law_found", "_law_row", "_law_longer", "_law_factor", "_law_old", "_law_one", "_law_two"] ["_law_rows", "_law_prime", "_law_size"] (defScope s_law_span) := ⟨rfl, rfl, rfl, by decide +kernel, rfl, by decide +kernel, by decide +kernel⟩
abbrev s_law_made : Stmt := topS 39
theorem sc_law_made : FnScope ["_law_prime", "_law_size", "_law_rows", "_law_row"] ["_law_prime", "_law_size", "_law_rows"] (defScope s_law_made) := ⟨rfl, rfl, rfl, by decide +kernel, rfl, by decide +kernel, by decide +kernel⟩
abbrev s_law : Stmt := topS 40
theorem sc_law : FnScope ["_law_script", "_law_turn", "_law_source_here", "_law_every", "_law_data", "_law_prime", "_law_size", "_law_rows", "_law_others", "_law_one", "_law_other", "_law_first", "_law_second", "_law_both", "_law_common", "_law_item"] ["_law_script"] (defScope s_law) := ⟨rfl, rfl, rfl, by decide +kernel, rfl, by decide +kernel, by decide +kernel⟩
/-- the primes, each with its greatest size -/
def gsz (p : Int) : Option Int := if p = 2 then some 6 else if p = 3 then some 6 else if p = 5 then some 5 else if p = 7 then some 4 else none
structure Tx (P : Program) (w : World) (K : PySem.W.Frag) (mg : Str → Option Value) where
  a_is_integer : Addr
  f_is_integer : FuncData
  F_is_integer : Fun K "is_integer" "is_integer" s_is_integer a_is_integer f_is_integer
  b_is_integer : Binds K f_is_integer ["value"] []
  g_is_integer : mg "is_integer" = some (.ref a_is_integer)
  a_is_between : Addr
  f_is_between : FuncData
  F_is_between : Fun K "is_between" "is_between" s_is_between a_is_between f_is_between
  b_is_between : Binds K f_is_between ["value", "low", "high"] []
  g_is_between : mg "is_between" = some (.ref a_is_between)
  a_has_items : Addr
  f_has_items : FuncData
  F_has_items : Fun K "has_items" "has_items" s_has_items a_has_items f_has_items
  b_has_items : Binds K f_has_items ["value", "least", "most"] []
  g_has_items : mg "has_items" = some (.ref a_has_items)
  a_all_between : Addr
  f_all_between : FuncData
  F_all_between : Fun K "all_between" "all_between" s_all_between a_all_between f_all_between
  b_all_between : Binds K f_all_between ["items", "low", "high"] []
  g_all_between : mg "all_between" = some (.ref a_all_between)
  a_is_prime : Addr
  f_is_prime : FuncData
  F_is_prime : Fun K "is_prime" "is_prime" s_is_prime a_is_prime f_is_prime
  b_is_prime : Binds K f_is_prime ["value"] []
  g_is_prime : mg "is_prime" = some (.ref a_is_prime)
  a_is_size : Addr
  f_is_size : FuncData
  F_is_size : Fun K "is_size" "is_size" s_is_size a_is_size f_is_size
  b_is_size : Binds K f_is_size ["prime", "value"] []
  g_is_size : mg "is_size" = some (.ref a_is_size)
  a_expect_prime_and_size : Addr
  f_expect_prime_and_size : FuncData
  F_expect_prime_and_size : Fun K "expect_prime_and_size" "expect_prime_and_size" s_expect_prime_and_size a_expect_prime_and_size f_expect_prime_and_size
  b_expect_prime_and_size : Binds K f_expect_prime_and_size ["prime", "size"] []
  g_expect_prime_and_size : mg "expect_prime_and_size" = some (.ref a_expect_prime_and_size)
  a_is_sum : Addr
  f_is_sum : FuncData
  F_is_sum : Fun K "is_sum" "is_sum" s_is_sum a_is_sum f_is_sum
  b_is_sum : Binds K f_is_sum ["prime", "size", "value"] []
  g_is_sum : mg "is_sum" = some (.ref a_is_sum)
  a_Sum_init : Addr
  f_Sum_init : FuncData
  F_Sum_init : Fun K "__init__" "Sum.__init__" s_Sum_init a_Sum_init f_Sum_init
  b_Sum_init : Binds K f_Sum_init ["self", "prime", "factors"] []
  a_Sum_prime : Addr
  f_Sum_prime : FuncData
  F_Sum_prime : Fun K "prime" "Sum.prime" s_Sum_prime a_Sum_prime f_Sum_prime
  b_Sum_prime : Binds K f_Sum_prime ["self"] []
  a_Sum_factors : Addr
  f_Sum_factors : FuncData
  F_Sum_factors : Fun K "factors" "Sum.factors" s_Sum_factors a_Sum_factors f_Sum_factors
  b_Sum_factors : Binds K f_Sum_factors ["self"] []
  a_Sum_size : Addr
  f_Sum_size : FuncData
  F_Sum_size : Fun K "size" "Sum.size" s_Sum_size a_Sum_size f_Sum_size
  b_Sum_size : Binds K f_Sum_size ["self"] []
  a_minus : Addr
  f_minus : FuncData
  F_minus : Fun K "minus" "minus" s_minus a_minus f_minus
  b_minus : Binds K f_minus ["prime", "row", "other", "times"] []
  g_minus : mg "minus" = some (.ref a_minus)
  a_remainder : Addr
  f_remainder : FuncData
  F_remainder : Fun K "remainder" "remainder" s_remainder a_remainder f_remainder
  b_remainder : Binds K f_remainder ["prime", "reduced", "row"] []
  g_remainder : mg "remainder" = some (.ref a_remainder)
  a_led_by_one : Addr
  f_led_by_one : FuncData
  F_led_by_one : Fun K "led_by_one" "led_by_one" s_led_by_one a_led_by_one f_led_by_one
  b_led_by_one : Binds K f_led_by_one ["prime", "row"] []
  g_led_by_one : mg "led_by_one" = some (.ref a_led_by_one)
  a_reduced_rows : Addr
  f_reduced_rows : FuncData
  F_reduced_rows : Fun K "reduced_rows" "reduced_rows" s_reduced_rows a_reduced_rows f_reduced_rows
  b_reduced_rows : Binds K f_reduced_rows ["prime", "rows"] []
  g_reduced_rows : mg "reduced_rows" = some (.ref a_reduced_rows)
  a_zero_row : Addr
  f_zero_row : FuncData
  F_zero_row : Fun K "zero_row" "zero_row" s_zero_row a_zero_row f_zero_row
  b_zero_row : Binds K f_zero_row ["prime", "size", "reduced", "free"] []
  g_zero_row : mg "zero_row" = some (.ref a_zero_row)
  a_zero_rows : Addr
  f_zero_rows : FuncData
  F_zero_rows : Fun K "zero_rows" "zero_rows" s_zero_rows a_zero_rows f_zero_rows
  b_zero_rows : Binds K f_zero_rows ["prime", "size", "reduced"] []
  g_zero_rows : mg "zero_rows" = some (.ref a_zero_rows)
  dE_Space_init : Addr
  a_Space_init : Addr
  f_Space_init : FuncData
  F_Space_init : FunD K "__init__" "Space.__init__" (defArgs s_Space_init) (defBody s_Space_init) (defScope s_Space_init) [V.ref dE_Space_init] [] a_Space_init f_Space_init
  b_Space_init : Binds K f_Space_init ["self", "prime", "size", "sums"] []
  a_Space_len : Addr
  f_Space_len : FuncData
  F_Space_len : Fun K "__len__" "Space.__len__" s_Space_len a_Space_len f_Space_len
  b_Space_len : Binds K f_Space_len ["self"] []
  a_Space_contains : Addr
  f_Space_contains : FuncData
  F_Space_contains : Fun K "__contains__" "Space.__contains__" s_Space_contains a_Space_contains f_Space_contains
  b_Space_contains : Binds K f_Space_contains ["self", "x"] []
  a_Space_or : Addr
  f_Space_or : FuncData
  F_Space_or : Fun K "__or__" "Space.__or__" s_Space_or a_Space_or f_Space_or
  b_Space_or : Binds K f_Space_or ["self", "other"] []
  a_Space_and : Addr
  f_Space_and : FuncData
  F_Space_and : Fun K "__and__" "Space.__and__" s_Space_and a_Space_and f_Space_and
  b_Space_and : Binds K f_Space_and ["self", "other"] []
  a_Space_eq : Addr
  f_Space_eq : FuncData
  F_Space_eq : Fun K "__eq__" "Space.__eq__" s_Space_eq a_Space_eq f_Space_eq
  b_Space_eq : Binds K f_Space_eq ["self", "other"] []
  a_Space_within : Addr
  f_Space_within : FuncData
  F_Space_within : Fun K "within" "Space.within" s_Space_within a_Space_within f_Space_within
  b_Space_within : Binds K f_Space_within ["self", "other"] []
  a_Space_expect_operand : Addr
  f_Space_expect_operand : FuncData
  F_Space_expect_operand : Fun K "_expect_operand" "Space._expect_operand" s_Space_expect_operand a_Space_expect_operand f_Space_expect_operand
  b_Space_expect_operand : Binds K f_Space_expect_operand ["self", "other"] []
  a_law_source : Addr
  f_law_source : FuncData
  F_law_source : Fun K "_law_source" "_law_source" s_law_source a_law_source f_law_source
  b_law_source : Binds K f_law_source ["_law_script", "_law_turn"] []
  g_law_source : mg "_law_source" = some (.ref a_law_source)
  a_law_draw : Addr
  f_law_draw : FuncData
  F_law_draw : Fun K "_law_draw" "_law_draw" s_law_draw a_law_draw f_law_draw
  b_law_draw : Binds K f_law_draw ["_law_source_here", "_law_amount"] []
  g_law_draw : mg "_law_draw" = some (.ref a_law_draw)
  a_law_pick : Addr
  f_law_pick : FuncData
  F_law_pick : Fun K "_law_pick" "_law_pick" s_law_pick a_law_pick f_law_pick
  b_law_pick : Binds K f_law_pick ["_law_source_here", "_law_items"] []
  g_law_pick : mg "_law_pick" = some (.ref a_law_pick)
  a_law_all_data : Addr
  f_law_all_data : FuncData
  F_law_all_data : Fun K "_law_all_data" "_law_all_data" s_law_all_data a_law_all_data f_law_all_data
  b_law_all_data : Binds K f_law_all_data ["_law_prime", "_law_size"] []
  g_law_all_data : mg "_law_all_data" = some (.ref a_law_all_data)
  a_law_factors : Addr
  f_law_factors : FuncData
  F_law_factors : Fun K "_law_factors" "_law_factors" s_law_factors a_law_factors f_law_factors
  b_law_factors : Binds K f_law_factors ["_law_source_here", "_law_prime", "_law_size"] []
  g_law_factors : mg "_law_factors" = some (.ref a_law_factors)
  a_law_form : Addr
  f_law_form : FuncData
  F_law_form : Fun K "_law_form" "_law_form" s_law_form a_law_form f_law_form
  b_law_form : Binds K f_law_form ["_law_source_here"] []
  g_law_form : mg "_law_form" = some (.ref a_law_form)
  a_law_sums : Addr
  f_law_sums : FuncData
  F_law_sums : Fun K "_law_sums" "_law_sums" s_law_sums a_law_sums f_law_sums
  b_law_sums : Binds K f_law_sums ["_law_source_here", "_law_prime", "_law_size", "_law_most"] []
  g_law_sums : mg "_law_sums" = some (.ref a_law_sums)
  a_law_span : Addr
  f_law_span : FuncData
  F_law_span : Fun K "_law_span" "_law_span" s_law_span a_law_span f_law_span
  b_law_span : Binds K f_law_span ["_law_rows", "_law_prime", "_law_size"] []
  g_law_span : mg "_law_span" = some (.ref a_law_span)
  a_law_made : Addr
  f_law_made : FuncData
  F_law_made : Fun K "_law_made" "_law_made" s_law_made a_law_made f_law_made
  b_law_made : Binds K f_law_made ["_law_prime", "_law_size", "_law_rows"] []
  g_law_made : mg "_law_made" = some (.ref a_law_made)
  a_law : Addr
  f_law : FuncData
  F_law : Fun K "law" "law" s_law a_law f_law
  b_law : Binds K f_law ["_law_script"] []
  g_law : mg "law" = some (.ref a_law)
  a_Sum : Addr
  g_Sum : mg "Sum" = some (.ref a_Sum)
  a_Space : Addr
  g_Space : mg "Space" = some (.ref a_Space)
  n_isinstance : mg "isinstance" = none
  n_int : mg "int" = none
  n_bool : mg "bool" = none
  n_list : mg "list" = none
  n_tuple : mg "tuple" = none
  n_len : mg "len" = none
  n_all : mg "all" = none
  n_any : mg "any" = none
  n_sum : mg "sum" = none
  n_zip : mg "zip" = none
  n_max : mg "max" = none
  n_min : mg "min" = none
  n_range : mg "range" = none
  n_sorted : mg "sorted" = none
  n_set : mg "set" = none
  c_Sum : ClsI K a_Sum
  m_Sum : Mk K a_Sum a_Sum_init
  c_Space : ClsI K a_Space
  m_Space : Mk K a_Space a_Space_init
  nf_Sum : PySem.W.notFirst K a_Sum (.ref a_Sum) = true
  kt_Sum : PySem.W.kitOne K (.ref a_Sum) (.ref a_Sum) = some true
  o_in : PySem.W.findIn K (.ref a_Space) "__contains__" = some (some (.ref a_Space_contains))
  i_in : PySem.W.isFn K (.ref a_Space_contains) = true
  o_len : PySem.W.findIn K (.ref a_Space) "__len__" = some (some (.ref a_Space_len))
  i_len : PySem.W.isFn K (.ref a_Space_len) = true
  o_eq : PySem.W.findIn K (.ref a_Space) "__eq__" = some (some (.ref a_Space_eq))
  i_eq : PySem.W.isFn K (.ref a_Space_eq) = true
  o_ne : PySem.W.findIn K (.ref a_Space) "__ne__" = some (some (.builtin "object.__ne__"))
  o_or : PySem.W.findIn K (.ref a_Space) "__or__" = some (some (.ref a_Space_or))
  i_or : PySem.W.isFn K (.ref a_Space_or) = true
  o_and : PySem.W.findIn K (.ref a_Space) "__and__" = some (some (.ref a_Space_and))
  i_and : PySem.W.isFn K (.ref a_Space_and) = true
  sf_Space : PySem.W.selfFirst K a_Space = true
  me_within : Meth K a_Space "within" a_Space_within
  me_expect : Meth K a_Space "_expect_operand" a_Space_expect_operand
  nf_spl : PySem.W.notFirst K a_Space (.type "list") = true
  nf_sp : PySem.W.notFirst K a_Space (.ref a_Space) = true
  kt_spl : PySem.W.kitOne K (.type "list") (.ref a_Space) = some false
  kt_sp : PySem.W.kitOne K (.ref a_Space) (.ref a_Space) = some true
  a_GS : Addr
  g_GS : mg "GREATEST_SIZES" = some (.ref a_GS)
  d_GS : IntD K P w a_GS gsz
  kt_NoneType : PySem.W.kitOne K (.type "NoneType") (.ref a_Sum) = some false
  kt_int : PySem.W.kitOne K (.type "int") (.ref a_Sum) = some false
  kt_str : PySem.W.kitOne K (.type "str") (.ref a_Sum) = some false
  kt_tuple : PySem.W.kitOne K (.type "tuple") (.ref a_Sum) = some false
  kt_list : PySem.W.kitOne K (.type "list") (.ref a_Sum) = some false
  na_prime : NoAttr K a_Sum "_prime"
  na_factors : NoAttr K a_Sum "_factors"
  ns_prime : NoAttr K a_Space "_prime"
  ns_size : NoAttr K a_Space "_size"
  ns_rows : NoAttr K a_Space "_rows"
  ns_reduced : NoAttr K a_Space "_reduced"
  q_Sum_prime : Addr
  pp_Sum_prime : PropOf K a_Sum "prime" q_Sum_prime a_Sum_prime
  q_Sum_factors : Addr
  pp_Sum_factors : PropOf K a_Sum "factors" q_Sum_factors a_Sum_factors
  q_Sum_size : Addr
  pp_Sum_size : PropOf K a_Sum "size" q_Sum_size a_Sum_size
theorem gsz_pos {p g : Int} (h : gsz p = some g) : 2 ≤ p ∧ p ≤ 7 ∧ g ≤ 6 := by
  unfold gsz at h
  split at h
  · cases h; omega
  split at h
  · cases h; omega
  split at h
  · cases h; omega
  split at h
  · cases h; omega
  · cases h
/-- factors of a sum; data -/
def In (p : Int) (xs : List Int) : Prop := ∀ x ∈ xs, 0 ≤ x ∧ x < p
def SumOk (p : Int) (fs : List Int) : Prop := ∃ g, gsz p = some g ∧ 1 ≤ (fs.length : Int) ∧ (fs.length : Int) ≤ g ∧ In p fs
def dSum (C : Addr) (p : Int) (f : D) : D := .ins C [("_prime", .int p), ("_factors", f)]
/-- a tuple of these ints, in either form -/
def Fs (f : D) (fs : List Int) : Prop := fgD f = .tup (dI fs)
theorem In.all {p : Int} {xs : List Int} (h : In p xs) : (xs.all fun x => decide (0 ≤ x) && decide (x ≤ p - 1)) = true := by
  rw [List.all_eq_true]
  intro x hx
  have := h x hx
  simp only [Bool.and_eq_true, decide_eq_true_eq]
  omega
end K05

set_option Elab.async false
set_option linter.all false
set_option maxRecDepth 100000
set_option maxHeartbeats 4000000
namespace K05
open PySem PySem.Spec PyProof.Rows L2 Pd
section
variable {P : Program} {w : World} {K : PySem.W.Frag} {mg : Str → Option Value} {base : Heap}
/-! ### the program's first file -/
def W_is_integer : DC := fun ds M Q => ∃ d t, ds = [d] ∧ tyN d = some t ∧ Q (.bl (isI d)) M
theorem ok_is_integer (T : Tx P w K mg) : FnOk P w K mg base CX0 1 T.a_is_integer T.f_is_integer ["value"] (spD 1 W_is_integer K) := by
  refine pd_fn T.F_is_integer sc_is_integer (fun cdv A outer s H E hr => ⟨_, (pdss_one (pds_ret (pd_and (pd_callB call_isi sc_isi (by rfl) T.n_isinstance (by decide +kernel) (pda_cons (pd_name 0) (pda_cons (pd_bltn (v := .ty "int") (d := .ty "int") (by rfl) T.n_int (by decide +kernel) rfl (fun _ _ => .ty _)) pda_nil))) (pd_one (pd_not (pd_callB call_isi sc_isi (by rfl) T.n_isinstance (by decide +kernel) (pda_cons (pd_name 0) (pda_cons (pd_bltn (v := .ty "bool") (d := .ty "bool") (by rfl) T.n_bool (by decide +kernel) rfl (fun _ _ => .ty _)) pda_nil)))))))), fun ds M Q hl h => ?_⟩)
  obtain ⟨d, t, rfl, ht, q⟩ := h
  refine ⟨d, rfl, ?_⟩
  have hd := dty (K := K) ht
  cases d <;> simp only [tyN, Option.some.injEq, reduceCtorEq] at ht <;> subst ht
  case int i =>
    refine ⟨_, _, _, _, _, true, rfl, hd, .ty "int", kit_ty (by decide +kernel), _, rfl, ?_⟩
    refine ⟨_, rfl, _, _, _, _, _, false, rfl, hd, .ty "bool", kit_ty (by decide +kernel), _, rfl, q⟩
  case bl b =>
    refine ⟨_, _, _, _, _, true, rfl, hd, .ty "int", kit_ty (by decide +kernel), _, rfl, ?_⟩
    refine ⟨_, rfl, _, _, _, _, _, true, rfl, hd, .ty "bool", kit_ty (by decide +kernel), _, rfl, q⟩
  all_goals
    refine ⟨_, _, _, _, _, false, rfl, hd, .ty "int", kit_ty (by decide +kernel), _, rfl, q⟩
def W_is_between : DC := fun ds M Q => ∃ d t lo hi, ds = [d, .int lo, .int hi] ∧ tyN d = some t ∧ (∀ i, d = .int i → Q (.bl (decide (lo ≤ i) && decide (i ≤ hi))) M) ∧ (isI d = false → Q (.bl false) M)
theorem ok_is_between (T : Tx P w K mg) : FnOk P w K mg base CX0 2 T.a_is_between T.f_is_between ["value", "low", "high"] (spD 3 W_is_between K) := by
  refine pd_fn T.F_is_between sc_is_between (fun cdv A outer s H E hr => ⟨_, (pdss_one (pds_ret (pd_and (pd_call (ok_is_integer T) (hr.mono (by decide)) (by rfl) T.g_is_integer T.F_is_integer.kp T.b_is_integer (pda_cons (pd_name 0) pda_nil)) (pd_one (pd_chain op_le sr_I0b op_le sr_I0b (pd_name 1) (pd_name 0) (pd_name 2)))))), fun ds M Q hl h => ?_⟩)
  obtain ⟨d, t, lo, hi, rfl, ht, q1, q2⟩ := h
  refine ⟨d, rfl, rfl, d, t, rfl, ht, _, rfl, ?_⟩
  cases e : isI d with
  | false => exact q2 e
  | true =>
    cases d <;> simp only [isI, reduceCtorEq] at e
    rename_i i
    refine ⟨_, rfl, _, rfl, _, _, rfl, rfl, _, rfl, ?_⟩
    have q := q1 i rfl
    by_cases h1 : lo ≤ i
    · rw [decide_eq_true h1] at q ⊢
      exact ⟨_, rfl, _, _, rfl, rfl, q⟩
    · rw [decide_eq_false h1] at q ⊢
      exact q
def W_has_items : DC := fun ds M Q => ∃ d xs lo hi, ds = [d, .int lo, .int hi] ∧ isSeq d xs ∧ Q (.bl (decide (lo ≤ (xs.length : Int)) && decide ((xs.length : Int) ≤ hi))) M
theorem ok_has_items (T : Tx P w K mg) : FnOk P w K mg base CX0 1 T.a_has_items T.f_has_items ["value", "least", "most"] (spD 3 W_has_items K) := by
  refine pd_fn T.F_has_items sc_has_items (fun cdv A outer s H E hr => ⟨_, (pdss_one (pds_ret (pd_and (pd_isi2 (T1 := "list") (T2 := "tuple") (by rfl) T.n_isinstance (pd_name 0) (by rfl) T.n_list (by decide +kernel) (by rfl) T.n_tuple (by decide +kernel)) (pd_one (pd_chain op_le sr_I0b op_le sr_I0b (pd_name 1) (pd_callB call_len_seq sc_len (by rfl) T.n_len (by decide +kernel) (pda_cons (pd_name 0) pda_nil)) (pd_name 2)))))), fun ds M Q hl h => ?_⟩)
  obtain ⟨d, xs, lo, hi, rfl, hs, q⟩ := h
  obtain ⟨t, h1, h2⟩ : ∃ t, DTy K d (.type t) ∧ PySem.W.kitAny K (.type t) [.type "list", .type "tuple"] = some true := by
    rcases hs with rfl | rfl
    · exact ⟨"list", .lst _, rfl⟩
    · exact ⟨"tuple", .tup _, rfl⟩
  refine ⟨d, rfl, .type t, true, h1, h2, true, rfl, ?_⟩
  refine ⟨_, rfl, d, rfl, xs, ?_, _, _, rfl, rfl, _, rfl, ?_⟩
  · rcases hs with rfl | rfl
    · exact .inl rfl
    · exact .inr rfl
  · by_cases h1 : lo ≤ (xs.length : Int)
    · rw [decide_eq_true h1] at q ⊢
      exact ⟨_, rfl, _, _, rfl, rfl, q⟩
    · rw [decide_eq_false h1] at q ⊢
      exact q
end
end K05

set_option Elab.async false
set_option linter.all false
set_option maxRecDepth 100000
set_option maxHeartbeats 4000000
namespace K05
open PySem PySem.Spec PyProof.Rows L2 Pd
section
variable {P : Program} {w : World} {K : PySem.W.Frag} {mg : Str → Option Value} {base : Heap}
def W_all_between : DC := fun ds M Q => ∃ d xs lo hi, ds = [d, .int lo, .int hi] ∧ isSeq d (dI xs) ∧ xs.length ≤ sizeLine ∧ Q (.bl (xs.all fun x => decide (lo ≤ x) && decide (x ≤ hi))) M
theorem ok_all_between (T : Tx P w K mg) : FnOk P w K mg base CX0 3 T.a_all_between T.f_all_between ["items", "low", "high"] (spD 3 W_all_between K) := by
  refine pd_fn T.F_all_between sc_all_between (fun cdv A outer s H E hr => ⟨_, (pdss_one (pds_ret (pd_callB (cr_all rfl) sc_all (by rfl) T.n_all (by decide +kernel) (pda_cons (pd_lc [("item", 3)] rfl sc_all_between.nd (pdi_seq (pd_name 0)) (blkOk_by (N := ["items", "low", "high", "item"]) (sc := defScope s_all_between) (by decide +kernel)) (fun _ _ _ _ _ => (pdg_name 3 sc_all_between.nd)) (fun _ _ _ _ _ => pdts_nil) (fun _ _ _ _ _ => (pd_call (ok_is_between T) (hr.mono (by decide)) (by rfl) T.g_is_between T.F_is_between.kp T.b_is_between (pda_cons (pd_name 3) (pda_cons (pd_name 1) (pda_cons (pd_name 2) pda_nil)))))) pda_nil)))), fun ds M Q hl h => ?_⟩)
  obtain ⟨d, xs, lo, hi, rfl, hs, hz, q⟩ := h
  refine ⟨d, rfl, dI xs, hs, lc_map (fun d => match d with | .int x => .bl (decide (lo ≤ x) && decide (x ≤ hi)) | d => d) _ _ (fun d hd R hR => ?_) (by simpa using hz) ?_⟩
  · obtain ⟨x, hx, rfl⟩ := List.mem_map.mp hd
    refine ⟨.int x, rfl, .int lo, rfl, .int hi, rfl, rfl, .int x, "int", lo, hi, rfl, rfl, fun i e => ?_, fun e => ?_⟩
    · cases e; exact hR
    · cases e
  · refine ⟨xs.map fun x => decide (lo ≤ x) && decide (x ≤ hi), ?_, ?_⟩
    · rw [List.nil_append, List.map_map, List.map_map]
      rfl
    · rw [List.all_map]
      exact q
def W_is_prime : DC := fun ds M Q => ∃ p, ds = [.int p] ∧ Q (.bl (gsz p).isSome) M
theorem ok_is_prime (T : Tx P w K mg) : FnOk P w K mg base CX0 2 T.a_is_prime T.f_is_prime ["value"] (spD 1 W_is_prime K) := by
  refine pd_fn T.F_is_prime sc_is_prime (fun cdv A outer s H E hr => ⟨_, (pdss_one (pds_ret (pd_and (pd_call (ok_is_integer T) (hr.mono (by decide)) (by rfl) T.g_is_integer T.F_is_integer.kp T.b_is_integer (pda_cons (pd_name 0) pda_nil)) (pd_one (pd_cmp (op_in_id T.d_GS) sr_inD (pd_name 0) (pd_glob (v := .ref T.a_GS) (d := .ob T.a_GS) (by rfl) T.g_GS rfl (fun _ _ => .ob _)) (by rfl)))))), fun ds M Q hl h => ?_⟩)
  obtain ⟨p, rfl, q⟩ := h
  exact ⟨.int p, rfl, rfl, .int p, "int", rfl, rfl, true, rfl, .int p, rfl, p, rfl, rfl, q⟩
def W_is_size : DC := fun ds M Q => ∃ p g n, ds = [.int p, .int n] ∧ gsz p = some g ∧ Q (.bl (decide (1 ≤ n) && decide (n ≤ g))) M
theorem ok_is_size (T : Tx P w K mg) : FnOk P w K mg base CX0 3 T.a_is_size T.f_is_size ["prime", "value"] (spD 2 W_is_size K) := by
  refine pd_fn T.F_is_size sc_is_size (fun cdv A outer s H E hr => ⟨_, (pdss_one (pds_ret (pd_and (pd_call (ok_is_prime T) (hr.mono (by decide)) (by rfl) T.g_is_prime T.F_is_prime.kp T.b_is_prime (pda_cons (pd_name 0) pda_nil)) (pd_one (pd_call (ok_is_between T) (hr.mono (by decide)) (by rfl) T.g_is_between T.F_is_between.kp T.b_is_between (pda_cons (pd_name 1) (pda_cons pd_int (pda_cons (pd_ix (ix_id T.d_GS) sr_ixD (pd_glob (v := .ref T.a_GS) (d := .ob T.a_GS) (by rfl) T.g_GS rfl (fun _ _ => .ob _)) (pd_name 0)) pda_nil)))))))), fun ds M Q hl h => ?_⟩)
  obtain ⟨p, g, n, rfl, hg, q⟩ := h
  refine ⟨.int p, rfl, rfl, p, rfl, true, by rw [hg]; rfl, .int n, rfl, .int p, rfl, p, g, rfl, rfl, hg, rfl, .int n, "int", 1, g, rfl, rfl, fun i e => ?_, fun e => ?_⟩
  · cases e; exact q
  · cases e
theorem small {p : Int} {fs : List Int} (h : SumOk p fs) : fs.length ≤ 6 := by
  obtain ⟨g, h1, h2, h3, _⟩ := h
  have := gsz_pos h1
  omega
theorem small' {p : Int} {fs : List Int} (h : SumOk p fs) : fs.length ≤ sizeLine := Nat.le_trans (small h) (by decide)
def W_expect : DC := fun ds M Q => ∃ p g n, ds = [.int p, .int n] ∧ gsz p = some g ∧ 1 ≤ n ∧ n ≤ g ∧ Q .non M
theorem ok_expect_prime_and_size (T : Tx P w K mg) : FnOk P w K mg base CX0 4 T.a_expect_prime_and_size T.f_expect_prime_and_size ["prime", "size"] (spD 2 W_expect K) := by
  refine pd_fn T.F_expect_prime_and_size sc_expect_prime_and_size (fun cdv A outer s H E hr => ⟨_, (pdss_cons (pds_if (pdt_not (pdt_val (pd_call (ok_is_prime T) (hr.mono (by decide)) (by rfl) T.g_is_prime T.F_is_prime.kp T.b_is_prime (pda_cons (pd_name 0) pda_nil)))) (pdss_one pds_never) pdss_nil)
      (pdss_one (pds_if (pdt_not (pdt_val (pd_call (ok_is_size T) (hr.mono (by decide)) (by rfl) T.g_is_size T.F_is_size.kp T.b_is_size (pda_cons (pd_name 0) (pda_cons (pd_name 1) pda_nil))))) (pdss_one pds_never) pdss_nil))), fun ds M Q hl h => ?_⟩)
  obtain ⟨p, g, n, rfl, hg, h1, h2, q⟩ := h
  refine ⟨.int p, rfl, rfl, p, rfl, true, by rw [hg]; rfl, ?_⟩
  refine ⟨.int p, rfl, .int n, rfl, rfl, p, g, n, rfl, hg, true, by rw [decide_eq_true h1, decide_eq_true h2]; rfl, ?_⟩
  exact q
/-! ### the class -/
theorem dty_sum (T : Tx P w K mg) (p : Int) (f : D) : DTy K (dSum T.a_Sum p f) (.ref T.a_Sum) := .ins T.c_Sum
def W_prime (C : Addr) : DC := fun ds M Q => ∃ p f, ds = [dSum C p f] ∧ Q (.int p) M
theorem ok_Sum_prime (T : Tx P w K mg) : FnOk P w K mg base CX0 1 T.a_Sum_prime T.f_Sum_prime ["self"] (spD 1 (W_prime T.a_Sum) K) := by
  refine pd_fn T.F_Sum_prime sc_Sum_prime (fun cdv A outer s H E hr => ⟨_, (pdss_one (pds_ret (pd_fldK (K := K) rfl (pd_name 0)))), fun ds M Q hl h => ?_⟩)
  obtain ⟨p, fs, rfl, q⟩ := h
  exact ⟨_, rfl, _, _, _, rfl, T.c_Sum.cl, T.na_prime, rfl, q⟩
def W_factors (C : Addr) : DC := fun ds M Q => ∃ p f, ds = [dSum C p f] ∧ Q f M
theorem ok_Sum_factors (T : Tx P w K mg) : FnOk P w K mg base CX0 1 T.a_Sum_factors T.f_Sum_factors ["self"] (spD 1 (W_factors T.a_Sum) K) := by
  refine pd_fn T.F_Sum_factors sc_Sum_factors (fun cdv A outer s H E hr => ⟨_, (pdss_one (pds_ret (pd_fldK (K := K) rfl (pd_name 0)))), fun ds M Q hl h => ?_⟩)
  obtain ⟨p, fs, rfl, q⟩ := h
  exact ⟨_, rfl, _, _, _, rfl, T.c_Sum.cl, T.na_factors, rfl, q⟩
def W_size (C : Addr) : DC := fun ds M Q => ∃ p f fs, ds = [dSum C p f] ∧ Fs f fs ∧ Q (.int fs.length) M
theorem ok_Sum_size (T : Tx P w K mg) : FnOk P w K mg base CX0 1 T.a_Sum_size T.f_Sum_size ["self"] (spD 1 (W_size T.a_Sum) K) := by
  refine pd_fn T.F_Sum_size sc_Sum_size (fun cdv A outer s H E hr => ⟨_, (pdss_one (pds_ret (pd_callB call_len_seq sc_len (by rfl) T.n_len (by decide +kernel) (pda_cons (pd_fg (pd_fldK (K := K) rfl (pd_name 0))) pda_nil)))), fun ds M Q hl h => ?_⟩)
  obtain ⟨p, f, fs, rfl, hf, q⟩ := h
  refine ⟨_, rfl, _, _, _, rfl, T.c_Sum.cl, T.na_factors, rfl, dI fs, .inr (by rw [show fgD f = _ from hf]), ?_⟩
  rw [List.length_map]
  exact q
def W_is_sum (K : PySem.W.Frag) (C : Addr) : DC := fun ds M Q => ∃ (p n : Int) (d : D), ds = [.int p, .int n, d] ∧ ((∃ p' f fs, d = dSum C p' f ∧ Fs f fs ∧ Q (.bl (decide (p' = p) && decide ((fs.length : Int) = n))) M) ∨ ∃ t, DTy K d t ∧ PySem.W.kitOne K t (.ref C) = some false ∧ Q (.bl false) M)
theorem ok_is_sum (T : Tx P w K mg) : FnOk P w K mg base CX0 3 T.a_is_sum T.f_is_sum ["prime", "size", "value"] (spD 3 (W_is_sum K T.a_Sum) K) := by
  refine pd_fn T.F_is_sum sc_is_sum (fun cdv A outer s H E hr => ⟨_, (pdss_one (pds_ret (pd_and (pd_callB call_isi sc_isi (by rfl) T.n_isinstance (by decide +kernel) (pda_cons (pd_name 2) (pda_cons (pd_glob (v := .ref T.a_Sum) (d := .ob T.a_Sum) (by rfl) T.g_Sum rfl (fun _ _ => .ob _)) pda_nil))) (pd_and (pd_cmp (op_eqD hr.units) sr_eq (pd_prop (pd_name 2) T.c_Sum.cl T.pp_Sum_prime (ok_Sum_prime T) (hr.mono (by decide)) T.b_Sum_prime) (pd_name 0) (nomark _)) (pd_one (pd_cmp (op_eqD hr.units) sr_eq (pd_prop (pd_name 2) T.c_Sum.cl T.pp_Sum_size (ok_Sum_size T) (hr.mono (by decide)) T.b_Sum_size) (pd_name 1) (nomark _))))))), fun ds M Q hl h => ?_⟩)
  obtain ⟨p, n, d, rfl, ⟨p', f, fs, rfl, hf, q⟩ | ⟨t, ht, hk, q⟩⟩ := h
  · refine ⟨_, rfl, _, _, _, _, _, true, rfl, dty_sum T p' f, .ob T.a_Sum, T.kt_Sum, true, rfl, ?_⟩
    refine ⟨_, rfl, _, rfl, _, _, rfl, .int p, rfl, rfl, rfl, decide (p' = p), by rw [eqD_int], ?_⟩
    by_cases e : p' = p
    · rw [decide_eq_true e] at q ⊢
      refine ⟨_, rfl, _, rfl, _, _, fs, rfl, hf, .int _, rfl, rfl, rfl, ?_⟩
      rw [eqD_int]
      exact q
    · rw [decide_eq_false e] at q ⊢
      exact q
  · refine ⟨d, rfl, _, _, _, _, _, false, rfl, ht, .ob T.a_Sum, hk, false, rfl, q⟩
def W_init (C : Addr) : DC := fun ds M Q => ∃ j p d fs, ds = [.mu j, .int p, d] ∧ M[j]? = some (.ins C []) ∧ SumOk p fs ∧
  ((d = .lst (dI fs) ∧ Q .non (M.set j (.ins C [("_prime", .int p), ("_factors", .tfz fs)]))) ∨ (d = .tup (dI fs) ∧ Q .non (M.set j (.ins C [("_prime", .int p), ("_factors", .tup (dI fs))]))) ∨ (d = .tfz fs ∧ Q .non (M.set j (.ins C [("_prime", .int p), ("_factors", .tfz fs)]))))
theorem ok_Sum_init (T : Tx P w K mg) : FnOk P w K mg base CX0 4 T.a_Sum_init T.f_Sum_init ["self", "prime", "factors"] (spD 3 (W_init T.a_Sum) K) := by
  refine pd_fn T.F_Sum_init sc_Sum_init (fun cdv A outer s H E hr => ⟨_, (pdss_cons (pds_if (pdt_not (pdt_val (pd_call (ok_is_prime T) (hr.mono (by decide)) (by rfl) T.g_is_prime T.F_is_prime.kp T.b_is_prime (pda_cons (pd_name 1) pda_nil)))) (pdss_one pds_never) pdss_nil)
      (pdss_cons (pds_if (pdt_w (pdw_or (pdt_not (pdt_val (pd_call (ok_has_items T) (hr.mono (by decide)) (by rfl) T.g_has_items T.F_has_items.kp T.b_has_items (pda_cons (pd_fg (pd_name 2)) (pda_cons pd_int (pda_cons (pd_ix (ix_id T.d_GS) sr_ixD (pd_glob (v := .ref T.a_GS) (d := .ob T.a_GS) (by rfl) T.g_GS rfl (fun _ _ => .ob _)) (pd_name 1)) pda_nil)))))) (pdw_or1 (pdt_not (pdt_val (pd_call (ok_all_between T) (hr.mono (by decide)) (by rfl) T.g_all_between T.F_all_between.kp T.b_all_between (pda_cons (pd_fg (pd_name 2)) (pda_cons pd_int (pda_cons (pd_op op_sub sr_I0i (pd_name 1) pd_int) pda_nil))))))))) (pdss_one pds_never) pdss_nil)
      (pdss_cons (pds_fldM (pd_name 1) (pd_name 0))
      (pdss_one (pds_fldM (pd_callTy call_mkT sc_mkT (by rfl) T.n_tuple (by decide +kernel) (pda_cons (pd_name 2) pda_nil)) (pd_name 0)))))), fun ds M Q hl h => ?_⟩)
  obtain ⟨j, p, d, fs, rfl, hm, hx, q⟩ := h
  obtain ⟨g, h1, h2, h3, h4⟩ := id hx
  have hj : j < M.length := (List.getElem?_eq_some_iff.mp hm).1
  have hs : isSeq (fgD d) (dI fs) := by
    rcases q with ⟨rfl, _⟩ | ⟨rfl, _⟩ | ⟨rfl, _⟩
    · exact .inl rfl
    · exact .inr rfl
    · exact .inr rfl
  refine ⟨.int p, rfl, rfl, p, rfl, true, by rw [h1]; rfl, ?_⟩
  refine ⟨d, rfl, .int p, rfl, p, g, rfl, rfl, h1, rfl, fgD d, _, _, _, rfl, hs, true, by rw [List.length_map, decide_eq_true h2, decide_eq_true h3]; rfl, ?_⟩
  refine ⟨d, rfl, .int p, rfl, p, 1, rfl, rfl, rfl, fgD d, fs, 0, p - 1, rfl, hs, small' hx, true, by rw [h4.all], ?_⟩
  refine ⟨.int p, rfl, .mu j, rfl, j, T.a_Sum, [], rfl, hm, T.c_Sum.cl, T.na_prime, by decide, ?_⟩
  refine ⟨d, rfl, d, fs, rfl, ?_⟩
  have g1 : (M.set j (.ins T.a_Sum [("_prime", .int p)]))[j]? = some (.ins T.a_Sum [("_prime", .int p)]) := by rw [List.getElem?_set_self hj]
  rcases q with ⟨rfl, q⟩ | ⟨rfl, q⟩ | ⟨rfl, q⟩
  · refine .inl ⟨rfl, .mu j, rfl, j, T.a_Sum, [("_prime", .int p)], rfl, g1, T.c_Sum.cl, T.na_factors, (by show 1 < 1000; decide), ?_⟩
    show Q .non _
    rw [List.set_set]; exact q
  · refine .inr (.inl ⟨rfl, .mu j, rfl, j, T.a_Sum, [("_prime", .int p)], rfl, g1, T.c_Sum.cl, T.na_factors, (by show 1 < 1000; decide), ?_⟩)
    show Q .non _
    rw [List.set_set]; exact q
  · refine .inr (.inr ⟨rfl, .mu j, rfl, j, T.a_Sum, [("_prime", .int p)], rfl, g1, T.c_Sum.cl, T.na_factors, (by show 1 < 1000; decide), ?_⟩)
    show Q .non _
    rw [List.set_set]; exact q
theorem make_sum {C : Addr} {p : Int} {fs : List Int} {d f : D} {M : Ms} {P : D → Ms → Prop} (hok : SumOk p fs) (hd : (d = .lst (dI fs) ∧ f = .tfz fs) ∨ (d = .tup (dI fs) ∧ f = .tup (dI fs)) ∨ (d = .tfz fs ∧ f = .tfz fs)) (hM : okM M) (q : P (dSum C p f) M) :
    ([.int p, d] : List D).length + 1 = 3 ∧ W_init C (.mu M.length :: [.int p, d]) (M ++ [.ins C []]) fun d M2 => ∃ M3 fs, d = .non ∧ M2 = M3 ++ [.ins C fs] ∧ M3.length = M.length ∧ apartF M.length fs = true ∧ apartM M.length M3 = true ∧ P (.ins C fs) M3 := by
  have hap : apartF M.length [("_prime", .int p), ("_factors", f)] = true := by
    show (true && (apart M.length f && true)) = true
    have : apart M.length f = true := by
      rcases hd with ⟨_, rfl⟩ | ⟨_, rfl⟩ | ⟨_, rfl⟩
      · rfl
      · exact apartA_ints _ _
      · rfl
    rw [this]; rfl
  refine ⟨rfl, _, p, d, fs, rfl, get_last _ _, hok, ?_⟩
  rcases hd with ⟨h1, rfl⟩ | ⟨h1, rfl⟩ | ⟨h1, rfl⟩
  · exact .inl ⟨h1, M, _, rfl, set_last _ _ _, rfl, hap, hM, q⟩
  · exact .inr (.inl ⟨h1, M, _, rfl, set_last _ _ _, rfl, hap, hM, q⟩)
  · exact .inr (.inr ⟨h1, M, _, rfl, set_last _ _ _, rfl, hap, hM, q⟩)
end
end K05

set_option Elab.async false
set_option linter.all false
set_option maxRecDepth 100000
set_option maxHeartbeats 4000000
namespace K05
open PySem PySem.Spec PyProof.Rows L2 Pd
/-! ### arithmetic of factors -/
def vsum (fs xs : List Int) : Int := (List.zipWith (fun a b => a * b) fs xs).sum
theorem pairs_mem : ∀ (fs xs : List Int) (d : D), d ∈ pairs (dI fs) (dI xs) → ∃ a b, a ∈ fs ∧ b ∈ xs ∧ d = .tup [.int a, .int b]
  | a :: fs, b :: xs, d, h => by
    rcases List.mem_cons.mp h with rfl | h
    · exact ⟨a, b, List.mem_cons_self, List.mem_cons_self, rfl⟩
    · obtain ⟨a', b', h1, h2, h3⟩ := pairs_mem fs xs d h
      exact ⟨a', b', List.mem_cons_of_mem _ h1, List.mem_cons_of_mem _ h2, h3⟩
  | [], xs, d, h => by cases xs <;> cases h
  | _ :: _, [], d, h => by cases h
def on2 (f : Int → Int → Int) : D → D := fun d => match d with | .tup [.int a, .int b] => .int (f a b) | d => d
theorem pairs_map (f : Int → Int → Int) : ∀ fs xs : List Int, (pairs (dI fs) (dI xs)).map (on2 f) = dI (List.zipWith f fs xs)
  | a :: fs, b :: xs => by
    show D.int (f a b) :: (pairs (dI fs) (dI xs)).map (on2 f) = _
    rw [pairs_map f fs xs]
    rfl
  | [], [] => rfl
  | [], _ :: _ => rfl
  | _ :: _, [] => rfl
theorem pairs_size (fs xs : List Int) : (pairs (dI fs) (dI xs)).length ≤ fs.length := by
  rw [Pd.pairs_len, List.length_map]
  exact Nat.min_le_left _ _
theorem zw_ok {p : Int} {fs gs : List Int} (f : Int → Int → Int) (h : SumOk p fs) (hl : gs.length = fs.length) : SumOk p (List.zipWith (fun a b => f a b % p) fs gs) := by
  obtain ⟨g, h1, h2, h3, h4⟩ := h
  have hp := gsz_pos h1
  have hlen : (List.zipWith (fun a b => f a b % p) fs gs).length = fs.length := by rw [List.length_zipWith, hl, Nat.min_self]
  refine ⟨g, h1, by rw [hlen]; exact h2, by rw [hlen]; exact h3, fun x hx => ?_⟩
  rw [List.mem_iff_getElem] at hx
  obtain ⟨i, hi, rfl⟩ := hx
  rw [List.getElem_zipWith]
  exact ⟨Int.emod_nonneg _ (by omega), Int.emod_lt_of_pos _ (by omega)⟩
theorem mp_ok {p : Int} {fs : List Int} (f : Int → Int) (h : SumOk p fs) : SumOk p (fs.map fun a => f a % p) := by
  obtain ⟨g, h1, h2, h3, h4⟩ := h
  have hp := gsz_pos h1
  refine ⟨g, h1, by rw [List.length_map]; exact h2, by rw [List.length_map]; exact h3, fun x hx => ?_⟩
  obtain ⟨a, _, rfl⟩ := List.mem_map.mp hx
  exact ⟨Int.emod_nonneg _ (by omega), Int.emod_lt_of_pos _ (by omega)⟩
theorem SumOk.pos {p : Int} {fs : List Int} (h : SumOk p fs) : 0 < p ∧ p ≤ 7 := by
  obtain ⟨g, h1, _⟩ := h
  have := gsz_pos h1
  omega
theorem SumOk.mem {p : Int} {fs : List Int} (h : SumOk p fs) {a : Int} (ha : a ∈ fs) : 0 ≤ a ∧ a < 7 := by
  have h1 := h.pos
  obtain ⟨g, _, _, _, h4⟩ := h
  have := h4 a ha
  omega
end K05

set_option Elab.async false
set_option linter.all false
set_option maxRecDepth 100000
set_option maxHeartbeats 4000000
namespace K05
open PySem PySem.Spec PyProof.Rows L2 Pd Spc
theorem rmd_snoc (p : Int) (l : Rw) : ∀ (R : List Rw) (row : Rw), rmd p (R ++ [l]) row = mn p (rmd p R row) l (at_ (rmd p R row) (Spc.ld l))
  | [], row => rfl
  | r :: R, row => rmd_snoc p l R _
theorem mn_len {p : Int} {row other : Rw} {t : Int} (h : other.length = row.length) : (mn p row other t).length = row.length := by unfold mn; rw [List.length_zipWith, h, Nat.min_self]
theorem mn_in {p : Int} (hp : 0 < p) {row other : Rw} {t : Int} : In p (mn p row other t) := fun x hx => by
  unfold mn at hx
  rw [List.mem_iff_getElem] at hx
  obtain ⟨i, hi, rfl⟩ := hx
  rw [List.getElem_zipWith]
  exact ⟨Int.emod_nonneg _ (by omega), Int.emod_lt_of_pos _ (by omega)⟩
theorem rmd_len {p : Int} {n : Nat} : ∀ {R : List Rw} {row : Rw}, (∀ l ∈ R, l.length = n) → row.length = n → (rmd p R row).length = n
  | [], row, _, h => h
  | r :: R, row, h1, h => rmd_len (R := R) (row := mn p row r (at_ row (Spc.ld r))) (fun l hl => h1 l (List.mem_cons_of_mem _ hl)) (by rw [mn_len (by rw [h1 r List.mem_cons_self, h]), h])
theorem rmd_in {p : Int} (hp : 0 < p) : ∀ {R : List Rw} {row : Rw}, In p row → In p (rmd p R row)
  | [], row, h => h
  | r :: R, row, h => rmd_in hp (R := R) (row := mn p row r (at_ row (Spc.ld r))) (mn_in hp)
theorem at_get {row : Rw} {i : Nat} (h : i < row.length) : (dI row)[i]? = some (.int (at_ row i)) := by
  unfold at_
  rw [List.getElem?_map, List.getElem?_eq_getElem h, List.getD_eq_getElem?_getD, List.getElem?_eq_getElem h]; rfl
theorem tI_len {row : Rw} {n : Nat} (h : n ≤ 1000) (hl : row.length = n) : row.length ≤ sizeLine := Nat.le_trans (by omega : row.length ≤ 1000) (by decide)
theorem psz {row other : List Int} (h : row.length ≤ 6) : ([] : List D).length + (pairs (dI row) (dI other)).length ≤ sizeLine := by
  have h1 := pairs_size row other
  have hs : sizeLine = 16777216 := by decide
  rw [List.length_nil]; omega
/-- a row that leads -/
structure Lrow (n : Nat) (l : Rw) : Prop where
  len : l.length = n
  one : (1 : Int) ∈ l
  low : ∀ x ∈ l, 0 ≤ x ∧ x < 7
theorem Lrow.ix {n : Nat} {l : Rw} (h : Lrow n l) : Spc.ld l < n := by unfold Spc.ld; rw [← h.len]; exact List.idxOf_lt_length_iff.mpr h.one
section
variable {P : Program} {w : World} {K : PySem.W.Frag} {mg : Str → Option Value} {base : Heap}
def W_minus : DC := fun ds M Q => ∃ (p t : Int) (r o : D) (row other : List Int), ds = [.int p, r, o, .int t] ∧ fgD r = .tup (dI row) ∧ fgD o = .tup (dI other) ∧ 0 < p ∧ (∀ b ∈ other, 0 ≤ b ∧ b < 7) ∧ row.length ≤ 6 ∧ Q (.tfz (mn p row other t)) M
theorem ok_minus (T : Tx P w K mg) : FnOk P w K mg base CX0 1 T.a_minus T.f_minus ["prime", "row", "other", "times"] (spD 4 W_minus K) := by
  refine pd_fn T.F_minus sc_minus (fun cdv A outer s H E hr => ⟨_, (pdss_one (pds_ret (pd_callTy call_mkT sc_mkT (by rfl) T.n_tuple (by decide +kernel) (pda_cons (pd_lc [("one", 4), ("two", 5)] rfl sc_minus.nd (pdi_zip (by rfl) T.n_zip (pda_cons (pd_fg (pd_name 1)) (pda_cons (pd_fg (pd_name 2)) pda_nil))) (blkOk_by (N := ["prime", "row", "other", "times", "one", "two"]) (sc := defScope s_minus) (by decide +kernel)) (fun _ _ _ _ _ => (pdg_tup (n := 2) rfl (pdgs_cons (pdg_name 4 sc_minus.nd) (pdgs_cons (pdg_name 5 sc_minus.nd) pdgs_nil)))) (fun _ _ _ _ _ => pdts_nil) (fun _ _ _ _ _ => (pd_op op_mod sr_I (pd_op op_sub sr_I0i (pd_name 4) (pd_op op_mul sr_I (pd_name 3) (pd_name 5))) (pd_name 0)))) pda_nil)))), fun ds M Q hl h => ?_⟩)
  obtain ⟨p, t, r, o, row, other, rfl, h1, h2, hp, hb, hz, q⟩ := h
  refine ⟨r, rfl, o, rfl, fgD r, fgD o, dI row, dI other, rfl, .inr h1, .inr h2, ?_⟩
  refine lc_map (on2 fun a b => (a - t * b) % p) _ _ (fun e he R hR => ?_) (psz hz) ?_
  · obtain ⟨a, b, ha, hb', rfl⟩ := pairs_mem _ _ _ he
    have := hb b hb'
    exact ⟨_, rfl, rfl, _, _, rfl, _, _, rfl, rfl, .int a, rfl, .int t, rfl, .int b, rfl, t, b, rfl, rfl, .inr ⟨by omega, by omega⟩, a, _, rfl, rfl, .int p, rfl, _, p, rfl, rfl, hp, hR⟩
  · rw [List.nil_append, pairs_map]
    exact ⟨_, _, rfl, .inl ⟨rfl, q⟩⟩
def W_remainder : DC := fun ds M Q => ∃ (p : Int) (r : D) (R : List Rw) (row : Rw) (n : Nat), ds = [.int p, .lst (R.map D.tfz), r] ∧ fgD r = .tup (dI row) ∧ 0 < p ∧ row.length = n ∧ n ≤ 6 ∧ (∀ l ∈ R, Lrow n l) ∧ (∀ d, fgD d = .tup (dI (rmd p R row)) → (R ≠ [] → d = .tfz (rmd p R row)) → Q d M)
theorem ok_remainder (T : Tx P w K mg) : FnOk P w K mg base CX0 2 T.a_remainder T.f_remainder ["prime", "reduced", "row"] (spD 3 W_remainder K) := by
  refine pd_fn T.F_remainder sc_remainder (fun cdv A outer s H E hr => ⟨_, (pdss_cons (pds_for PassesOwn.never rfl (pdi_list (pd_name 1)) (pdg_name 3 sc_remainder.nd) (pdss_one (pds_set 2 sc_remainder.nd (pd_call (ok_minus T) (hr.mono (by decide)) (by rfl) T.g_minus T.F_minus.kp T.b_minus (pda_cons (pd_name 0) (pda_cons (pd_name 2) (pda_cons (pd_name 3) (pda_cons (pd_ix ix_tup sr_ixT (pd_fg (pd_name 2)) (pd_tidx hr.units (pd_name 3) pd_int)) pda_nil))))))))
      (pdss_one (pds_ret (pd_name 2)))), fun ds M Q hl h => ?_⟩)
  obtain ⟨p, r, R, row, n, rfl, h1, hp, hln, hz, hR, q⟩ := h
  refine ⟨_, rfl, _, rfl, for_ind (fun i ρ M' => M' = M ∧ ∃ d x, ρ = [some (.int p), some (.lst (R.map D.tfz)), some d, x] ∧ fgD d = .tup (dI (rmd p (R.take i) row)) ∧ (i ≠ 0 → d = .tfz (rmd p (R.take i) row))) _ ?_ ?_ ⟨rfl, r, none, rfl, h1, fun z => absurd rfl z⟩⟩
  · rintro i d ρ M' N hd ⟨rfl, e, x, rfl, he, _⟩ hN
    have hi : i < R.length := by have := (List.getElem?_eq_some_iff.mp hd).1; rwa [List.length_map] at this
    rw [List.getElem?_map, List.getElem?_eq_getElem hi] at hd
    cases hd
    have hm := hR R[i] (List.getElem_mem hi)
    have hlen : (rmd p (R.take i) row).length = n := rmd_len (fun l hl => (hR l (List.mem_of_mem_take hl)).len) hln
    have hx : (dI (rmd p (R.take i) row))[(((R[i] : List Int).idxOf 1 : Nat) : Int).toNat]? = some (.int (at_ (rmd p (R.take i) row) (Spc.ld R[i]))) := by
      rw [Int.toNat_natCast]; exact at_get (by rw [hlen]; exact hm.ix)
    refine ⟨.int p, rfl, e, rfl, .tfz R[i], rfl, e, rfl, .tfz R[i], rfl, R[i], rfl, 1, rfl, hm.one, ?_⟩
    rw [he]
    refine ⟨_, _, _, rfl, rfl, ⟨by omega, hx⟩, rfl, p, _, e, .tfz R[i], rmd p (R.take i) row, R[i], rfl, he, rfl, hp, hm.low, by rw [hlen]; exact hz, ?_⟩
    have hs : rmd p (R.take (i + 1)) row = mn p (rmd p (R.take i) row) R[i] (at_ (rmd p (R.take i) row) (Spc.ld R[i])) := by
      rw [List.take_succ_eq_append_getElem hi]; exact rmd_snoc p _ _ _
    refine hN _ _ ⟨rfl, _, _, rfl, ?_, fun _ => ?_⟩
    · rw [hs]; rfl
    · rw [hs]
  · rintro ρ M' ⟨rfl, e, x, rfl, he, h2⟩
    rw [List.length_map, List.take_length] at he h2
    exact ⟨e, rfl, q e he fun z => h2 fun y => z (List.length_eq_zero_iff.mp y)⟩
end
end K05

set_option Elab.async false
set_option linter.all false
set_option maxRecDepth 100000
set_option maxHeartbeats 4000000
namespace K05
open PySem PySem.Spec PyProof.Rows L2 Pd Spc
def on1 (f : Int → Int) : D → D := fun d => match d with | .int a => .int (f a) | d => d
theorem on1_map (f : Int → Int) : ∀ fs : List Int, (dI fs).map (on1 f) = dI (fs.map f) := fun fs => by
  show List.map _ (List.map _ _) = List.map _ (List.map _ _)
  rw [List.map_map, List.map_map]
  rfl
/-- what is known of the spaces of one form -/
structure Univ (p : Int) (n : Nat) (SP : List (List Rw)) : Prop where
  p2 : 2 ≤ p
  p7 : p ≤ 7
  n1 : 1 ≤ n
  n4 : n ≤ 4
  g : ∃ g, gsz p = some g ∧ (n : Int) ≤ g
  nil : [] ∈ SP
  lrow : ∀ R ∈ SP, ∀ l ∈ R, l.length = n ∧ (1 : Int) ∈ l ∧ In p l
  nodup : ∀ R ∈ SP, (R.map Spc.ld).Nodup
  len : ∀ R ∈ SP, R.length ≤ 4
  inv : ∀ f : Int, 0 < f → f < p → ∃ k ∈ rngL p, k * f % p = 1
  zs0 : zs p n [] = allD p n
  step : ∀ R ∈ SP, ∀ y ∈ allD p n, Spc.step p R y ∈ SP ∧ zs p n (Spc.step p R y) = ((zs p n R).filter fun d => dot y d p == 0) ∧ blind p n R y = ((zs p n R).find? fun d => dot y d p != 0) ∧ (!nz (rmd p R y)) = ((zs p n R).find? fun d => dot y d p != 0).isNone
theorem Univ.low {p : Int} {n : Nat} {SP : List (List Rw)} (U : Univ p n SP) {R : List Rw} (h : R ∈ SP) : ∀ l ∈ R, Lrow n l := fun l hl => by
  obtain ⟨h1, h2, h3⟩ := U.lrow R h l hl
  exact ⟨h1, h2, fun x hx => ⟨(h3 x hx).1, by have := (h3 x hx).2; have := U.p7; omega⟩⟩
theorem univ_of {p : Int} {n : Nat} {SP : List (List Rw)} (h2 : 2 ≤ p) (h7 : p ≤ 7) (n1 : 1 ≤ n) (n4 : n ≤ 4) (g : ∃ g, gsz p = some g ∧ (n : Int) ≤ g) (hs : shpB p n SP = true) (hg : (SP.all fun R => good p n SP R) = true) : Univ p n SP := by
  unfold shpB at hs
  simp only [Bool.and_eq_true] at hs
  obtain ⟨⟨⟨a1, a2⟩, a3⟩, a4⟩ := hs
  have sh := fun R hR => (List.all_eq_true.mp a3) R hR
  refine ⟨h2, h7, n1, n4, g, by simpa using a1, fun R hR l hl => ?_, fun R hR => ?_, fun R hR => ?_, fun f f0 fp => ?_, by simpa using a2, fun R hR y hy => ?_⟩
  · have := sh R hR
    simp only [Bool.and_eq_true] at this
    have h3 := (List.all_eq_true.mp this.2) l hl
    simp only [Bool.and_eq_true, decide_eq_true_eq] at h3
    refine ⟨h3.1.1, by simpa using h3.1.2, fun x hx => ?_⟩
    have := (List.all_eq_true.mp h3.2) x hx
    simpa using this
  · have := sh R hR
    simp only [Bool.and_eq_true, decide_eq_true_eq] at this
    exact this.1.2
  · have := sh R hR
    simp only [Bool.and_eq_true, decide_eq_true_eq] at this
    exact this.1.1
  · have hm : f ∈ rngL p := List.mem_map.mpr ⟨f.toNat, List.mem_range.mpr (by omega), by omega⟩
    have := (List.all_eq_true.mp a4) f hm
    simp only [Bool.or_eq_true, beq_iff_eq] at this
    rcases this with z | z
    · omega
    · obtain ⟨k, hk, e⟩ := List.any_eq_true.mp z
      exact ⟨k, hk, by simpa using e⟩
  · have := (List.all_eq_true.mp hg) R hR
    unfold good at this
    have := (List.all_eq_true.mp this) y hy
    simp only [Bool.and_eq_true, beq_iff_eq] at this
    obtain ⟨⟨⟨b1, b2⟩, b3⟩, b4⟩ := this
    exact ⟨by simpa using b1, b2, b3, b4⟩
theorem fm_ne : ∀ row : List Int, (dI row).filterMap (fun d => match d with | .int x => if x = 0 then none else some (.int x) | _ => none) = dI (row.filter fun n => n != 0)
  | [] => rfl
  | x :: row => by
    have ih := fm_ne row
    show List.filterMap _ (D.int x :: dI row) = _
    by_cases h : x = 0
    · rw [List.filterMap_cons_none (by simp [h]), ih, List.filter_cons_of_neg (by simp [h])]
    · rw [List.filterMap_cons_some (b := .int x) (by simp [h]), ih, List.filter_cons_of_pos (by simp [h])]
      rfl
theorem rng_eq (p : Int) : rng 0 p.toNat = dI (rngL p) := by
  unfold rng rngL
  show _ = List.map D.int (List.map _ _)
  rw [List.map_map]
  exact List.map_congr_left fun k _ => by simp
theorem rngL_mem {p k : Int} (h : k ∈ rngL p) : 0 ≤ k ∧ k < p := by
  obtain ⟨j, hj, rfl⟩ := List.mem_map.mp h
  have := List.mem_range.mp hj
  omega
theorem fm_inv (p f : Int) : ∀ ks : List Int, (dI ks).filterMap (fun d => match d with | .int k => if k * f % p = 1 then some (.int k) else none | _ => none) = dI (ks.filter fun k => k * f % p == 1)
  | [] => rfl
  | k :: ks => by
    have ih := fm_inv p f ks
    show List.filterMap _ (D.int k :: dI ks) = _
    by_cases h : k * f % p = 1
    · rw [List.filterMap_cons_some (b := .int k) (by simp [h]), ih, List.filter_cons_of_pos (by simp [h])]; rfl
    · rw [List.filterMap_cons_none (by simp [h]), ih, List.filter_cons_of_neg (by simp [h])]
theorem head_get {q : Int → Bool} {xs : List Int} (h : ∃ x ∈ xs, q x = true) : (dI (xs.filter q))[(0 : Int).toNat]? = some (.int ((xs.filter q).headD 0)) ∧ (xs.filter q).headD 0 ∈ xs ∧ q ((xs.filter q).headD 0) = true := by
  obtain ⟨x, hx, hq⟩ := h
  have hm : x ∈ xs.filter q := List.mem_filter.mpr ⟨hx, hq⟩
  cases e : xs.filter q with
  | nil => rw [e] at hm; cases hm
  | cons y ys =>
    have hy : y ∈ xs.filter q := by rw [e]; exact List.mem_cons_self
    have := List.mem_filter.mp hy
    exact ⟨rfl, this.1, this.2⟩
section
variable {P : Program} {w : World} {K : PySem.W.Frag} {mg : Str → Option Value} {base : Heap}
def W_led : DC := fun ds M Q => ∃ (p : Int) (r : D) (row : List Int), ds = [.int p, r] ∧ fgD r = .tup (dI row) ∧ 2 ≤ p ∧ p ≤ 7 ∧ In p row ∧ row.length ≤ 6 ∧ nz row = true ∧ (∀ f : Int, 0 < f → f < p → ∃ k ∈ rngL p, k * f % p = 1) ∧ Q (.tfz (led p row)) M
theorem ok_led_by_one (T : Tx P w K mg) : FnOk P w K mg base CX0 1 T.a_led_by_one T.f_led_by_one ["prime", "row"] (spD 2 W_led K) := by
  refine pd_fn T.F_led_by_one sc_led_by_one (fun cdv A outer s H E hr => ⟨_, (pdss_cons (pds_set 2 sc_led_by_one.nd (pd_ix ix_list sr_ixL (pd_lc [("factor", 4)] rfl sc_led_by_one.nd (pdi_tup (pd_fg (pd_name 1))) (blkOk_by (N := ["prime", "row", "first", "times", "factor", "number"]) (sc := defScope s_led_by_one) (by decide +kernel)) (fun _ _ _ _ _ => (pdg_name 4 sc_led_by_one.nd)) (fun _ _ _ _ _ => pdts_one (pdt_cmp (op_neD hr.units) sr_ne (pd_name 4) pd_int (nomark _))) (fun _ _ _ _ _ => (pd_name 4))) pd_int))
      (pdss_cons (pds_set 3 sc_led_by_one.nd (pd_ix ix_list sr_ixL (pd_lc [("number", 5)] rfl sc_led_by_one.nd (pdi_range1 (by rfl) T.n_range (pda_cons (pd_name 0) pda_nil)) (blkOk_by (N := ["prime", "row", "first", "times", "factor", "number"]) (sc := defScope s_led_by_one) (by decide +kernel)) (fun _ _ _ _ _ => (pdg_name 5 sc_led_by_one.nd)) (fun _ _ _ _ _ => pdts_one (pdt_cmp (op_eqD hr.units) sr_eq (pd_op op_mod sr_I (pd_op op_mul sr_I (pd_name 5) (pd_name 2)) (pd_name 0)) pd_int (nomark _))) (fun _ _ _ _ _ => (pd_name 5))) pd_int))
      (pdss_one (pds_ret (pd_callTy call_mkT sc_mkT (by rfl) T.n_tuple (by decide +kernel) (pda_cons (pd_lc [("factor", 4)] rfl sc_led_by_one.nd (pdi_tup (pd_fg (pd_name 1))) (blkOk_by (N := ["prime", "row", "first", "times", "factor", "number"]) (sc := defScope s_led_by_one) (by decide +kernel)) (fun _ _ _ _ _ => (pdg_name 4 sc_led_by_one.nd)) (fun _ _ _ _ _ => pdts_nil) (fun _ _ _ _ _ => (pd_op op_mod sr_I (pd_op op_mul sr_I (pd_name 4) (pd_name 3)) (pd_name 0)))) pda_nil)))))), fun ds M Q hl h => ?_⟩)
  obtain ⟨p, r, row, rfl, h1, hp, hp7, hin, hz, hnz, hinv, q⟩ := h
  have hs : sizeLine = 16777216 := by decide
  have hz0 : ([] : List D).length + (dI row).length ≤ sizeLine := by rw [List.length_nil, List.length_map]; omega
  refine ⟨r, rfl, dI row, h1, ?_⟩
  refine lc_fmap (fun d => match d with | .int x => if x = 0 then none else some (.int x) | _ => none) _ _ (fun d hd R S hR hS => ?_) hz0 ?_
  · obtain ⟨x, hx, rfl⟩ := List.mem_map.mp hd
    refine ⟨.int x, rfl, rfl, rfl, !decide (x = 0), by rw [eqD_int], ?_⟩
    by_cases h : x = 0
    · simp only [h, decide_true, Bool.not_true, Bool.false_eq_true, if_false]
      exact hS (by simp [h])
    · simp only [h, decide_false, Bool.not_false, if_true]
      exact ⟨_, rfl, hR _ (by simp [h])⟩
  rw [List.nil_append, fm_ne]
  obtain ⟨e1, e2, e3⟩ := head_get (q := fun n => n != 0) (xs := row) (by obtain ⟨x, hx, h⟩ := List.any_eq_true.mp hnz; exact ⟨x, hx, h⟩)
  have hf := hin _ e2
  have hf0 : (row.filter fun n => n != 0).headD 0 ≠ 0 := by simpa using e3
  have ef : (row.filter fun n => n != 0).headD 0 = fst1 row := rfl
  rw [ef] at e1 e2 e3 hf hf0
  refine ⟨_, 0, _, rfl, rfl, ⟨by decide, e1⟩, ?_⟩
  refine ⟨.int p, rfl, p, rfl, by omega, by omega, ?_⟩
  rw [rng_eq]
  refine lc_fmap (fun d => match d with | .int k => if k * fst1 row % p = 1 then some (.int k) else none | _ => none) _ _ (fun d hd R S hR hS => ?_) (by rw [List.length_nil, List.length_map]; unfold rngL; rw [List.length_map, List.length_range]; omega) ?_
  · obtain ⟨k, hk, rfl⟩ := List.mem_map.mp hd
    have := rngL_mem hk
    refine ⟨.int k, rfl, .int (fst1 row), rfl, k, _, rfl, rfl, .inl ⟨by omega, by omega⟩, .int p, rfl, _, p, rfl, rfl, by omega, rfl, rfl, decide (k * fst1 row % p = 1), by rw [eqD_int], ?_⟩
    by_cases h : k * fst1 row % p = 1
    · simp only [h, decide_true, if_true]
      exact ⟨_, rfl, hR _ (by simp [h])⟩
    · simp only [h, decide_false, Bool.false_eq_true, if_false]
      exact hS (by simp [h])
  rw [List.nil_append, fm_inv]
  obtain ⟨k0, hk0, ek0⟩ := hinv (fst1 row) (by omega) (by omega)
  obtain ⟨u1, u2, u3⟩ := head_get (q := fun k => k * fst1 row % p == 1) (xs := rngL p) ⟨k0, hk0, by simpa using ek0⟩
  have ei : ((rngL p).filter fun k => k * fst1 row % p == 1).headD 0 = inv1 p (fst1 row) := rfl
  rw [ei] at u1 u2 u3
  have hk := rngL_mem u2
  refine ⟨_, 0, _, rfl, rfl, ⟨by decide, u1⟩, ?_⟩
  refine ⟨r, rfl, dI row, h1, ?_⟩
  refine lc_map (on1 fun a => a * inv1 p (fst1 row) % p) _ _ (fun e he R hR => ?_) hz0 ?_
  · obtain ⟨a, ha, rfl⟩ := List.mem_map.mp he
    have := hin a ha
    exact ⟨.int a, rfl, .int _, rfl, a, _, rfl, rfl, .inl ⟨by omega, by omega⟩, .int p, rfl, _, p, rfl, rfl, by omega, hR⟩
  · rw [List.nil_append, on1_map]
    exact ⟨_, _, rfl, .inl ⟨rfl, q⟩⟩
end
end K05

set_option Elab.async false
set_option linter.all false
set_option maxRecDepth 100000
set_option maxHeartbeats 4000000
namespace K05
open PySem PySem.Spec PyProof.Rows L2 Pd Spc
def tD (row : Rw) : D := .tup (dI row)
theorem red_snoc {p : Int} {rows : List Rw} {k : Nat} (h : k < rows.length) : red p (rows.take (k + 1)) = Spc.step p (red p (rows.take k)) rows[k] := by
  unfold red
  rw [List.take_succ_eq_append_getElem h, List.foldl_append]; rfl
theorem red_in {p : Int} {n : Nat} {SP : List (List Rw)} (U : Univ p n SP) : ∀ (rows : List Rw) (R : List Rw), R ∈ SP → (∀ y ∈ rows, y ∈ allD p n) → rows.foldl (Spc.step p) R ∈ SP
  | [], R, h, _ => h
  | y :: rows, R, h, hy => red_in U rows _ (U.step R h y (hy y List.mem_cons_self)).1 fun z hz => hy z (List.mem_cons_of_mem _ hz)
theorem fg_at {es : List D} {rows : List Rw} (h : es.map fgD = rows.map tD) {k : Nat} {d : D} (hd : es[k]? = some d) : ∃ hk : k < rows.length, fgD d = .tup (dI rows[k]) := by
  have h1 := congrArg (fun l => l[k]?) h
  simp only [List.getElem?_map, hd, Option.map_some] at h1
  have hk : k < rows.length := by
    have hl := congrArg List.length h
    rw [List.length_map, List.length_map] at hl
    have := (List.getElem?_eq_some_iff.mp hd).1
    omega
  rw [List.getElem?_eq_getElem hk] at h1
  exact ⟨hk, Option.some.inj h1⟩
section
variable {P : Program} {w : World} {K : PySem.W.Frag} {mg : Str → Option Value} {base : Heap}
def W_red : DC := fun ds M Q => ∃ (p : Int) (n : Nat) (SP : List (List Rw)) (es : List D) (rows : List Rw), ds = [.int p, .lst es] ∧ Univ p n SP ∧ es.map fgD = rows.map tD ∧ (∀ y ∈ rows, y ∈ allD p n) ∧ Q (.lst ((red p rows).map D.tfz)) M
theorem ok_reduced_rows (T : Tx P w K mg) : FnOk P w K mg base CX0 3 T.a_reduced_rows T.f_reduced_rows ["prime", "rows"] (spD 2 W_red K) := by
  refine pd_fn T.F_reduced_rows sc_reduced_rows (fun cdv A outer s H E hr => ⟨_, (pdss_cons (pds_set 2 sc_reduced_rows.nd (pd_lst pda_nil))
      (pdss_cons (pds_for PassesOwn.never rfl (pdi_list (pd_name 1)) (pdg_name 3 sc_reduced_rows.nd) (pdss_cons (pds_set 4 sc_reduced_rows.nd (pd_call (ok_remainder T) (hr.mono (by decide)) (by rfl) T.g_remainder T.F_remainder.kp T.b_remainder (pda_cons (pd_name 0) (pda_cons (pd_name 2) (pda_cons (pd_name 3) pda_nil)))))
      (pdss_one (pds_if (pdt_val (pd_callB (cr_anyT rfl) sc_anyT (by rfl) T.n_any (by decide +kernel) (pda_cons (pd_fg (pd_name 4)) pda_nil))) (pdss_cons (pds_set 5 sc_reduced_rows.nd (pd_call (ok_led_by_one T) (hr.mono (by decide)) (by rfl) T.g_led_by_one T.F_led_by_one.kp T.b_led_by_one (pda_cons (pd_name 0) (pda_cons (pd_name 4) pda_nil))))
      (pdss_cons (pds_setLc 6 [("other", 7)] rfl sc_reduced_rows.nd rfl rfl (sw_true rfl rfl rfl (by decide +kernel)) (pdi_list (pd_name 2)) (blkOk_by (N := ["prime", "rows", "reduced", "row", "rest", "lead", "others", "other"]) (sc := defScope s_reduced_rows) (by decide +kernel)) (fun _ _ _ _ _ => (pdg_name 7 sc_reduced_rows.nd)) (fun _ _ _ _ _ => pdts_nil) (fun _ _ _ _ _ => (pd_call (ok_remainder T) (hr.mono (by decide)) (by rfl) T.g_remainder T.F_remainder.kp T.b_remainder (pda_cons (pd_name 0) (pda_cons (pd_lst (pda_cons (pd_name 5) pda_nil)) (pda_cons (pd_name 7) pda_nil))))))
      (pdss_one (pds_set 2 sc_reduced_rows.nd (pd_sortRev hr.units (by rfl) T.n_sorted (pd_lst (pda_cons (pd_name 5) (pda_star (pd_name 6) pda_nil))) (pdk_cons pd_bl pdk_nil)))))) pdss_nil))))
      (pdss_one (pds_ret (pd_name 2))))), fun ds M Q hl h => ?_⟩)
  obtain ⟨p, n, SP, es, rows, rfl, U, hes, hrows, q⟩ := h
  have hs : sizeLine = 16777216 := by decide
  have hp := U.p2
  have hp7 := U.p7
  have hn := U.n4
  have hlen : es.length = rows.length := by have := congrArg List.length hes; rwa [List.length_map, List.length_map] at this
  refine ⟨by decide, ?_⟩
  refine ⟨_, rfl, _, rfl, for_ind (fun k ρ M' => M' = M ∧ ∃ x3 x4 x5 x6 x7, ρ = [some (.int p), some (.lst es), some (.lst ((red p (rows.take k)).map D.tfz)), x3, x4, x5, x6, x7]) _ ?_ ?_ ⟨rfl, none, none, none, none, none, rfl⟩⟩
  · rintro k d ρ M' N hd ⟨rfl, x3, x4, x5, x6, x7, rfl⟩ hN
    obtain ⟨hk, hfd⟩ := fg_at hes hd
    have hRS : red p (rows.take k) ∈ SP := red_in U _ _ U.nil fun y hy => hrows y (List.mem_of_mem_take hy)
    have hy := hrows _ (List.getElem_mem hk)
    obtain ⟨hyl, hyi⟩ := allD_mem hy
    have hst := (U.step _ hRS _ hy).1
    rw [red_snoc hk] at hN
    generalize hR : red p (rows.take k) = R at hRS hst hN ⊢
    generalize rows[k] = y at hfd hy hyl hyi hst hN
    have hlow := U.low hRS
    have hrl : (rmd p R y).length = n := rmd_len (fun l hl => (hlow l hl).len) hyl
    refine ⟨.int p, rfl, _, rfl, d, rfl, rfl, p, d, R, y, n, rfl, hfd, by omega, hyl, by omega, hlow, fun e he _ => ?_⟩
    refine ⟨e, rfl, rmd p R y, by rw [he], nz (rmd p R y), rfl, ?_⟩
    cases hnz : nz (rmd p R y) with
    | false =>
      have e1 : Spc.step p R y = R := by unfold Spc.step; rw [if_neg (by rw [hnz]; decide)]
      rw [e1] at hN
      exact hN _ _ ⟨rfl, _, _, _, _, _, rfl⟩
    | true =>
      have e1 : Spc.step p R y = srtD (led p (rmd p R y) :: R.map fun o => rmd p [led p (rmd p R y)] o) := by unfold Spc.step; rw [if_pos hnz]
      rw [e1] at hN hst
      have hl2 := U.low hst
      have hll : Lrow n (led p (rmd p R y)) := hl2 _ ((srtD_perm _).mem_iff.mpr List.mem_cons_self)
      refine ⟨.int p, rfl, e, rfl, rfl, p, e, rmd p R y, rfl, he, hp, hp7, rmd_in (by omega) hyi, by omega, hnz, U.inv, ?_⟩
      generalize led p (rmd p R y) = l at hll hl2 hst hN ⊢
      refine ⟨_, rfl, _, rfl, lc_map (fun d => match d with | .tfz o => .tfz (rmd p [l] o) | d => d) _ _ (fun d3 hd3 R3 hR3 => ?_) (by rw [List.length_nil, List.length_map]; have := U.len R hRS; omega) ?_⟩
      · obtain ⟨o, ho, rfl⟩ := List.mem_map.mp hd3
        refine ⟨.int p, rfl, .tfz l, rfl, (by show 1 ≤ sizeLine; decide), .tfz o, rfl, rfl, p, .tfz o, [l], o, n, rfl, rfl, by omega, (hlow o ho).len, by omega, fun l' hl' => by rw [List.mem_singleton.mp hl']; exact hll, fun d4 _ h4 => ?_⟩
        rw [h4 (by simp)]
        exact hR3
      · have e2 : (R.map D.tfz).map (fun d => match d with | .tfz o => .tfz (rmd p [l] o) | d => d) = (R.map fun o => rmd p [l] o).map D.tfz := by
          rw [List.map_map, List.map_map]; rfl
        rw [List.nil_append, e2]
        refine ⟨.tfz l, rfl, _, rfl, _, .inl rfl, ?_, l :: R.map (fun o => rmd p [l] o), ?_, fun r hr => ?_, rfl, ?_⟩
        · rw [List.append_nil, List.length_cons, List.length_map, List.length_map]; have := U.len R hRS; omega
        · rw [List.append_nil]; rfl
        · intro z
          have := (hl2 r ((srtD_perm _).mem_iff.mpr hr)).one
          rw [z] at this
          cases this
        · rw [sort_eq]
          exact hN _ _ ⟨rfl, _, _, _, _, _, rfl⟩
  · rintro ρ M' ⟨rfl, x3, x4, x5, x6, x7, rfl⟩
    rw [hlen, List.take_length]
    exact ⟨_, rfl, q⟩
end
end K05

set_option Elab.async false
set_option linter.all false
set_option maxRecDepth 100000
set_option maxHeartbeats 4000000
namespace K05
open PySem PySem.Spec PyProof.Rows L2 Pd Spc
theorem dc_map {g : DG} {tk tv : DE} {ρ : Rho} {P : D → Ms → Prop} {M : Ms} (fk : D → Key) (fv : D → D) : ∀ (ds : List D) (ks : List Key) (acc : List D), (∀ d ∈ ds, ∀ S : D → D → Ms → Prop, S (keyD (fk d)) (fv d) M → g d ρ fun ρ' => tk ρ' M fun kd M1 => tv ρ' M1 fun y M2 => S kd y M2) →
    (ks ++ ds.map fk).Nodup → acc.length + ds.length ≤ sizeLine → P (.dic (ks ++ ds.map fk) (acc ++ ds.map fv)) M → dcRun g tk tv ρ P ds ks acc M
  | [], ks, acc, _, _, _, p => by
    show P (.dic ks acc) M
    simpa using p
  | d :: r, ks, acc, h, hn, hz, p => by
    rw [List.length_cons] at hz
    refine h d List.mem_cons_self (fun kd y M2 => ∃ k, kd = keyD k ∧ k ∉ ks ∧ acc.length < sizeLine ∧ dcRun g tk tv ρ P r (ks ++ [k]) (acc ++ [y]) M2) ⟨fk d, rfl, fun z => ?_, by omega, dc_map fk fv r _ _ (fun d' h' => h d' (List.mem_cons_of_mem _ h')) ?_ (by rw [List.length_append, List.length_singleton]; omega) ?_⟩
    · rw [List.map_cons] at hn
      exact (List.nodup_append.mp hn).2.2 _ z _ List.mem_cons_self rfl
    · rw [List.append_assoc]; exact hn
    · rw [List.append_assoc, List.append_assoc]; exact p
theorem get_find {p : Int} {free i : Nat} : ∀ R : List Rw, (dicGet (R.map fun l => (Sum.inl ((Spc.ld l : Nat) : Int) : Key)) (R.map fun l => D.int (-(at_ l free) % p)) (.inl (i : Int))).getD (.int 0) = .int (forced R p free i)
  | [] => rfl
  | l :: R => by
    have ih := get_find (p := p) (free := free) (i := i) R
    unfold dicGet forced at ih ⊢
    rw [List.map_cons, List.map_cons, List.zip_cons_cons]
    by_cases e : Spc.ld l = i
    · rw [List.find?_cons_of_pos (by simp [e]), List.find?_cons_of_pos (by simp [e])]; rfl
    · have e' : ¬ ((Spc.ld l : Nat) : Int) = (i : Int) := fun z => e (by exact_mod_cast z)
      rw [List.find?_cons_of_neg (by simpa using e'), List.find?_cons_of_neg (by simpa using e)]; exact ih
theorem forced_in {p : Int} (hp : 0 < p) {R : List Rw} {free i : Nat} : 0 ≤ forced R p free i ∧ forced R p free i < p := by
  unfold forced
  split
  · exact ⟨Int.emod_nonneg _ (by omega), Int.emod_lt_of_pos _ hp⟩
  · exact ⟨Int.le_refl _, hp⟩
theorem zrow_in {p : Int} (hp : 2 ≤ p) (n : Nat) (R : List Rw) (free : Nat) : zrow p n R free ∈ allD p n := by
  refine mem_allD (by omega) (by unfold zrow; rw [List.length_map, List.length_range]) fun x hx => ?_
  unfold zrow at hx
  obtain ⟨i, _, rfl⟩ := List.mem_map.mp hx
  split
  · omega
  · exact forced_in (by omega)
section
variable {P : Program} {w : World} {K : PySem.W.Frag} {mg : Str → Option Value} {base : Heap}
def W_zrow : DC := fun ds M Q => ∃ (p : Int) (n free : Nat) (SP R : List (List Rw)) (R : List Rw), ds = [.int p, .int n, .lst (R.map D.tfz), .int free] ∧ Univ p n SP ∧ R ∈ SP ∧ free < n ∧ Q (.tfz (zrow p n R free)) M
theorem ok_zero_row (T : Tx P w K mg) : FnOk P w K mg base CX0 1 T.a_zero_row T.f_zero_row ["prime", "size", "reduced", "free"] (spD 4 W_zrow K) := by
  refine pd_fn T.F_zero_row sc_zero_row (fun cdv A outer s H E hr => ⟨_, (pdss_cons (pds_set 4 sc_zero_row.nd (pd_dc [("row", 5)] rfl sc_zero_row.nd (pdi_list (pd_name 2)) (blkOk_by (N := ["prime", "size", "reduced", "free", "forced", "row", "place"]) (sc := defScope s_zero_row) (by decide +kernel)) (fun _ _ _ _ _ => (pdg_name 5 sc_zero_row.nd)) (fun _ _ _ _ _ => (pd_tidx hr.units (pd_name 5) pd_int)) (fun _ _ _ _ _ => (pd_op op_mod sr_I (pd_un un_neg su_U (pd_ix ix_tup sr_ixT (pd_fg (pd_name 5)) (pd_name 3))) (pd_name 0)))))
      (pdss_one (pds_ret (pd_callTy call_mkT sc_mkT (by rfl) T.n_tuple (by decide +kernel) (pda_cons (pd_lc [("place", 6)] rfl sc_zero_row.nd (pdi_range1 (by rfl) T.n_range (pda_cons (pd_name 1) pda_nil)) (blkOk_by (N := ["prime", "size", "reduced", "free", "forced", "row", "place"]) (sc := defScope s_zero_row) (by decide +kernel)) (fun _ _ _ _ _ => (pdg_name 6 sc_zero_row.nd)) (fun _ _ _ _ _ => pdts_nil) (fun _ _ _ _ _ => (pd_ifExp (pdt_cmp (op_eqD hr.units) sr_eq (pd_name 6) (pd_name 3) (nomark _)) pd_int (pd_dget2 hr.units (pd_name 4) (pd_name 6) pd_int)))) pda_nil))))), fun ds M Q hl h => ?_⟩)
  obtain ⟨p, n, free, SP, _, R, rfl, U, hR, hf, q⟩ := h
  have hs : sizeLine = 16777216 := by decide
  have hp := U.p2
  have hn := U.n4
  have hlow := U.low hR
  refine ⟨_, rfl, _, rfl, dc_map (fun d => match d with | .tfz l => .inl ((Spc.ld l : Nat) : Int) | _ => .inl 0) (fun d => match d with | .tfz l => .int (-(at_ l free) % p) | d => d) _ _ _ (fun d hd S hS => ?_) ?_ (by rw [List.length_nil, List.length_map]; have := U.len R hR; omega) ?_⟩
  · obtain ⟨l, hl, rfl⟩ := List.mem_map.mp hd
    have hll := hlow l hl
    refine ⟨.tfz l, rfl, l, rfl, 1, rfl, hll.one, ?_⟩
    refine ⟨.tfz l, rfl, .int free, rfl, _, _, .int (at_ l free), rfl, rfl, ⟨by omega, by rw [Int.toNat_natCast]; exact at_get (by rw [hll.len]; exact hf)⟩, _, rfl, .int p, rfl, _, p, rfl, rfl, by omega, hS⟩
  · rw [List.nil_append, List.map_map]
    have := U.nodup R hR
    unfold List.Nodup at this ⊢
    rw [List.pairwise_map] at this ⊢
    refine this.imp fun h z => h ?_
    have z' := Sum.inl.inj z
    exact_mod_cast z'
  · rw [List.nil_append, List.nil_append, List.map_map, List.map_map]
    refine ⟨.int n, rfl, n, rfl, by omega, by omega, ?_⟩
    refine lc_map (fun d => match d with | .int i => .int (if i = (free : Int) then 1 else forced R p free i.toNat) | d => d) _ _ (fun d hd R3 hR3 => ?_) (by rw [rng_len, List.length_nil, Int.toNat_natCast]; omega) ?_
    · obtain ⟨i, hi, rfl⟩ := List.mem_map.mp hd
      have hR' : R3 (.int (if 0 + (i : Int) = (free : Int) then 1 else forced R p free (0 + (i : Int)).toNat)) M := hR3
      refine ⟨.int _, rfl, .int _, rfl, rfl, rfl, decide (0 + (i : Int) = free), by rw [eqD_int], ?_⟩
      by_cases e : 0 + (i : Int) = (free : Int)
      · rw [if_pos e] at hR'
        rw [decide_eq_true e]
        exact hR'
      · rw [if_neg e, show (0 + (i : Int)).toNat = i by omega] at hR'
        rw [decide_eq_false e]
        refine ⟨_, rfl, _, _, rfl, .int (0 + (i : Int)), rfl, .inl (0 + (i : Int)), rfl, ?_⟩
        rw [Int.zero_add]
        have := get_find (p := p) (free := free) (i := i) R
        exact at_val this hR'
    · rw [List.nil_append]
      refine ⟨_, zrow p n R free, rfl, .inl ⟨?_, q⟩⟩
      unfold rng zrow
      rw [List.map_map, Int.toNat_natCast]
      show D.lst _ = D.lst (List.map D.int (List.map _ _))
      rw [List.map_map]
      congr 1
      refine List.map_congr_left fun i _ => ?_
      show D.int _ = D.int _
      congr 1
      have e : (0 + (i : Int)).toNat = i := by omega
      rw [e]
      show _ = if i = free then 1 else forced R p free i
      by_cases h : i = free
      · rw [if_pos h, if_pos (by omega)]
      · rw [if_neg h, if_neg (by omega)]
end
end K05

set_option Elab.async false
set_option linter.all false
set_option maxRecDepth 100000
set_option maxHeartbeats 4000000
namespace K05
open PySem PySem.Spec PyProof.Rows L2 Pd Spc
theorem any_ld (i : Nat) : ∀ R : List Rw, ((R.map fun l => D.int ((Spc.ld l : Nat) : Int)).any fun z => eqD z (.int (0 + (i : Int)))) = (R.map Spc.ld).contains i
  | [] => rfl
  | l :: R => by
    have ih := any_ld i R
    rw [List.map_cons, List.map_cons, List.any_cons, ih, List.contains_cons, eqD_int]
    congr 1
    rw [Bool.eq_iff_iff]
    simp
    omega
theorem fm_free {p : Int} {n : Nat} {R : List Rw} : ∀ ks : List Nat, (ks.map fun (k : Nat) => D.int (0 + (k : Int))).filterMap (fun d => match d with | .int i => if (R.map Spc.ld).contains i.toNat then none else some (.tfz (zrow p n R i.toNat)) | _ => none) = ((ks.filter fun i => !((R.map Spc.ld).contains i)).map (zrow p n R)).map D.tfz
  | [] => rfl
  | k :: ks => by
    have ih := fm_free (p := p) (n := n) (R := R) ks
    have e : (0 + (k : Int)).toNat = k := by omega
    rw [List.map_cons]
    cases h : (R.map Spc.ld).contains k with
    | true => rw [List.filterMap_cons_none (by simp only [e, h, if_true]), ih, List.filter_cons_of_neg (by rw [h]; decide)]
    | false => rw [List.filterMap_cons_some (b := .tfz (zrow p n R k)) (by simp only [e, h]; rfl), ih, List.filter_cons_of_pos (by rw [h]; rfl)]; rfl
theorem tfz_fg (rows : List Rw) : (rows.map D.tfz).map fgD = rows.map tD := by rw [List.map_map]; rfl
theorem zrows_in {p : Int} {n : Nat} {SP : List (List Rw)} (U : Univ p n SP) (R : List Rw) : zrows p n R ∈ SP := by
  unfold zrows red
  refine red_in U _ _ U.nil fun y hy => ?_
  obtain ⟨i, _, rfl⟩ := List.mem_map.mp hy
  exact zrow_in U.p2 n R i
section
variable {P : Program} {w : World} {K : PySem.W.Frag} {mg : Str → Option Value} {base : Heap}
def W_zrows : DC := fun ds M Q => ∃ (p : Int) (n : Nat) (SP : List (List Rw)) (R : List Rw), ds = [.int p, .int n, .lst (R.map D.tfz)] ∧ Univ p n SP ∧ R ∈ SP ∧ Q (.lst ((zrows p n R).map D.tfz)) M
theorem ok_zero_rows (T : Tx P w K mg) : FnOk P w K mg base CX0 4 T.a_zero_rows T.f_zero_rows ["prime", "size", "reduced"] (spD 3 W_zrows K) := by
  refine pd_fn T.F_zero_rows sc_zero_rows (fun cdv A outer s H E hr => ⟨_, (pdss_cons (pds_set 3 sc_zero_rows.nd (pd_lc [("row", 5)] rfl sc_zero_rows.nd (pdi_list (pd_name 2)) (blkOk_by (N := ["prime", "size", "reduced", "leads", "rows", "row", "place"]) (sc := defScope s_zero_rows) (by decide +kernel)) (fun _ _ _ _ _ => (pdg_name 5 sc_zero_rows.nd)) (fun _ _ _ _ _ => pdts_nil) (fun _ _ _ _ _ => (pd_tidx hr.units (pd_name 5) pd_int))))
      (pdss_cons (pds_setLc 4 [("place", 6)] rfl sc_zero_rows.nd rfl rfl (sw_true rfl rfl rfl (by decide +kernel)) (pdi_range1 (by rfl) T.n_range (pda_cons (pd_name 1) pda_nil)) (blkOk_by (N := ["prime", "size", "reduced", "leads", "rows", "row", "place"]) (sc := defScope s_zero_rows) (by decide +kernel)) (fun _ _ _ _ _ => (pdg_name 6 sc_zero_rows.nd)) (fun _ _ _ _ _ => pdts_one (pdt_cmp (op_ninI hr.units) sr_ninI (pd_name 6) (pd_name 3) (by rfl))) (fun _ _ _ _ _ => (pd_call (ok_zero_row T) (hr.mono (by decide)) (by rfl) T.g_zero_row T.F_zero_row.kp T.b_zero_row (pda_cons (pd_name 0) (pda_cons (pd_name 1) (pda_cons (pd_name 2) (pda_cons (pd_name 6) pda_nil)))))))
      (pdss_one (pds_ret (pd_call (ok_reduced_rows T) (hr.mono (by decide)) (by rfl) T.g_reduced_rows T.F_reduced_rows.kp T.b_reduced_rows (pda_cons (pd_name 0) (pda_cons (pd_name 4) pda_nil))))))), fun ds M Q hl h => ?_⟩)
  obtain ⟨p, n, SP, R, rfl, U, hR, q⟩ := h
  have hs : sizeLine = 16777216 := by decide
  have hn := U.n4
  have hlow := U.low hR
  refine ⟨_, rfl, _, rfl, lc_map (fun d => match d with | .tfz l => .int ((Spc.ld l : Nat) : Int) | d => d) _ _ (fun d hd R3 hR3 => ?_) (by rw [List.length_nil, List.length_map]; have := U.len R hR; omega) ?_⟩
  · obtain ⟨l, hl, rfl⟩ := List.mem_map.mp hd
    exact ⟨.tfz l, rfl, l, rfl, 1, rfl, (hlow l hl).one, hR3⟩
  rw [List.nil_append, List.map_map]
  have e1 : R.map ((fun d => match d with | .tfz l => D.int ((Spc.ld l : Nat) : Int) | d => d) ∘ D.tfz) = R.map fun l => D.int ((Spc.ld l : Nat) : Int) := rfl
  rw [e1]
  have okl : okD (.lst (R.map fun l => D.int ((Spc.ld l : Nat) : Int))) = true := by
    have : (R.map fun l => D.int ((Spc.ld l : Nat) : Int)) = dI (R.map fun l => ((Spc.ld l : Nat) : Int)) := by
      show _ = List.map _ (List.map _ _)
      rw [List.map_map]; rfl
    rw [this]; exact okD_lst _
  refine ⟨.int n, rfl, n, rfl, by omega, by omega, ?_⟩
  refine lc_fmap (fun d => match d with | .int i => if (R.map Spc.ld).contains i.toNat then none else some (.tfz (zrow p n R i.toNat)) | _ => none) _ _ (fun d hd R3 S hR3 hS => ?_) (by rw [List.length_nil, rng_len, Int.toNat_natCast]; omega) ?_
  · obtain ⟨i, hi, rfl⟩ := List.mem_map.mp hd
    rw [Int.toNat_natCast, List.mem_range] at hi
    have e : (0 + (i : Int)).toNat = i := by omega
    refine ⟨.int _, rfl, _, rfl, _, rfl, rfl, okl, (by show 0 ≤ 60; decide), _, rfl, ?_⟩
    rw [any_ld]
    cases h : (R.map Spc.ld).contains i with
    | true => exact hS (by simp only [e, h, if_true])
    | false =>
      refine ⟨.int p, rfl, .int n, rfl, _, rfl, .int (0 + (i : Int)), rfl, rfl, p, n, i, SP, [], R, ?_, U, hR, hi, hR3 _ (by simp only [e, h]; rfl)⟩
      rw [Int.zero_add]
  rw [List.nil_append]
  refine ⟨.int p, rfl, _, rfl, rfl, p, n, SP, _, (((List.range n).filter fun i => !((R.map Spc.ld).contains i)).map (zrow p n R)), rfl, U, ?_, fun y hy => ?_, q⟩
  · rw [← tfz_fg]
    congr 1
    unfold rng
    rw [Int.toNat_natCast]
    exact fm_free _
  · obtain ⟨i, _, rfl⟩ := List.mem_map.mp hy
    exact zrow_in U.p2 n R i
end
end K05

set_option Elab.async false
set_option linter.all false
set_option maxRecDepth 100000
set_option maxHeartbeats 4000000
namespace K05
open PySem PySem.Spec PyProof.Rows L2 Pd Spc
def spF (S : Addr) (p : Int) (n : Nat) (R : List Rw) : List (Str × D) := [("_prime", .int p), ("_size", .int n), ("_rows", .lst (R.map D.tfz)), ("_reduced", .tup (R.map fun r => dSum S p (.tfz r)))]
def dSpace (S C : Addr) (p : Int) (n : Nat) (R : List Rw) : D := .ins C (spF S p n R)
theorem apart_tfz (k : Nat) : ∀ R : List Rw, apartA k (R.map D.tfz) = true
  | [] => rfl
  | r :: R => apart_tfz k R
theorem apart_sums (S : Addr) (p : Int) (k : Nat) : ∀ R : List Rw, apartA k (R.map fun r => dSum S p (.tfz r)) = true
  | [] => rfl
  | r :: R => apart_sums S p k R
theorem okM_ins {M : Ms} {j : Nat} {C : Addr} {fs : List (Str × D)} (h : okM M) (hf : apartF M.length fs = true) : okM (M.set j (.ins C fs)) := by
  unfold okM at h ⊢
  rw [List.length_set]
  refine List.all_eq_true.mpr fun m hm => ?_
  rcases List.mem_or_eq_of_mem_set hm with h1 | h1
  · exact List.all_eq_true.mp h m h1
  · rw [h1]; exact hf
theorem sum_ok {p : Int} {n : Nat} {SP : List (List Rw)} (U : Univ p n SP) {y : Rw} (h : y ∈ allD p n) : SumOk p y := by
  obtain ⟨g, g1, g2⟩ := U.g
  obtain ⟨h1, h2⟩ := allD_mem h
  have := U.n1
  exact ⟨g, g1, by rw [h1]; omega, by rw [h1]; exact g2, h2⟩
theorem lead_all {p : Int} {n : Nat} {SP : List (List Rw)} (U : Univ p n SP) {R : List Rw} (hR : R ∈ SP) {l : Rw} (hl : l ∈ R) : l ∈ allD p n := by
  obtain ⟨h1, h2, h3⟩ := U.lrow R hR l hl
  exact mem_allD (by have := U.p2; omega) h1 h3
section
variable {P : Program} {w : World} {K : PySem.W.Frag} {mg : Str → Option Value} {base : Heap}
def W_contains (K : PySem.W.Frag) (S C : Addr) : DC := fun ds M Q => ∃ (p : Int) (n : Nat) (SP : List (List Rw)) (R : List Rw) (d : D), ds = [dSpace S C p n R, d] ∧ Univ p n SP ∧ R ∈ SP ∧
  ((∃ f y, d = dSum S p f ∧ fgD f = .tup (dI y) ∧ y ∈ allD p n ∧ Q (.bl (!nz (rmd p R y))) M) ∨ (∃ p' f fs, d = dSum S p' f ∧ fgD f = .tup (dI fs) ∧ p' ≠ p ∧ Q (.bl false) M) ∨ ∃ t, DTy K d t ∧ PySem.W.kitOne K t (.ref S) = some false ∧ Q (.bl false) M)
theorem ok_Space_contains (T : Tx P w K mg) : FnOk P w K mg base CX0 4 T.a_Space_contains T.f_Space_contains ["self", "x"] (spD 2 (W_contains K T.a_Sum T.a_Space) K) := by
  refine pd_fn T.F_Space_contains sc_Space_contains (fun cdv A outer s H E hr => ⟨_, (pdss_cons (pds_if (pdt_not (pdt_val (pd_call (ok_is_sum T) (hr.mono (by decide)) (by rfl) T.g_is_sum T.F_is_sum.kp T.b_is_sum (pda_cons (pd_fldK (K := K) rfl (pd_name 0)) (pda_cons (pd_fldK (K := K) rfl (pd_name 0)) (pda_cons (pd_name 1) pda_nil)))))) (pdss_one (pds_ret pd_bl)) pdss_nil)
      (pdss_one (pds_ret (pd_not (pd_callB (cr_anyT rfl) sc_anyT (by rfl) T.n_any (by decide +kernel) (pda_cons (pd_fg (pd_call (ok_remainder T) (hr.mono (by decide)) (by rfl) T.g_remainder T.F_remainder.kp T.b_remainder (pda_cons (pd_fldK (K := K) rfl (pd_name 0)) (pda_cons (pd_fldK (K := K) rfl (pd_name 0)) (pda_cons (pd_prop (pd_name 1) T.c_Sum.cl T.pp_Sum_factors (ok_Sum_factors T) (hr.mono (by decide)) T.b_Sum_factors) pda_nil))))) pda_nil)))))), fun ds M Q hl h => ?_⟩)
  obtain ⟨p, n, SP, R, d, rfl, U, hR, h⟩ := h
  have hp := U.p2
  have hn := U.n4
  rcases h with ⟨f, y, rfl, hf, hy, q⟩ | ⟨p', f, fs, rfl, hf, hp', q⟩ | ⟨t, ht, hk, q⟩
  · obtain ⟨y1, y2⟩ := allD_mem hy
    refine ⟨_, rfl, _, _, _, rfl, T.c_Space.cl, T.ns_prime, rfl, _, rfl, _, _, _, rfl, T.c_Space.cl, T.ns_size, rfl, _, rfl, rfl, p, n, _, rfl, .inl ⟨p, f, y, rfl, hf, true, by rw [y1, decide_eq_true rfl, decide_eq_true rfl]; rfl, ?_⟩⟩
    refine ⟨_, rfl, _, _, _, rfl, T.c_Space.cl, T.ns_prime, rfl, _, rfl, _, _, _, rfl, T.c_Space.cl, T.ns_rows, rfl, _, rfl, _, rfl, p, f, rfl, rfl, p, f, R, y, n, rfl, hf, by omega, y1, by omega, U.low hR, fun e he _ => ?_⟩
    exact ⟨rmd p R y, by rw [he], nz (rmd p R y), rfl, q⟩
  · refine ⟨_, rfl, _, _, _, rfl, T.c_Space.cl, T.ns_prime, rfl, _, rfl, _, _, _, rfl, T.c_Space.cl, T.ns_size, rfl, _, rfl, rfl, p, n, _, rfl, .inl ⟨p', f, fs, rfl, hf, false, by rw [decide_eq_false hp']; rfl, ?_⟩⟩
    exact q
  · refine ⟨_, rfl, _, _, _, rfl, T.c_Space.cl, T.ns_prime, rfl, _, rfl, _, _, _, rfl, T.c_Space.cl, T.ns_size, rfl, _, rfl, rfl, p, n, d, rfl, .inr ⟨t, ht, hk, false, rfl, ?_⟩⟩
    exact q
/-! ### a space made -/
def W_spinit (S C : Addr) : DC := fun ds M Q => ∃ (j : Nat) (p : Int) (n : Nat) (SP : List (List Rw)) (fsD : List D) (sd : D) (rows : List Rw), ds = [.mu j, .int p, .int n, sd] ∧ isSeq sd (fsD.map (dSum S p)) ∧ M[j]? = some (.ins C []) ∧ okM M ∧ Univ p n SP ∧ fsD.map fgD = rows.map tD ∧ fsD.length ≤ 1000 ∧ (∀ y ∈ rows, y ∈ allD p n) ∧ Q .non (M.set j (.ins C (spF S p n (red p rows))))
theorem ok_Space_init (T : Tx P w K mg) : FnOk P w K mg base CX0 6 T.a_Space_init T.f_Space_init ["self", "prime", "size", "sums"] (spD 4 (W_spinit T.a_Sum T.a_Space) K) := by
  refine pd_fnD T.F_Space_init sc_Space_init (fun cdv A outer s H E hr => ⟨_, (pdss_cons (pds_expr (pd_call (ok_expect_prime_and_size T) (hr.mono (by decide)) (by rfl) T.g_expect_prime_and_size T.F_expect_prime_and_size.kp T.b_expect_prime_and_size (pda_cons (pd_name 1) (pda_cons (pd_name 2) pda_nil))))
      (pdss_cons (pds_if (pdt_not (pdt_val (pd_isi2 (T1 := "list") (T2 := "tuple") (by rfl) T.n_isinstance (pd_name 3) (by rfl) T.n_list (by decide +kernel) (by rfl) T.n_tuple (by decide +kernel)))) (pdss_one pds_never) pdss_nil)
      (pdss_cons (pds_for PassesOwn.never rfl (pdi_seq (pd_name 3)) (pdg_name 4 sc_Space_init.nd) (pdss_one (pds_if (pdt_not (pdt_val (pd_call (ok_is_sum T) (hr.mono (by decide)) (by rfl) T.g_is_sum T.F_is_sum.kp T.b_is_sum (pda_cons (pd_name 1) (pda_cons (pd_name 2) (pda_cons (pd_name 4) pda_nil)))))) (pdss_one pds_never) pdss_nil)))
      (pdss_cons (pds_fldM (pd_name 1) (pd_name 0))
      (pdss_cons (pds_fldM (pd_name 2) (pd_name 0))
      (pdss_cons (pds_fldM (pd_call (ok_reduced_rows T) (hr.mono (by decide)) (by rfl) T.g_reduced_rows T.F_reduced_rows.kp T.b_reduced_rows (pda_cons (pd_name 1) (pda_cons (pd_lc [("item", 4)] rfl sc_Space_init.nd (pdi_seq (pd_name 3)) (blkOk_by (N := ["self", "prime", "size", "sums", "item", "row"]) (sc := defScope s_Space_init) (by decide +kernel)) (fun _ _ _ _ _ => (pdg_name 4 sc_Space_init.nd)) (fun _ _ _ _ _ => pdts_nil) (fun _ _ _ _ _ => (pd_prop (pd_name 4) T.c_Sum.cl T.pp_Sum_factors (ok_Sum_factors T) (hr.mono (by decide)) T.b_Sum_factors))) pda_nil))) (pd_name 0))
      (pdss_one (pds_fldM (pd_callTy call_tuple_of sc_tuple (by rfl) T.n_tuple (by decide +kernel) (pda_cons (pd_lc [("row", 5)] rfl sc_Space_init.nd (pdi_list (pd_fldMu (K := K) rfl (pd_name 0))) (blkOk_by (N := ["self", "prime", "size", "sums", "item", "row"]) (sc := defScope s_Space_init) (by decide +kernel)) (fun _ _ _ _ _ => (pdg_name 5 sc_Space_init.nd)) (fun _ _ _ _ _ => pdts_nil) (fun _ _ _ _ _ => (pd_make T.m_Sum (ok_Sum_init T) (hr.mono (by decide)) (by rfl) T.g_Sum T.b_Sum_init (pda_cons (pd_name 1) (pda_cons (pd_name 5) pda_nil))))) pda_nil)) (pd_name 0))))))))), fun ds M Q hl h => ?_⟩)
  obtain ⟨j, p, n, SP, fsD, sd, rows, rfl, hsd, hm, hM, U, hfs, hz, hrows, q⟩ := h
  have hs : sizeLine = 16777216 := by decide
  have hj : j < M.length := (List.getElem?_eq_some_iff.mp hm).1
  obtain ⟨g, g1, g2⟩ := U.g
  have hn1 := U.n1
  have hRS : red p rows ∈ SP := red_in U _ _ U.nil hrows
  refine ⟨.int p, rfl, .int n, rfl, rfl, p, g, n, rfl, g1, by omega, g2, ?_⟩
  obtain ⟨t, ht, hk⟩ : ∃ t, DTy K sd t ∧ PySem.W.kitAny K t [.type "list", .type "tuple"] = some true := by
    rcases hsd with rfl | rfl
    · exact ⟨_, .lst _, rfl⟩
    · exact ⟨_, .tup _, rfl⟩
  refine ⟨_, rfl, t, true, ht, hk, true, rfl, ?_⟩
  refine ⟨_, rfl, _, hsd, for_ind (fun k ρ M' => M' = M ∧ ∃ x, ρ = [some (.mu j), some (.int p), some (.int n), some sd, x, none]) _ ?_ ?_ ⟨rfl, none, rfl⟩⟩
  · rintro k d ρ M' N hd ⟨rfl, x, rfl⟩ hN
    rw [List.getElem?_map] at hd
    cases e : fsD[k]? with
    | none => rw [e] at hd; cases hd
    | some f =>
      rw [e] at hd
      cases hd
      obtain ⟨hk, hf⟩ := fg_at hfs e
      obtain ⟨y1, y2⟩ := allD_mem (hrows _ (List.getElem_mem hk))
      exact ⟨.int p, rfl, .int n, rfl, _, rfl, rfl, p, n, _, rfl, .inl ⟨p, f, _, rfl, hf, true, by rw [y1, decide_eq_true rfl, decide_eq_true rfl]; rfl, hN _ _ ⟨rfl, _, rfl⟩⟩⟩
  · rintro ρ M' ⟨rfl, x, rfl⟩
    have gj : ∀ fs, (M'.set j (.ins T.a_Space fs))[j]? = some (.ins T.a_Space fs) := fun fs => List.getElem?_set_self hj
    refine ⟨.int p, rfl, .mu j, rfl, j, T.a_Space, [], rfl, hm, T.c_Space.cl, T.ns_prime, by decide, ?_⟩
    refine ⟨.int n, rfl, .mu j, rfl, j, T.a_Space, _, rfl, gj _, T.c_Space.cl, T.ns_size, (by show 1 < 1000; decide), ?_⟩
    rw [List.set_set]
    refine ⟨.int p, rfl, _, rfl, _, hsd, lc_map (fun d => match d with | .ins _ [_, (_, f)] => f | d => d) _ _ (fun d hd R3 hR3 => ?_) (by rw [List.length_nil, List.length_map]; omega) ?_⟩
    · obtain ⟨f, hf, rfl⟩ := List.mem_map.mp hd
      exact ⟨_, rfl, _, rfl, p, f, rfl, hR3⟩
    · rw [List.nil_append, List.map_map]
      have e1 : fsD.map ((fun d => match d with | .ins _ [_, (_, f)] => f | d => d) ∘ dSum T.a_Sum p) = fsD := by
        conv => rhs; rw [← List.map_id fsD]
        rfl
      rw [e1]
      refine ⟨rfl, p, n, SP, fsD, rows, rfl, U, hfs, hrows, ?_⟩
      generalize red p rows = R at hRS q ⊢
      have hlen := U.len R hRS
      refine ⟨.mu j, rfl, j, T.a_Space, _, rfl, gj _, T.c_Space.cl, T.ns_rows, (by show 2 < 1000; decide), ?_⟩
      rw [List.set_set]
      have hM2 : okM (M'.set j (.ins T.a_Space [("_prime", .int p), ("_size", .int n), ("_rows", .lst (R.map D.tfz))])) := okM_ins hM (by
        show (true && (true && (apartA _ (R.map D.tfz) && true))) = true
        rw [apart_tfz]; rfl)
      refine ⟨.mu j, rfl, j, T.a_Space, _, _, rfl, gj _, T.c_Space.cl, T.ns_rows, rfl, R.map D.tfz, rfl, lc_map (fun d => dSum T.a_Sum p d) _ _ (fun d hd R3 hR3 => ?_) (by rw [List.length_nil, List.length_map]; omega) ?_⟩
      · obtain ⟨l, hl', rfl⟩ := List.mem_map.mp hd
        exact ⟨.int p, rfl, .tfz l, rfl, make_sum (sum_ok U (lead_all U hRS hl')) (.inr (.inr ⟨rfl, rfl⟩)) hM2 hR3⟩
      · rw [List.nil_append, List.map_map]
        refine ⟨_, _, rfl, .inl rfl, .mu j, rfl, j, T.a_Space, _, rfl, gj _, T.c_Space.cl, T.ns_reduced, (by show 3 < 1000; decide), ?_⟩
        rw [List.set_set]
        exact q
theorem make_space {S C : Addr} {p : Int} {n : Nat} {SP : List (List Rw)} {fsD : List D} {sd : D} {rows : List Rw} {M : Ms} {P : D → Ms → Prop} (U : Univ p n SP) (hsd : isSeq sd (fsD.map (dSum S p))) (hfs : fsD.map fgD = rows.map tD) (hz : fsD.length ≤ 1000) (hrows : ∀ y ∈ rows, y ∈ allD p n) (hM : okM M) (hM' : okM (M ++ [.ins C []])) (q : P (dSpace S C p n (red p rows)) M) :
    ([.int p, .int n, sd] : List D).length + 1 = 4 ∧ W_spinit S C (.mu M.length :: [.int p, .int n, sd]) (M ++ [.ins C []]) fun d M2 => ∃ M3 fs, d = .non ∧ M2 = M3 ++ [.ins C fs] ∧ M3.length = M.length ∧ apartF M.length fs = true ∧ apartM M.length M3 = true ∧ P (.ins C fs) M3 :=
  ⟨rfl, _, p, n, SP, fsD, sd, rows, rfl, hsd, get_last _ _, hM', U, hfs, hz, hrows, M, _, rfl, set_last _ _ _, rfl, by
    show (true && (true && (apartA _ _ && (apartA _ _ && true)))) = true
    rw [apart_tfz, apart_sums]; rfl, hM, q⟩
/-! ### joined, met, within -/
def W_spexp (S C : Addr) : DC := fun ds M Q => ∃ (p : Int) (n : Nat) (A B : List Rw), ds = [dSpace S C p n A, dSpace S C p n B] ∧ Q .non M
theorem ok_Space_expect_operand (T : Tx P w K mg) : FnOk P w K mg base CX0 1 T.a_Space_expect_operand T.f_Space_expect_operand ["self", "other"] (spD 2 (W_spexp T.a_Sum T.a_Space) K) := by
  refine pd_fn T.F_Space_expect_operand sc_Space_expect_operand (fun cdv A outer s H E hr => ⟨_, (pdss_one (pds_if (pdt_w (pdw_or (pdt_not (pdt_val (pd_callB call_isi sc_isi (by rfl) T.n_isinstance (by decide +kernel) (pda_cons (pd_name 1) (pda_cons (pd_glob (v := .ref T.a_Space) (d := .ob T.a_Space) (by rfl) T.g_Space rfl (fun _ _ => .ob _)) pda_nil))))) (pdw_or (pdt_cmp (op_neD hr.units) sr_ne (pd_fldK (K := K) rfl (pd_name 1)) (pd_fldK (K := K) rfl (pd_name 0)) (nomark _)) (pdw_or1 (pdt_cmp (op_neD hr.units) sr_ne (pd_fldK (K := K) rfl (pd_name 1)) (pd_fldK (K := K) rfl (pd_name 0)) (nomark _)))))) (pdss_one pds_never) pdss_nil)), fun ds M Q hl h => ?_⟩)
  obtain ⟨p, n, A, B, rfl, q⟩ := h
  refine ⟨_, rfl, _, _, _, _, _, true, rfl, .ins T.c_Space, .ob T.a_Space, T.kt_sp, true, rfl, ?_⟩
  refine ⟨_, rfl, _, _, _, rfl, T.c_Space.cl, T.ns_prime, rfl, _, rfl, _, _, _, rfl, T.c_Space.cl, T.ns_prime, rfl, rfl, rfl, false, by rw [eqD_int, decide_eq_true rfl]; rfl, ?_⟩
  refine ⟨_, rfl, _, _, _, rfl, T.c_Space.cl, T.ns_size, rfl, _, rfl, _, _, _, rfl, T.c_Space.cl, T.ns_size, rfl, rfl, rfl, false, by rw [eqD_int, decide_eq_true rfl]; rfl, ?_⟩
  exact q
def W_spor (S C : Addr) : DC := fun ds M Q => ∃ (p : Int) (n : Nat) (SP : List (List Rw)) (A B : List Rw), ds = [dSpace S C p n A, dSpace S C p n B] ∧ Univ p n SP ∧ A ∈ SP ∧ B ∈ SP ∧ okM M ∧ okM (M ++ [.ins C []]) ∧ Q (dSpace S C p n (red p (A ++ B))) M
theorem ok_Space_or (T : Tx P w K mg) : FnOk P w K mg base CX0 8 T.a_Space_or T.f_Space_or ["self", "other"] (spD 2 (W_spor T.a_Sum T.a_Space) K) := by
  refine pd_fn T.F_Space_or sc_Space_or (fun cdv A outer s H E hr => ⟨_, (pdss_cons (pds_expr (pd_methD (pd_name 0) T.c_Space.cl T.me_expect (ok_Space_expect_operand T) (hr.mono (by decide)) T.b_Space_expect_operand (pda_cons (pd_name 1) pda_nil)))
      (pdss_one (pds_ret (pd_make T.m_Space (ok_Space_init T) (hr.mono (by decide)) (by rfl) T.g_Space T.b_Space_init (pda_cons (pd_fldK (K := K) rfl (pd_name 0)) (pda_cons (pd_fldK (K := K) rfl (pd_name 0)) (pda_cons (pd_tup (pda_star (pd_fldK (K := K) rfl (pd_name 0)) (pda_star (pd_fldK (K := K) rfl (pd_name 1)) pda_nil))) pda_nil))))))), fun ds M Q hl h => ?_⟩)
  obtain ⟨p, n, SP, A, B, rfl, U, hA, hB, hM, hM', q⟩ := h
  have hs : sizeLine = 16777216 := by decide
  have lA := U.len A hA
  have lB := U.len B hB
  refine ⟨_, rfl, _, rfl, rfl, _, rfl, rfl, p, n, A, B, rfl, ?_⟩
  refine ⟨_, rfl, _, _, _, rfl, T.c_Space.cl, T.ns_prime, rfl, _, rfl, _, _, _, rfl, T.c_Space.cl, T.ns_size, rfl, ?_⟩
  refine ⟨_, rfl, _, _, _, rfl, T.c_Space.cl, T.ns_reduced, rfl, _, .inr rfl, _, rfl, _, _, _, rfl, T.c_Space.cl, T.ns_reduced, rfl, _, .inr rfl, ?_, ?_⟩
  · rw [List.append_nil, List.length_append, List.length_map, List.length_map]; omega
  · refine make_space (fsD := (A ++ B).map D.tfz) U (.inr ?_) (tfz_fg _) (by rw [List.length_map, List.length_append]; omega) (fun y hy => (List.mem_append.mp hy).elim (lead_all U hA) (lead_all U hB)) hM hM' q
    rw [List.append_nil, List.map_map, List.map_append]; rfl
def W_spand (S C : Addr) : DC := fun ds M Q => ∃ (p : Int) (n : Nat) (SP : List (List Rw)) (A B : List Rw), ds = [dSpace S C p n A, dSpace S C p n B] ∧ Univ p n SP ∧ UF p n SP ∧ A ∈ SP ∧ B ∈ SP ∧ okM M ∧ okM (M ++ [.ins C []]) ∧ Q (dSpace S C p n (meetR p n A B)) M
theorem ok_Space_and (T : Tx P w K mg) : FnOk P w K mg base CX0 8 T.a_Space_and T.f_Space_and ["self", "other"] (spD 2 (W_spand T.a_Sum T.a_Space) K) := by
  refine pd_fn T.F_Space_and sc_Space_and (fun cdv A outer s H E hr => ⟨_, (pdss_cons (pds_expr (pd_methD (pd_name 0) T.c_Space.cl T.me_expect (ok_Space_expect_operand T) (hr.mono (by decide)) T.b_Space_expect_operand (pda_cons (pd_name 1) pda_nil)))
      (pdss_cons (pds_set 2 sc_Space_and.nd (pd_call (ok_zero_rows T) (hr.mono (by decide)) (by rfl) T.g_zero_rows T.F_zero_rows.kp T.b_zero_rows (pda_cons (pd_fldK (K := K) rfl (pd_name 0)) (pda_cons (pd_fldK (K := K) rfl (pd_name 0)) (pda_cons (pd_fldK (K := K) rfl (pd_name 0)) pda_nil)))))
      (pdss_cons (pds_set 3 sc_Space_and.nd (pd_call (ok_zero_rows T) (hr.mono (by decide)) (by rfl) T.g_zero_rows T.F_zero_rows.kp T.b_zero_rows (pda_cons (pd_fldK (K := K) rfl (pd_name 0)) (pda_cons (pd_fldK (K := K) rfl (pd_name 0)) (pda_cons (pd_fldK (K := K) rfl (pd_name 1)) pda_nil)))))
      (pdss_cons (pds_set 4 sc_Space_and.nd (pd_call (ok_reduced_rows T) (hr.mono (by decide)) (by rfl) T.g_reduced_rows T.F_reduced_rows.kp T.b_reduced_rows (pda_cons (pd_fldK (K := K) rfl (pd_name 0)) (pda_cons (pd_lst (pda_star (pd_name 2) (pda_star (pd_name 3) pda_nil))) pda_nil))))
      (pdss_cons (pds_set 5 sc_Space_and.nd (pd_call (ok_zero_rows T) (hr.mono (by decide)) (by rfl) T.g_zero_rows T.F_zero_rows.kp T.b_zero_rows (pda_cons (pd_fldK (K := K) rfl (pd_name 0)) (pda_cons (pd_fldK (K := K) rfl (pd_name 0)) (pda_cons (pd_name 4) pda_nil)))))
      (pdss_one (pds_ret (pd_make T.m_Space (ok_Space_init T) (hr.mono (by decide)) (by rfl) T.g_Space T.b_Space_init (pda_cons (pd_fldK (K := K) rfl (pd_name 0)) (pda_cons (pd_fldK (K := K) rfl (pd_name 0)) (pda_cons (pd_lc [("row", 6)] rfl sc_Space_and.nd (pdi_list (pd_name 5)) (blkOk_by (N := ["self", "other", "ours", "theirs", "joined", "rows", "row"]) (sc := defScope s_Space_and) (by decide +kernel)) (fun _ _ _ _ _ => (pdg_name 6 sc_Space_and.nd)) (fun _ _ _ _ _ => pdts_nil) (fun _ _ _ _ _ => (pd_make T.m_Sum (ok_Sum_init T) (hr.mono (by decide)) (by rfl) T.g_Sum T.b_Sum_init (pda_cons (pd_fldK (K := K) rfl (pd_name 0)) (pda_cons (pd_name 6) pda_nil))))) pda_nil))))))))))), fun ds M Q hl h => ?_⟩)
  obtain ⟨p, n, SP, A, B, rfl, U, V, hA, hB, hM, hM', q⟩ := h
  have hs : sizeLine = 16777216 := by decide
  have hZA := V.zin A
  have hZB := V.zin B
  have hm := V.meetS A B
  unfold meetR at q hm
  generalize hza : zrows p n A = ZA at q hZA hm
  generalize hzb : zrows p n B = ZB at q hZB hm
  have lA := U.len ZA hZA
  have lB := U.len ZB hZB
  have hall : ∀ y ∈ ZA ++ ZB, y ∈ allD p n := fun y hy => (List.mem_append.mp hy).elim (lead_all U hZA) (lead_all U hZB)
  have hJ : red p (ZA ++ ZB) ∈ SP := red_in U _ _ U.nil hall
  refine ⟨_, rfl, _, rfl, rfl, _, rfl, rfl, p, n, A, B, rfl, ?_⟩
  refine ⟨_, rfl, _, _, _, rfl, T.c_Space.cl, T.ns_prime, rfl, _, rfl, _, _, _, rfl, T.c_Space.cl, T.ns_size, rfl, _, rfl, _, _, _, rfl, T.c_Space.cl, T.ns_rows, rfl, rfl, p, n, SP, A, rfl, U, hA, ?_⟩
  refine ⟨_, rfl, _, _, _, rfl, T.c_Space.cl, T.ns_prime, rfl, _, rfl, _, _, _, rfl, T.c_Space.cl, T.ns_size, rfl, _, rfl, _, _, _, rfl, T.c_Space.cl, T.ns_rows, rfl, rfl, p, n, SP, B, rfl, U, hB, ?_⟩
  rw [hza, hzb]
  refine ⟨_, rfl, _, _, _, rfl, T.c_Space.cl, T.ns_prime, rfl, _, rfl, _, .inl rfl, _, rfl, _, .inl rfl, ?_, rfl, p, n, SP, _, ZA ++ ZB, rfl, U, ?_, hall, ?_⟩
  · rw [List.append_nil, List.length_append, List.length_map, List.length_map]; omega
  · rw [List.append_nil, ← List.map_append, tfz_fg]
  refine ⟨_, rfl, _, _, _, rfl, T.c_Space.cl, T.ns_prime, rfl, _, rfl, _, _, _, rfl, T.c_Space.cl, T.ns_size, rfl, _, rfl, rfl, p, n, SP, _, rfl, U, hJ, ?_⟩
  generalize zrows p n (red p (ZA ++ ZB)) = C at hm q ⊢
  have lC := U.len C hm
  refine ⟨_, rfl, _, _, _, rfl, T.c_Space.cl, T.ns_prime, rfl, _, rfl, _, _, _, rfl, T.c_Space.cl, T.ns_size, rfl, ?_⟩
  refine ⟨_, rfl, _, rfl, lc_map (fun d => dSum T.a_Sum p d) _ _ (fun d hd R3 hR3 => ?_) (by rw [List.length_nil, List.length_map]; omega) ?_⟩
  · obtain ⟨l, hl', rfl⟩ := List.mem_map.mp hd
    exact ⟨_, rfl, _, _, _, rfl, T.c_Space.cl, T.ns_prime, rfl, .tfz l, rfl, make_sum (sum_ok U (lead_all U hm hl')) (.inr (.inr ⟨rfl, rfl⟩)) hM hR3⟩
  · rw [List.nil_append]
    refine make_space (fsD := C.map D.tfz) (rows := C) U (.inl rfl) (tfz_fg _) (by rw [List.length_map]; omega) (fun y hy => lead_all U hm hy) hM hM' ?_
    rw [(V.rs hm).2.1]
    exact q
def W_spwith (S C : Addr) : DC := fun ds M Q => ∃ (p : Int) (n : Nat) (SP : List (List Rw)) (A B : List Rw), ds = [dSpace S C p n A, dSpace S C p n B] ∧ Univ p n SP ∧ A ∈ SP ∧ B ∈ SP ∧ Q (.bl (A.all (inR p B))) M
theorem ok_Space_within (T : Tx P w K mg) : FnOk P w K mg base CX0 6 T.a_Space_within T.f_Space_within ["self", "other"] (spD 2 (W_spwith T.a_Sum T.a_Space) K) := by
  refine pd_fn T.F_Space_within sc_Space_within (fun cdv A outer s H E hr => ⟨_, (pdss_cons (pds_expr (pd_methD (pd_name 0) T.c_Space.cl T.me_expect (ok_Space_expect_operand T) (hr.mono (by decide)) T.b_Space_expect_operand (pda_cons (pd_name 1) pda_nil)))
      (pdss_one (pds_ret (pd_callB (cr_all rfl) sc_all (by rfl) T.n_all (by decide +kernel) (pda_cons (pd_lc [("item", 2)] rfl sc_Space_within.nd (pdi_tup (pd_fldK (K := K) rfl (pd_name 0))) (blkOk_by (N := ["self", "other", "item"]) (sc := defScope s_Space_within) (by decide +kernel)) (fun _ _ _ _ _ => (pdg_name 2 sc_Space_within.nd)) (fun _ _ _ _ _ => pdts_nil) (fun _ _ _ _ _ => (pd_cmp (op_ownIn T.o_in T.i_in (ok_Space_contains T) T.b_Space_contains (hr.mono (by decide))) sr_ownIn (pd_name 2) (pd_name 1) (by rfl)))) pda_nil))))), fun ds M Q hl h => ?_⟩)
  obtain ⟨p, n, SP, A, B, rfl, U, hA, hB, q⟩ := h
  have hs : sizeLine = 16777216 := by decide
  have lA := U.len A hA
  refine ⟨_, rfl, _, rfl, rfl, _, rfl, rfl, p, n, A, B, rfl, ?_⟩
  refine ⟨_, rfl, _, _, _, rfl, T.c_Space.cl, T.ns_reduced, rfl, _, rfl, lc_map (fun d => match d with | .ins _ [_, (_, .tfz l)] => .bl (inR p B l) | d => d) _ _ (fun d hd R3 hR3 => ?_) (by rw [List.length_nil, List.length_map]; omega) ?_⟩
  · obtain ⟨l, hl', rfl⟩ := List.mem_map.mp hd
    exact ⟨_, rfl, _, rfl, _, rfl, p, n, SP, B, _, rfl, U, hB, .inl ⟨.tfz l, l, rfl, rfl, lead_all U hA hl', _, rfl, hR3⟩⟩
  · rw [List.nil_append, List.map_map]
    refine ⟨A.map (inR p B), by rw [List.map_map]; rfl, ?_⟩
    rw [List.all_map]
    exact q
end
end K05

set_option Elab.async false
set_option linter.all false
set_option maxRecDepth 100000
set_option maxHeartbeats 4000000
namespace K05
open PySem PySem.Spec PyProof.Rows L2 Pd Spc
/-- the rows of p numbers below n, ascending -/
def tups (p : Nat) : Nat → List (List Int)
  | 0 => [[]]
  | n + 1 => (tups p n).flatMap fun xs => (List.range p).map fun (v : Nat) => xs ++ [(v : Int)]
theorem tups_len (p : Nat) : ∀ n, (tups p n).length = p ^ n
  | 0 => rfl
  | n + 1 => by
    have e : (fun xs : List Int => ((List.range p).map fun (v : Nat) => xs ++ [(v : Int)]).length) = fun _ => p := by
      funext xs; rw [List.length_map, List.length_range]
    show ((tups p n).flatMap _).length = _
    rw [List.length_flatMap, e, List.map_const', List.sum_replicate_nat, tups_len p n, Nat.pow_succ]
theorem tups_row (p : Nat) : ∀ n, ∀ xs ∈ tups p n, xs.length = n ∧ In (p : Int) xs
  | 0, xs, h => by
    have e : xs = [] := by simpa [tups] using h
    subst e
    exact ⟨rfl, fun _ h => nomatch h⟩
  | n + 1, xs, h => by
    obtain ⟨ys, hy, h2⟩ := List.mem_flatMap.mp h
    obtain ⟨v, hv, rfl⟩ := List.mem_map.mp h2
    obtain ⟨h3, h4⟩ := tups_row p n ys hy
    refine ⟨by rw [List.length_append, h3]; rfl, fun x hx => ?_⟩
    rcases List.mem_append.mp hx with hx | hx
    · exact h4 x hx
    · rw [List.mem_singleton.mp hx]
      have := List.mem_range.mp hv
      omega
theorem p29 : (0 : Int) < 2147483629 := by decide
theorem p47 : (0 : Int) < 2147483647 := by decide
theorem z2 : 2 ≤ sizeLine := by decide
theorem i02 : (0 : Nat) < 2 := by decide
theorem i12 : (1 : Nat) < 2 := by decide
/-- the law's source -/
def Src (M : Ms) : Prop := ∃ n s : Int, M = [.lst [.int n, .int s]] ∧ 0 ≤ s ∧ s < 2147483647
theorem Src.ok {M : Ms} (h : Src M) : okM M := by
  obtain ⟨n, s, rfl, _⟩ := h
  rfl
section
variable {P : Program} {w : World} {K : PySem.W.Frag} {mg : Str → Option Value} {base : Heap}
def W_source : DCN := fun ds M Q => ∃ (ns : List Int) (k : Int), ds = [.lst (dI ns), .int k] ∧ 0 ≤ k ∧ ∀ n s : Int, 0 ≤ s → s < 2147483647 → Q [.int n, .int s] M
theorem ok_law_source (T : Tx P w K mg) : FnOk P w K mg base CX0 1 T.a_law_source T.f_law_source ["_law_script", "_law_turn"] (spN 2 W_source K) := by
  refine pd_fnN T.F_law_source sc_law_source (fun cdv A outer s H E hr => ⟨_, (pdn_cons (pds_set 2 sc_law_source.nd pd_int)
      (pdn_cons (pds_if (pdt_cmp op_lt sr_I0b (pd_name 1) (pd_callB call_len_seq sc_len (by rfl) T.n_len (by decide +kernel) (pda_cons (pd_name 0) pda_nil)) (nomark _)) (pdss_one (pds_set 2 sc_law_source.nd (pd_ix ix_list sr_ixL (pd_name 0) (pd_name 1)))) pdss_nil)
      (pdn_cons (pds_set 3 sc_law_source.nd (pd_callB (call_max2 rfl) sc_max (by rfl) T.n_max (by decide +kernel) (pda_cons (pd_name 2) (pda_cons (pd_op op_sub sr_I0i (pd_un un_neg su_U pd_int) (pd_name 2)) pda_nil))))
      (pdn_cons (pds_set 4 sc_law_source.nd (pd_op op_mod sr_I (pd_callTy call_int1 sc_int (by rfl) T.n_int (by decide +kernel) (pda_cons (pd_op op_add sr_I0i (pd_op op_add sr_I0i (pd_op op_mul sr_I (pd_op op_mod sr_I (pd_callTy call_int1 sc_int (by rfl) T.n_int (by decide +kernel) (pda_cons (pd_name 3) pda_nil)) pd_int) pd_int) (pd_op op_mul sr_I pd_int (pd_name 1))) pd_int) pda_nil)) pd_int))
      (pdn_cons (pds_if (pdt_cmp op_lt sr_I0b (pd_name 3) (pd_op op_pow sr_I pd_int pd_int) (nomark _)) (pdss_one (pds_set 3 sc_law_source.nd pd_int)) pdss_nil)
      (pdn_ret (pda_cons (pd_name 3) (pda_cons (pd_name 4) pda_nil)))))))), fun ds M Q hl h => ?_⟩)
  obtain ⟨ns, k, rfl, hk, q⟩ := h
  have m1 : ∀ x : Int, 0 ≤ x % 2147483647 ∧ x % 2147483647 < 2147483647 := fun x => ⟨Int.emod_nonneg _ (by decide), Int.emod_lt_of_pos _ (by decide)⟩
  refine ⟨.int k, rfl, _, rfl, dI ns, .inl rfl, _, _, rfl, rfl, decide (k < ((dI ns).length : Int)), rfl, ?_⟩
  by_cases hc : k < ((dI ns).length : Int)
  · rw [decide_eq_true hc]
    have hlt : k.toNat < ns.length := by rw [List.length_map] at hc; omega
    have hv : (dI ns)[k.toNat]? = some (.int ns[k.toNat]) := by rw [List.getElem?_map, List.getElem?_eq_getElem hlt]; rfl
    refine ⟨_, rfl, _, rfl, dI ns, k, _, rfl, rfl, ⟨hk, hv⟩, ?_⟩
    refine ⟨_, rfl, 1, rfl, _, rfl, _, _, rfl, rfl, _, _, rfl, ?_⟩
    refine ⟨_, rfl, .inl ⟨_, rfl, _, _, rfl, rfl, p29, _, _, rfl, rfl, .inr ⟨by decide, by decide⟩, .int k, rfl, _, _, rfl, rfl, .inl ⟨by decide, by decide⟩, _, _, rfl, rfl, _, _, rfl, rfl, .inl ⟨_, rfl, _, _, rfl, rfl, p47, ?_⟩⟩⟩
    refine ⟨_, rfl, _, _, rfl, rfl, ⟨by decide, by decide, by decide⟩, _, _, rfl, rfl, _, rfl, ?_⟩
    refine bsplit (fun _ => ?_) (fun _ => ?_)
    · exact ⟨_, rfl, _, rfl, z2, q _ _ (m1 _).1 (m1 _).2⟩
    · exact ⟨_, rfl, _, rfl, z2, q _ _ (m1 _).1 (m1 _).2⟩
  · rw [decide_eq_false hc]
    refine ⟨_, rfl, 1, rfl, _, rfl, _, _, rfl, rfl, _, _, rfl, ?_⟩
    refine ⟨_, rfl, .inl ⟨_, rfl, _, _, rfl, rfl, p29, _, _, rfl, rfl, .inr ⟨by decide, by decide⟩, .int k, rfl, _, _, rfl, rfl, .inl ⟨by decide, by decide⟩, _, _, rfl, rfl, _, _, rfl, rfl, .inl ⟨_, rfl, _, _, rfl, rfl, p47, ?_⟩⟩⟩
    refine ⟨_, rfl, _, _, rfl, rfl, ⟨by decide, by decide, by decide⟩, _, _, rfl, rfl, _, rfl, ?_⟩
    refine bsplit (fun _ => ?_) (fun _ => ?_)
    · exact ⟨_, rfl, _, rfl, z2, q _ _ (m1 _).1 (m1 _).2⟩
    · exact ⟨_, rfl, _, rfl, z2, q _ _ (m1 _).1 (m1 _).2⟩
def W_draw : DC := fun ds M Q => ∃ a : Int, ds = [.mu 0, .int a] ∧ Src M ∧ 0 < a ∧ a < 1073741824 ∧ ∀ r M', Src M' → 0 ≤ r → r < a → Q (.int r) M'
theorem ok_law_draw (T : Tx P w K mg) : FnOk P w K mg base CX0 1 T.a_law_draw T.f_law_draw ["_law_source_here", "_law_amount"] (spD 2 W_draw K) := by
  refine pd_fn T.F_law_draw sc_law_draw (fun cdv A outer s H E hr => ⟨_, (pdss_cons (pds_if (pdt_cmp op_gt sr_I0b (pd_ix ix_list sr_ixM (pd_name 0) pd_int) pd_int (nomark _)) (pdss_cons (pds_set 2 sc_law_draw.nd (pd_op op_mod sr_I (pd_callTy call_int1 sc_int (by rfl) T.n_int (by decide +kernel) (pda_cons (pd_ix ix_list sr_ixM (pd_name 0) pd_int) pda_nil)) (pd_name 1)))
      (pdss_cons (pds_setItem (pd_op op_fdiv sr_I (pd_ix ix_list sr_ixM (pd_name 0) pd_int) (pd_name 1)) (pd_name 0) pd_int)
      (pdss_one (pds_ret (pd_name 2))))) pdss_nil)
      (pdss_cons (pds_setItem (pd_op op_mod sr_I (pd_callTy call_int1 sc_int (by rfl) T.n_int (by decide +kernel) (pda_cons (pd_op op_add sr_I0i (pd_op op_mul sr_I (pd_ix ix_list sr_ixM (pd_name 0) pd_int) pd_int) pd_int) pda_nil)) pd_int) (pd_name 0) pd_int)
      (pdss_one (pds_ret (pd_op op_mod sr_I (pd_callTy call_int1 sc_int (by rfl) T.n_int (by decide +kernel) (pda_cons (pd_op op_fdiv sr_I (pd_op op_mod sr_I (pd_callTy call_int1 sc_int (by rfl) T.n_int (by decide +kernel) (pda_cons (pd_op op_mul sr_I (pd_ix ix_list sr_ixM (pd_name 0) pd_int) (pd_ix ix_list sr_ixM (pd_name 0) pd_int)) pda_nil)) pd_int) pd_int) pda_nil)) (pd_name 1)))))), fun ds M Q hl h => ?_⟩)
  obtain ⟨a, rfl, ⟨n, sd, rfl, h1, h2⟩, ha, hb, q⟩ := h
  refine ⟨.mu 0, rfl, 0, _, 0, .int n, rfl, rfl, rfl, ⟨by decide, rfl⟩, n, 0, rfl, rfl, decide (0 < n), rfl, ?_⟩
  by_cases hc : 0 < n
  · rw [decide_eq_true hc]
    refine ⟨.mu 0, rfl, 0, _, 0, .int n, rfl, rfl, rfl, ⟨by decide, rfl⟩, .inl ⟨n, rfl, .int a, rfl, _, _, rfl, rfl, ha, ?_⟩⟩
    refine ⟨.mu 0, rfl, 0, _, 0, .int n, rfl, rfl, rfl, ⟨by decide, rfl⟩, .int a, rfl, _, _, rfl, rfl, ⟨ha, hb⟩, .mu 0, rfl, 0, _, 0, rfl, rfl, rfl, ⟨by decide, i02⟩, ?_⟩
    exact ⟨_, rfl, q _ _ ⟨_, _, rfl, h1, h2⟩ (Int.emod_nonneg _ (by omega)) (Int.emod_lt_of_pos _ ha)⟩
  · rw [decide_eq_false hc]
    have m1 : ∀ x : Int, 0 ≤ x % 2147483647 ∧ x % 2147483647 < 2147483647 := fun x => ⟨Int.emod_nonneg _ (by decide), Int.emod_lt_of_pos _ (by decide)⟩
    refine ⟨.mu 0, rfl, 0, _, 1, .int sd, rfl, rfl, rfl, ⟨by decide, rfl⟩, _, _, rfl, rfl, .inr ⟨by decide, by decide⟩, _, _, rfl, rfl, .inl ⟨_, rfl, _, _, rfl, rfl, p47, .mu 0, rfl, 0, _, 1, rfl, rfl, rfl, ⟨by decide, i12⟩, ?_⟩⟩
    have m2 := m1 (sd * 48271 + 11)
    refine ⟨.mu 0, rfl, 0, _, 1, _, rfl, rfl, rfl, ⟨by decide, rfl⟩, .mu 0, rfl, 0, _, 1, _, rfl, rfl, rfl, ⟨by decide, rfl⟩, _, _, rfl, rfl, .inl ⟨by omega, by omega⟩, .inl ⟨_, rfl, _, _, rfl, rfl, p29, _, _, rfl, rfl, ⟨by decide, by decide⟩, .inl ⟨_, rfl, .int a, rfl, _, _, rfl, rfl, ha, ?_⟩⟩⟩
    exact q _ _ ⟨_, _, rfl, m2.1, m2.2⟩ (Int.emod_nonneg _ (by omega)) (Int.emod_lt_of_pos _ ha)
def W_pick : DC := fun ds M Q => ∃ es : List D, ds = [.mu 0, .lst es] ∧ Src M ∧ 0 < (es.length : Int) ∧ (es.length : Int) < 1073741824 ∧ ∀ d M', Src M' → d ∈ es → Q d M'
theorem ok_law_pick (T : Tx P w K mg) : FnOk P w K mg base CX0 2 T.a_law_pick T.f_law_pick ["_law_source_here", "_law_items"] (spD 2 W_pick K) := by
  refine pd_fn T.F_law_pick sc_law_pick (fun cdv A outer s H E hr => ⟨_, (pdss_one (pds_ret (pd_ix ix_list sr_ixL (pd_name 1) (pd_call (ok_law_draw T) (hr.mono (by decide)) (by rfl) T.g_law_draw T.F_law_draw.kp T.b_law_draw (pda_cons (pd_name 0) (pda_cons (pd_callB call_len_seq sc_len (by rfl) T.n_len (by decide +kernel) (pda_cons (pd_name 1) pda_nil)) pda_nil)))))), fun ds M Q hl h => ?_⟩)
  obtain ⟨es, rfl, hs, h1, h2, q⟩ := h
  refine ⟨_, rfl, .mu 0, rfl, _, rfl, es, .inl rfl, rfl, _, rfl, hs, h1, h2, fun r M' hs' r0 r1 => ?_⟩
  have hlt : r.toNat < es.length := by omega
  exact ⟨es, r, _, rfl, rfl, ⟨r0, List.getElem?_eq_getElem hlt⟩, q _ _ hs' (List.getElem_mem hlt)⟩
def W_lfactors : DC := fun ds M Q => ∃ (p : Int) (n : Nat), ds = [.mu 0, .int p, .int n] ∧ Src M ∧ 0 < p ∧ p < 1000 ∧ n < 1000 ∧ ∀ fs M', Src M' → fs.length = n → In p fs → Q (.tup (dI fs)) M'
theorem ok_law_factors (T : Tx P w K mg) : FnOk P w K mg base CX0 2 T.a_law_factors T.f_law_factors ["_law_source_here", "_law_prime", "_law_size"] (spD 3 W_lfactors K) := by
  refine pd_fn T.F_law_factors sc_law_factors (fun cdv A outer s H E hr => ⟨_, (pdss_one (pds_ret (pd_callTy call_tuple_of sc_tuple (by rfl) T.n_tuple (by decide +kernel) (pda_cons (pd_lc [("_law_place", 3)] rfl sc_law_factors.nd (pdi_range1 (by rfl) T.n_range (pda_cons (pd_name 2) pda_nil)) (blkOk_by (N := ["_law_source_here", "_law_prime", "_law_size", "_law_place"]) (sc := defScope s_law_factors) (by decide +kernel)) (fun _ _ _ _ _ => (pdg_name 3 sc_law_factors.nd)) (fun _ _ _ _ _ => pdts_nil) (fun _ _ _ _ _ => (pd_call (ok_law_draw T) (hr.mono (by decide)) (by rfl) T.g_law_draw T.F_law_draw.kp T.b_law_draw (pda_cons (pd_name 0) (pda_cons (pd_name 1) pda_nil))))) pda_nil)))), fun ds M Q hl h => ?_⟩)
  obtain ⟨p, n, rfl, hs, h1, h2, h3, q⟩ := h
  refine ⟨.int n, rfl, n, rfl, by omega, by omega, ?_⟩
  have hN : n ≤ sizeLine := Nat.le_trans (Nat.le_of_lt h3) (by decide)
  refine lc_ind (fun acc M' => Src M' ∧ ∃ fs, acc = dI fs ∧ In p fs) n hN (fun d acc M' R hI hlt hR => ?_) (fun acc M' hI hlen => ?_) _ _ _ ⟨hs, [], rfl, fun _ h => nomatch h⟩ (by rw [rng_len]; simp)
  · obtain ⟨hs', fs, rfl, hin⟩ := hI
    refine ⟨.mu 0, rfl, .int p, rfl, rfl, p, rfl, hs', h1, by omega, fun r M2 hs2 r0 r1 => hR _ _ ⟨hs2, fs ++ [r], by simp, fun x hx => ?_⟩⟩
    rcases List.mem_append.mp hx with hx | hx
    · exact hin x hx
    · rw [List.mem_singleton.mp hx]; exact ⟨r0, r1⟩
  · obtain ⟨hs', fs, rfl, hin⟩ := hI
    exact ⟨_, _, rfl, .inl rfl, q fs M' hs' (by simpa using hlen) hin⟩
def W_all_data : DC := fun ds M Q => ∃ (p n : Nat), ds = [.int p, .int n] ∧ 2 ≤ p ∧ p ≤ 7 ∧ n ≤ 6 ∧ p ^ n ≤ 4096 ∧ Q (.lst ((tups p n).map tI)) M
theorem row_eq (p : Nat) (xs : List Int) : (rng 0 (p : Int).toNat).map (fun d => match d with | .int v => D.tup (dI xs ++ [.int v]) | d => d) = ((List.range p).map fun (v : Nat) => xs ++ [(v : Int)]).map tI := by
  unfold rng
  rw [Int.toNat_natCast, List.map_map, List.map_map]
  congr 1
  funext v
  show D.tup _ = D.tup _
  rw [dI, dI, List.map_append, Int.zero_add]
  rfl
theorem ok_law_all_data (T : Tx P w K mg) : FnOk P w K mg base CX0 1 T.a_law_all_data T.f_law_all_data ["_law_prime", "_law_size"] (spD 2 W_all_data K) := by
  refine pd_fn T.F_law_all_data sc_law_all_data (fun cdv A outer s H E hr => ⟨_, (pdss_cons (pds_set 2 sc_law_all_data.nd (pd_lst (pda_cons (pd_tup pda_nil) pda_nil)))
      (pdss_cons (pds_for PassesOwn.never rfl (pdi_range1 (by rfl) T.n_range (pda_cons (pd_name 1) pda_nil)) (pdg_name 3 sc_law_all_data.nd) (pdss_cons (pds_set 4 sc_law_all_data.nd (pd_lst pda_nil))
      (pdss_cons (pds_for PassesOwn.never rfl (pdi_list (pd_name 2)) (pdg_name 5 sc_law_all_data.nd) (pdss_one (pds_set 4 sc_law_all_data.nd (pd_op op_catL sr_catL (pd_name 4) (pd_lc [("_law_value_here", 6)] rfl sc_law_all_data.nd (pdi_range1 (by rfl) T.n_range (pda_cons (pd_name 0) pda_nil)) (blkOk_by (N := ["_law_prime", "_law_size", "_law_found", "_law_place", "_law_longer", "_law_data", "_law_value_here"]) (sc := defScope s_law_all_data) (by decide +kernel)) (fun _ _ _ _ _ => (pdg_name 6 sc_law_all_data.nd)) (fun _ _ _ _ _ => pdts_nil) (fun _ _ _ _ _ => (pd_op op_catA sr_catT (pd_name 5) (pd_tup (pda_cons (pd_name 6) pda_nil)))))))))
      (pdss_one (pds_set 2 sc_law_all_data.nd (pd_name 4))))))
      (pdss_one (pds_ret (pd_name 2))))), fun ds M Q hl h => ?_⟩)
  obtain ⟨p, n, rfl, hp, hp7, hn, hpn, q⟩ := h
  have hs : sizeLine = 16777216 := by decide
  refine ⟨by decide, by decide, .int n, rfl, n, rfl, by omega, by omega, ?_⟩
  refine for_ind (fun i ρ M' => M' = M ∧ ∃ x3 x4 x5 x6, ρ = [some (.int p), some (.int n), some (.lst ((tups p i).map tI)), x3, x4, x5, x6]) _ ?_ ?_ ⟨rfl, none, none, none, none, rfl⟩
  · rintro i d ρ M' N hd ⟨rfl, x3, x4, x5, x6, rfl⟩ hN
    have hi : i < n := by
      have := (List.getElem?_eq_some_iff.mp hd).1
      rw [rng_len, Int.toNat_natCast] at this
      exact this
    have hpi : p ^ (i + 1) ≤ 4096 := Nat.le_trans (Nat.pow_le_pow_right (by omega) hi) hpn
    have hpi' : p ^ i * p ≤ 4096 := by rw [← Nat.pow_succ]; exact hpi
    refine ⟨by decide, ?_⟩
    refine ⟨_, rfl, _, rfl, for_ind (fun j ρ M2 => M2 = M' ∧ ∃ y5 y6, ρ = [some (.int p), some (.int n), some (.lst ((tups p i).map tI)), some d, some (.lst ((((tups p i).take j).flatMap fun xs => (List.range p).map fun (v : Nat) => xs ++ [(v : Int)]).map tI)), y5, y6]) _ ?_ ?_ ⟨rfl, x5, x6, rfl⟩⟩
    · rintro j e ρ M2 N2 he ⟨rfl, y5, y6, rfl⟩ hN2
      have hj : j < p ^ i := by have := (List.getElem?_eq_some_iff.mp he).1; rwa [List.length_map, tups_len] at this
      rw [List.getElem?_map] at he
      cases hx : (tups p i)[j]? with
      | none => rw [hx] at he; cases he
      | some xs =>
        rw [hx] at he
        cases he
        have hxl := (tups_row p i xs (List.mem_of_getElem? hx)).1
        have hll : (((tups p i).take j).flatMap fun xs => (List.range p).map fun (v : Nat) => xs ++ [(v : Int)]).length = j * p := by
          have e : (fun xs : List Int => ((List.range p).map fun (v : Nat) => xs ++ [(v : Int)]).length) = fun _ => p := by
            funext xs; rw [List.length_map, List.length_range]
          rw [List.length_flatMap, e, List.map_const', List.sum_replicate_nat, List.length_take, tups_len, Nat.min_eq_left (Nat.le_of_lt hj)]
        have hjp : (j + 1) * p ≤ p ^ i * p := Nat.mul_le_mul_right p hj
        have hjs : (j + 1) * p = j * p + p := Nat.succ_mul j p
        refine ⟨_, rfl, .int p, rfl, p, rfl, by omega, by omega, ?_⟩
        refine lc_map (fun d => match d with | .int v => .tup (dI xs ++ [.int v]) | d => d) _ _ (fun d2 hd2 R hR => ?_) ?_ ?_
        · obtain ⟨v, _, rfl⟩ := List.mem_map.mp hd2
          refine ⟨_, rfl, .int _, rfl, (by show 1 ≤ sizeLine; decide), dI xs, _, rfl, rfl, ?_, hR⟩
          rw [List.length_map, hxl]
          show i + 1 ≤ sizeLine
          omega
        · rw [rng_len, Int.toNat_natCast, List.length_nil]
          omega
        · have hEq : ((((tups p i).take j).flatMap fun xs => (List.range p).map fun (v : Nat) => xs ++ [(v : Int)]).map tI) ++ ([] ++ (rng 0 (p : Int).toNat).map (fun d => match d with | .int v => D.tup (dI xs ++ [.int v]) | d => d)) = (((tups p i).take (j + 1)).flatMap fun xs => (List.range p).map fun (v : Nat) => xs ++ [(v : Int)]).map tI := by
            rw [List.nil_append, row_eq, ← List.map_append, List.take_add_one, hx, List.flatMap_append]
            simp
          refine ⟨_, _, rfl, rfl, ?_, ?_⟩
          · rw [List.nil_append, List.length_map, List.length_map, rng_len, Int.toNat_natCast, hll]
            omega
          · rw [hEq]
            exact hN2 _ _ ⟨rfl, _, _, rfl⟩
    · rintro ρ M2 ⟨rfl, y5, y6, rfl⟩
      rw [List.length_map, List.take_length]
      exact ⟨_, rfl, hN _ _ ⟨rfl, _, _, _, _, rfl⟩⟩
  · rintro ρ M' ⟨rfl, x3, x4, x5, x6, rfl⟩
    rw [rng_len, Int.toNat_natCast]
    exact ⟨_, rfl, q⟩

end
end K05

set_option Elab.async false
set_option linter.all false
set_option maxRecDepth 100000
set_option maxHeartbeats 4000000
namespace K05
open PySem PySem.Spec PyProof.Rows L2 Pd Spc
theorem u21 : Univ 2 1 SP21 := univ_of (by decide) (by decide) (by decide) (by decide) ⟨6, rfl, by decide⟩ shp21 good21
theorem u22 : Univ 2 2 SP22 := univ_of (by decide) (by decide) (by decide) (by decide) ⟨6, rfl, by decide⟩ shp22 good22
theorem u23 : Univ 2 3 SP23 := univ_of (by decide) (by decide) (by decide) (by decide) ⟨6, rfl, by decide⟩ shp23 good23
theorem u24 : Univ 2 4 SP24 := univ_of (by decide) (by decide) (by decide) (by decide) ⟨6, rfl, by decide⟩ shp24 good24
theorem u31 : Univ 3 1 SP31 := univ_of (by decide) (by decide) (by decide) (by decide) ⟨6, rfl, by decide⟩ shp31 good31
theorem u32 : Univ 3 2 SP32 := univ_of (by decide) (by decide) (by decide) (by decide) ⟨6, rfl, by decide⟩ shp32 good32
theorem u33 : Univ 3 3 SP33 := univ_of (by decide) (by decide) (by decide) (by decide) ⟨6, rfl, by decide⟩ shp33 good33
theorem u52 : Univ 5 2 SP52 := univ_of (by decide) (by decide) (by decide) (by decide) ⟨5, rfl, by decide⟩ shp52 good52
theorem u72 : Univ 7 2 SP72 := univ_of (by decide) (by decide) (by decide) (by decide) ⟨4, rfl, by decide⟩ shp72 good72
theorem uf_of {p : Int} {n : Nat} {SP : List (List Rw)} (U : Univ p n SP) (few : (allD p n).length ≤ 60) (cR : chkR p n SP = true) (cZ : chkZ p n SP = true) : UF p n SP :=
  ⟨U.p2, U.nil, fun R hR l hl => lead_all U hR hl, fun R hR y hy => (U.step R hR y hy).1, fun R hR y hy => (U.step R hR y hy).2.1, fun R hR y hy => (U.step R hR y hy).2.2.2, U.zs0, few, U.inv, cR, cZ⟩
theorem f21 : UF 2 1 SP21 := uf_of u21 (by decide +kernel) cR21 cZ21
theorem f22 : UF 2 2 SP22 := uf_of u22 (by decide +kernel) cR22 cZ22
theorem f23 : UF 2 3 SP23 := uf_of u23 (by decide +kernel) cR23 cZ23
theorem f24 : UF 2 4 SP24 := uf_of u24 (by decide +kernel) cR24 cZ24
theorem f31 : UF 3 1 SP31 := uf_of u31 (by decide +kernel) cR31 cZ31
theorem f32 : UF 3 2 SP32 := uf_of u32 (by decide +kernel) cR32 cZ32
theorem f33 : UF 3 3 SP33 := uf_of u33 (by decide +kernel) cR33 cZ33
theorem f52 : UF 5 2 SP52 := uf_of u52 (by decide +kernel) cR52 cZ52
theorem f72 : UF 7 2 SP72 := uf_of u72 (by decide +kernel) cR72 cZ72
theorem tups_eq (p : Nat) : ∀ n, tups p n = allD (p : Int) n
  | 0 => rfl
  | n + 1 => by
    show (tups p n).flatMap _ = (allD (p : Int) n).flatMap _
    rw [tups_eq p n]
    congr 1
    funext xs
    unfold rngL
    rw [List.map_map, Int.toNat_natCast]
    rfl
section
variable {P : Program} {w : World} {K : PySem.W.Frag} {mg : Str → Option Value} {base : Heap}
def W_form : DC := fun ds M Q => ds = [.mu 0] ∧ Src M ∧ ∀ (p : Int) (n : Nat) (SP : List (List Rw)) M', Src M' → Univ p n SP → UF p n SP → Q (.tup [.int p, .int n]) M'
theorem ok_law_form (T : Tx P w K mg) : FnOk P w K mg base CX0 3 T.a_law_form T.f_law_form ["_law_source_here"] (spD 1 W_form K) := by
  refine pd_fn T.F_law_form sc_law_form (fun cdv A outer s H E hr => ⟨_, (pdss_one (pds_ret (pd_call (ok_law_pick T) (hr.mono (by decide)) (by rfl) T.g_law_pick T.F_law_pick.kp T.b_law_pick (pda_cons (pd_name 0) (pda_cons (pd_lst (pda_cons (pd_tup (pda_cons pd_int (pda_cons pd_int pda_nil))) (pda_cons (pd_tup (pda_cons pd_int (pda_cons pd_int pda_nil))) (pda_cons (pd_tup (pda_cons pd_int (pda_cons pd_int pda_nil))) (pda_cons (pd_tup (pda_cons pd_int (pda_cons pd_int pda_nil))) (pda_cons (pd_tup (pda_cons pd_int (pda_cons pd_int pda_nil))) (pda_cons (pd_tup (pda_cons pd_int (pda_cons pd_int pda_nil))) (pda_cons (pd_tup (pda_cons pd_int (pda_cons pd_int pda_nil))) (pda_cons (pd_tup (pda_cons pd_int (pda_cons pd_int pda_nil))) (pda_cons (pd_tup (pda_cons pd_int (pda_cons pd_int pda_nil))) pda_nil)))))))))) pda_nil))))), fun ds M Q hl h => ?_⟩)
  obtain ⟨rfl, hs, q⟩ := h
  refine ⟨.mu 0, rfl, by decide, by decide, by decide, by decide, by decide, by decide, by decide, by decide, by decide, by decide, rfl, _, rfl, hs, by decide, by decide, fun d M' hs' hd => ?_⟩
  simp only [List.mem_cons, List.not_mem_nil, or_false] at hd
  rcases hd with rfl | rfl | rfl | rfl | rfl | rfl | rfl | rfl | rfl
  · exact q 2 1 _ M' hs' u21 f21
  · exact q 2 2 _ M' hs' u22 f22
  · exact q 2 3 _ M' hs' u23 f23
  · exact q 2 4 _ M' hs' u24 f24
  · exact q 3 1 _ M' hs' u31 f31
  · exact q 3 2 _ M' hs' u32 f32
  · exact q 3 3 _ M' hs' u33 f33
  · exact q 5 2 _ M' hs' u52 f52
  · exact q 7 2 _ M' hs' u72 f72
def W_sums : DC := fun ds M Q => ∃ (p : Int) (n : Nat) (SP : List (List Rw)), ∃ m : Int, 0 ≤ m ∧ m ≤ 10 ∧ ds = [.mu 0, .int p, .int n, .int m] ∧ Univ p n SP ∧ Src M ∧ ∀ (rows : List Rw) M', Src M' → (rows.length : Int) ≤ m → (∀ y ∈ rows, y ∈ allD p n) → Q (.lst (rows.map tD)) M'
theorem ok_law_sums (T : Tx P w K mg) : FnOk P w K mg base CX0 3 T.a_law_sums T.f_law_sums ["_law_source_here", "_law_prime", "_law_size", "_law_most"] (spD 4 W_sums K) := by
  refine pd_fn T.F_law_sums sc_law_sums (fun cdv A outer s H E hr => ⟨_, (pdss_one (pds_ret (pd_lc [("_law_index", 4)] rfl sc_law_sums.nd (pdi_range1 (by rfl) T.n_range (pda_cons (pd_call (ok_law_draw T) (hr.mono (by decide)) (by rfl) T.g_law_draw T.F_law_draw.kp T.b_law_draw (pda_cons (pd_name 0) (pda_cons (pd_op op_add sr_I0i (pd_name 3) pd_int) pda_nil))) pda_nil)) (blkOk_by (N := ["_law_source_here", "_law_prime", "_law_size", "_law_most", "_law_index"]) (sc := defScope s_law_sums) (by decide +kernel)) (fun _ _ _ _ _ => (pdg_name 4 sc_law_sums.nd)) (fun _ _ _ _ _ => pdts_nil) (fun _ _ _ _ _ => (pd_call (ok_law_factors T) (hr.mono (by decide)) (by rfl) T.g_law_factors T.F_law_factors.kp T.b_law_factors (pda_cons (pd_name 0) (pda_cons (pd_name 1) (pda_cons (pd_name 2) pda_nil)))))))), fun ds M Q hl h => ?_⟩)
  obtain ⟨p, n, SP, m, hm0, hm1, rfl, U, hs, q⟩ := h
  have h2 := U.p2
  have h7 := U.p7
  have hn := U.n4
  refine ⟨.mu 0, rfl, .int m, rfl, _, _, rfl, rfl, rfl, _, rfl, hs, by omega, by omega, fun r M1 hs1 r0 r1 => ?_⟩
  refine ⟨r, rfl, by omega, by omega, ?_⟩
  have hN : r.toNat ≤ sizeLine := Nat.le_trans (by omega : r.toNat ≤ 10) (by decide)
  refine lc_ind (fun acc M' => Src M' ∧ ∃ rows, acc = rows.map tD ∧ ∀ y ∈ rows, y ∈ allD p n) r.toNat hN (fun d acc M' R hI hlt hR => ?_) (fun acc M' hI hlen => ?_) _ _ _ ⟨hs1, [], rfl, fun _ h => nomatch h⟩ (by rw [rng_len]; simp)
  · obtain ⟨hs', rows, rfl, hin⟩ := hI
    refine ⟨.mu 0, rfl, .int p, rfl, .int n, rfl, rfl, p, n, rfl, hs', by omega, by omega, by omega, fun fs M2 hs2 f1 f2 => hR _ _ ⟨hs2, rows ++ [fs], by rw [List.map_append]; rfl, fun y hy => ?_⟩⟩
    rcases List.mem_append.mp hy with h | h
    · exact hin y h
    · rw [List.mem_singleton.mp h]; exact mem_allD (by omega) f1 f2
  · obtain ⟨hs', rows, rfl, hin⟩ := hI
    exact q rows M' hs' (by rw [List.length_map] at hlen; omega) hin
theorem fg_tD (rows : List Rw) : (rows.map tD).map fgD = rows.map tD := by rw [List.map_map]; rfl
def W_made (S C : Addr) : DC := fun ds M Q => ∃ (p : Int) (n : Nat) (SP : List (List Rw)) (rows : List Rw), ds = [.int p, .int n, .lst (rows.map tD)] ∧ Univ p n SP ∧ (∀ y ∈ rows, y ∈ allD p n) ∧ rows.length ≤ 1000 ∧ okM M ∧ okM (M ++ [.ins C []]) ∧ Q (dSpace S C p n (red p rows)) M
theorem ok_law_made (T : Tx P w K mg) : FnOk P w K mg base CX0 8 T.a_law_made T.f_law_made ["_law_prime", "_law_size", "_law_rows"] (spD 3 (W_made T.a_Sum T.a_Space) K) := by
  refine pd_fn T.F_law_made sc_law_made (fun cdv A outer s H E hr => ⟨_, (pdss_one (pds_ret (pd_make T.m_Space (ok_Space_init T) (hr.mono (by decide)) (by rfl) T.g_Space T.b_Space_init (pda_cons (pd_name 0) (pda_cons (pd_name 1) (pda_cons (pd_lc [("_law_row", 3)] rfl sc_law_made.nd (pdi_list (pd_name 2)) (blkOk_by (N := ["_law_prime", "_law_size", "_law_rows", "_law_row"]) (sc := defScope s_law_made) (by decide +kernel)) (fun _ _ _ _ _ => (pdg_name 3 sc_law_made.nd)) (fun _ _ _ _ _ => pdts_nil) (fun _ _ _ _ _ => (pd_make T.m_Sum (ok_Sum_init T) (hr.mono (by decide)) (by rfl) T.g_Sum T.b_Sum_init (pda_cons (pd_name 0) (pda_cons (pd_name 3) pda_nil))))) pda_nil)))))), fun ds M Q hl h => ?_⟩)
  obtain ⟨p, n, SP, rows, rfl, U, hrows, hlen, hM, hM', q⟩ := h
  have hs : sizeLine = 16777216 := by decide
  refine ⟨.int p, rfl, .int n, rfl, _, rfl, _, rfl, lc_map (fun d => dSum T.a_Sum p d) _ _ (fun d hd R3 hR3 => ?_) (by rw [List.length_nil, List.length_map]; omega) ?_⟩
  · obtain ⟨y, hy, rfl⟩ := List.mem_map.mp hd
    exact ⟨.int p, rfl, tD y, rfl, make_sum (sum_ok U (hrows y hy)) (.inr (.inl ⟨rfl, rfl⟩)) hM hR3⟩
  · rw [List.nil_append]
    exact make_space U (.inl rfl) (fg_tD rows) (by rw [List.length_map]; omega) hrows hM hM' q
end
end K05

set_option Elab.async false
set_option linter.all false
set_option maxRecDepth 100000
set_option maxHeartbeats 4000000
namespace K05
open PySem PySem.Spec PyProof.Rows L2 Pd Spc
def intsD : D → List Int
  | .tfz ns => ns
  | .tup ds => ds.map fun x => match x with | .int i => i | _ => 0
  | _ => []
theorem intsD_of {d : D} {row : List Int} (h : fgD d = .tup (dI row)) : intsD d = row := by
  have e : ∀ row : List Int, ((dI row).map fun x => match x with | .int i => i | _ => 0) = row := fun row => by
    show List.map _ (List.map _ _) = _
    rw [List.map_map]
    exact List.map_id row
  cases d with
  | tfz ns =>
    have h1 : D.tup (dI ns) = .tup (dI row) := h
    injection h1 with h2
    have := congrArg (List.map fun x => match x with | D.int i => i | _ => 0) h2
    rw [e, e] at this
    exact this
  | tup ds =>
    have h1 : D.tup ds = .tup (dI row) := h
    injection h1 with h2
    subst h2
    exact e row
  | _ => cases h
theorem tD_ints (x : Rw) : intsD (tD x) = x := intsD_of rfl
theorem zeros : ∀ n : Nat, (List.replicate n [D.int 0]).flatten = dI (List.replicate n 0)
  | 0 => rfl
  | n + 1 => by
    rw [List.replicate_succ, List.flatten_cons, zeros n]
    rfl
theorem mn_plus (p f : Int) (o y : Rw) : mn p o y (-f) = List.zipWith (fun a b => (a + f * b) % p) o y := by
  unfold mn
  congr 1
  funext a b
  rw [Int.neg_mul]
  congr 1
  omega
/-- one row more: all sums of what is there and its multiples, as they are written -/
def fanL (p : Int) (y : Rw) (F : List Rw) (fs : List Int) : List Rw := fs.flatMap fun f => F.map fun o => mn p o y (-f)
theorem fanL_len (p : Int) (y : Rw) (F : List Rw) : ∀ fs, (fanL p y F fs).length = fs.length * F.length
  | [] => by rw [List.length_nil, Nat.zero_mul]; rfl
  | f :: fs => by
    have ih := fanL_len p y F fs
    unfold fanL at ih ⊢
    rw [List.flatMap_cons, List.length_append, ih, List.length_map, List.length_cons, Nat.succ_mul, Nat.add_comm]
theorem fanL_snoc {p : Int} {y : Rw} {F : List Rw} {fs : List Int} {j : Nat} (h : j < fs.length) : fanL p y F (fs.take (j + 1)) = fanL p y F (fs.take j) ++ F.map fun o => mn p o y (-fs[j]) := by
  unfold fanL
  rw [List.take_succ_eq_append_getElem h, List.flatMap_append]
  simp
theorem fanL_mem {p : Int} {y : Rw} {F : List Rw} {fs : List Int} {k : Rw} : k ∈ fanL p y F fs ↔ ∃ o ∈ F, ∃ f ∈ fs, k = mn p o y (-f) := by
  unfold fanL
  rw [List.mem_flatMap]
  constructor
  · rintro ⟨f, hf, h⟩
    obtain ⟨o, ho, rfl⟩ := List.mem_map.mp h
    exact ⟨o, ho, f, hf, rfl⟩
  · rintro ⟨o, ho, f, hf, rfl⟩
    exact ⟨f, hf, List.mem_map.mpr ⟨o, ho, rfl⟩⟩
theorem spL_all {p : Int} {n : Nat} {R : List Rw} {o : Rw} (h : o ∈ spL p n R) : o ∈ allD p n := (mem_spL.mp h).1
theorem spL_few {p : Int} {n : Nat} {SP : List (List Rw)} (F : UF p n SP) (R : List Rw) : (spL p n R).length ≤ 60 := Nat.le_trans (List.length_filter_le _ _) F.few
section
variable {P : Program} {w : World} {K : PySem.W.Frag} {mg : Str → Option Value} {base : Heap}
def W_span : DC := fun ds M Q => ∃ (p : Int) (n : Nat) (SP : List (List Rw)) (es : List D) (rows : List Rw), ds = [.lst es, .int p, .int n] ∧ Univ p n SP ∧ UF p n SP ∧ es.map fgD = rows.map tD ∧ (∀ y ∈ rows, y ∈ allD p n) ∧ Q (.lst ((spL p n (red p rows)).map tD)) M
theorem ok_law_span (T : Tx P w K mg) : FnOk P w K mg base CX0 2 T.a_law_span T.f_law_span ["_law_rows", "_law_prime", "_law_size"] (spD 3 W_span K) := by
  refine pd_fn T.F_law_span sc_law_span (fun cdv A outer s H E hr => ⟨_, (pdss_cons (pds_set 3 sc_law_span.nd (pd_lst (pda_cons (pd_op op_repA sr_repT (pd_tup (pda_cons pd_int pda_nil)) (pd_name 2)) pda_nil)))
      (pdss_cons (pds_for PassesOwn.never rfl (pdi_list (pd_name 0)) (pdg_name 4 sc_law_span.nd) (pdss_cons (pds_set 5 sc_law_span.nd (pd_lst pda_nil))
      (pdss_cons (pds_for PassesOwn.never rfl (pdi_range1 (by rfl) T.n_range (pda_cons (pd_name 1) pda_nil)) (pdg_name 6 sc_law_span.nd) (pdss_one (pds_set 5 sc_law_span.nd (pd_op op_catL sr_catL (pd_name 5) (pd_lc [("_law_old", 7)] rfl sc_law_span.nd (pdi_list (pd_name 3)) (blkOk_by (N := ["_law_rows", "_law_prime", "_law_size", "_law_found", "_law_row", "_law_longer", "_law_factor", "_law_old", "_law_one", "_law_two"]) (sc := defScope s_law_span) (by decide +kernel)) (fun _ _ _ _ _ => (pdg_name 7 sc_law_span.nd)) (fun _ _ _ _ _ => pdts_nil) (fun _ _ _ _ _ => (pd_callTy call_tuple_of sc_tuple (by rfl) T.n_tuple (by decide +kernel) (pda_cons (pd_lc [("_law_one", 8), ("_law_two", 9)] rfl sc_law_span.nd (pdi_zip (by rfl) T.n_zip (pda_cons (pd_name 7) (pda_cons (pd_fg (pd_name 4)) pda_nil))) (blkOk_by (by kernel_rfl)) (fun _ _ _ _ _ => (pdg_tup (n := 2) rfl (pdgs_cons (pdg_name 8 sc_law_span.nd) (pdgs_cons (pdg_name 9 sc_law_span.nd) pdgs_nil)))) (fun _ _ _ _ _ => pdts_nil) (fun _ _ _ _ _ => (pd_op op_mod sr_I (pd_callTy call_int1 sc_int (by rfl) T.n_int (by decide +kernel) (pda_cons (pd_op op_add sr_I0i (pd_name 8) (pd_op op_mul sr_I (pd_name 6) (pd_name 9))) pda_nil)) (pd_name 1)))) pda_nil))))))))
      (pdss_one (pds_set 3 sc_law_span.nd (pd_sortSetT rfl hr.units (by rfl) T.n_sorted (by rfl) T.n_set (pd_name 5)))))))
      (pdss_one (pds_ret (pd_name 3))))), fun ds M Q hl h => ?_⟩)
  obtain ⟨p, n, SP, es, rows, rfl, U, V, hes, hrows, q⟩ := h
  have hs : sizeLine = 16777216 := by decide
  have hp := U.p2
  have hp7 := U.p7
  have hn := U.n4
  have hn1 := U.n1
  have hlen : es.length = rows.length := by have := congrArg List.length hes; rwa [List.length_map, List.length_map] at this
  have e0 : spL p n (red p (rows.take 0)) = [zero n] := spL_nil n hp
  refine ⟨(by show 1 ≤ sizeLine; decide), .int n, rfl, [.int 0], _, rfl, rfl, (by simp), (by omega), (by omega), (by show 1 ≤ 1000; decide), (by show 1 ≤ sizeLine; decide), ?_⟩
  rw [Int.toNat_natCast, zeros]
  refine ⟨_, rfl, _, rfl, for_ind (fun k ρ M' => M' = M ∧ ∃ x4 x5 x6 x7 x8 x9, ρ = [some (.lst es), some (.int p), some (.int n), some (.lst ((spL p n (red p (rows.take k))).map tD)), x4, x5, x6, x7, x8, x9]) _ ?_ ?_ ⟨rfl, none, none, none, none, none, none, by rw [e0]; rfl⟩⟩
  · rintro k d ρ M' N hd ⟨rfl, x4, x5, x6, x7, x8, x9, rfl⟩ hN
    obtain ⟨hk, hfd⟩ := fg_at hes hd
    have hRS : red p (rows.take k) ∈ SP := red_in U _ _ U.nil fun y hy => hrows y (List.mem_of_mem_take hy)
    have hy := hrows _ (List.getElem_mem hk)
    obtain ⟨hyl, hyi⟩ := allD_mem hy
    rw [red_snoc hk] at hN
    generalize red p (rows.take k) = R at hRS hN ⊢
    generalize rows[k] = y at hfd hy hyl hyi hN
    have hF : ∀ o ∈ spL p n R, o ∈ allD p n := fun o ho => spL_all ho
    have hFl := spL_few V R
    have hspan := fun (ms : List Rw) (h1 : ms.Pairwise (· < ·)) (h2 : ∀ k, k ∈ ms ↔ ∃ o ∈ spL p n R, ∃ f ∈ rngL p, k = mn p o y (-f)) => V.span hRS hy h1 h2
    generalize spL p n R = F at hF hFl hspan ⊢
    have hrl : (rngL p).length = p.toNat := by unfold rngL; rw [List.length_map, List.length_range]
    refine ⟨by decide, .int p, rfl, p, rfl, by omega, by omega, ?_⟩
    rw [rng_eq]
    refine for_ind (fun j ρ M2 => M2 = M' ∧ ∃ y6 y7 y8 y9, ρ = [some (.lst es), some (.int p), some (.int n), some (.lst (F.map tD)), some d, some (.lst ((fanL p y F ((rngL p).take j)).map tD)), y6, y7, y8, y9]) _ ?_ ?_ ⟨rfl, x6, x7, x8, x9, rfl⟩
    · rintro j d2 ρ M2 N2 hd2 ⟨rfl, y6, y7, y8, y9, rfl⟩ hN2
      have hj : j < (rngL p).length := by have := (List.getElem?_eq_some_iff.mp hd2).1; rwa [List.length_map] at this
      rw [List.getElem?_map, List.getElem?_eq_getElem hj] at hd2
      cases hd2
      have hfm := rngL_mem (List.getElem_mem hj)
      rw [fanL_snoc hj] at hN2
      generalize (rngL p)[j] = f at hfm hN2 ⊢
      refine ⟨_, rfl, _, rfl, _, rfl, lc_map (fun d => .tup (dI (mn p (intsD d) y (-f)))) _ _ (fun d3 hd3 R3 hR3 => ?_) (by rw [List.length_nil, List.length_map]; omega) ?_⟩
      · obtain ⟨o, ho, rfl⟩ := List.mem_map.mp hd3
        obtain ⟨o1, o2⟩ := allD_mem (hF o ho)
        have hR4 : R3 (.tup (dI (mn p (intsD (tD o)) y (-f)))) M2 := hR3
        rw [tD_ints, mn_plus] at hR4
        refine ⟨_, rfl, d, rfl, _, fgD d, dI o, dI y, rfl, .inr rfl, .inr hfd, lc_map (on2 fun a b => (a + f * b) % p) _ _ (fun e he R5 hR5 => ?_) (psz (by omega)) ?_⟩
        · obtain ⟨a, b, ha, hb', rfl⟩ := pairs_mem _ _ _ he
          have := hyi b hb'
          exact ⟨_, rfl, rfl, _, _, rfl, _, _, rfl, rfl, .int a, rfl, .int f, rfl, .int b, rfl, f, b, rfl, rfl, .inr ⟨by omega, by omega⟩, a, _, rfl, rfl, .inl ⟨_, rfl, .int p, rfl, _, p, rfl, rfl, by omega, hR5⟩⟩
        · rw [List.nil_append, pairs_map]
          exact ⟨_, _, rfl, .inl rfl, hR4⟩
      · have e1 : (F.map tD).map (fun d => D.tup (dI (mn p (intsD d) y (-f)))) = (F.map fun o => mn p o y (-f)).map tD := by
          rw [List.map_map, List.map_map]
          refine List.map_congr_left fun o _ => ?_
          show D.tup (dI (mn p (intsD (tD o)) y (-f))) = _
          rw [tD_ints]; rfl
        rw [List.nil_append, e1]
        have hsz : (fanL p y F ((rngL p).take j)).length ≤ 420 := by
          rw [fanL_len, List.length_take]
          exact Nat.le_trans (Nat.mul_le_mul (by omega : min j (rngL p).length ≤ 7) hFl) (by decide)
        refine ⟨_, _, rfl, rfl, ?_, ?_⟩
        · rw [List.length_map, List.length_map, List.length_map]; omega
        · rw [← List.map_append]
          exact hN2 _ _ ⟨rfl, _, _, _, _, rfl⟩
    · rintro ρ M2 ⟨rfl, y6, y7, y8, y9, rfl⟩
      rw [List.length_map, List.take_length]
      refine ⟨_, rfl, fanL p y F (rngL p), allD p n, n, p, rfl, hn1, fun r hr => ?_, by have := V.few; omega, fun ms h1 h2 => ?_⟩
      · obtain ⟨o, ho, f, hf, rfl⟩ := fanL_mem.mp hr
        have hm := mn_all (p := p) (n := n) (t := -f) hp (hF o ho) hy
        obtain ⟨m1, m2⟩ := allD_mem hm
        exact ⟨m1, fun x hx => m2 x hx, hm⟩
      · rw [hspan ms h1 fun k => by rw [h2]; exact fanL_mem]
        exact hN _ _ ⟨rfl, _, _, _, _, _, _, rfl⟩
  · rintro ρ M' ⟨rfl, x4, x5, x6, x7, x8, x9, rfl⟩
    rw [hlen, List.take_length]
    exact ⟨_, rfl, q⟩
end
end K05

set_option Elab.async false
set_option linter.all false
set_option maxRecDepth 100000
set_option maxHeartbeats 4000000
namespace K05
open PySem PySem.Spec PyProof.Rows L2 Pd Spc
theorem okT (rows : List Rw) : okD (.lst (rows.map tD)) = true := okD_tuples rows
theorem okF (rows : List Rw) : okD (.lst (rows.map D.tfz)) = true := by rw [okD_fgL, tfz_fg]; exact okT rows
theorem eqF (R S : List Rw) : eqD (.lst (R.map D.tfz)) (.lst (S.map D.tfz)) = decide (R = S) := by rw [eqD_fgL, eqD_fgR, tfz_fg, tfz_fg]; exact eqD_rows R S
theorem eqT (R S : List Rw) : eqD (.lst (R.map tD)) (.lst (S.map tD)) = decide (R = S) := eqD_rows R S
section
variable {P : Program} {w : World} {K : PySem.W.Frag} {mg : Str → Option Value} {base : Heap}
def W_splen (S C : Addr) : DC := fun ds M Q => ∃ (p : Int) (n : Nat) (R : List Rw), ds = [dSpace S C p n R] ∧ Q (.int R.length) M
theorem ok_Space_len (T : Tx P w K mg) : FnOk P w K mg base CX0 1 T.a_Space_len T.f_Space_len ["self"] (spD 1 (W_splen T.a_Sum T.a_Space) K) := by
  refine pd_fn T.F_Space_len sc_Space_len (fun cdv A outer s H E hr => ⟨_, (pdss_one (pds_ret (pd_callB call_len_seq sc_len (by rfl) T.n_len (by decide +kernel) (pda_cons (pd_fldK (K := K) rfl (pd_name 0)) pda_nil)))), fun ds M Q hl h => ?_⟩)
  obtain ⟨p, n, R, rfl, q⟩ := h
  refine ⟨_, rfl, _, _, _, rfl, T.c_Space.cl, T.ns_reduced, rfl, _, .inr rfl, ?_⟩
  rw [List.length_map]
  exact q
def W_speq (S C : Addr) : DC := fun ds M Q => ∃ (p : Int) (n : Nat) (R : List Rw) (o : D), ds = [dSpace S C p n R, o] ∧ ((∃ R', o = dSpace S C p n R' ∧ Q (.bl (decide (R = R'))) M) ∨ ∃ es, o = .lst es ∧ Q (.bl false) M)
theorem ok_Space_eq (T : Tx P w K mg) : FnOk P w K mg base CX0 1 T.a_Space_eq T.f_Space_eq ["self", "other"] (spD 2 (W_speq T.a_Sum T.a_Space) K) := by
  refine pd_fn T.F_Space_eq sc_Space_eq (fun cdv A outer s H E hr => ⟨_, (pdss_one (pds_ret (pd_and (pd_callB call_isi sc_isi (by rfl) T.n_isinstance (by decide +kernel) (pda_cons (pd_name 1) (pda_cons (pd_glob (v := .ref T.a_Space) (d := .ob T.a_Space) (by rfl) T.g_Space rfl (fun _ _ => .ob _)) pda_nil))) (pd_and (pd_cmp (op_eqD hr.units) sr_eq (pd_fldK (K := K) rfl (pd_name 0)) (pd_fldK (K := K) rfl (pd_name 1)) (nomark _)) (pd_and (pd_cmp (op_eqD hr.units) sr_eq (pd_fldK (K := K) rfl (pd_name 0)) (pd_fldK (K := K) rfl (pd_name 1)) (nomark _)) (pd_one (pd_cmp (op_eqD hr.units) sr_eq (pd_fldK (K := K) rfl (pd_name 0)) (pd_fldK (K := K) rfl (pd_name 1)) (nomark _)))))))), fun ds M Q hl h => ?_⟩)
  obtain ⟨p, n, R, o, rfl, ⟨R', rfl, q⟩ | ⟨es, rfl, q⟩⟩ := h
  · refine ⟨_, rfl, _, _, _, _, _, true, rfl, .ins T.c_Space, .ob T.a_Space, T.kt_sp, true, rfl, ?_⟩
    refine ⟨_, rfl, _, _, _, rfl, T.c_Space.cl, T.ns_prime, rfl, _, rfl, _, _, _, rfl, T.c_Space.cl, T.ns_prime, rfl, rfl, rfl, true, by rw [eqD_int, decide_eq_true rfl], ?_⟩
    refine ⟨_, rfl, _, _, _, rfl, T.c_Space.cl, T.ns_size, rfl, _, rfl, _, _, _, rfl, T.c_Space.cl, T.ns_size, rfl, rfl, rfl, true, by rw [eqD_int, decide_eq_true rfl], ?_⟩
    refine ⟨_, rfl, _, _, _, rfl, T.c_Space.cl, T.ns_rows, rfl, _, rfl, _, _, _, rfl, T.c_Space.cl, T.ns_rows, rfl, okF R, okF R', ?_⟩
    rw [eqF]
    exact q
  · exact ⟨_, rfl, _, _, _, _, _, false, rfl, .lst _, .ob T.a_Space, T.kt_spl, false, rfl, q⟩
end
end K05

set_option Elab.async false
set_option linter.all false
set_option maxRecDepth 100000
set_option maxHeartbeats 4000000
namespace K05
open PySem PySem.Spec PyProof.Rows L2 Pd Spc
theorem dep_tD (x : Rw) : (toP (tD x)).depth ≤ 60 := by
  show PyData.depthAll (toPA (dI x)) + 1 ≤ 60
  rw [depth_ints]; decide
theorem pow_le {p : Int} {n : Nat} {SP : List (List Rw)} (U : Univ p n SP) : p.toNat ^ n ≤ 4096 := by
  have h7 : p.toNat ≤ 7 := by have := U.p7; omega
  exact Nat.le_trans (Nat.pow_le_pow_left h7 _) (Nat.le_trans (Nat.pow_le_pow_right (by decide) U.n4) (by decide))
theorem apSumT (k : Nat) (p : Int) (y : Rw) : apartF k [("_prime", .int p), ("_factors", .tup (dI y))] = true := by
  show (true && (apartA k (dI y) && true)) = true
  rw [apartA_ints]; rfl
theorem inR_mem {p : Int} {n : Nat} {R : List Rw} {y : Rw} (hy : y ∈ allD p n) : inR p R y = (spL p n R).contains y := by
  rw [Bool.eq_iff_iff, List.contains_iff_mem, mem_spL]
  exact ⟨fun h => ⟨hy, h⟩, fun h => h.2⟩
theorem drop1 (xs : List D) : Pd.cutD xs (some 1) none = xs.drop 1 := by
  cases xs with
  | nil => rfl
  | cons x xs =>
    unfold Pd.cutD
    have e1 : HT.sIx (x :: xs).length 0 (some 1) = 1 := by
      unfold HT.sIx
      simp
      try omega
    have e2 : HT.sIx (x :: xs).length (x :: xs).length none = (x :: xs).length := rfl
    rw [e1, e2]
    show xs.take _ = xs
    exact List.take_of_length_le (by simp)
section
variable {P : Program} {w : World} {K : PySem.W.Frag} {mg : Str → Option Value} {base : Heap}
def W_law : DC := fun ds M Q => ∃ ns : List Int, ds = [.lst (dI ns)] ∧ M = [] ∧ Q (.bl true) []
theorem ok_law (T : Tx P w K mg) : FnOk P w K mg base CX0 10 T.a_law T.f_law ["_law_script"] (spD 1 W_law K) := by
  refine pd_fn T.F_law sc_law (fun cdv A outer s H E hr => ⟨_, (pdss_cons (pds_for PassesOwn.never rfl (pdi_range1 (by rfl) T.n_range (pda_cons (pd_callB (call_max2 rfl) sc_max (by rfl) T.n_max (by decide +kernel) (pda_cons pd_int (pda_cons (pd_callB (call_min2 rfl) sc_min (by rfl) T.n_min (by decide +kernel) (pda_cons (pd_callB call_len_seq sc_len (by rfl) T.n_len (by decide +kernel) (pda_cons (pd_name 0) pda_nil)) (pda_cons pd_int pda_nil))) pda_nil))) pda_nil)) (pdg_name 1 sc_law.nd) (pdss_newN (i := 2) sc_law.nd (ok_law_source T) (hr.mono (by decide)) (by rfl) T.g_law_source T.F_law_source.kp T.b_law_source (pda_cons (pd_name 0) (pda_cons (pd_name 1) pda_nil))
      (pdss_cons (pds_asg (pd_call (ok_law_form T) (hr.mono (by decide)) (by rfl) T.g_law_form T.F_law_form.kp T.b_law_form (pda_cons (pd_name 2) pda_nil)) (pdg_tup (n := 2) rfl (pdgs_cons (pdg_name 5 sc_law.nd) (pdgs_cons (pdg_name 6 sc_law.nd) pdgs_nil))))
      (pdss_cons (pds_par 7 8 rfl sc_law.nd (pda_cons (pd_call (ok_law_sums T) (hr.mono (by decide)) (by rfl) T.g_law_sums T.F_law_sums.kp T.b_law_sums (pda_cons (pd_name 2) (pda_cons (pd_name 5) (pda_cons (pd_name 6) (pda_cons pd_int pda_nil))))) (pda_cons (pd_call (ok_law_sums T) (hr.mono (by decide)) (by rfl) T.g_law_sums T.F_law_sums.kp T.b_law_sums (pda_cons (pd_name 2) (pda_cons (pd_name 5) (pda_cons (pd_name 6) (pda_cons pd_int pda_nil))))) pda_nil)) (by decide))
      (pdss_cons (pds_if (pdt_cmp (op_eqD hr.units) sr_eq (pd_call (ok_law_draw T) (hr.mono (by decide)) (by rfl) T.g_law_draw T.F_law_draw.kp T.b_law_draw (pda_cons (pd_name 2) (pda_cons pd_int pda_nil))) pd_int (nomark _)) (pdss_one (pds_set 8 sc_law.nd (pd_op op_catL sr_catL (pd_call (ok_law_sums T) (hr.mono (by decide)) (by rfl) T.g_law_sums T.F_law_sums.kp T.b_law_sums (pda_cons (pd_name 2) (pda_cons (pd_name 5) (pda_cons (pd_name 6) (pda_cons pd_int pda_nil))))) (pd_slL (pd_name 7) (pdo_some pd_int) pdo_no)))) pdss_nil)
      (pdss_cons (pds_par 9 10 rfl sc_law.nd (pda_cons (pd_call (ok_law_made T) (hr.mono (by decide)) (by rfl) T.g_law_made T.F_law_made.kp T.b_law_made (pda_cons (pd_name 5) (pda_cons (pd_name 6) (pda_cons (pd_name 7) pda_nil)))) (pda_cons (pd_call (ok_law_made T) (hr.mono (by decide)) (by rfl) T.g_law_made T.F_law_made.kp T.b_law_made (pda_cons (pd_name 5) (pda_cons (pd_name 6) (pda_cons (pd_name 8) pda_nil)))) pda_nil)) (by decide))
      (pdss_cons (pds_asg (pd_tup (pda_cons (pd_call (ok_law_span T) (hr.mono (by decide)) (by rfl) T.g_law_span T.F_law_span.kp T.b_law_span (pda_cons (pd_name 7) (pda_cons (pd_name 5) (pda_cons (pd_name 6) pda_nil)))) (pda_cons (pd_call (ok_law_span T) (hr.mono (by decide)) (by rfl) T.g_law_span T.F_law_span.kp T.b_law_span (pda_cons (pd_name 8) (pda_cons (pd_name 5) (pda_cons (pd_name 6) pda_nil)))) pda_nil))) (pdg_tup (n := 2) rfl (pdgs_cons (pdg_name 11 sc_law.nd) (pdgs_cons (pdg_name 12 sc_law.nd) pdgs_nil))))
      (pdss_cons (pds_par 13 14 rfl sc_law.nd (pda_cons (pd_op (op_ownI T.sf_Space T.o_or T.i_or (ok_Space_or T) T.b_Space_or (hr.mono (by decide))) sr_ownI (pd_name 9) (pd_name 10)) (pda_cons (pd_op (op_ownI T.sf_Space T.o_and T.i_and (ok_Space_and T) T.b_Space_and (hr.mono (by decide))) sr_ownI (pd_name 9) (pd_name 10)) pda_nil)) (by decide))
      (pdss_cons (pds_set 3 sc_law.nd (pd_call (ok_law_span T) (hr.mono (by decide)) (by rfl) T.g_law_span T.F_law_span.kp T.b_law_span (pda_cons (pd_op op_catL sr_catL (pd_name 7) (pd_name 8)) (pda_cons (pd_name 5) (pda_cons (pd_name 6) pda_nil)))))
      (pdss_cons (pds_if (pdt_w (pdw_or (pdt_cmp (op_ownNe T.o_eq T.i_eq T.o_ne T.c_Space.hm (ok_Space_eq T) T.b_Space_eq (hr.mono (by decide))) sr_ownNe (pd_name 13) (pd_call (ok_law_made T) (hr.mono (by decide)) (by rfl) T.g_law_made T.F_law_made.kp T.b_law_made (pda_cons (pd_name 5) (pda_cons (pd_name 6) (pda_cons (pd_name 3) pda_nil)))) (nomark _)) (pdw_or1 (pdt_cmp (op_neD hr.units) sr_ne (pd_op op_add sr_I0i (pd_callB (call_ownLen T.o_len T.i_len (ok_Space_len T) T.b_Space_len (hr.mono (by decide))) sc_ownLen (by rfl) T.n_len (by decide +kernel) (pda_cons (pd_name 13) pda_nil)) (pd_callB (call_ownLen T.o_len T.i_len (ok_Space_len T) T.b_Space_len (hr.mono (by decide))) sc_ownLen (by rfl) T.n_len (by decide +kernel) (pda_cons (pd_name 14) pda_nil))) (pd_op op_add sr_I0i (pd_callB (call_ownLen T.o_len T.i_len (ok_Space_len T) T.b_Space_len (hr.mono (by decide))) sc_ownLen (by rfl) T.n_len (by decide +kernel) (pda_cons (pd_name 9) pda_nil)) (pd_callB (call_ownLen T.o_len T.i_len (ok_Space_len T) T.b_Space_len (hr.mono (by decide))) sc_ownLen (by rfl) T.n_len (by decide +kernel) (pda_cons (pd_name 10) pda_nil))) (nomark _))))) (pdss_one (pds_ret pd_bl)) pdss_nil)
      (pdss_cons (pds_for PassesOwn.never rfl (pdi_list (pd_call (ok_law_all_data T) (hr.mono (by decide)) (by rfl) T.g_law_all_data T.F_law_all_data.kp T.b_law_all_data (pda_cons (pd_name 5) (pda_cons (pd_name 6) pda_nil)))) (pdg_name 4 sc_law.nd) (pdss_cons (pds_set 15 sc_law.nd (pd_make T.m_Sum (ok_Sum_init T) (hr.mono (by decide)) (by rfl) T.g_Sum T.b_Sum_init (pda_cons (pd_name 5) (pda_cons (pd_name 4) pda_nil))))
      (pdss_one (pds_if (pdt_w (pdw_or (pdt_cmp (op_neD hr.units) sr_ne (pd_cmp (op_ownIn T.o_in T.i_in (ok_Space_contains T) T.b_Space_contains (hr.mono (by decide))) sr_ownIn (pd_name 15) (pd_name 13) (by rfl)) (pd_cmp (op_inS' hr.units) sr_inS (pd_name 4) (pd_name 3) (by rfl)) (nomark _)) (pdw_or1 (pdt_cmp (op_neD hr.units) sr_ne (pd_cmp (op_ownIn T.o_in T.i_in (ok_Space_contains T) T.b_Space_contains (hr.mono (by decide))) sr_ownIn (pd_name 15) (pd_name 14) (by rfl)) (pd_and (pd_cmp (op_inS' hr.units) sr_inS (pd_name 4) (pd_name 11) (by rfl)) (pd_one (pd_cmp (op_inS' hr.units) sr_inS (pd_name 4) (pd_name 12) (by rfl)))) (nomark _))))) (pdss_one (pds_ret pd_bl)) pdss_nil))))
      (pdss_cons (pds_if (pdt_cmp (op_neD hr.units) sr_ne (pd_methD (pd_name 9) T.c_Space.cl T.me_within (ok_Space_within T) (hr.mono (by decide)) T.b_Space_within (pda_cons (pd_name 10) pda_nil)) (pd_callB (cr_all rfl) sc_all (by rfl) T.n_all (by decide +kernel) (pda_cons (pd_lc [("_law_data", 4)] rfl sc_law.nd (pdi_list (pd_name 11)) (blkOk_by (N := ["_law_script", "_law_turn", "_law_source_here", "_law_every", "_law_data", "_law_prime", "_law_size", "_law_rows", "_law_others", "_law_one", "_law_other", "_law_first", "_law_second", "_law_both", "_law_common", "_law_item"]) (sc := defScope s_law) (by decide +kernel)) (fun _ _ _ _ _ => (pdg_name 4 sc_law.nd)) (fun _ _ _ _ _ => pdts_nil) (fun _ _ _ _ _ => (pd_cmp (op_inS' hr.units) sr_inS (pd_name 4) (pd_name 12) (by rfl)))) pda_nil)) (nomark _)) (pdss_one (pds_ret pd_bl)) pdss_nil)
      (pdss_cons (pds_if (pdt_w (pdw_or (pdt_not (pdt_val (pd_methD (pd_name 9) T.c_Space.cl T.me_within (ok_Space_within T) (hr.mono (by decide)) T.b_Space_within (pda_cons (pd_name 13) pda_nil)))) (pdw_or1 (pdt_not (pdt_val (pd_methD (pd_name 14) T.c_Space.cl T.me_within (ok_Space_within T) (hr.mono (by decide)) T.b_Space_within (pda_cons (pd_name 10) pda_nil))))))) (pdss_one (pds_ret pd_bl)) pdss_nil)
      (pdss_one (pds_if (pdt_w (pdw_or (pdt_cmp (op_ownNe T.o_eq T.i_eq T.o_ne T.c_Space.hm (ok_Space_eq T) T.b_Space_eq (hr.mono (by decide))) sr_ownNe (pd_op (op_ownI T.sf_Space T.o_and T.i_and (ok_Space_and T) T.b_Space_and (hr.mono (by decide))) sr_ownI (pd_name 9) (pd_name 9)) (pd_name 9) (nomark _)) (pdw_or (pdt_cmp (op_ownNe T.o_eq T.i_eq T.o_ne T.c_Space.hm (ok_Space_eq T) T.b_Space_eq (hr.mono (by decide))) sr_ownNe (pd_op (op_ownI T.sf_Space T.o_or T.i_or (ok_Space_or T) T.b_Space_or (hr.mono (by decide))) sr_ownI (pd_name 9) (pd_name 9)) (pd_name 9) (nomark _)) (pdw_or (pdt_cmp (op_ownNe T.o_eq T.i_eq T.o_ne T.c_Space.hm (ok_Space_eq T) T.b_Space_eq (hr.mono (by decide))) sr_ownNe (pd_op (op_ownI T.sf_Space T.o_and T.i_and (ok_Space_and T) T.b_Space_and (hr.mono (by decide))) sr_ownI (pd_name 10) (pd_name 9)) (pd_name 14) (nomark _)) (pdw_or1 (pdt_cmp (op_ownNe T.o_eq T.i_eq T.o_ne T.c_Space.hm (ok_Space_eq T) T.b_Space_eq (hr.mono (by decide))) sr_ownNe (pd_op (op_ownI T.sf_Space T.o_or T.i_or (ok_Space_or T) T.b_Space_or (hr.mono (by decide))) sr_ownI (pd_name 10) (pd_name 9)) (pd_name 13) (nomark _))))))) (pdss_one (pds_ret pd_bl)) pdss_nil)))))))))))))))
      (pdss_one (pds_ret pd_bl))), fun ds M Q hl h => ?_⟩)
  obtain ⟨ns, rfl, rfl, q⟩ := h
  have hsl : sizeLine = 16777216 := by decide
  have hr1 : ∀ n : Nat, -(2 ^ 62) ≤ (if (if (12 : Int) < (n : Int) then (12 : Int) else (n : Int)) > 1 then (if (12 : Int) < (n : Int) then (12 : Int) else (n : Int)) else 1) ∧ (if (if (12 : Int) < (n : Int) then (12 : Int) else (n : Int)) > 1 then (if (12 : Int) < (n : Int) then (12 : Int) else (n : Int)) else 1) < 2 ^ 62 := fun n => by
    constructor <;> (repeat' split) <;> omega
  refine ⟨_, rfl, dI ns, .inl rfl, _, _, rfl, _, _, rfl, _, rfl, (hr1 _).1, (hr1 _).2, ?_⟩
  refine for_ind (fun i ρ M => M = [] ∧ ∃ x1 x2 x3 x4 x5 x6 x7 x8 x9 x10 x11 x12 x13 x14 x15, ρ = [some (.lst (dI ns)), x1, x2, x3, x4, x5, x6, x7, x8, x9, x10, x11, x12, x13, x14, x15]) _ ?_ ?_ ⟨rfl, none, none, none, none, none, none, none, none, none, none, none, none, none, none, none, rfl⟩
  · rintro i d ρ M N hd ⟨rfl, x1, x2, x3, x4, x5, x6, x7, x8, x9, x10, x11, x12, x13, x14, x15, rfl⟩ hN
    obtain ⟨kk, _, rfl⟩ := List.mem_map.mp (List.mem_of_getElem? hd)
    refine ⟨_, rfl, .int _, rfl, rfl, ns, _, rfl, by omega, fun n0 s0 h0 h1 => ⟨rfl, ?_⟩⟩
    have hs0 : Src ([] ++ [.lst [.int n0, .int s0]]) := ⟨n0, s0, rfl, h0, h1⟩
    refine ⟨_, rfl, rfl, rfl, hs0, fun p n SP M1 hs1 U V => ⟨_, rfl, rfl, _, _, rfl, _, _, rfl, rfl, ?_⟩⟩
    have hp2 := U.p2
    have hp7 := U.p7
    have hn := U.n4
    have hn1 := U.n1
    refine ⟨_, rfl, .int p, rfl, .int n, rfl, rfl, p, n, SP, 4, by decide, by decide, rfl, U, hs1, fun rows M2 hs2 hlr hrows => ?_⟩
    refine ⟨_, rfl, .int p, rfl, .int n, rfl, rfl, p, n, SP, 4, by decide, by decide, rfl, U, hs2, fun oth M3 hs3 hlo hoth => ?_⟩
    refine ⟨_, _, rfl, ?_⟩
    refine ⟨_, rfl, rfl, _, rfl, hs3, by decide, by decide, fun r M4 hs4 r0 r1 => ⟨rfl, rfl, decide (r = 0), by rw [eqD_int], ?_⟩⟩
    cases decide (r = 0) with
    | true =>
      refine ⟨_, rfl, .int p, rfl, .int n, rfl, rfl, p, n, SP, 1, by decide, by decide, rfl, U, hs4, fun oth2 M5 hs5 hl5 hoth2 => ?_⟩
      refine ⟨_, rfl, _, rfl, 1, rfl, _, _, rfl, rfl, ?_, ?_⟩
      · rw [drop1, List.length_drop, List.length_map, List.length_map]; omega
      rw [drop1, ← List.map_drop, ← List.map_append]
      have hlo2 : (oth2 ++ rows.drop 1).length ≤ 6 := by rw [List.length_append, List.length_drop]; omega
      have hoth3 : ∀ y ∈ oth2 ++ rows.drop 1, y ∈ allD p n := fun y hy => (List.mem_append.mp hy).elim (hoth2 y) fun h => hrows y (List.mem_of_mem_drop h)
      clear hoth hlo
      generalize oth2 ++ rows.drop 1 = oth at hlo2 hoth3 ⊢
      have hoth := hoth3
      obtain ⟨n1, s1, rfl, c1, c2⟩ := id hs5
      have hA : red p rows ∈ SP := red_in U _ _ U.nil hrows
      have hB : red p oth ∈ SP := red_in U _ _ U.nil hoth
      have hall : ∀ y ∈ rows ++ oth, y ∈ allD p n := fun y hy => (List.mem_append.mp hy).elim (hrows y) (hoth y)
      have hE : red p (rows ++ oth) ∈ SP := red_in U _ _ U.nil hall
      have hj : red p (red p rows ++ red p oth) = red p (rows ++ oth) := V.join hrows hoth
      refine ⟨.int p, rfl, .int n, rfl, _, rfl, rfl, p, n, SP, rows, rfl, U, hrows, by omega, rfl, rfl, ?_⟩
      refine ⟨.int p, rfl, .int n, rfl, _, rfl, rfl, p, n, SP, oth, rfl, U, hoth, by omega, rfl, rfl, ?_⟩
      refine ⟨_, _, rfl, ?_⟩
      refine ⟨_, rfl, .int p, rfl, .int n, rfl, rfl, p, n, SP, _, rows, rfl, U, V, fg_tD rows, hrows, ?_⟩
      refine ⟨_, rfl, .int p, rfl, .int n, rfl, rfl, p, n, SP, _, oth, rfl, U, V, fg_tD oth, hoth, ?_⟩
      refine ⟨(by show 2 ≤ sizeLine; decide), _, rfl, rfl, _, _, rfl, _, _, rfl, rfl, ?_⟩
      generalize hAe : red p rows = A at hA hj ⊢
      generalize hBe : red p oth = B at hB hj ⊢
      refine ⟨_, rfl, _, rfl, _, _, rfl, rfl, p, n, SP, A, B, rfl, U, hA, hB, rfl, rfl, ?_⟩
      refine ⟨_, rfl, _, rfl, _, _, rfl, rfl, p, n, SP, A, B, rfl, U, V, hA, hB, rfl, rfl, ?_⟩
      refine ⟨_, _, rfl, ?_⟩
      refine ⟨_, rfl, _, rfl, _, _, rfl, rfl, by rw [List.length_map, List.length_map]; omega, .int p, rfl, .int n, rfl, rfl, p, n, SP, _, rows ++ oth, rfl, U, V, by rw [← List.map_append]; exact fg_tD _, hall, ?_⟩
      have d1 := V.dims hA hB
      have d2 := V.join_sub hA hB
      have d3 := V.meet_sub hA hB
      have d4 := V.sub_spL hA hB
      have d5 := V.meet_self hA
      have d6 := V.meet_comm hA hB
      have d7 := V.join_self hA
      have d8 := V.join_comm hA hB
      have d9 : ∀ y ∈ allD p n, inR p (meetR p n A B) y = (inR p A y && inR p B y) := fun y hy => V.meet_in hA hB hy
      have hM := V.meetS A B
      rw [hj] at d1 d2 d8 ⊢
      generalize red p (rows ++ oth) = E' at hE d1 d2 d8 ⊢
      generalize meetR p n A B = C at hM d1 d3 d6 d9 ⊢
      have lA := U.len A hA
      have lB := U.len B hB
      have lC := U.len C hM
      have lE := U.len E' hE
      have few := spL_few V
      refine ⟨_, rfl, .int p, rfl, .int n, rfl, _, rfl, rfl, p, n, SP, spL p n E', rfl, U, fun y hy => spL_all hy, by have := few E'; omega, rfl, rfl, ?_⟩
      refine ⟨_, _, rfl, .ins T.c_Space, T.nf_sp, p, n, _, _, rfl, .inl ⟨_, rfl, true, by rw [(V.rs hE).1, decide_eq_true rfl], false, rfl, ?_⟩⟩
      refine ⟨_, rfl, _, rfl, p, n, _, rfl, _, rfl, ⟨by omega, by omega⟩, _, rfl, _, rfl, p, n, _, rfl, _, rfl, ⟨by omega, by omega⟩, _, _, rfl, rfl, ?_⟩
      refine ⟨_, rfl, _, rfl, p, n, _, rfl, _, rfl, ⟨by omega, by omega⟩, _, rfl, _, rfl, p, n, _, rfl, _, rfl, ⟨by omega, by omega⟩, _, _, rfl, rfl, ?_⟩
      refine ⟨rfl, rfl, false, by rw [eqD_int, decide_eq_true (by omega)]; rfl, ?_⟩
      refine ⟨.int p, rfl, .int n, rfl, rfl, p.toNat, n, by rw [Int.toNat_of_nonneg (by omega)], by omega, by omega, by omega, pow_le U, ?_⟩
      rw [tups_eq, Int.toNat_of_nonneg (by omega)]
      refine ⟨_, rfl, ?_⟩
      refine for_ind (fun k ρ M' => M' = [.lst [.int n1, .int s1]] ∧ ∃ y4 y15, ρ = [some (.lst (dI ns)), some (.int (0 + (kk : Int))), some (.mu 0), some (.lst ((spL p n E').map tD)), y4, some (.int p), some (.int n), some (.lst (rows.map tD)), some (.lst (oth.map tD)), some (dSpace T.a_Sum T.a_Space p n A), some (dSpace T.a_Sum T.a_Space p n B), some (.lst ((spL p n A).map tD)), some (.lst ((spL p n B).map tD)), some (dSpace T.a_Sum T.a_Space p n E'), some (dSpace T.a_Sum T.a_Space p n C), y15]) _ ?_ ?_ ⟨rfl, x4, x15, rfl⟩
      · rintro k d ρ M' N2 hd ⟨rfl, y4, y15, rfl⟩ hN2
        obtain ⟨y, hy, rfl⟩ := List.mem_map.mp (List.mem_of_getElem? hd)
        refine ⟨.int p, rfl, tD y, rfl, rfl, _, p, tD y, y, rfl, get_last _ _, sum_ok U hy, .inr (.inl ⟨rfl, [.lst [.int n1, .int s1]], _, rfl, set_last _ _ _, rfl, apSumT _ _ _, rfl, ?_⟩)⟩
        refine ⟨_, rfl, _, rfl, _, rfl, p, n, SP, E', _, rfl, U, hE, .inl ⟨tD y, y, rfl, rfl, hy, _, rfl, ?_⟩⟩
        refine ⟨tD y, rfl, _, rfl, _, .inl rfl, okD_tup y, okT _, dep_tD y, rfl, rfl, false, ?_, ?_⟩
        · rw [eqD_bl, show (((spL p n E').map tD).any fun z => eqD z (tD y)) = (spL p n E').contains y from any_row y _, ← inR_mem hy]
          show D.bl (!(inR p E' y == inR p E' y)) = _
          rw [beq_self_eq_true]; rfl
        refine ⟨_, rfl, _, rfl, _, rfl, p, n, SP, C, _, rfl, U, hM, .inl ⟨tD y, y, rfl, rfl, hy, _, rfl, ?_⟩⟩
        refine ⟨tD y, rfl, _, rfl, _, .inl rfl, okD_tup y, okT _, dep_tD y, inR p A y, by rw [show (((spL p n A).map tD).any fun z => eqD z (tD y)) = (spL p n A).contains y from any_row y _, ← inR_mem hy], ?_⟩
        have e9 := d9 y hy
        have e10 : (!nz (rmd p C y)) = (inR p A y && inR p B y) := e9
        rw [e10]
        cases hca : inR p A y with
        | false => exact ⟨rfl, rfl, false, rfl, hN2 _ _ ⟨rfl, _, _, rfl⟩⟩
        | true =>
          refine ⟨tD y, rfl, _, rfl, _, .inl rfl, okD_tup y, okT _, dep_tD y, ?_⟩
          rw [show (((spL p n B).map tD).any fun z => eqD z (tD y)) = (spL p n B).contains y from any_row y _, ← inR_mem hy]
          exact ⟨rfl, rfl, false, by rw [eqD_bl, Bool.true_and]; show D.bl (!(inR p B y == inR p B y)) = _; rw [beq_self_eq_true]; rfl, hN2 _ _ ⟨rfl, _, _, rfl⟩⟩
      rintro ρ M' ⟨rfl, y4, y15, rfl⟩
      refine ⟨_, rfl, _, rfl, rfl, _, rfl, rfl, p, n, SP, A, B, rfl, U, hA, hB, ?_⟩
      refine ⟨_, rfl, _, rfl, lc_map (fun d => .bl (inR p B (intsD d))) _ _ (fun d hd R3 hR3 => ?_) (by rw [List.length_nil, List.length_map]; have := few A; omega) ?_⟩
      · obtain ⟨y, hy, rfl⟩ := List.mem_map.mp hd
        have hR4 : R3 (.bl (inR p B (intsD (tD y)))) _ := hR3
        rw [tD_ints] at hR4
        refine ⟨tD y, rfl, _, rfl, _, .inl rfl, okD_tup y, okT _, dep_tD y, ?_⟩
        rw [show (((spL p n B).map tD).any fun z => eqD z (tD y)) = (spL p n B).contains y from any_row y _, ← inR_mem (spL_all hy)]
        exact hR4
      rw [List.nil_append, List.map_map]
      refine ⟨(spL p n A).map (inR p B), ?_, rfl, rfl, false, ?_, ?_⟩
      · rw [List.map_map]
        congr 2
        exact List.map_congr_left fun y _ => by show D.bl (inR p B (intsD (tD y))) = D.bl (inR p B y); rw [tD_ints]
      · rw [eqD_bl, d4, List.all_map]
        show D.bl (!((spL p n A).all (inR p B) == (spL p n A).all (inR p B))) = _
        rw [beq_self_eq_true]; rfl
      refine ⟨_, rfl, _, rfl, rfl, _, rfl, rfl, p, n, SP, A, E', rfl, U, hA, hE, true, by rw [List.all_eq_true.mpr d2], ?_⟩
      refine ⟨_, rfl, _, rfl, rfl, _, rfl, rfl, p, n, SP, C, B, rfl, U, hM, hB, true, by rw [List.all_eq_true.mpr d3], ?_⟩
      refine ⟨_, rfl, _, rfl, _, _, rfl, rfl, p, n, SP, A, A, rfl, U, V, hA, hA, rfl, rfl, ?_⟩
      rw [d5]
      refine ⟨_, rfl, _, _, rfl, .ins T.c_Space, T.nf_sp, p, n, _, _, rfl, .inl ⟨_, rfl, true, by rw [decide_eq_true rfl], false, rfl, ?_⟩⟩
      refine ⟨_, rfl, _, rfl, _, _, rfl, rfl, p, n, SP, A, A, rfl, U, hA, hA, rfl, rfl, ?_⟩
      rw [d7]
      refine ⟨_, rfl, _, _, rfl, .ins T.c_Space, T.nf_sp, p, n, _, _, rfl, .inl ⟨_, rfl, true, by rw [decide_eq_true rfl], false, rfl, ?_⟩⟩
      refine ⟨_, rfl, _, rfl, _, _, rfl, rfl, p, n, SP, B, A, rfl, U, V, hB, hA, rfl, rfl, ?_⟩
      rw [d6]
      refine ⟨_, rfl, _, _, rfl, .ins T.c_Space, T.nf_sp, p, n, _, _, rfl, .inl ⟨_, rfl, true, by rw [decide_eq_true rfl], false, rfl, ?_⟩⟩
      refine ⟨_, rfl, _, rfl, _, _, rfl, rfl, p, n, SP, B, A, rfl, U, hB, hA, rfl, rfl, ?_⟩
      rw [d8]
      refine ⟨_, rfl, _, _, rfl, .ins T.c_Space, T.nf_sp, p, n, _, _, rfl, .inl ⟨_, rfl, true, by rw [decide_eq_true rfl], false, rfl, ?_⟩⟩
      exact ⟨[], _, rfl, rfl, rfl, hN _ _ ⟨rfl, _, _, _, _, _, _, _, _, _, _, _, _, _, _, _, clean_cons 0 _ _ (apartA_ints 0 ns)⟩⟩
    | false =>
      have hlo2 : oth.length ≤ 6 := by omega
      obtain ⟨n1, s1, rfl, c1, c2⟩ := id hs4
      have hA : red p rows ∈ SP := red_in U _ _ U.nil hrows
      have hB : red p oth ∈ SP := red_in U _ _ U.nil hoth
      have hall : ∀ y ∈ rows ++ oth, y ∈ allD p n := fun y hy => (List.mem_append.mp hy).elim (hrows y) (hoth y)
      have hE : red p (rows ++ oth) ∈ SP := red_in U _ _ U.nil hall
      have hj : red p (red p rows ++ red p oth) = red p (rows ++ oth) := V.join hrows hoth
      refine ⟨.int p, rfl, .int n, rfl, _, rfl, rfl, p, n, SP, rows, rfl, U, hrows, by omega, rfl, rfl, ?_⟩
      refine ⟨.int p, rfl, .int n, rfl, _, rfl, rfl, p, n, SP, oth, rfl, U, hoth, by omega, rfl, rfl, ?_⟩
      refine ⟨_, _, rfl, ?_⟩
      refine ⟨_, rfl, .int p, rfl, .int n, rfl, rfl, p, n, SP, _, rows, rfl, U, V, fg_tD rows, hrows, ?_⟩
      refine ⟨_, rfl, .int p, rfl, .int n, rfl, rfl, p, n, SP, _, oth, rfl, U, V, fg_tD oth, hoth, ?_⟩
      refine ⟨(by show 2 ≤ sizeLine; decide), _, rfl, rfl, _, _, rfl, _, _, rfl, rfl, ?_⟩
      generalize hAe : red p rows = A at hA hj ⊢
      generalize hBe : red p oth = B at hB hj ⊢
      refine ⟨_, rfl, _, rfl, _, _, rfl, rfl, p, n, SP, A, B, rfl, U, hA, hB, rfl, rfl, ?_⟩
      refine ⟨_, rfl, _, rfl, _, _, rfl, rfl, p, n, SP, A, B, rfl, U, V, hA, hB, rfl, rfl, ?_⟩
      refine ⟨_, _, rfl, ?_⟩
      refine ⟨_, rfl, _, rfl, _, _, rfl, rfl, by rw [List.length_map, List.length_map]; omega, .int p, rfl, .int n, rfl, rfl, p, n, SP, _, rows ++ oth, rfl, U, V, by rw [← List.map_append]; exact fg_tD _, hall, ?_⟩
      have d1 := V.dims hA hB
      have d2 := V.join_sub hA hB
      have d3 := V.meet_sub hA hB
      have d4 := V.sub_spL hA hB
      have d5 := V.meet_self hA
      have d6 := V.meet_comm hA hB
      have d7 := V.join_self hA
      have d8 := V.join_comm hA hB
      have d9 : ∀ y ∈ allD p n, inR p (meetR p n A B) y = (inR p A y && inR p B y) := fun y hy => V.meet_in hA hB hy
      have hM := V.meetS A B
      rw [hj] at d1 d2 d8 ⊢
      generalize red p (rows ++ oth) = E' at hE d1 d2 d8 ⊢
      generalize meetR p n A B = C at hM d1 d3 d6 d9 ⊢
      have lA := U.len A hA
      have lB := U.len B hB
      have lC := U.len C hM
      have lE := U.len E' hE
      have few := spL_few V
      refine ⟨_, rfl, .int p, rfl, .int n, rfl, _, rfl, rfl, p, n, SP, spL p n E', rfl, U, fun y hy => spL_all hy, by have := few E'; omega, rfl, rfl, ?_⟩
      refine ⟨_, _, rfl, .ins T.c_Space, T.nf_sp, p, n, _, _, rfl, .inl ⟨_, rfl, true, by rw [(V.rs hE).1, decide_eq_true rfl], false, rfl, ?_⟩⟩
      refine ⟨_, rfl, _, rfl, p, n, _, rfl, _, rfl, ⟨by omega, by omega⟩, _, rfl, _, rfl, p, n, _, rfl, _, rfl, ⟨by omega, by omega⟩, _, _, rfl, rfl, ?_⟩
      refine ⟨_, rfl, _, rfl, p, n, _, rfl, _, rfl, ⟨by omega, by omega⟩, _, rfl, _, rfl, p, n, _, rfl, _, rfl, ⟨by omega, by omega⟩, _, _, rfl, rfl, ?_⟩
      refine ⟨rfl, rfl, false, by rw [eqD_int, decide_eq_true (by omega)]; rfl, ?_⟩
      refine ⟨.int p, rfl, .int n, rfl, rfl, p.toNat, n, by rw [Int.toNat_of_nonneg (by omega)], by omega, by omega, by omega, pow_le U, ?_⟩
      rw [tups_eq, Int.toNat_of_nonneg (by omega)]
      refine ⟨_, rfl, ?_⟩
      refine for_ind (fun k ρ M' => M' = [.lst [.int n1, .int s1]] ∧ ∃ y4 y15, ρ = [some (.lst (dI ns)), some (.int (0 + (kk : Int))), some (.mu 0), some (.lst ((spL p n E').map tD)), y4, some (.int p), some (.int n), some (.lst (rows.map tD)), some (.lst (oth.map tD)), some (dSpace T.a_Sum T.a_Space p n A), some (dSpace T.a_Sum T.a_Space p n B), some (.lst ((spL p n A).map tD)), some (.lst ((spL p n B).map tD)), some (dSpace T.a_Sum T.a_Space p n E'), some (dSpace T.a_Sum T.a_Space p n C), y15]) _ ?_ ?_ ⟨rfl, x4, x15, rfl⟩
      · rintro k d ρ M' N2 hd ⟨rfl, y4, y15, rfl⟩ hN2
        obtain ⟨y, hy, rfl⟩ := List.mem_map.mp (List.mem_of_getElem? hd)
        refine ⟨.int p, rfl, tD y, rfl, rfl, _, p, tD y, y, rfl, get_last _ _, sum_ok U hy, .inr (.inl ⟨rfl, [.lst [.int n1, .int s1]], _, rfl, set_last _ _ _, rfl, apSumT _ _ _, rfl, ?_⟩)⟩
        refine ⟨_, rfl, _, rfl, _, rfl, p, n, SP, E', _, rfl, U, hE, .inl ⟨tD y, y, rfl, rfl, hy, _, rfl, ?_⟩⟩
        refine ⟨tD y, rfl, _, rfl, _, .inl rfl, okD_tup y, okT _, dep_tD y, rfl, rfl, false, ?_, ?_⟩
        · rw [eqD_bl, show (((spL p n E').map tD).any fun z => eqD z (tD y)) = (spL p n E').contains y from any_row y _, ← inR_mem hy]
          show D.bl (!(inR p E' y == inR p E' y)) = _
          rw [beq_self_eq_true]; rfl
        refine ⟨_, rfl, _, rfl, _, rfl, p, n, SP, C, _, rfl, U, hM, .inl ⟨tD y, y, rfl, rfl, hy, _, rfl, ?_⟩⟩
        refine ⟨tD y, rfl, _, rfl, _, .inl rfl, okD_tup y, okT _, dep_tD y, inR p A y, by rw [show (((spL p n A).map tD).any fun z => eqD z (tD y)) = (spL p n A).contains y from any_row y _, ← inR_mem hy], ?_⟩
        have e9 := d9 y hy
        have e10 : (!nz (rmd p C y)) = (inR p A y && inR p B y) := e9
        rw [e10]
        cases hca : inR p A y with
        | false => exact ⟨rfl, rfl, false, rfl, hN2 _ _ ⟨rfl, _, _, rfl⟩⟩
        | true =>
          refine ⟨tD y, rfl, _, rfl, _, .inl rfl, okD_tup y, okT _, dep_tD y, ?_⟩
          rw [show (((spL p n B).map tD).any fun z => eqD z (tD y)) = (spL p n B).contains y from any_row y _, ← inR_mem hy]
          exact ⟨rfl, rfl, false, by rw [eqD_bl, Bool.true_and]; show D.bl (!(inR p B y == inR p B y)) = _; rw [beq_self_eq_true]; rfl, hN2 _ _ ⟨rfl, _, _, rfl⟩⟩
      rintro ρ M' ⟨rfl, y4, y15, rfl⟩
      refine ⟨_, rfl, _, rfl, rfl, _, rfl, rfl, p, n, SP, A, B, rfl, U, hA, hB, ?_⟩
      refine ⟨_, rfl, _, rfl, lc_map (fun d => .bl (inR p B (intsD d))) _ _ (fun d hd R3 hR3 => ?_) (by rw [List.length_nil, List.length_map]; have := few A; omega) ?_⟩
      · obtain ⟨y, hy, rfl⟩ := List.mem_map.mp hd
        have hR4 : R3 (.bl (inR p B (intsD (tD y)))) _ := hR3
        rw [tD_ints] at hR4
        refine ⟨tD y, rfl, _, rfl, _, .inl rfl, okD_tup y, okT _, dep_tD y, ?_⟩
        rw [show (((spL p n B).map tD).any fun z => eqD z (tD y)) = (spL p n B).contains y from any_row y _, ← inR_mem (spL_all hy)]
        exact hR4
      rw [List.nil_append, List.map_map]
      refine ⟨(spL p n A).map (inR p B), ?_, rfl, rfl, false, ?_, ?_⟩
      · rw [List.map_map]
        congr 2
        exact List.map_congr_left fun y _ => by show D.bl (inR p B (intsD (tD y))) = D.bl (inR p B y); rw [tD_ints]
      · rw [eqD_bl, d4, List.all_map]
        show D.bl (!((spL p n A).all (inR p B) == (spL p n A).all (inR p B))) = _
        rw [beq_self_eq_true]; rfl
      refine ⟨_, rfl, _, rfl, rfl, _, rfl, rfl, p, n, SP, A, E', rfl, U, hA, hE, true, by rw [List.all_eq_true.mpr d2], ?_⟩
      refine ⟨_, rfl, _, rfl, rfl, _, rfl, rfl, p, n, SP, C, B, rfl, U, hM, hB, true, by rw [List.all_eq_true.mpr d3], ?_⟩
      refine ⟨_, rfl, _, rfl, _, _, rfl, rfl, p, n, SP, A, A, rfl, U, V, hA, hA, rfl, rfl, ?_⟩
      rw [d5]
      refine ⟨_, rfl, _, _, rfl, .ins T.c_Space, T.nf_sp, p, n, _, _, rfl, .inl ⟨_, rfl, true, by rw [decide_eq_true rfl], false, rfl, ?_⟩⟩
      refine ⟨_, rfl, _, rfl, _, _, rfl, rfl, p, n, SP, A, A, rfl, U, hA, hA, rfl, rfl, ?_⟩
      rw [d7]
      refine ⟨_, rfl, _, _, rfl, .ins T.c_Space, T.nf_sp, p, n, _, _, rfl, .inl ⟨_, rfl, true, by rw [decide_eq_true rfl], false, rfl, ?_⟩⟩
      refine ⟨_, rfl, _, rfl, _, _, rfl, rfl, p, n, SP, B, A, rfl, U, V, hB, hA, rfl, rfl, ?_⟩
      rw [d6]
      refine ⟨_, rfl, _, _, rfl, .ins T.c_Space, T.nf_sp, p, n, _, _, rfl, .inl ⟨_, rfl, true, by rw [decide_eq_true rfl], false, rfl, ?_⟩⟩
      refine ⟨_, rfl, _, rfl, _, _, rfl, rfl, p, n, SP, B, A, rfl, U, hB, hA, rfl, rfl, ?_⟩
      rw [d8]
      refine ⟨_, rfl, _, _, rfl, .ins T.c_Space, T.nf_sp, p, n, _, _, rfl, .inl ⟨_, rfl, true, by rw [decide_eq_true rfl], false, rfl, ?_⟩⟩
      exact ⟨[], _, rfl, rfl, rfl, hN _ _ ⟨rfl, _, _, _, _, _, _, _, _, _, _, _, _, _, _, _, clean_cons 0 _ _ (apartA_ints 0 ns)⟩⟩
  · rintro ρ M ⟨rfl, x1, x2, x3, x4, x5, x6, x7, x8, x9, x10, x11, x12, x13, x14, x15, rfl⟩
    exact q
end
end K05

set_option Elab.async false
set_option linter.all false
set_option maxRecDepth 100000
set_option maxHeartbeats 4000000
namespace Pd
open PySem PySem.Spec PyProof.Rows L2
/-- what is known, tables left out -/
def noTbl (H : Hp) : Hp := fun b => match H b with | some (.tbl _) => none | x => x
theorem noTbl_eq {H : Hp} {b : Addr} {o : HO} (h : H b = some o) (n : ∀ ps, o ≠ .tbl ps) : noTbl H b = some o := by
  unfold noTbl
  rw [h]
  cases o <;> first | rfl | exact absurd rfl (n _)
theorem noTbl_low {H : Hp} {b : Addr} {o : HO} (h : noTbl H b = some o) : H b = some o ∧ ∀ ps, o ≠ .tbl ps := by
  unfold noTbl at h
  split at h
  · cases h
  · rename_i hx
    exact ⟨h, fun ps z => hx ps (by rw [h, z])⟩
/-- the script's list is data -/
theorem sp_script {K : PySem.W.Frag} {W : DC} {H : Hp} {a : Addr} {ns : List Int} {E : XK} (hS : SqL K H a (ns.map V.int)) (h : W [.lst (dI ns)] [] fun d _ => d = .bl true) : spD 1 W K [.ref a] H (fun v _ => v = .bl true) E := by
  have ri : ∀ ns : List Int, RpA K [] (noTbl H) (ns.map V.int) (dI ns) := fun ns => by
    induction ns with
    | nil => exact .nil
    | cons n ns ih => exact .cons (.int n) ih
  have hS2 : SqL K (noTbl H) a (ns.map V.int) := by
    rcases hS with (h | ⟨o, h⟩) | h
    · exact .inl (.inl (noTbl_eq h fun _ z => by cases z))
    · exact .inl (.inr ⟨o, noTbl_eq h fun _ z => by cases z⟩)
    · exact .inr h
  refine ⟨rfl, [], [], noTbl H, [.lst (dI ns)], fun d _ => d = .bl true, .cons (.lst hS2 (ri ns)) .nil, ⟨fun b o e => (noTbl_low e).1, rfl, List.nodup_nil, fun k a m e => by simp at e, fun b ps e => (noTbl_low e).2 ps rfl⟩, h, fun v d L' H' M' _ _ e r => ?_⟩
  subst e
  cases r
  rfl
end Pd
namespace K05
open PySem PySem.Spec PyProof.Rows L2 Pd
theorem gs_dict {K : PySem.W.Frag} {P : Program} {w : World} {d : Addr} {h1 h2 h3 h4 : Int} {t1 t2 t3 t4 u1 u2 u3 u4 : Tok} {n0 : Nat}
    (l : K.lookup d = some ⟨.type "dict", none, .dict #[⟨h1, .int 2 t1, .int 6 u1⟩, ⟨h2, .int 3 t2, .int 6 u2⟩, ⟨h3, .int 5 t3, .int 5 u3⟩, ⟨h4, .int 7 t4, .int 4 u4⟩] n0, #[]⟩)
    (e : h1 = hashInt 2 ∧ h2 = hashInt 3 ∧ h3 = hashInt 5 ∧ h4 = hashInt 7) (o : (d == sysModules) = false) : IntD K P w d gsz := by
  obtain ⟨rfl, rfl, rfl, rfl⟩ := e
  refine ⟨⟨_, _, l, fun x hx => ?_, fun k => ?_⟩, o⟩
  · simp only [List.mem_toArray, List.mem_cons, List.not_mem_nil, or_false] at hx
    rcases hx with rfl | rfl | rfl | rfl
    · exact ⟨2, rfl, rfl⟩
    · exact ⟨3, rfl, rfl⟩
    · exact ⟨5, rfl, rfl⟩
    · exact ⟨7, rfl, rfl⟩
  · unfold findBy gsz
    simp only [List.find?_toArray, List.find?_cons, List.find?_nil, Value.isInt]
    by_cases e2 : k = 2
    · subst e2; exact .inr ⟨6, u1, rfl, rfl⟩
    by_cases e3 : k = 3
    · subst e3; exact .inr ⟨6, u2, rfl, rfl⟩
    by_cases e5 : k = 5
    · subst e5; exact .inr ⟨5, u3, rfl, rfl⟩
    by_cases e7 : k = 7
    · subst e7; exact .inr ⟨4, u4, rfl, rfl⟩
    rw [if_neg e2, if_neg e3, if_neg e5, if_neg e7]
    have f : ∀ a : Int, k ≠ a → (a == k) = false := fun a h => by simpa using fun z => h z.symm
    rw [f 2 e2, f 3 e3, f 5 e5, f 7 e7]
    exact .inl ⟨rfl, rfl⟩
theorem all_mk {l : PySem.W.OpenLaw} {w : World} {K : PySem.W.Frag} {h : Heap} {mg : Str → Option Value} {fa : Addr} (X : K.In h) (G : h.Ns mainGlobals mg) (hfa : mg "law" = some (.ref fa))
    {a_Sum a_Space a_is_integer a_is_between a_has_items a_all_between a_is_prime a_is_size a_expect_prime_and_size a_is_sum a_Sum_init a_Sum_prime q_Sum_prime a_Sum_factors q_Sum_factors a_Sum_size q_Sum_size a_minus a_remainder a_led_by_one a_reduced_rows a_zero_row a_zero_rows a_Space_init a_Space_len a_Space_contains a_Space_or a_Space_and a_Space_eq a_Space_within a_Space_expect_operand a_law_source a_law_draw a_law_pick a_law_all_data a_law_factors a_law_form a_law_sums a_law_span a_law_made a_law a_GS dT_Space_init dE_Space_init : Addr}
    {od_is_integer an_is_integer od_is_between an_is_between od_has_items an_has_items od_all_between an_all_between od_is_prime an_is_prime od_is_size an_is_size od_expect_prime_and_size an_expect_prime_and_size od_is_sum an_is_sum od_Sum_init an_Sum_init od_Sum_prime an_Sum_prime od_Sum_factors an_Sum_factors od_Sum_size an_Sum_size od_minus an_minus od_remainder an_remainder od_led_by_one an_led_by_one od_reduced_rows an_reduced_rows od_zero_row an_zero_row od_zero_rows an_zero_rows od_Space_init an_Space_init od_Space_len an_Space_len od_Space_contains an_Space_contains od_Space_or an_Space_or od_Space_and an_Space_and od_Space_eq an_Space_eq od_Space_within an_Space_within od_Space_expect_operand an_Space_expect_operand od_law_source an_law_source od_law_draw an_law_draw od_law_pick an_law_pick od_law_all_data an_law_all_data od_law_factors an_law_factors od_law_form an_law_form od_law_sums an_law_sums od_law_span an_law_span od_law_made an_law_made od_law an_law : Option Addr}
    {sl_is_integer sl_is_between sl_has_items sl_all_between sl_is_prime sl_is_size sl_expect_prime_and_size sl_is_sum sl_Sum_init sl_Sum_prime sl_Sum_factors sl_Sum_size sl_minus sl_remainder sl_led_by_one sl_reduced_rows sl_zero_row sl_zero_rows sl_Space_init sl_Space_len sl_Space_contains sl_Space_or sl_Space_and sl_Space_eq sl_Space_within sl_Space_expect_operand sl_law_source sl_law_draw sl_law_pick sl_law_all_data sl_law_factors sl_law_form sl_law_sums sl_law_span sl_law_made sl_law : Array (Option Value)}
    {oc_is_integer kV_is_integer dc_is_integer pm_is_integer cd_is_integer ct_is_integer oc_is_between kV_is_between dc_is_between pm_is_between cd_is_between ct_is_between oc_has_items kV_has_items dc_has_items pm_has_items cd_has_items ct_has_items oc_all_between kV_all_between dc_all_between pm_all_between cd_all_between ct_all_between oc_is_prime kV_is_prime dc_is_prime pm_is_prime cd_is_prime ct_is_prime oc_is_size kV_is_size dc_is_size pm_is_size cd_is_size ct_is_size oc_expect_prime_and_size kV_expect_prime_and_size dc_expect_prime_and_size pm_expect_prime_and_size cd_expect_prime_and_size ct_expect_prime_and_size oc_is_sum kV_is_sum dc_is_sum pm_is_sum cd_is_sum ct_is_sum oc_Sum_init kV_Sum_init dc_Sum_init pm_Sum_init cd_Sum_init ct_Sum_init oc_Sum_prime kV_Sum_prime dc_Sum_prime pm_Sum_prime cd_Sum_prime ct_Sum_prime oc_Sum_factors kV_Sum_factors dc_Sum_factors pm_Sum_factors cd_Sum_factors ct_Sum_factors oc_Sum_size kV_Sum_size dc_Sum_size pm_Sum_size cd_Sum_size ct_Sum_size oc_minus kV_minus dc_minus pm_minus cd_minus ct_minus oc_remainder kV_remainder dc_remainder pm_remainder cd_remainder ct_remainder oc_led_by_one kV_led_by_one dc_led_by_one pm_led_by_one cd_led_by_one ct_led_by_one oc_reduced_rows kV_reduced_rows dc_reduced_rows pm_reduced_rows cd_reduced_rows ct_reduced_rows oc_zero_row kV_zero_row dc_zero_row pm_zero_row cd_zero_row ct_zero_row oc_zero_rows kV_zero_rows dc_zero_rows pm_zero_rows cd_zero_rows ct_zero_rows oc_Space_init kV_Space_init dc_Space_init pm_Space_init cd_Space_init ct_Space_init oc_Space_len kV_Space_len dc_Space_len pm_Space_len cd_Space_len ct_Space_len oc_Space_contains kV_Space_contains dc_Space_contains pm_Space_contains cd_Space_contains ct_Space_contains oc_Space_or kV_Space_or dc_Space_or pm_Space_or cd_Space_or ct_Space_or oc_Space_and kV_Space_and dc_Space_and pm_Space_and cd_Space_and ct_Space_and oc_Space_eq kV_Space_eq dc_Space_eq pm_Space_eq cd_Space_eq ct_Space_eq oc_Space_within kV_Space_within dc_Space_within pm_Space_within cd_Space_within ct_Space_within oc_Space_expect_operand kV_Space_expect_operand dc_Space_expect_operand pm_Space_expect_operand cd_Space_expect_operand ct_Space_expect_operand oc_law_source kV_law_source dc_law_source pm_law_source cd_law_source ct_law_source oc_law_draw kV_law_draw dc_law_draw pm_law_draw cd_law_draw ct_law_draw oc_law_pick kV_law_pick dc_law_pick pm_law_pick cd_law_pick ct_law_pick oc_law_all_data kV_law_all_data dc_law_all_data pm_law_all_data cd_law_all_data ct_law_all_data oc_law_factors kV_law_factors dc_law_factors pm_law_factors cd_law_factors ct_law_factors oc_law_form kV_law_form dc_law_form pm_law_form cd_law_form ct_law_form oc_law_sums kV_law_sums dc_law_sums pm_law_sums cd_law_sums ct_law_sums oc_law_span kV_law_span dc_law_span pm_law_span cd_law_span ct_law_span oc_law_made kV_law_made dc_law_made pm_law_made cd_law_made ct_law_made oc_law kV_law dc_law pm_law cd_law ct_law : Value}
    {pr_Sum_prime pr_Sum_factors pr_Sum_size : List Value}
    {h1 h2 h3 h4 : Int} {t1 t2 t3 t4 u1 u2 u3 u4 : Tok} {n0 : Nat} {dC_Space_init : Value} {dD_Space_init : Option Addr} {dN_Space_init : Nat} {dS_Space_init : Array (Option Value)}
    (g_Sum : PySem.W.nsIn K mainGlobals "Sum" = some (some (.ref a_Sum)))
    (g_Space : PySem.W.nsIn K mainGlobals "Space" = some (some (.ref a_Space)))
    (g_is_integer : PySem.W.nsIn K mainGlobals "is_integer" = some (some (.ref a_is_integer)))
    (i_is_integer : PySem.W.isFn K (.ref a_is_integer) = true)
    (l_is_integer : K.lookup a_is_integer = some ⟨oc_is_integer, od_is_integer, .func (PySem.W.fnOf "is_integer" "is_integer" (defArgs s_is_integer) (defBody s_is_integer) (defScope s_is_integer) .none kV_is_integer dc_is_integer pm_is_integer an_is_integer cd_is_integer ct_is_integer), sl_is_integer⟩)
    (c_is_integer : PySem.W.codeIn K cd_is_integer "is_integer" = true)
    (k_is_integer : PySem.W.keepIn K (.ref a_is_integer) = true)
    (g_is_between : PySem.W.nsIn K mainGlobals "is_between" = some (some (.ref a_is_between)))
    (i_is_between : PySem.W.isFn K (.ref a_is_between) = true)
    (l_is_between : K.lookup a_is_between = some ⟨oc_is_between, od_is_between, .func (PySem.W.fnOf "is_between" "is_between" (defArgs s_is_between) (defBody s_is_between) (defScope s_is_between) .none kV_is_between dc_is_between pm_is_between an_is_between cd_is_between ct_is_between), sl_is_between⟩)
    (c_is_between : PySem.W.codeIn K cd_is_between "is_between" = true)
    (k_is_between : PySem.W.keepIn K (.ref a_is_between) = true)
    (g_has_items : PySem.W.nsIn K mainGlobals "has_items" = some (some (.ref a_has_items)))
    (i_has_items : PySem.W.isFn K (.ref a_has_items) = true)
    (l_has_items : K.lookup a_has_items = some ⟨oc_has_items, od_has_items, .func (PySem.W.fnOf "has_items" "has_items" (defArgs s_has_items) (defBody s_has_items) (defScope s_has_items) .none kV_has_items dc_has_items pm_has_items an_has_items cd_has_items ct_has_items), sl_has_items⟩)
    (c_has_items : PySem.W.codeIn K cd_has_items "has_items" = true)
    (k_has_items : PySem.W.keepIn K (.ref a_has_items) = true)
    (g_all_between : PySem.W.nsIn K mainGlobals "all_between" = some (some (.ref a_all_between)))
    (i_all_between : PySem.W.isFn K (.ref a_all_between) = true)
    (l_all_between : K.lookup a_all_between = some ⟨oc_all_between, od_all_between, .func (PySem.W.fnOf "all_between" "all_between" (defArgs s_all_between) (defBody s_all_between) (defScope s_all_between) .none kV_all_between dc_all_between pm_all_between an_all_between cd_all_between ct_all_between), sl_all_between⟩)
    (c_all_between : PySem.W.codeIn K cd_all_between "all_between" = true)
    (k_all_between : PySem.W.keepIn K (.ref a_all_between) = true)
    (g_is_prime : PySem.W.nsIn K mainGlobals "is_prime" = some (some (.ref a_is_prime)))
    (i_is_prime : PySem.W.isFn K (.ref a_is_prime) = true)
    (l_is_prime : K.lookup a_is_prime = some ⟨oc_is_prime, od_is_prime, .func (PySem.W.fnOf "is_prime" "is_prime" (defArgs s_is_prime) (defBody s_is_prime) (defScope s_is_prime) .none kV_is_prime dc_is_prime pm_is_prime an_is_prime cd_is_prime ct_is_prime), sl_is_prime⟩)
    (c_is_prime : PySem.W.codeIn K cd_is_prime "is_prime" = true)
    (k_is_prime : PySem.W.keepIn K (.ref a_is_prime) = true)
    (g_is_size : PySem.W.nsIn K mainGlobals "is_size" = some (some (.ref a_is_size)))
    (i_is_size : PySem.W.isFn K (.ref a_is_size) = true)
    (l_is_size : K.lookup a_is_size = some ⟨oc_is_size, od_is_size, .func (PySem.W.fnOf "is_size" "is_size" (defArgs s_is_size) (defBody s_is_size) (defScope s_is_size) .none kV_is_size dc_is_size pm_is_size an_is_size cd_is_size ct_is_size), sl_is_size⟩)
    (c_is_size : PySem.W.codeIn K cd_is_size "is_size" = true)
    (k_is_size : PySem.W.keepIn K (.ref a_is_size) = true)
    (g_expect_prime_and_size : PySem.W.nsIn K mainGlobals "expect_prime_and_size" = some (some (.ref a_expect_prime_and_size)))
    (i_expect_prime_and_size : PySem.W.isFn K (.ref a_expect_prime_and_size) = true)
    (l_expect_prime_and_size : K.lookup a_expect_prime_and_size = some ⟨oc_expect_prime_and_size, od_expect_prime_and_size, .func (PySem.W.fnOf "expect_prime_and_size" "expect_prime_and_size" (defArgs s_expect_prime_and_size) (defBody s_expect_prime_and_size) (defScope s_expect_prime_and_size) .none kV_expect_prime_and_size dc_expect_prime_and_size pm_expect_prime_and_size an_expect_prime_and_size cd_expect_prime_and_size ct_expect_prime_and_size), sl_expect_prime_and_size⟩)
    (c_expect_prime_and_size : PySem.W.codeIn K cd_expect_prime_and_size "expect_prime_and_size" = true)
    (k_expect_prime_and_size : PySem.W.keepIn K (.ref a_expect_prime_and_size) = true)
    (g_is_sum : PySem.W.nsIn K mainGlobals "is_sum" = some (some (.ref a_is_sum)))
    (i_is_sum : PySem.W.isFn K (.ref a_is_sum) = true)
    (l_is_sum : K.lookup a_is_sum = some ⟨oc_is_sum, od_is_sum, .func (PySem.W.fnOf "is_sum" "is_sum" (defArgs s_is_sum) (defBody s_is_sum) (defScope s_is_sum) .none kV_is_sum dc_is_sum pm_is_sum an_is_sum cd_is_sum ct_is_sum), sl_is_sum⟩)
    (c_is_sum : PySem.W.codeIn K cd_is_sum "is_sum" = true)
    (k_is_sum : PySem.W.keepIn K (.ref a_is_sum) = true)
    (f_Sum_init : PySem.W.findIn K (.ref a_Sum) "__init__" = some (some (.ref a_Sum_init)))
    (i_Sum_init : PySem.W.isFn K (.ref a_Sum_init) = true)
    (l_Sum_init : K.lookup a_Sum_init = some ⟨oc_Sum_init, od_Sum_init, .func (PySem.W.fnOf "__init__" "Sum.__init__" (defArgs s_Sum_init) (defBody s_Sum_init) (defScope s_Sum_init) .none kV_Sum_init dc_Sum_init pm_Sum_init an_Sum_init cd_Sum_init ct_Sum_init), sl_Sum_init⟩)
    (c_Sum_init : PySem.W.codeIn K cd_Sum_init "Sum.__init__" = true)
    (k_Sum_init : PySem.W.keepIn K (.ref a_Sum_init) = true)
    (pa_Sum_prime : PySem.W.findIn K (.ref a_Sum) "prime" = some (some (.ref q_Sum_prime)))
    (pg_Sum_prime : PySem.W.specialIn K (.ref q_Sum_prime) "__get__" = some (some (.builtin "property.__get__")))
    (pt_Sum_prime : PySem.W.takesIn K (.ref q_Sum_prime) = some true)
    (pc_Sum_prime : PySem.W.recIn K q_Sum_prime "property" = some (.ref a_Sum_prime :: pr_Sum_prime))
    (i_Sum_prime : PySem.W.isFn K (.ref a_Sum_prime) = true)
    (l_Sum_prime : K.lookup a_Sum_prime = some ⟨oc_Sum_prime, od_Sum_prime, .func (PySem.W.fnOf "prime" "Sum.prime" (defArgs s_Sum_prime) (defBody s_Sum_prime) (defScope s_Sum_prime) .none kV_Sum_prime dc_Sum_prime pm_Sum_prime an_Sum_prime cd_Sum_prime ct_Sum_prime), sl_Sum_prime⟩)
    (c_Sum_prime : PySem.W.codeIn K cd_Sum_prime "Sum.prime" = true)
    (k_Sum_prime : PySem.W.keepIn K (.ref a_Sum_prime) = true)
    (pa_Sum_factors : PySem.W.findIn K (.ref a_Sum) "factors" = some (some (.ref q_Sum_factors)))
    (pg_Sum_factors : PySem.W.specialIn K (.ref q_Sum_factors) "__get__" = some (some (.builtin "property.__get__")))
    (pt_Sum_factors : PySem.W.takesIn K (.ref q_Sum_factors) = some true)
    (pc_Sum_factors : PySem.W.recIn K q_Sum_factors "property" = some (.ref a_Sum_factors :: pr_Sum_factors))
    (i_Sum_factors : PySem.W.isFn K (.ref a_Sum_factors) = true)
    (l_Sum_factors : K.lookup a_Sum_factors = some ⟨oc_Sum_factors, od_Sum_factors, .func (PySem.W.fnOf "factors" "Sum.factors" (defArgs s_Sum_factors) (defBody s_Sum_factors) (defScope s_Sum_factors) .none kV_Sum_factors dc_Sum_factors pm_Sum_factors an_Sum_factors cd_Sum_factors ct_Sum_factors), sl_Sum_factors⟩)
    (c_Sum_factors : PySem.W.codeIn K cd_Sum_factors "Sum.factors" = true)
    (k_Sum_factors : PySem.W.keepIn K (.ref a_Sum_factors) = true)
    (pa_Sum_size : PySem.W.findIn K (.ref a_Sum) "size" = some (some (.ref q_Sum_size)))
    (pg_Sum_size : PySem.W.specialIn K (.ref q_Sum_size) "__get__" = some (some (.builtin "property.__get__")))
    (pt_Sum_size : PySem.W.takesIn K (.ref q_Sum_size) = some true)
    (pc_Sum_size : PySem.W.recIn K q_Sum_size "property" = some (.ref a_Sum_size :: pr_Sum_size))
    (i_Sum_size : PySem.W.isFn K (.ref a_Sum_size) = true)
    (l_Sum_size : K.lookup a_Sum_size = some ⟨oc_Sum_size, od_Sum_size, .func (PySem.W.fnOf "size" "Sum.size" (defArgs s_Sum_size) (defBody s_Sum_size) (defScope s_Sum_size) .none kV_Sum_size dc_Sum_size pm_Sum_size an_Sum_size cd_Sum_size ct_Sum_size), sl_Sum_size⟩)
    (c_Sum_size : PySem.W.codeIn K cd_Sum_size "Sum.size" = true)
    (k_Sum_size : PySem.W.keepIn K (.ref a_Sum_size) = true)
    (g_minus : PySem.W.nsIn K mainGlobals "minus" = some (some (.ref a_minus)))
    (i_minus : PySem.W.isFn K (.ref a_minus) = true)
    (l_minus : K.lookup a_minus = some ⟨oc_minus, od_minus, .func (PySem.W.fnOf "minus" "minus" (defArgs s_minus) (defBody s_minus) (defScope s_minus) .none kV_minus dc_minus pm_minus an_minus cd_minus ct_minus), sl_minus⟩)
    (c_minus : PySem.W.codeIn K cd_minus "minus" = true)
    (k_minus : PySem.W.keepIn K (.ref a_minus) = true)
    (g_remainder : PySem.W.nsIn K mainGlobals "remainder" = some (some (.ref a_remainder)))
    (i_remainder : PySem.W.isFn K (.ref a_remainder) = true)
    (l_remainder : K.lookup a_remainder = some ⟨oc_remainder, od_remainder, .func (PySem.W.fnOf "remainder" "remainder" (defArgs s_remainder) (defBody s_remainder) (defScope s_remainder) .none kV_remainder dc_remainder pm_remainder an_remainder cd_remainder ct_remainder), sl_remainder⟩)
    (c_remainder : PySem.W.codeIn K cd_remainder "remainder" = true)
    (k_remainder : PySem.W.keepIn K (.ref a_remainder) = true)
    (g_led_by_one : PySem.W.nsIn K mainGlobals "led_by_one" = some (some (.ref a_led_by_one)))
    (i_led_by_one : PySem.W.isFn K (.ref a_led_by_one) = true)
    (l_led_by_one : K.lookup a_led_by_one = some ⟨oc_led_by_one, od_led_by_one, .func (PySem.W.fnOf "led_by_one" "led_by_one" (defArgs s_led_by_one) (defBody s_led_by_one) (defScope s_led_by_one) .none kV_led_by_one dc_led_by_one pm_led_by_one an_led_by_one cd_led_by_one ct_led_by_one), sl_led_by_one⟩)
    (c_led_by_one : PySem.W.codeIn K cd_led_by_one "led_by_one" = true)
    (k_led_by_one : PySem.W.keepIn K (.ref a_led_by_one) = true)
    (g_reduced_rows : PySem.W.nsIn K mainGlobals "reduced_rows" = some (some (.ref a_reduced_rows)))
    (i_reduced_rows : PySem.W.isFn K (.ref a_reduced_rows) = true)
    (l_reduced_rows : K.lookup a_reduced_rows = some ⟨oc_reduced_rows, od_reduced_rows, .func (PySem.W.fnOf "reduced_rows" "reduced_rows" (defArgs s_reduced_rows) (defBody s_reduced_rows) (defScope s_reduced_rows) .none kV_reduced_rows dc_reduced_rows pm_reduced_rows an_reduced_rows cd_reduced_rows ct_reduced_rows), sl_reduced_rows⟩)
    (c_reduced_rows : PySem.W.codeIn K cd_reduced_rows "reduced_rows" = true)
    (k_reduced_rows : PySem.W.keepIn K (.ref a_reduced_rows) = true)
    (g_zero_row : PySem.W.nsIn K mainGlobals "zero_row" = some (some (.ref a_zero_row)))
    (i_zero_row : PySem.W.isFn K (.ref a_zero_row) = true)
    (l_zero_row : K.lookup a_zero_row = some ⟨oc_zero_row, od_zero_row, .func (PySem.W.fnOf "zero_row" "zero_row" (defArgs s_zero_row) (defBody s_zero_row) (defScope s_zero_row) .none kV_zero_row dc_zero_row pm_zero_row an_zero_row cd_zero_row ct_zero_row), sl_zero_row⟩)
    (c_zero_row : PySem.W.codeIn K cd_zero_row "zero_row" = true)
    (k_zero_row : PySem.W.keepIn K (.ref a_zero_row) = true)
    (g_zero_rows : PySem.W.nsIn K mainGlobals "zero_rows" = some (some (.ref a_zero_rows)))
    (i_zero_rows : PySem.W.isFn K (.ref a_zero_rows) = true)
    (l_zero_rows : K.lookup a_zero_rows = some ⟨oc_zero_rows, od_zero_rows, .func (PySem.W.fnOf "zero_rows" "zero_rows" (defArgs s_zero_rows) (defBody s_zero_rows) (defScope s_zero_rows) .none kV_zero_rows dc_zero_rows pm_zero_rows an_zero_rows cd_zero_rows ct_zero_rows), sl_zero_rows⟩)
    (c_zero_rows : PySem.W.codeIn K cd_zero_rows "zero_rows" = true)
    (k_zero_rows : PySem.W.keepIn K (.ref a_zero_rows) = true)
    (f_Space_init : PySem.W.findIn K (.ref a_Space) "__init__" = some (some (.ref a_Space_init)))
    (i_Space_init : PySem.W.isFn K (.ref a_Space_init) = true)
    (l_Space_init : K.lookup a_Space_init = some ⟨oc_Space_init, od_Space_init, .func (PySem.W.fnOf "__init__" "Space.__init__" (defArgs s_Space_init) (defBody s_Space_init) (defScope s_Space_init) (.ref dT_Space_init) kV_Space_init dc_Space_init pm_Space_init an_Space_init cd_Space_init ct_Space_init), sl_Space_init⟩)
    (c_Space_init : PySem.W.codeIn K cd_Space_init "Space.__init__" = true)
    (k_Space_init : PySem.W.keepIn K (.ref a_Space_init) = true)
    (ld_Space_init : K.lookup dT_Space_init = some ⟨dC_Space_init, dD_Space_init, .seq #[.ref dE_Space_init] dN_Space_init, dS_Space_init⟩)
    (f_Space_len : PySem.W.findIn K (.ref a_Space) "__len__" = some (some (.ref a_Space_len)))
    (i_Space_len : PySem.W.isFn K (.ref a_Space_len) = true)
    (l_Space_len : K.lookup a_Space_len = some ⟨oc_Space_len, od_Space_len, .func (PySem.W.fnOf "__len__" "Space.__len__" (defArgs s_Space_len) (defBody s_Space_len) (defScope s_Space_len) .none kV_Space_len dc_Space_len pm_Space_len an_Space_len cd_Space_len ct_Space_len), sl_Space_len⟩)
    (c_Space_len : PySem.W.codeIn K cd_Space_len "Space.__len__" = true)
    (k_Space_len : PySem.W.keepIn K (.ref a_Space_len) = true)
    (f_Space_contains : PySem.W.findIn K (.ref a_Space) "__contains__" = some (some (.ref a_Space_contains)))
    (i_Space_contains : PySem.W.isFn K (.ref a_Space_contains) = true)
    (l_Space_contains : K.lookup a_Space_contains = some ⟨oc_Space_contains, od_Space_contains, .func (PySem.W.fnOf "__contains__" "Space.__contains__" (defArgs s_Space_contains) (defBody s_Space_contains) (defScope s_Space_contains) .none kV_Space_contains dc_Space_contains pm_Space_contains an_Space_contains cd_Space_contains ct_Space_contains), sl_Space_contains⟩)
    (c_Space_contains : PySem.W.codeIn K cd_Space_contains "Space.__contains__" = true)
    (k_Space_contains : PySem.W.keepIn K (.ref a_Space_contains) = true)
    (f_Space_or : PySem.W.findIn K (.ref a_Space) "__or__" = some (some (.ref a_Space_or)))
    (i_Space_or : PySem.W.isFn K (.ref a_Space_or) = true)
    (l_Space_or : K.lookup a_Space_or = some ⟨oc_Space_or, od_Space_or, .func (PySem.W.fnOf "__or__" "Space.__or__" (defArgs s_Space_or) (defBody s_Space_or) (defScope s_Space_or) .none kV_Space_or dc_Space_or pm_Space_or an_Space_or cd_Space_or ct_Space_or), sl_Space_or⟩)
    (c_Space_or : PySem.W.codeIn K cd_Space_or "Space.__or__" = true)
    (k_Space_or : PySem.W.keepIn K (.ref a_Space_or) = true)
    (f_Space_and : PySem.W.findIn K (.ref a_Space) "__and__" = some (some (.ref a_Space_and)))
    (i_Space_and : PySem.W.isFn K (.ref a_Space_and) = true)
    (l_Space_and : K.lookup a_Space_and = some ⟨oc_Space_and, od_Space_and, .func (PySem.W.fnOf "__and__" "Space.__and__" (defArgs s_Space_and) (defBody s_Space_and) (defScope s_Space_and) .none kV_Space_and dc_Space_and pm_Space_and an_Space_and cd_Space_and ct_Space_and), sl_Space_and⟩)
    (c_Space_and : PySem.W.codeIn K cd_Space_and "Space.__and__" = true)
    (k_Space_and : PySem.W.keepIn K (.ref a_Space_and) = true)
    (f_Space_eq : PySem.W.findIn K (.ref a_Space) "__eq__" = some (some (.ref a_Space_eq)))
    (i_Space_eq : PySem.W.isFn K (.ref a_Space_eq) = true)
    (l_Space_eq : K.lookup a_Space_eq = some ⟨oc_Space_eq, od_Space_eq, .func (PySem.W.fnOf "__eq__" "Space.__eq__" (defArgs s_Space_eq) (defBody s_Space_eq) (defScope s_Space_eq) .none kV_Space_eq dc_Space_eq pm_Space_eq an_Space_eq cd_Space_eq ct_Space_eq), sl_Space_eq⟩)
    (c_Space_eq : PySem.W.codeIn K cd_Space_eq "Space.__eq__" = true)
    (k_Space_eq : PySem.W.keepIn K (.ref a_Space_eq) = true)
    (f_Space_within : PySem.W.findIn K (.ref a_Space) "within" = some (some (.ref a_Space_within)))
    (i_Space_within : PySem.W.isFn K (.ref a_Space_within) = true)
    (l_Space_within : K.lookup a_Space_within = some ⟨oc_Space_within, od_Space_within, .func (PySem.W.fnOf "within" "Space.within" (defArgs s_Space_within) (defBody s_Space_within) (defScope s_Space_within) .none kV_Space_within dc_Space_within pm_Space_within an_Space_within cd_Space_within ct_Space_within), sl_Space_within⟩)
    (c_Space_within : PySem.W.codeIn K cd_Space_within "Space.within" = true)
    (k_Space_within : PySem.W.keepIn K (.ref a_Space_within) = true)
    (f_Space_expect_operand : PySem.W.findIn K (.ref a_Space) "_expect_operand" = some (some (.ref a_Space_expect_operand)))
    (i_Space_expect_operand : PySem.W.isFn K (.ref a_Space_expect_operand) = true)
    (l_Space_expect_operand : K.lookup a_Space_expect_operand = some ⟨oc_Space_expect_operand, od_Space_expect_operand, .func (PySem.W.fnOf "_expect_operand" "Space._expect_operand" (defArgs s_Space_expect_operand) (defBody s_Space_expect_operand) (defScope s_Space_expect_operand) .none kV_Space_expect_operand dc_Space_expect_operand pm_Space_expect_operand an_Space_expect_operand cd_Space_expect_operand ct_Space_expect_operand), sl_Space_expect_operand⟩)
    (c_Space_expect_operand : PySem.W.codeIn K cd_Space_expect_operand "Space._expect_operand" = true)
    (k_Space_expect_operand : PySem.W.keepIn K (.ref a_Space_expect_operand) = true)
    (g_law_source : PySem.W.nsIn K mainGlobals "_law_source" = some (some (.ref a_law_source)))
    (i_law_source : PySem.W.isFn K (.ref a_law_source) = true)
    (l_law_source : K.lookup a_law_source = some ⟨oc_law_source, od_law_source, .func (PySem.W.fnOf "_law_source" "_law_source" (defArgs s_law_source) (defBody s_law_source) (defScope s_law_source) .none kV_law_source dc_law_source pm_law_source an_law_source cd_law_source ct_law_source), sl_law_source⟩)
    (c_law_source : PySem.W.codeIn K cd_law_source "_law_source" = true)
    (k_law_source : PySem.W.keepIn K (.ref a_law_source) = true)
    (g_law_draw : PySem.W.nsIn K mainGlobals "_law_draw" = some (some (.ref a_law_draw)))
    (i_law_draw : PySem.W.isFn K (.ref a_law_draw) = true)
    (l_law_draw : K.lookup a_law_draw = some ⟨oc_law_draw, od_law_draw, .func (PySem.W.fnOf "_law_draw" "_law_draw" (defArgs s_law_draw) (defBody s_law_draw) (defScope s_law_draw) .none kV_law_draw dc_law_draw pm_law_draw an_law_draw cd_law_draw ct_law_draw), sl_law_draw⟩)
    (c_law_draw : PySem.W.codeIn K cd_law_draw "_law_draw" = true)
    (k_law_draw : PySem.W.keepIn K (.ref a_law_draw) = true)
    (g_law_pick : PySem.W.nsIn K mainGlobals "_law_pick" = some (some (.ref a_law_pick)))
    (i_law_pick : PySem.W.isFn K (.ref a_law_pick) = true)
    (l_law_pick : K.lookup a_law_pick = some ⟨oc_law_pick, od_law_pick, .func (PySem.W.fnOf "_law_pick" "_law_pick" (defArgs s_law_pick) (defBody s_law_pick) (defScope s_law_pick) .none kV_law_pick dc_law_pick pm_law_pick an_law_pick cd_law_pick ct_law_pick), sl_law_pick⟩)
    (c_law_pick : PySem.W.codeIn K cd_law_pick "_law_pick" = true)
    (k_law_pick : PySem.W.keepIn K (.ref a_law_pick) = true)
    (g_law_all_data : PySem.W.nsIn K mainGlobals "_law_all_data" = some (some (.ref a_law_all_data)))
    (i_law_all_data : PySem.W.isFn K (.ref a_law_all_data) = true)
    (l_law_all_data : K.lookup a_law_all_data = some ⟨oc_law_all_data, od_law_all_data, .func (PySem.W.fnOf "_law_all_data" "_law_all_data" (defArgs s_law_all_data) (defBody s_law_all_data) (defScope s_law_all_data) .none kV_law_all_data dc_law_all_data pm_law_all_data an_law_all_data cd_law_all_data ct_law_all_data), sl_law_all_data⟩)
    (c_law_all_data : PySem.W.codeIn K cd_law_all_data "_law_all_data" = true)
    (k_law_all_data : PySem.W.keepIn K (.ref a_law_all_data) = true)
    (g_law_factors : PySem.W.nsIn K mainGlobals "_law_factors" = some (some (.ref a_law_factors)))
    (i_law_factors : PySem.W.isFn K (.ref a_law_factors) = true)
    (l_law_factors : K.lookup a_law_factors = some ⟨oc_law_factors, od_law_factors, .func (PySem.W.fnOf "_law_factors" "_law_factors" (defArgs s_law_factors) (defBody s_law_factors) (defScope s_law_factors) .none kV_law_factors dc_law_factors pm_law_factors an_law_factors cd_law_factors ct_law_factors), sl_law_factors⟩)
    (c_law_factors : PySem.W.codeIn K cd_law_factors "_law_factors" = true)
    (k_law_factors : PySem.W.keepIn K (.ref a_law_factors) = true)
    (g_law_form : PySem.W.nsIn K mainGlobals "_law_form" = some (some (.ref a_law_form)))
    (i_law_form : PySem.W.isFn K (.ref a_law_form) = true)
    (l_law_form : K.lookup a_law_form = some ⟨oc_law_form, od_law_form, .func (PySem.W.fnOf "_law_form" "_law_form" (defArgs s_law_form) (defBody s_law_form) (defScope s_law_form) .none kV_law_form dc_law_form pm_law_form an_law_form cd_law_form ct_law_form), sl_law_form⟩)
    (c_law_form : PySem.W.codeIn K cd_law_form "_law_form" = true)
    (k_law_form : PySem.W.keepIn K (.ref a_law_form) = true)
    (g_law_sums : PySem.W.nsIn K mainGlobals "_law_sums" = some (some (.ref a_law_sums)))
    (i_law_sums : PySem.W.isFn K (.ref a_law_sums) = true)
    (l_law_sums : K.lookup a_law_sums = some ⟨oc_law_sums, od_law_sums, .func (PySem.W.fnOf "_law_sums" "_law_sums" (defArgs s_law_sums) (defBody s_law_sums) (defScope s_law_sums) .none kV_law_sums dc_law_sums pm_law_sums an_law_sums cd_law_sums ct_law_sums), sl_law_sums⟩)
    (c_law_sums : PySem.W.codeIn K cd_law_sums "_law_sums" = true)
    (k_law_sums : PySem.W.keepIn K (.ref a_law_sums) = true)
    (g_law_span : PySem.W.nsIn K mainGlobals "_law_span" = some (some (.ref a_law_span)))
    (i_law_span : PySem.W.isFn K (.ref a_law_span) = true)
    (l_law_span : K.lookup a_law_span = some ⟨oc_law_span, od_law_span, .func (PySem.W.fnOf "_law_span" "_law_span" (defArgs s_law_span) (defBody s_law_span) (defScope s_law_span) .none kV_law_span dc_law_span pm_law_span an_law_span cd_law_span ct_law_span), sl_law_span⟩)
    (c_law_span : PySem.W.codeIn K cd_law_span "_law_span" = true)
    (k_law_span : PySem.W.keepIn K (.ref a_law_span) = true)
    (g_law_made : PySem.W.nsIn K mainGlobals "_law_made" = some (some (.ref a_law_made)))
    (i_law_made : PySem.W.isFn K (.ref a_law_made) = true)
    (l_law_made : K.lookup a_law_made = some ⟨oc_law_made, od_law_made, .func (PySem.W.fnOf "_law_made" "_law_made" (defArgs s_law_made) (defBody s_law_made) (defScope s_law_made) .none kV_law_made dc_law_made pm_law_made an_law_made cd_law_made ct_law_made), sl_law_made⟩)
    (c_law_made : PySem.W.codeIn K cd_law_made "_law_made" = true)
    (k_law_made : PySem.W.keepIn K (.ref a_law_made) = true)
    (g_law : PySem.W.nsIn K mainGlobals "law" = some (some (.ref a_law)))
    (i_law : PySem.W.isFn K (.ref a_law) = true)
    (l_law : K.lookup a_law = some ⟨oc_law, od_law, .func (PySem.W.fnOf "law" "law" (defArgs s_law) (defBody s_law) (defScope s_law) .none kV_law dc_law pm_law an_law cd_law ct_law), sl_law⟩)
    (c_law : PySem.W.codeIn K cd_law "law" = true)
    (k_law : PySem.W.keepIn K (.ref a_law) = true)
    (n_isinstance : PySem.W.nsIn K mainGlobals "isinstance" = some none)
    (n_int : PySem.W.nsIn K mainGlobals "int" = some none)
    (n_bool : PySem.W.nsIn K mainGlobals "bool" = some none)
    (n_list : PySem.W.nsIn K mainGlobals "list" = some none)
    (n_tuple : PySem.W.nsIn K mainGlobals "tuple" = some none)
    (n_len : PySem.W.nsIn K mainGlobals "len" = some none)
    (n_all : PySem.W.nsIn K mainGlobals "all" = some none)
    (n_any : PySem.W.nsIn K mainGlobals "any" = some none)
    (n_sum : PySem.W.nsIn K mainGlobals "sum" = some none)
    (n_zip : PySem.W.nsIn K mainGlobals "zip" = some none)
    (n_max : PySem.W.nsIn K mainGlobals "max" = some none)
    (n_min : PySem.W.nsIn K mainGlobals "min" = some none)
    (n_range : PySem.W.nsIn K mainGlobals "range" = some none)
    (n_sorted : PySem.W.nsIn K mainGlobals "sorted" = some none)
    (n_set : PySem.W.nsIn K mainGlobals "set" = some none)
    (pgSum : PySem.W.plainGet K a_Sum Str.empty = true)
    (hdSum : PySem.W.hasDictIn K a_Sum = true)
    (poSum : PySem.W.plainOver K a_Sum = true)
    (saSum : PySem.W.findIn K (.ref a_Sum) "__setattr__" = some (some (.builtin "object.__setattr__")))
    (mkSum : PySem.W.makesIn K a_Sum = true)
    (kpSum : PySem.W.keepIn K (.ref a_Sum) = true)
    (clSum : PySem.W.findIn K (.ref a_Sum) "__class__" = some (some (.builtin "object.__class__")))
    (gtSum : PySem.W.specialIn K (.builtin "object.__class__") "__get__" = some (some (.builtin "getset_descriptor.__get__")))
    (tkSum : PySem.W.takesIn K (.builtin "object.__class__") = some true)
    (moSum : PySem.W.mroIn K a_Sum (.type "object") = some true)
    (na_Sum_prime : PySem.W.findIn K (.ref a_Sum) "_prime" = some none)
    (na_Sum_factors : PySem.W.findIn K (.ref a_Sum) "_factors" = some none)
    (pgSpace : PySem.W.plainGet K a_Space Str.empty = true)
    (hdSpace : PySem.W.hasDictIn K a_Space = true)
    (poSpace : PySem.W.plainOver K a_Space = true)
    (saSpace : PySem.W.findIn K (.ref a_Space) "__setattr__" = some (some (.builtin "object.__setattr__")))
    (mkSpace : PySem.W.makesIn K a_Space = true)
    (kpSpace : PySem.W.keepIn K (.ref a_Space) = true)
    (clSpace : PySem.W.findIn K (.ref a_Space) "__class__" = some (some (.builtin "object.__class__")))
    (gtSpace : PySem.W.specialIn K (.builtin "object.__class__") "__get__" = some (some (.builtin "getset_descriptor.__get__")))
    (tkSpace : PySem.W.takesIn K (.builtin "object.__class__") = some true)
    (moSpace : PySem.W.mroIn K a_Space (.type "object") = some true)
    (na_Space_prime : PySem.W.findIn K (.ref a_Space) "_prime" = some none)
    (na_Space_size : PySem.W.findIn K (.ref a_Space) "_size" = some none)
    (na_Space_rows : PySem.W.findIn K (.ref a_Space) "_rows" = some none)
    (na_Space_reduced : PySem.W.findIn K (.ref a_Space) "_reduced" = some none)
    (nsC : PySem.W.notFirst K a_Sum (.ref a_Sum) = true)
    (ksC : PySem.W.kitOne K (.ref a_Sum) (.ref a_Sum) = some true)
    (gG : PySem.W.nsIn K mainGlobals "GREATEST_SIZES" = some (some (.ref a_GS)))
    (lG : K.lookup a_GS = some ⟨.type "dict", none, .dict #[⟨h1, .int 2 t1, .int 6 u1⟩, ⟨h2, .int 3 t2, .int 6 u2⟩, ⟨h3, .int 5 t3, .int 5 u3⟩, ⟨h4, .int 7 t4, .int 4 u4⟩] n0, #[]⟩)
    (eG : h1 = hashInt 2 ∧ h2 = hashInt 3 ∧ h3 = hashInt 5 ∧ h4 = hashInt 7)
    (oG : (a_GS == sysModules) = false)
    (sfP : PySem.W.selfFirst K a_Space = true)
    (neP : PySem.W.findIn K (.ref a_Space) "__ne__" = some (some (.builtin "object.__ne__")))
    (nlP : PySem.W.notFirst K a_Space (.type "list") = true)
    (nsP : PySem.W.notFirst K a_Space (.ref a_Space) = true)
    (klP : PySem.W.kitOne K (.type "list") (.ref a_Space) = some false)
    (ksP : PySem.W.kitOne K (.ref a_Space) (.ref a_Space) = some true)
    (ktNoneType : PySem.W.kitOne K (.type "NoneType") (.ref a_Sum) = some false)
    (ktint : PySem.W.kitOne K (.type "int") (.ref a_Sum) = some false)
    (ktstr : PySem.W.kitOne K (.type "str") (.ref a_Sum) = some false)
    (kttuple : PySem.W.kitOne K (.type "tuple") (.ref a_Sum) = some false)
    (ktlist : PySem.W.kitOne K (.type "list") (.ref a_Sum) = some false) :
    ∃ fd : FuncData, (∀ (s : Shared) (v : Value), BindsTo s fd ⟨[v], []⟩ [("_law_script", v)]) ∧ ∀ base : Heap, K.In base → base.Ns mainGlobals mg → FnOk l.prog w K mg base CX0 10 fa fd ["_law_script"] (spD 1 W_law K) := by
  have e := hfa.symm.trans (PySem.W.mg_of X G g_law)
  have e2 : a_law = fa := by cases e; rfl
  let T : Tx l.prog w K mg := {
    a_Sum := a_Sum
    g_Sum := PySem.W.mg_of X G g_Sum
    a_Space := a_Space
    g_Space := PySem.W.mg_of X G g_Space
    a_is_integer := a_is_integer
    f_is_integer := _
    F_is_integer := fun_mk (st := s_is_integer) l_is_integer c_is_integer k_is_integer
    b_is_integer := (fun_mk (st := s_is_integer) l_is_integer c_is_integer k_is_integer).binds fun _ _ _ _ _ _ us hl => match us, hl with | [_], _ => rfl
    g_is_integer := PySem.W.mg_of X G g_is_integer
    a_is_between := a_is_between
    f_is_between := _
    F_is_between := fun_mk (st := s_is_between) l_is_between c_is_between k_is_between
    b_is_between := (fun_mk (st := s_is_between) l_is_between c_is_between k_is_between).binds fun _ _ _ _ _ _ us hl => match us, hl with | [_, _, _], _ => rfl
    g_is_between := PySem.W.mg_of X G g_is_between
    a_has_items := a_has_items
    f_has_items := _
    F_has_items := fun_mk (st := s_has_items) l_has_items c_has_items k_has_items
    b_has_items := (fun_mk (st := s_has_items) l_has_items c_has_items k_has_items).binds fun _ _ _ _ _ _ us hl => match us, hl with | [_, _, _], _ => rfl
    g_has_items := PySem.W.mg_of X G g_has_items
    a_all_between := a_all_between
    f_all_between := _
    F_all_between := fun_mk (st := s_all_between) l_all_between c_all_between k_all_between
    b_all_between := (fun_mk (st := s_all_between) l_all_between c_all_between k_all_between).binds fun _ _ _ _ _ _ us hl => match us, hl with | [_, _, _], _ => rfl
    g_all_between := PySem.W.mg_of X G g_all_between
    a_is_prime := a_is_prime
    f_is_prime := _
    F_is_prime := fun_mk (st := s_is_prime) l_is_prime c_is_prime k_is_prime
    b_is_prime := (fun_mk (st := s_is_prime) l_is_prime c_is_prime k_is_prime).binds fun _ _ _ _ _ _ us hl => match us, hl with | [_], _ => rfl
    g_is_prime := PySem.W.mg_of X G g_is_prime
    a_is_size := a_is_size
    f_is_size := _
    F_is_size := fun_mk (st := s_is_size) l_is_size c_is_size k_is_size
    b_is_size := (fun_mk (st := s_is_size) l_is_size c_is_size k_is_size).binds fun _ _ _ _ _ _ us hl => match us, hl with | [_, _], _ => rfl
    g_is_size := PySem.W.mg_of X G g_is_size
    a_expect_prime_and_size := a_expect_prime_and_size
    f_expect_prime_and_size := _
    F_expect_prime_and_size := fun_mk (st := s_expect_prime_and_size) l_expect_prime_and_size c_expect_prime_and_size k_expect_prime_and_size
    b_expect_prime_and_size := (fun_mk (st := s_expect_prime_and_size) l_expect_prime_and_size c_expect_prime_and_size k_expect_prime_and_size).binds fun _ _ _ _ _ _ us hl => match us, hl with | [_, _], _ => rfl
    g_expect_prime_and_size := PySem.W.mg_of X G g_expect_prime_and_size
    a_is_sum := a_is_sum
    f_is_sum := _
    F_is_sum := fun_mk (st := s_is_sum) l_is_sum c_is_sum k_is_sum
    b_is_sum := (fun_mk (st := s_is_sum) l_is_sum c_is_sum k_is_sum).binds fun _ _ _ _ _ _ us hl => match us, hl with | [_, _, _], _ => rfl
    g_is_sum := PySem.W.mg_of X G g_is_sum
    a_Sum_init := a_Sum_init
    f_Sum_init := _
    F_Sum_init := fun_mk (st := s_Sum_init) l_Sum_init c_Sum_init k_Sum_init
    b_Sum_init := (fun_mk (st := s_Sum_init) l_Sum_init c_Sum_init k_Sum_init).binds fun _ _ _ _ _ _ us hl => match us, hl with | [_, _, _], _ => rfl
    a_Sum_prime := a_Sum_prime
    f_Sum_prime := _
    F_Sum_prime := fun_mk (st := s_Sum_prime) l_Sum_prime c_Sum_prime k_Sum_prime
    b_Sum_prime := (fun_mk (st := s_Sum_prime) l_Sum_prime c_Sum_prime k_Sum_prime).binds fun _ _ _ _ _ _ us hl => match us, hl with | [_], _ => rfl
    a_Sum_factors := a_Sum_factors
    f_Sum_factors := _
    F_Sum_factors := fun_mk (st := s_Sum_factors) l_Sum_factors c_Sum_factors k_Sum_factors
    b_Sum_factors := (fun_mk (st := s_Sum_factors) l_Sum_factors c_Sum_factors k_Sum_factors).binds fun _ _ _ _ _ _ us hl => match us, hl with | [_], _ => rfl
    a_Sum_size := a_Sum_size
    f_Sum_size := _
    F_Sum_size := fun_mk (st := s_Sum_size) l_Sum_size c_Sum_size k_Sum_size
    b_Sum_size := (fun_mk (st := s_Sum_size) l_Sum_size c_Sum_size k_Sum_size).binds fun _ _ _ _ _ _ us hl => match us, hl with | [_], _ => rfl
    a_minus := a_minus
    f_minus := _
    F_minus := fun_mk (st := s_minus) l_minus c_minus k_minus
    b_minus := (fun_mk (st := s_minus) l_minus c_minus k_minus).binds fun _ _ _ _ _ _ us hl => match us, hl with | [_, _, _, _], _ => rfl
    g_minus := PySem.W.mg_of X G g_minus
    a_remainder := a_remainder
    f_remainder := _
    F_remainder := fun_mk (st := s_remainder) l_remainder c_remainder k_remainder
    b_remainder := (fun_mk (st := s_remainder) l_remainder c_remainder k_remainder).binds fun _ _ _ _ _ _ us hl => match us, hl with | [_, _, _], _ => rfl
    g_remainder := PySem.W.mg_of X G g_remainder
    a_led_by_one := a_led_by_one
    f_led_by_one := _
    F_led_by_one := fun_mk (st := s_led_by_one) l_led_by_one c_led_by_one k_led_by_one
    b_led_by_one := (fun_mk (st := s_led_by_one) l_led_by_one c_led_by_one k_led_by_one).binds fun _ _ _ _ _ _ us hl => match us, hl with | [_, _], _ => rfl
    g_led_by_one := PySem.W.mg_of X G g_led_by_one
    a_reduced_rows := a_reduced_rows
    f_reduced_rows := _
    F_reduced_rows := fun_mk (st := s_reduced_rows) l_reduced_rows c_reduced_rows k_reduced_rows
    b_reduced_rows := (fun_mk (st := s_reduced_rows) l_reduced_rows c_reduced_rows k_reduced_rows).binds fun _ _ _ _ _ _ us hl => match us, hl with | [_, _], _ => rfl
    g_reduced_rows := PySem.W.mg_of X G g_reduced_rows
    a_zero_row := a_zero_row
    f_zero_row := _
    F_zero_row := fun_mk (st := s_zero_row) l_zero_row c_zero_row k_zero_row
    b_zero_row := (fun_mk (st := s_zero_row) l_zero_row c_zero_row k_zero_row).binds fun _ _ _ _ _ _ us hl => match us, hl with | [_, _, _, _], _ => rfl
    g_zero_row := PySem.W.mg_of X G g_zero_row
    a_zero_rows := a_zero_rows
    f_zero_rows := _
    F_zero_rows := fun_mk (st := s_zero_rows) l_zero_rows c_zero_rows k_zero_rows
    b_zero_rows := (fun_mk (st := s_zero_rows) l_zero_rows c_zero_rows k_zero_rows).binds fun _ _ _ _ _ _ us hl => match us, hl with | [_, _, _], _ => rfl
    g_zero_rows := PySem.W.mg_of X G g_zero_rows
    dE_Space_init := dE_Space_init
    a_Space_init := a_Space_init
    f_Space_init := _
    F_Space_init := (funD_mk (st := s_Space_init) l_Space_init c_Space_init k_Space_init ld_Space_init)
    b_Space_init := binds_all (funD_mk (st := s_Space_init) l_Space_init c_Space_init k_Space_init ld_Space_init) 4 rfl fun T kV doc pm an cdv ct us its h1 h2 => match us, its, h1, h2 with | [_, _, _, _], [_], _, _ => ⟨_, rfl, rfl⟩
    a_Space_len := a_Space_len
    f_Space_len := _
    F_Space_len := fun_mk (st := s_Space_len) l_Space_len c_Space_len k_Space_len
    b_Space_len := (fun_mk (st := s_Space_len) l_Space_len c_Space_len k_Space_len).binds fun _ _ _ _ _ _ us hl => match us, hl with | [_], _ => rfl
    a_Space_contains := a_Space_contains
    f_Space_contains := _
    F_Space_contains := fun_mk (st := s_Space_contains) l_Space_contains c_Space_contains k_Space_contains
    b_Space_contains := (fun_mk (st := s_Space_contains) l_Space_contains c_Space_contains k_Space_contains).binds fun _ _ _ _ _ _ us hl => match us, hl with | [_, _], _ => rfl
    a_Space_or := a_Space_or
    f_Space_or := _
    F_Space_or := fun_mk (st := s_Space_or) l_Space_or c_Space_or k_Space_or
    b_Space_or := (fun_mk (st := s_Space_or) l_Space_or c_Space_or k_Space_or).binds fun _ _ _ _ _ _ us hl => match us, hl with | [_, _], _ => rfl
    a_Space_and := a_Space_and
    f_Space_and := _
    F_Space_and := fun_mk (st := s_Space_and) l_Space_and c_Space_and k_Space_and
    b_Space_and := (fun_mk (st := s_Space_and) l_Space_and c_Space_and k_Space_and).binds fun _ _ _ _ _ _ us hl => match us, hl with | [_, _], _ => rfl
    a_Space_eq := a_Space_eq
    f_Space_eq := _
    F_Space_eq := fun_mk (st := s_Space_eq) l_Space_eq c_Space_eq k_Space_eq
    b_Space_eq := (fun_mk (st := s_Space_eq) l_Space_eq c_Space_eq k_Space_eq).binds fun _ _ _ _ _ _ us hl => match us, hl with | [_, _], _ => rfl
    a_Space_within := a_Space_within
    f_Space_within := _
    F_Space_within := fun_mk (st := s_Space_within) l_Space_within c_Space_within k_Space_within
    b_Space_within := (fun_mk (st := s_Space_within) l_Space_within c_Space_within k_Space_within).binds fun _ _ _ _ _ _ us hl => match us, hl with | [_, _], _ => rfl
    a_Space_expect_operand := a_Space_expect_operand
    f_Space_expect_operand := _
    F_Space_expect_operand := fun_mk (st := s_Space_expect_operand) l_Space_expect_operand c_Space_expect_operand k_Space_expect_operand
    b_Space_expect_operand := (fun_mk (st := s_Space_expect_operand) l_Space_expect_operand c_Space_expect_operand k_Space_expect_operand).binds fun _ _ _ _ _ _ us hl => match us, hl with | [_, _], _ => rfl
    a_law_source := a_law_source
    f_law_source := _
    F_law_source := fun_mk (st := s_law_source) l_law_source c_law_source k_law_source
    b_law_source := (fun_mk (st := s_law_source) l_law_source c_law_source k_law_source).binds fun _ _ _ _ _ _ us hl => match us, hl with | [_, _], _ => rfl
    g_law_source := PySem.W.mg_of X G g_law_source
    a_law_draw := a_law_draw
    f_law_draw := _
    F_law_draw := fun_mk (st := s_law_draw) l_law_draw c_law_draw k_law_draw
    b_law_draw := (fun_mk (st := s_law_draw) l_law_draw c_law_draw k_law_draw).binds fun _ _ _ _ _ _ us hl => match us, hl with | [_, _], _ => rfl
    g_law_draw := PySem.W.mg_of X G g_law_draw
    a_law_pick := a_law_pick
    f_law_pick := _
    F_law_pick := fun_mk (st := s_law_pick) l_law_pick c_law_pick k_law_pick
    b_law_pick := (fun_mk (st := s_law_pick) l_law_pick c_law_pick k_law_pick).binds fun _ _ _ _ _ _ us hl => match us, hl with | [_, _], _ => rfl
    g_law_pick := PySem.W.mg_of X G g_law_pick
    a_law_all_data := a_law_all_data
    f_law_all_data := _
    F_law_all_data := fun_mk (st := s_law_all_data) l_law_all_data c_law_all_data k_law_all_data
    b_law_all_data := (fun_mk (st := s_law_all_data) l_law_all_data c_law_all_data k_law_all_data).binds fun _ _ _ _ _ _ us hl => match us, hl with | [_, _], _ => rfl
    g_law_all_data := PySem.W.mg_of X G g_law_all_data
    a_law_factors := a_law_factors
    f_law_factors := _
    F_law_factors := fun_mk (st := s_law_factors) l_law_factors c_law_factors k_law_factors
    b_law_factors := (fun_mk (st := s_law_factors) l_law_factors c_law_factors k_law_factors).binds fun _ _ _ _ _ _ us hl => match us, hl with | [_, _, _], _ => rfl
    g_law_factors := PySem.W.mg_of X G g_law_factors
    a_law_form := a_law_form
    f_law_form := _
    F_law_form := fun_mk (st := s_law_form) l_law_form c_law_form k_law_form
    b_law_form := (fun_mk (st := s_law_form) l_law_form c_law_form k_law_form).binds fun _ _ _ _ _ _ us hl => match us, hl with | [_], _ => rfl
    g_law_form := PySem.W.mg_of X G g_law_form
    a_law_sums := a_law_sums
    f_law_sums := _
    F_law_sums := fun_mk (st := s_law_sums) l_law_sums c_law_sums k_law_sums
    b_law_sums := (fun_mk (st := s_law_sums) l_law_sums c_law_sums k_law_sums).binds fun _ _ _ _ _ _ us hl => match us, hl with | [_, _, _, _], _ => rfl
    g_law_sums := PySem.W.mg_of X G g_law_sums
    a_law_span := a_law_span
    f_law_span := _
    F_law_span := fun_mk (st := s_law_span) l_law_span c_law_span k_law_span
    b_law_span := (fun_mk (st := s_law_span) l_law_span c_law_span k_law_span).binds fun _ _ _ _ _ _ us hl => match us, hl with | [_, _, _], _ => rfl
    g_law_span := PySem.W.mg_of X G g_law_span
    a_law_made := a_law_made
    f_law_made := _
    F_law_made := fun_mk (st := s_law_made) l_law_made c_law_made k_law_made
    b_law_made := (fun_mk (st := s_law_made) l_law_made c_law_made k_law_made).binds fun _ _ _ _ _ _ us hl => match us, hl with | [_, _, _], _ => rfl
    g_law_made := PySem.W.mg_of X G g_law_made
    a_law := a_law
    f_law := _
    F_law := fun_mk (st := s_law) l_law c_law k_law
    b_law := (fun_mk (st := s_law) l_law c_law k_law).binds fun _ _ _ _ _ _ us hl => match us, hl with | [_], _ => rfl
    g_law := PySem.W.mg_of X G g_law
    n_isinstance := PySem.W.mg_none_of X G n_isinstance
    n_int := PySem.W.mg_none_of X G n_int
    n_bool := PySem.W.mg_none_of X G n_bool
    n_list := PySem.W.mg_none_of X G n_list
    n_tuple := PySem.W.mg_none_of X G n_tuple
    n_len := PySem.W.mg_none_of X G n_len
    n_all := PySem.W.mg_none_of X G n_all
    n_any := PySem.W.mg_none_of X G n_any
    n_sum := PySem.W.mg_none_of X G n_sum
    n_zip := PySem.W.mg_none_of X G n_zip
    n_max := PySem.W.mg_none_of X G n_max
    n_min := PySem.W.mg_none_of X G n_min
    n_range := PySem.W.mg_none_of X G n_range
    n_sorted := PySem.W.mg_none_of X G n_sorted
    n_set := PySem.W.mg_none_of X G n_set
    c_Sum := ⟨⟨pgSum, hdSum, poSum, saSum⟩, clSum, gtSum, tkSum, moSum⟩
    m_Sum := ⟨mkSum, f_Sum_init, i_Sum_init, kpSum⟩
    c_Space := ⟨⟨pgSpace, hdSpace, poSpace, saSpace⟩, clSpace, gtSpace, tkSpace, moSpace⟩
    m_Space := ⟨mkSpace, f_Space_init, i_Space_init, kpSpace⟩
    nf_Sum := nsC
    kt_Sum := ksC
    o_in := f_Space_contains
    i_in := i_Space_contains
    o_len := f_Space_len
    i_len := i_Space_len
    o_eq := f_Space_eq
    i_eq := i_Space_eq
    o_ne := neP
    nf_spl := nlP
    nf_sp := nsP
    kt_spl := klP
    kt_sp := ksP
    a_GS := a_GS
    g_GS := PySem.W.mg_of X G gG
    d_GS := gs_dict lG eG oG
    o_or := f_Space_or
    i_or := i_Space_or
    o_and := f_Space_and
    i_and := i_Space_and
    sf_Space := sfP
    me_within := ⟨f_Space_within, i_Space_within, k_Space_within⟩
    me_expect := ⟨f_Space_expect_operand, i_Space_expect_operand, k_Space_expect_operand⟩
    kt_NoneType := ktNoneType
    kt_int := ktint
    kt_str := ktstr
    kt_tuple := kttuple
    kt_list := ktlist
    na_prime := na_Sum_prime
    na_factors := na_Sum_factors
    ns_prime := na_Space_prime
    ns_size := na_Space_size
    ns_rows := na_Space_rows
    ns_reduced := na_Space_reduced
    q_Sum_prime := q_Sum_prime
    pp_Sum_prime := ⟨pa_Sum_prime, pg_Sum_prime, pt_Sum_prime, ⟨_, pc_Sum_prime⟩⟩
    q_Sum_factors := q_Sum_factors
    pp_Sum_factors := ⟨pa_Sum_factors, pg_Sum_factors, pt_Sum_factors, ⟨_, pc_Sum_factors⟩⟩
    q_Sum_size := q_Sum_size
    pp_Sum_size := ⟨pa_Sum_size, pg_Sum_size, pt_Sum_size, ⟨_, pc_Sum_size⟩⟩ }
  refine ⟨T.f_law, fun s v => .of_eq rfl, fun base _ _ => ?_⟩
  rw [← e2]
  exact ok_law T
end K05
open PySem PySem.W PyProof.Rows
set_option maxRecDepth 100000 in
set_option maxHeartbeats 0 in
theorem PySem.Challenge.cw_leastreads_k05_whole_spaces_joined_and_m_holds : PySem.Challenge.rw_leastreads_k05_whole_spaces_joined_and_m.Holds := by
  w_on; o_law; k_head; (case hw => w_witness2)
  k_fill
  refine L2.walk_of (l := PySem.Challenge.rw_leastreads_k05_whole_spaces_joined_and_m) (n := 63) (k := 10) (x := "_law_script") (CX := fun _ => L2.CX0) (sp := fun w => Pd.spD 1 K05.W_law _) rfl (by decide) rfl ⟨rfl, by decide, by decide⟩ (fun w h Y => PySem.W.kIn_of Y) ?F (fun _ H a ns hl _ hS => Pd.sp_script hS ⟨ns, rfl, rfl, rfl⟩) (fun _ _ _ _ _ h => h)
  case F =>
    intro w mg fa h KX G hmg
    refine' K05.all_mk KX G hmg ?g_Sum ?g_Space ?g_is_integer ?i_is_integer ?l_is_integer ?c_is_integer ?k_is_integer ?g_is_between ?i_is_between ?l_is_between ?c_is_between ?k_is_between ?g_has_items ?i_has_items ?l_has_items ?c_has_items ?k_has_items ?g_all_between ?i_all_between ?l_all_between ?c_all_between ?k_all_between ?g_is_prime ?i_is_prime ?l_is_prime ?c_is_prime ?k_is_prime ?g_is_size ?i_is_size ?l_is_size ?c_is_size ?k_is_size ?g_expect_prime_and_size ?i_expect_prime_and_size ?l_expect_prime_and_size ?c_expect_prime_and_size ?k_expect_prime_and_size ?g_is_sum ?i_is_sum ?l_is_sum ?c_is_sum ?k_is_sum ?f_Sum_init ?i_Sum_init ?l_Sum_init ?c_Sum_init ?k_Sum_init ?pa_Sum_prime ?pg_Sum_prime ?pt_Sum_prime ?pc_Sum_prime ?i_Sum_prime ?l_Sum_prime ?c_Sum_prime ?k_Sum_prime ?pa_Sum_factors ?pg_Sum_factors ?pt_Sum_factors ?pc_Sum_factors ?i_Sum_factors ?l_Sum_factors ?c_Sum_factors ?k_Sum_factors ?pa_Sum_size ?pg_Sum_size ?pt_Sum_size ?pc_Sum_size ?i_Sum_size ?l_Sum_size ?c_Sum_size ?k_Sum_size ?g_minus ?i_minus ?l_minus ?c_minus ?k_minus ?g_remainder ?i_remainder ?l_remainder ?c_remainder ?k_remainder ?g_led_by_one ?i_led_by_one ?l_led_by_one ?c_led_by_one ?k_led_by_one ?g_reduced_rows ?i_reduced_rows ?l_reduced_rows ?c_reduced_rows ?k_reduced_rows ?g_zero_row ?i_zero_row ?l_zero_row ?c_zero_row ?k_zero_row ?g_zero_rows ?i_zero_rows ?l_zero_rows ?c_zero_rows ?k_zero_rows ?f_Space_init ?i_Space_init ?l_Space_init ?c_Space_init ?k_Space_init ?ld_Space_init ?f_Space_len ?i_Space_len ?l_Space_len ?c_Space_len ?k_Space_len ?f_Space_contains ?i_Space_contains ?l_Space_contains ?c_Space_contains ?k_Space_contains ?f_Space_or ?i_Space_or ?l_Space_or ?c_Space_or ?k_Space_or ?f_Space_and ?i_Space_and ?l_Space_and ?c_Space_and ?k_Space_and ?f_Space_eq ?i_Space_eq ?l_Space_eq ?c_Space_eq ?k_Space_eq ?f_Space_within ?i_Space_within ?l_Space_within ?c_Space_within ?k_Space_within ?f_Space_expect_operand ?i_Space_expect_operand ?l_Space_expect_operand ?c_Space_expect_operand ?k_Space_expect_operand ?g_law_source ?i_law_source ?l_law_source ?c_law_source ?k_law_source ?g_law_draw ?i_law_draw ?l_law_draw ?c_law_draw ?k_law_draw ?g_law_pick ?i_law_pick ?l_law_pick ?c_law_pick ?k_law_pick ?g_law_all_data ?i_law_all_data ?l_law_all_data ?c_law_all_data ?k_law_all_data ?g_law_factors ?i_law_factors ?l_law_factors ?c_law_factors ?k_law_factors ?g_law_form ?i_law_form ?l_law_form ?c_law_form ?k_law_form ?g_law_sums ?i_law_sums ?l_law_sums ?c_law_sums ?k_law_sums ?g_law_span ?i_law_span ?l_law_span ?c_law_span ?k_law_span ?g_law_made ?i_law_made ?l_law_made ?c_law_made ?k_law_made ?g_law ?i_law ?l_law ?c_law ?k_law ?n_isinstance ?n_int ?n_bool ?n_list ?n_tuple ?n_len ?n_all ?n_any ?n_sum ?n_zip ?n_max ?n_min ?n_range ?n_sorted ?n_set ?pgSum ?hdSum ?poSum ?saSum ?mkSum ?kpSum ?clSum ?gtSum ?tkSum ?moSum ?na_Sum_prime ?na_Sum_factors ?pgSpace ?hdSpace ?poSpace ?saSpace ?mkSpace ?kpSpace ?clSpace ?gtSpace ?tkSpace ?moSpace ?na_Space_prime ?na_Space_size ?na_Space_rows ?na_Space_reduced ?nsC ?ksC ?gG ?lG ?eG ?oG ?sfP ?neP ?nlP ?nsP ?klP ?ksP ?ktNoneType ?ktint ?ktstr ?kttuple ?ktlist
    (case g_Sum => k_is)
    (case g_Space => k_is)
    (case g_is_integer => k_is)
    (case i_is_integer => k_is)
    (case l_is_integer => k_is)
    (case c_is_integer => k_is)
    (case k_is_integer => k_is)
    (case g_is_between => k_is)
    (case i_is_between => k_is)
    (case l_is_between => k_is)
    (case c_is_between => k_is)
    (case k_is_between => k_is)
    (case g_has_items => k_is)
    (case i_has_items => k_is)
    (case l_has_items => k_is)
    (case c_has_items => k_is)
    (case k_has_items => k_is)
    (case g_all_between => k_is)
    (case i_all_between => k_is)
    (case l_all_between => k_is)
    (case c_all_between => k_is)
    (case k_all_between => k_is)
    (case g_is_prime => k_is)
    (case i_is_prime => k_is)
    (case l_is_prime => k_is)
    (case c_is_prime => k_is)
    (case k_is_prime => k_is)
    (case g_is_size => k_is)
    (case i_is_size => k_is)
    (case l_is_size => k_is)
    (case c_is_size => k_is)
    (case k_is_size => k_is)
    (case g_expect_prime_and_size => k_is)
    (case i_expect_prime_and_size => k_is)
    (case l_expect_prime_and_size => k_is)
    (case c_expect_prime_and_size => k_is)
    (case k_expect_prime_and_size => k_is)
    (case g_is_sum => k_is)
    (case i_is_sum => k_is)
    (case l_is_sum => k_is)
    (case c_is_sum => k_is)
    (case k_is_sum => k_is)
    (case f_Sum_init => k_is)
    (case i_Sum_init => k_is)
    (case l_Sum_init => k_is)
    (case c_Sum_init => k_is)
    (case k_Sum_init => k_is)
    (case pa_Sum_prime => k_is)
    (case pg_Sum_prime => k_is)
    (case pt_Sum_prime => k_is)
    (case pc_Sum_prime => k_is)
    (case i_Sum_prime => k_is)
    (case l_Sum_prime => k_is)
    (case c_Sum_prime => k_is)
    (case k_Sum_prime => k_is)
    (case pa_Sum_factors => k_is)
    (case pg_Sum_factors => k_is)
    (case pt_Sum_factors => k_is)
    (case pc_Sum_factors => k_is)
    (case i_Sum_factors => k_is)
    (case l_Sum_factors => k_is)
    (case c_Sum_factors => k_is)
    (case k_Sum_factors => k_is)
    (case pa_Sum_size => k_is)
    (case pg_Sum_size => k_is)
    (case pt_Sum_size => k_is)
    (case pc_Sum_size => k_is)
    (case i_Sum_size => k_is)
    (case l_Sum_size => k_is)
    (case c_Sum_size => k_is)
    (case k_Sum_size => k_is)
    (case g_minus => k_is)
    (case i_minus => k_is)
    (case l_minus => k_is)
    (case c_minus => k_is)
    (case k_minus => k_is)
    (case g_remainder => k_is)
    (case i_remainder => k_is)
    (case l_remainder => k_is)
    (case c_remainder => k_is)
    (case k_remainder => k_is)
    (case g_led_by_one => k_is)
    (case i_led_by_one => k_is)
    (case l_led_by_one => k_is)
    (case c_led_by_one => k_is)
    (case k_led_by_one => k_is)
    (case g_reduced_rows => k_is)
    (case i_reduced_rows => k_is)
    (case l_reduced_rows => k_is)
    (case c_reduced_rows => k_is)
    (case k_reduced_rows => k_is)
    (case g_zero_row => k_is)
    (case i_zero_row => k_is)
    (case l_zero_row => k_is)
    (case c_zero_row => k_is)
    (case k_zero_row => k_is)
    (case g_zero_rows => k_is)
    (case i_zero_rows => k_is)
    (case l_zero_rows => k_is)
    (case c_zero_rows => k_is)
    (case k_zero_rows => k_is)
    (case f_Space_init => k_is)
    (case i_Space_init => k_is)
    (case l_Space_init => k_is)
    (case c_Space_init => k_is)
    (case k_Space_init => k_is)
    (case ld_Space_init => k_is)
    (case f_Space_len => k_is)
    (case i_Space_len => k_is)
    (case l_Space_len => k_is)
    (case c_Space_len => k_is)
    (case k_Space_len => k_is)
    (case f_Space_contains => k_is)
    (case i_Space_contains => k_is)
    (case l_Space_contains => k_is)
    (case c_Space_contains => k_is)
    (case k_Space_contains => k_is)
    (case f_Space_or => k_is)
    (case i_Space_or => k_is)
    (case l_Space_or => k_is)
    (case c_Space_or => k_is)
    (case k_Space_or => k_is)
    (case f_Space_and => k_is)
    (case i_Space_and => k_is)
    (case l_Space_and => k_is)
    (case c_Space_and => k_is)
    (case k_Space_and => k_is)
    (case f_Space_eq => k_is)
    (case i_Space_eq => k_is)
    (case l_Space_eq => k_is)
    (case c_Space_eq => k_is)
    (case k_Space_eq => k_is)
    (case f_Space_within => k_is)
    (case i_Space_within => k_is)
    (case l_Space_within => k_is)
    (case c_Space_within => k_is)
    (case k_Space_within => k_is)
    (case f_Space_expect_operand => k_is)
    (case i_Space_expect_operand => k_is)
    (case l_Space_expect_operand => k_is)
    (case c_Space_expect_operand => k_is)
    (case k_Space_expect_operand => k_is)
    (case g_law_source => k_is)
    (case i_law_source => k_is)
    (case l_law_source => k_is)
    (case c_law_source => k_is)
    (case k_law_source => k_is)
    (case g_law_draw => k_is)
    (case i_law_draw => k_is)
    (case l_law_draw => k_is)
    (case c_law_draw => k_is)
    (case k_law_draw => k_is)
    (case g_law_pick => k_is)
    (case i_law_pick => k_is)
    (case l_law_pick => k_is)
    (case c_law_pick => k_is)
    (case k_law_pick => k_is)
    (case g_law_all_data => k_is)
    (case i_law_all_data => k_is)
    (case l_law_all_data => k_is)
    (case c_law_all_data => k_is)
    (case k_law_all_data => k_is)
    (case g_law_factors => k_is)
    (case i_law_factors => k_is)
    (case l_law_factors => k_is)
    (case c_law_factors => k_is)
    (case k_law_factors => k_is)
    (case g_law_form => k_is)
    (case i_law_form => k_is)
    (case l_law_form => k_is)
    (case c_law_form => k_is)
    (case k_law_form => k_is)
    (case g_law_sums => k_is)
    (case i_law_sums => k_is)
    (case l_law_sums => k_is)
    (case c_law_sums => k_is)
    (case k_law_sums => k_is)
    (case g_law_span => k_is)
    (case i_law_span => k_is)
    (case l_law_span => k_is)
    (case c_law_span => k_is)
    (case k_law_span => k_is)
    (case g_law_made => k_is)
    (case i_law_made => k_is)
    (case l_law_made => k_is)
    (case c_law_made => k_is)
    (case k_law_made => k_is)
    (case g_law => k_is)
    (case i_law => k_is)
    (case l_law => k_is)
    (case c_law => k_is)
    (case k_law => k_is)
    (case n_isinstance => k_is)
    (case n_int => k_is)
    (case n_bool => k_is)
    (case n_list => k_is)
    (case n_tuple => k_is)
    (case n_len => k_is)
    (case n_all => k_is)
    (case n_any => k_is)
    (case n_sum => k_is)
    (case n_zip => k_is)
    (case n_max => k_is)
    (case n_min => k_is)
    (case n_range => k_is)
    (case n_sorted => k_is)
    (case n_set => k_is)
    (case pgSum => k_is)
    (case hdSum => k_is)
    (case poSum => k_is)
    (case saSum => k_is)
    (case mkSum => k_is)
    (case kpSum => k_is)
    (case clSum => k_is)
    (case gtSum => k_is)
    (case tkSum => k_is)
    (case moSum => k_is)
    (case na_Sum_prime => k_is)
    (case na_Sum_factors => k_is)
    (case pgSpace => k_is)
    (case hdSpace => k_is)
    (case poSpace => k_is)
    (case saSpace => k_is)
    (case mkSpace => k_is)
    (case kpSpace => k_is)
    (case clSpace => k_is)
    (case gtSpace => k_is)
    (case tkSpace => k_is)
    (case moSpace => k_is)
    (case na_Space_prime => k_is)
    (case na_Space_size => k_is)
    (case na_Space_rows => k_is)
    (case na_Space_reduced => k_is)
    (case nsC => k_is)
    (case ksC => kit_is)
    (case gG => k_is)
    (case lG => k_is)
    (case eG => exact ⟨by decide +kernel, by decide +kernel, by decide +kernel, by decide +kernel⟩)
    (case oG => decide +kernel)
    (case sfP => k_is)
    (case neP => k_is)
    (case nlP => k_is)
    (case nsP => k_is)
    (case klP => kit_is)
    (case ksP => kit_is)
    (case ktNoneType => kit_is)
    (case ktint => kit_is)
    (case ktstr => kit_is)
    (case kttuple => kit_is)
    (case ktlist => kit_is)

