import PyProof.Rows.All
import Wide.All
import OpenK.AllK
import Wide.FinOn
import PyProof.EqAt
import PyProof.EqKinds
import PyProof.TupleCall
import HandS.ForMost
import HandS.Property
import HandS.Star
import HandS.IsInst
import HandS.Zip
import HandS.ExcInit
import HandS.ExcValue
import HandS.Lambda
import HandS.SlotsOwn
import HandS.ClsMeth
import KE.GoesMore
import HandS.TupAny
import HandS.TupMul
import KE.KDictZip
import HandS.Style
import HandS.ExcField
import HandS.ExcIs
import KE.KExcInit
import KE.KExcIs
import HandS.MakeKw
import HandS.MakeKwOnly
import HandS.Ends
import HandS.Iter
import HandS.Wide
import HandS.RaiseMore
import HandS.TryMany
import HandS.WordsExc
import HandS.EndTab
import OpenK.KMeth
import OpenK.KOps
import PyProof.P3In
import HandS.Deep
import HandS.GenBody
import HandS.GenYield
import HandS.GenCall
import HandS.GenList
import PyProof.StrOps2
import HandS.SetFor
import HandS.Strs
import HandS.SortKw
import HandS.Rev
import HandS.DictComp
import KE.DatumIndex
import KE.SortData
import HandS.TupSets
import KE.DatumOrd
import HandS.Conv
import HandS.IterVal
import HandS.OwnIter
import KE.KStar
import HandS.DictTup
import KE.GoesEnum
import KE.SortKeyHeap
import PyProof.Rows.Tup
import PyProof.TupleOfGen
import HandS.List
import HandS.Defaults
import KE.SortLaws
import KE.KRevSl
import KE.DataMinMax
import PySem.Challenge.RW_leastreads_k36_errors_of_placings
import KE.RegKIsAll
import KE.RegKTryMore
import KE.OsRunLaw
import HandS.Head2
set_option Elab.async false
set_option linter.all false
set_option maxRecDepth 100000
namespace Pd
open PySem PySem.Spec PyProof.Rows L2
/-- data; mut k is the k-th changeable object; ob a an object of the text (a class, a def) -/
inductive D where
  | non | bl (b : Bool) | int (i : Int) | str (x : Str) | lst (ds : List D) | tup (ds : List D) | ins (C : Addr) (fs : List (Str × D)) | mu (k : Nat) | ob (a : Addr)
  | ty (n : String) | exc (C : Addr) (fs : List (Str × D)) | dic (ks : List Key) (ds : List D) | dit (ks : List (List Key)) (ds : List D) | tfz (ns : List Int)
/-- what a changeable object holds -/
inductive MO where
  | lst (ds : List D) | ins (C : Addr) (fs : List (Str × D)) | tab (P : Addr) (q : Str) | dic (ks : List Key) (ds : List D) | dit (ks : List (List Key)) (ds : List D)
abbrev Ms := List MO
abbrev Rho := List (Option D)
section
variable (K : PySem.W.Frag) (as : List Addr) (H : Hp)
mutual
inductive Rp : V → D → Prop
  | non : Rp .non .non
  | bl (b : Bool) : Rp (.bl b) (.bl b)
  | int (i : Int) : Rp (.int i) (.int i)
  | str (x : Str) : Rp (.str x) (.str x)
  | lst {a : Addr} {xs : List V} {ds : List D} : SqL K H a xs → RpA xs ds → Rp (.ref a) (.lst ds)
  | tup {a : Addr} {xs : List V} {ds : List D} : SqT K H a xs → RpA xs ds → Rp (.ref a) (.tup ds)
  | ins {a C dx : Addr} {fs : List (Str × V)} {gs : List (Str × D)} : H a = some (.ins C dx fs) → RpF fs gs → Rp (.ref a) (.ins C gs)
  | mu {a : Addr} {k : Nat} : as[k]? = some a → Rp (.ref a) (.mu k)
  | ob (a : Addr) : Rp (.ref a) (.ob a)
  | ty (n : String) : Rp (.ty n) (.ty n)
  | exc {a C dx : Addr} {fs : List (Str × V)} {gs : List (Str × D)} : H a = some (exo a C (some dx)) → H dx = some (exd dx fs) → RpF fs gs → Rp (.ref a) (.exc C gs)
  | exc0 {a C : Addr} : H a = some (ExO (.ref C) a) → Rp (.ref a) (.exc C [])
  | dic {a : Addr} {ks : List Key} {vs : List V} {ds : List D} : (∃ o, H a = some (.frz o (.dK (ks.zip vs)))) → ks.length = vs.length → RpA vs ds → Rp (.ref a) (.dic ks ds)
  | dit {a : Addr} {ks : List (List Key)} {vs : List V} {ds : List D} : (∃ o, H a = some (.frz o (.dT (ks.zip vs)))) → ks.length = vs.length → RpA vs ds → Rp (.ref a) (.dit ks ds)
  | tfz {a : Addr} {ns : List Int} : (∃ o, H a = some (.frz o (.tup (ns.map V.int))) ∧ o.cls = .type "tuple" ∧ o.dict = none) → Rp (.ref a) (.tfz ns)
inductive RpA : List V → List D → Prop
  | nil : RpA [] []
  | cons {v : V} {vs : List V} {d : D} {ds : List D} : Rp v d → RpA vs ds → RpA (v :: vs) (d :: ds)
inductive RpF : List (Str × V) → List (Str × D) → Prop
  | nil : RpF [] []
  | cons {f : Str} {v : V} {fs : List (Str × V)} {d : D} {gs : List (Str × D)} : Rp v d → RpF fs gs → RpF ((f, v) :: fs) ((f, d) :: gs)
end
end
/-- all that is known stays -/
def Ex (H H' : Hp) : Prop := ∀ a o, H a = some o → H' a = some o
theorem Ex.refl (H : Hp) : Ex H H := fun _ _ h => h
theorem Ex.trans {H H1 H2 : Hp} (a : Ex H H1) (b : Ex H1 H2) : Ex H H2 := fun x o h => b x o (a x o h)
theorem Ex.new {H : Hp} {p : Addr} {o : HO} (h : H p = none) : Ex H (upd H p o) := fun a u e => by
  rw [upd_ne (ne_of_none e h)]
  exact e
theorem ex_rd {H H' : Hp} {a : Addr} {u : HO} (e : Ex H H') (h : Rd H a u) : Rd H' a u := by
  rcases h with h | ⟨o, h⟩
  · exact Or.inl (e a _ h)
  · exact Or.inr ⟨o, e a _ h⟩
theorem ex_l {K : PySem.W.Frag} {H H' : Hp} {a : Addr} {xs : List V} (e : Ex H H') (h : SqL K H a xs) : SqL K H' a xs := by
  rcases h with h | h
  · exact Or.inl (ex_rd e h)
  · exact Or.inr h
theorem ex_t {K : PySem.W.Frag} {H H' : Hp} {a : Addr} {xs : List V} (e : Ex H H') (h : SqT K H a xs) : SqT K H' a xs := by
  rcases h with h | h
  · exact Or.inl (ex_rd e h)
  · exact Or.inr h
section
variable {K : PySem.W.Frag} {as bs : List Addr} {H H' : Hp}
/-- more changeable objects stand behind -/
def Pre (as bs : List Addr) : Prop := ∀ (k : Nat) (a : Addr), as[k]? = some a → bs[k]? = some a
theorem Pre.refl (as : List Addr) : Pre as as := fun _ _ h => h
theorem Pre.trans {as bs cs : List Addr} (a : Pre as bs) (b : Pre bs cs) : Pre as cs := fun k x h => b k x (a k x h)
mutual
theorem Rp.mono (e : Ex H H') (p : Pre as bs) : ∀ {v : V} {d : D}, Rp K as H v d → Rp K bs H' v d
  | _, _, .non => .non
  | _, _, .bl b => .bl b
  | _, _, .int i => .int i
  | _, _, .str x => .str x
  | _, _, .lst h r => .lst (ex_l e h) (RpA.mono e p r)
  | _, _, .tup h r => .tup (ex_t e h) (RpA.mono e p r)
  | _, _, .ins h r => .ins (e _ _ h) (RpF.mono e p r)
  | _, _, .mu h => .mu (p _ _ h)
  | _, _, .ob a => .ob a
  | _, _, .ty n => .ty n
  | _, _, .exc h1 h2 r => .exc (e _ _ h1) (e _ _ h2) (RpF.mono e p r)
  | _, _, .exc0 h => .exc0 (e _ _ h)
  | _, _, .dic h l r => .dic (let ⟨o, q⟩ := h; ⟨o, e _ _ q⟩) l (RpA.mono e p r)
  | _, _, .dit h l r => .dit (let ⟨o, q⟩ := h; ⟨o, e _ _ q⟩) l (RpA.mono e p r)
  | _, _, .tfz h => .tfz (let ⟨o, q, n⟩ := h; ⟨o, e _ _ q, n⟩)
theorem RpA.mono (e : Ex H H') (p : Pre as bs) : ∀ {vs : List V} {ds : List D}, RpA K as H vs ds → RpA K bs H' vs ds
  | _, _, .nil => .nil
  | _, _, .cons r t => .cons (Rp.mono e p r) (RpA.mono e p t)
theorem RpF.mono (e : Ex H H') (p : Pre as bs) : ∀ {fs : List (Str × V)} {gs : List (Str × D)}, RpF K as H fs gs → RpF K bs H' fs gs
  | _, _, .nil => .nil
  | _, _, .cons r t => .cons (Rp.mono e p r) (RpF.mono e p t)
end
theorem RpA.length : ∀ {vs : List V} {ds : List D}, RpA K as H vs ds → vs.length = ds.length
  | _, _, .nil => rfl
  | _, _, .cons _ t => congrArg (· + 1) t.length
theorem RpA.get : ∀ {vs : List V} {ds : List D} {i : Nat} {d : D}, RpA K as H vs ds → ds[i]? = some d → ∃ v, vs[i]? = some v ∧ Rp K as H v d
  | _, _, _, _, .nil, e => by simp at e
  | _, _, 0, _, .cons r _, e => by simp at e; subst e; exact ⟨_, rfl, r⟩
  | _, _, i + 1, d, .cons _ t, e => by
    obtain ⟨v, h1, h2⟩ := RpA.get (i := i) (d := d) t (by simpa using e)
    exact ⟨v, by simpa using h1, h2⟩
theorem RpA.getV : ∀ {vs : List V} {ds : List D} {i : Nat} {v : V}, RpA K as H vs ds → vs[i]? = some v → ∃ d, ds[i]? = some d ∧ Rp K as H v d
  | _, _, _, _, .nil, e => by simp at e
  | _, _, 0, _, .cons r _, e => by simp at e; subst e; exact ⟨_, rfl, r⟩
  | _, _, i + 1, d, .cons _ t, e => by
    obtain ⟨v, h1, h2⟩ := RpA.getV (i := i) (v := d) t (by simpa using e)
    exact ⟨v, by simpa using h1, h2⟩
theorem RpA.append : ∀ {vs ws : List V} {ds es : List D}, RpA K as H vs ds → RpA K as H ws es → RpA K as H (vs ++ ws) (ds ++ es)
  | _, _, _, _, .nil, s => s
  | _, _, _, _, .cons r t, s => .cons r (RpA.append t s)
theorem RpA.one {v : V} {d : D} (r : Rp K as H v d) : RpA K as H [v] [d] := .cons r .nil
theorem RpF.look : ∀ {fs : List (Str × V)} {gs : List (Str × D)} {f : Str} {d : D}, RpF K as H fs gs → gs.lookup f = some d → ∃ v, fs.lookup f = some v ∧ Rp K as H v d
  | _, _, _, _, .nil, e => by simp at e
  | (g, v) :: fs, _, f, d, .cons (gs := gs) (d := dd) r t, e => by
    rw [List.lookup_cons] at e ⊢
    cases q : f == g with
    | true => rw [q] at e; cases e; exact ⟨_, rfl, r⟩
    | false => rw [q] at e; exact RpF.look t e
theorem RpF.lookN : ∀ {fs : List (Str × V)} {gs : List (Str × D)} {f : Str}, RpF K as H fs gs → gs.lookup f = none → fs.lookup f = none
  | _, _, _, .nil, e => rfl
  | (g, v) :: fs, _, f, .cons (gs := gs) (d := dd) r t, e => by
    rw [List.lookup_cons] at e ⊢
    cases q : f == g with
    | true => rw [q] at e; cases e
    | false => rw [q] at e; exact RpF.lookN t e
theorem RpF.length : ∀ {fs : List (Str × V)} {gs : List (Str × D)}, RpF K as H fs gs → fs.length = gs.length
  | _, _, .nil => rfl
  | _, _, .cons _ t => congrArg (· + 1) t.length
end
/-- the object at o holds m -/
inductive Ro (K : PySem.W.Frag) (as : List Addr) (H : Hp) : HO → MO → Prop
  | lst {xs : List V} {ds : List D} : RpA K as H xs ds → Ro K as H (.lst xs) (.lst ds)
  | ins {C dx : Addr} {fs : List (Str × V)} {gs : List (Str × D)} : RpF K as H fs gs → Ro K as H (.ins C dx fs) (.ins C gs)
  | tab {ps : Array Value} {P : Addr} {q : Str} : Ro K as H (.tbl ps) (.tab P q)
  | dic {ks : List Key} {vs : List V} {ds : List D} : ks.length = vs.length → RpA K as H vs ds → Ro K as H (.dK (ks.zip vs)) (.dic ks ds)
  | dit {ks : List (List Key)} {vs : List V} {ds : List D} : ks.length = vs.length → RpA K as H vs ds → Ro K as H (.dT (ks.zip vs)) (.dit ks ds)
theorem Ro.mono {K : PySem.W.Frag} {as bs : List Addr} {H H' : Hp} {o : HO} {m : MO} (e : Ex H H') (p : Pre as bs) (r : Ro K as H o m) : Ro K bs H' o m := by
  cases r with
  | lst r => exact .lst (r.mono e p)
  | ins r => exact .ins (r.mono e p)
  | tab => exact .tab
  | dic l r => exact .dic l (r.mono e p)
  | dit l r => exact .dit l (r.mono e p)
/-- the table of code objects at a: what it tells bears the name q -/
def TabOk (H : Hp) (a : Addr) : HO → MO → Prop
  | .tbl ps, .tab P q => a = P ∧ TriplesOk ps.toList ∧ ∀ (pos : Pos) (cv : Value), codeAmong pos ps.toList = some cv → ∃ c, cv = .ref c ∧ H c = some (LamX.CodeO c q)
  | _, _ => True
/-- code objects stay -/
def KeepC (H H' : Hp) : Prop := ∀ c q, H c = some (LamX.CodeO c q) → H' c = some (LamX.CodeO c q)
theorem KeepC.refl (H : Hp) : KeepC H H := fun _ _ h => h
theorem KeepC.trans {H H1 H2 : Hp} (a : KeepC H H1) (b : KeepC H1 H2) : KeepC H H2 := fun c q h => b c q (a c q h)
theorem KeepC.of {H H' : Hp} (e : ∀ a o, H a = some o → H' a = some o) : KeepC H H' := fun c q h => e c _ h
theorem KeepC.new {H : Hp} {p : Addr} {o : HO} (h : H p = none) : KeepC H (upd H p o) := fun c q e => by
  rw [upd_ne (ne_of_none e h)]; exact e
def isExt : HO → Bool | .ext _ => true | _ => false
theorem KeepC.over {H : Hp} {p : Addr} {o u : HO} (h : H p = some u) (n : isExt u = false) : KeepC H (upd H p o) := fun c q e => by
  refine (upd_ne fun z => ?_).trans e
  rw [z, h] at e
  cases e
  cases n
theorem TabOk.keep {H H' : Hp} {a : Addr} {o : HO} {m : MO} (k : KeepC H H') (h : TabOk H a o m) : TabOk H' a o m := by
  cases o with
  | tbl ps =>
    cases m with
    | tab P q =>
      obtain ⟨h1, h2, h3⟩ := h
      refine ⟨h1, h2, fun pos cv hc => ?_⟩
      obtain ⟨c, h4, h5⟩ := h3 pos cv hc
      exact ⟨c, h4, k _ _ h5⟩
    | _ => trivial
  | _ => trivial
theorem Ro.noExt {K : PySem.W.Frag} {as : List Addr} {H : Hp} {o : HO} {m : MO} (r : Ro K as H o m) : isExt o = false := by cases r <;> rfl
def NoTab (L : Hp) : Prop := ∀ a ps, L a ≠ some (.tbl ps)
theorem NoTab.new {L : Hp} {p : Addr} {o : HO} (n : NoTab L) (h : ∀ ps, o ≠ .tbl ps) : NoTab (upd L p o) := fun a ps e => by
  by_cases z : a = p
  · rw [z, upd_same] at e; cases e; exact h ps rfl
  · rw [upd_ne z] at e; exact n a ps e
/-- L: what is known for good; H: the heap; as: where the changeable objects stand, M: what they hold -/
structure At (K : PySem.W.Frag) (as : List Addr) (M : Ms) (L H : Hp) : Prop where
  low : Ex L H
  len : as.length = M.length
  nd : as.Nodup
  mo : ∀ (k : Nat) (a : Addr) (m : MO), as[k]? = some a → M[k]? = some m → L a = none ∧ ∃ o, H a = some o ∧ Ro K as L o m ∧ TabOk H a o m
  nt : NoTab L
theorem At.held {K : PySem.W.Frag} {as : List Addr} {M : Ms} {L H : Hp} (A : At K as M L H) {a : Addr} (h : a ∈ as) : L a = none ∧ H a ≠ none := by
  obtain ⟨k, hk, e⟩ := List.getElem_of_mem h
  have e1 : as[k]? = some a := by rw [List.getElem?_eq_getElem hk, e]
  have hm : k < M.length := by rw [← A.len]; exact hk
  obtain ⟨h1, o, h2, _⟩ := A.mo k a _ e1 (List.getElem?_eq_getElem hm)
  exact ⟨h1, by rw [h2]; simp⟩
/-- a step: known things stay, hidden things stay hidden; bs: the changeable objects behind it -/
structure Step (as : List Addr) (L H : Hp) (bs : List Addr) (L' H' : Hp) : Prop where
  up : ∀ a o, a ∉ as → H a = some o → H' a = some o
  k : Ex L L'
  hid : ∀ a, L a = none → H a ≠ none → L' a = none
  pre : Pre as bs
  new : ∀ a ∈ bs, a ∈ as ∨ H a = none
theorem Step.refl {as : List Addr} {L H : Hp} : Step as L H as L H := ⟨fun _ _ _ h => h, Ex.refl _, fun _ h _ => h, Pre.refl _, fun _ h => .inl h⟩
theorem Step.trans {K : PySem.W.Frag} {as bs cs : List Addr} {M1 : Ms} {L H L1 H1 L2 H2 : Hp} (s : Step as L H bs L1 H1) (A1 : At K bs M1 L1 H1) (t : Step bs L1 H1 cs L2 H2) : Step as L H cs L2 H2 := by
  have there : ∀ a, H a ≠ none → H1 a ≠ none := fun a h => by
    by_cases ha : a ∈ as
    · obtain ⟨k, hk, e⟩ := List.getElem_of_mem ha
      have e1 : as[k]? = some a := by rw [List.getElem?_eq_getElem hk, e]
      have e2 := s.pre k a e1
      exact (A1.held (List.mem_of_getElem? e2)).2
    · cases q : H a with
      | none => exact absurd q h
      | some o => rw [s.up a o ha q]; simp
  refine ⟨fun a o ha h => ?_, s.k.trans t.k, fun a h h' => t.hid a (s.hid a h h') (there a h'), s.pre.trans t.pre, fun a ha => ?_⟩
  · have h1 := s.up a o ha h
    refine t.up a o (fun hb => ?_) h1
    rcases s.new a hb with z | z
    · exact ha z
    · rw [h] at z; cases z
  · rcases t.new a ha with z | z
    · exact s.new a z
    · right
      cases q : H a with
      | none => rfl
      | some o => exact absurd z (there a (by rw [q]; simp))
theorem Step.sub {as bs : List Addr} {L H L1 H1 : Hp} (s : Step as L H bs L1 H1) : Step as L H as L1 H1 := ⟨s.up, s.k, s.hid, Pre.refl _, fun _ h => .inl h⟩
/-- a new thing that is known for good -/
theorem At.know {K : PySem.W.Frag} {as : List Addr} {M : Ms} {L H : Hp} {p : Addr} {o : HO} (A : At K as M L H) (hp : H p = none) (ho : ∀ ps, o ≠ .tbl ps := by first | (intro ps z; cases z) | (intro ps z; unfold exo at z; cases z) | (intro ps z; unfold exd at z; cases z) | (intro ps z; unfold ExO at z; cases z)) : At K as M (upd L p o) (upd H p o) := by
  refine ⟨fun a u h => ?_, A.len, A.nd, fun k a m h1 h2 => ?_, A.nt.new ho⟩
  · by_cases e : a = p
    · subst e; rw [upd_same] at h ⊢; exact h
    · rw [upd_ne e] at h ⊢; exact A.low a u h
  · obtain ⟨h3, o', h4, h5⟩ := A.mo k a m h1 h2
    have e : a ≠ p := ne_of_none h4 hp
    have lp : L p = none := by
      cases q : L p with
      | none => rfl
      | some u => rw [A.low p u q] at hp; cases hp
    exact ⟨by rw [upd_ne e]; exact h3, o', by rw [upd_ne e]; exact h4, h5.1.mono (Ex.new lp) (Pre.refl _), h5.2.keep (KeepC.new hp)⟩
theorem Step.know {K : PySem.W.Frag} {as : List Addr} {M : Ms} {L H : Hp} {p : Addr} {o : HO} (A : At K as M L H) (hp : H p = none) : Step as L H as (upd L p o) (upd H p o) := by
  have lp : L p = none := by
    cases q : L p with
    | none => rfl
    | some u => rw [A.low p u q] at hp; cases hp
  refine ⟨fun a u _ h => ?_, Ex.new lp, fun a h h' => ?_, Pre.refl _, fun _ h => .inl h⟩
  · rw [upd_ne (ne_of_none h hp)]; exact h
  · have e : a ≠ p := fun z => h' (by rw [z]; exact hp)
    rw [upd_ne e]; exact h
/-- the slots -/
structure En (K : PySem.W.Frag) (as : List Addr) (L : Hp) (σ : L2.St) (ρ : Rho) : Prop where
  len : σ.length = ρ.length
  at_ : ∀ (i : Nat) (d : D), ρ[i]? = some (some d) → ∃ v, σ[i]? = some (some v) ∧ Rp K as L v d
theorem En.mono {K : PySem.W.Frag} {as bs : List Addr} {L L' : Hp} {σ : L2.St} {ρ : Rho} (e : Ex L L') (p : Pre as bs) (h : En K as L σ ρ) : En K bs L' σ ρ :=
  ⟨h.len, fun i d q => let ⟨v, h1, h2⟩ := h.at_ i d q; ⟨v, h1, h2.mono e p⟩⟩
theorem En.set {K : PySem.W.Frag} {as : List Addr} {L : Hp} {σ : L2.St} {ρ : Rho} {v : V} {d : D} (i : Nat) (h : En K as L σ ρ) (r : Rp K as L v d) : En K as L (σ.set i (some v)) (ρ.set i (some d)) := by
  refine ⟨by rw [List.length_set, List.length_set]; exact h.len, fun j e q => ?_⟩
  rw [List.getElem?_set] at q ⊢
  by_cases hj : i = j
  · subst hj
    rw [if_pos rfl] at q ⊢
    rw [h.len]
    split at q
    · rename_i hl
      rw [if_pos hl]
      cases q
      exact ⟨v, rfl, r⟩
    · cases q
  · rw [if_neg hj] at q ⊢
    exact h.at_ j e q
abbrev DE := Rho → Ms → (D → Ms → Prop) → Prop
abbrev DT := Rho → Ms → (Bool → Ms → Prop) → Prop
abbrev DA := Rho → Ms → (List D → Ms → Prop) → Prop
def SimE (K : PySem.W.Frag) (te : TE) (t : DE) : Prop := ∀ as σ ρ L H M P Q, En K as L σ ρ → At K as M L H → t ρ M P →
  (∀ v d L' H' M', Step as L H as L' H' → At K as M' L' H' → P d M' → Rp K as L' v d → Q v H') → te σ H Q
def SimT (K : PySem.W.Frag) (te : TT) (t : DT) : Prop := ∀ as σ ρ L H M P Q, En K as L σ ρ → At K as M L H → t ρ M P →
  (∀ b L' H' M', Step as L H as L' H' → At K as M' L' H' → P b M' → Q b H') → te σ H Q
def SimA (K : PySem.W.Frag) (te : TA) (t : DA) : Prop := ∀ as σ ρ L H M P Q, En K as L σ ρ → At K as M L H → t ρ M P →
  (∀ vs ds L' H' M', Step as L H as L' H' → At K as M' L' H' → P ds M' → RpA K as L' vs ds → Q vs H') → te σ H Q
structure PD (X : Cx) (e : Expr) (t : DE) : Prop where
  ex : ∃ te, PE X e te ∧ SimE X.K te t
structure PDT (X : Cx) (e : Expr) (t : DT) : Prop where
  ex : ∃ te, PT X e te ∧ SimT X.K te t
structure PDW (X : Cx) (e : Expr) (t : DT) : Prop where
  ex : ∃ te, PW X e te ∧ SimT X.K te t
structure PDA (X : Cx) (es : List Expr) (t : DA) : Prop where
  ex : ∃ te, PA X es te ∧ SimA X.K te t
section
variable {X : Cx} {a b c e : Expr} {es : List Expr} {ta tb tc : DE} {pos : Pos}
@[simp] def dVar (i : Nat) : DE := fun ρ M P => ∃ d, ρ[i]? = some (some d) ∧ P d M
theorem pd_name (i : Nat) {x : Str} (hN : X.N[i]? = some x := by rfl) (hv : Vis X.env.scope x := by first | exact Or.inl rfl | exact Or.inr (Or.inl rfl) | exact Or.inr (Or.inr rfl)) (hd : (x == ("__debug__" : Str)) = false := by decide)
    (hcd : (x == ("__classdict__" : Str)) = false := by decide) : PD X (.Name x pos) (dVar i) :=
  ⟨_, pv i hN hv hd hcd, fun as σ ρ L H M P Q hE A ⟨d, hd, p⟩ q => by
    obtain ⟨v, h1, h2⟩ := hE.at_ i d hd
    exact ⟨v, h1, q v d L H M .refl A p h2⟩⟩
@[simp] def dC (d : D) : DE := fun _ M P => P d M
theorem pd_int {i j} : PD X (.Constant (.int i) j pos) (dC (.int i)) := ⟨_, pe_int, fun as σ ρ L H M P Q hE A p q => q _ _ L H M .refl A p (.int i)⟩
theorem pd_bl {b j} : PD X (.Constant (.bool b) j pos) (dC (.bl b)) := ⟨_, pe_bl, fun as σ ρ L H M P Q hE A p q => q _ _ L H M .refl A p (.bl b)⟩
theorem pd_non {j} : PD X (.Constant .none j pos) (dC .non) := ⟨_, pe_non, fun as σ ρ L H M P Q hE A p q => q _ _ L H M .refl A p .non⟩
theorem pd_str {x j} : PD X (.Constant (.str x) j pos) (dC (.str x)) := ⟨_, pe_str, fun as σ ρ L H M P Q hE A p q => q _ _ L H M .refl A p (.str x)⟩
abbrev D2 := D → D → Ms → (D → Ms → Prop) → Prop
abbrev D1 := D → Ms → (D → Ms → Prop) → Prop
abbrev DC := List D → Ms → (D → Ms → Prop) → Prop
def SimR (K : PySem.W.Frag) (r : R2) (o : D2) : Prop := ∀ as L H M x y d e P Q, At K as M L H → Rp K as L x d → Rp K as L y e → o d e M P →
  (∀ v z L' H' M', Step as L H as L' H' → At K as M' L' H' → P z M' → Rp K as L' v z → Q v H') → r x y H Q
def SimU (K : PySem.W.Frag) (r : V → Hp → VK → Prop) (o : D1) : Prop := ∀ as L H M x d P Q, At K as M L H → Rp K as L x d → o d M P →
  (∀ v z L' H' M', Step as L H as L' H' → At K as M' L' H' → P z M' → Rp K as L' v z → Q v H') → r x H Q
def SimC (K : PySem.W.Frag) (r : List V → Hp → VK → Prop) (o : DC) : Prop := ∀ as L H M xs ds P Q, At K as M L H → RpA K as L xs ds → o ds M P →
  (∀ v z L' H' M', Step as L H as L' H' → At K as M' L' H' → P z M' → Rp K as L' v z → Q v H') → r xs H Q
@[simp] def d2 (o : D2) (ta tb : DE) : DE := fun ρ M P => ta ρ M fun x M1 => tb ρ M1 fun y M2 => o x y M2 P
@[simp] def d1 (o : D1) (ta : DE) : DE := fun ρ M P => ta ρ M fun x M1 => o x M1 P
theorem sim_op {K : PySem.W.Frag} {r : R2} {o : D2} {ua ub : TE} (hr : SimR K r o) (ha : SimE K ua ta) (hb : SimE K ub tb) : SimE K (tOp r ua ub) (d2 o ta tb) := by
  intro as σ ρ L H M P Q hE A h q
  refine ha as σ ρ L H M _ _ hE A h fun x d L1 H1 M1 s1 A1 h1 r1 => ?_
  refine hb as σ ρ L1 H1 M1 _ _ (hE.mono s1.k s1.pre) A1 h1 fun y e L2 H2 M2 s2 A2 h2 r2 => ?_
  refine hr as L2 H2 M2 x y d e P Q A2 (r1.mono s2.k s2.pre) r2 h2 fun v z L3 H3 M3 s3 A3 h3 r3 => ?_
  exact q v z L3 H3 M3 (s1.trans A1 (s2.trans A2 s3)) A3 h3 r3
theorem sim_un {K : PySem.W.Frag} {r : V → Hp → VK → Prop} {o : D1} {ua : TE} (hr : SimU K r o) (ha : SimE K ua ta) : SimE K (tUn r ua) (d1 o ta) := by
  intro as σ ρ L H M P Q hE A h q
  refine ha as σ ρ L H M _ _ hE A h fun x d L1 H1 M1 s1 A1 h1 r1 => ?_
  refine hr as L1 H1 M1 x d P Q A1 r1 h1 fun v z L3 H3 M3 s3 A3 h3 r3 => ?_
  exact q v z L3 H3 M3 (s1.trans A1 s3) A3 h3 r3
theorem pd_op {op : Operator} {r : R2} {o : D2} (ho : OpR X (binaryOp op) r) (hr : SimR X.K r o) (ha : PD X a ta) (hb : PD X b tb) : PD X (.BinOp a op b pos) (d2 o ta tb) := by
  obtain ⟨ua, pa, sa⟩ := ha.ex
  obtain ⟨ub, pb, sb⟩ := hb.ex
  exact ⟨_, pe_op ho pa pb, sim_op hr sa sb⟩
theorem pd_un {op : UnaryOp} {r : V → Hp → VK → Prop} {o : D1} (ho : UnR X (unaryOp op) r) (hr : SimU X.K r o) (ha : PD X a ta) : PD X (.UnaryOp op a pos) (d1 o ta) := by
  obtain ⟨ua, pa, sa⟩ := ha.ex
  exact ⟨_, pe_un ho pa, sim_un hr sa⟩
theorem pd_cmp {op : CmpOp} {r : R2} {o : D2} (ho : OpR X (compareOp op) r) (hr : SimR X.K r o) (ha : PD X a ta) (hb : PD X b tb) (hm : behindInMarks op b = false) : PD X (.Compare a [op] [b] pos) (d2 o ta tb) := by
  obtain ⟨ua, pa, sa⟩ := ha.ex
  obtain ⟨ub, pb, sb⟩ := hb.ex
  exact ⟨_, pe_cmpR ho pa pb hm, sim_op hr sa sb⟩
/-- as a test -/
@[simp] def dTest (t : DE) : DT := fun ρ M P => t ρ M fun x M1 => ∃ k, x = .bl k ∧ P k M1
theorem sim_test {K : PySem.W.Frag} {u : TE} {t : DE} (h : SimE K u t) : SimT K (tTest u) (dTest t) := by
  intro as σ ρ L H M P Q hE A h1 q
  refine h as σ ρ L H M _ _ hE A h1 fun x d L1 H1 M1 s1 A1 h2 r1 => ?_
  obtain ⟨k, rfl, p⟩ := h2
  cases r1
  exact ⟨k, rfl, q k L1 H1 M1 s1 A1 p⟩
theorem pdt_cmp {op : CmpOp} {r : R2} {o : D2} (ho : OpR X (compareOp op) r) (hr : SimR X.K r o) (ha : PD X a ta) (hb : PD X b tb) (hm : behindInMarks op b = false) : PDT X (.Compare a [op] [b] pos) (dTest (d2 o ta tb)) := by
  obtain ⟨ua, pa, sa⟩ := ha.ex
  obtain ⟨ub, pb, sb⟩ := hb.ex
  exact ⟨_, pt_cmpR ho pa pb hm, sim_test (sim_op hr sa sb)⟩
theorem pdt_val {t : DE} (h : PD X e t) (he : ∀ whole, isTrue e X.env whole = (do let v ← whole; standAt e.pos; holding [v] (truthy v)) := by intro _; rfl) : PDT X e (dTest t) := by
  obtain ⟨u, p, s⟩ := h.ex
  exact ⟨_, pt_val p he, sim_test s⟩
/-- a < b < c -/
@[simp] def dChain (o o' : D2) (ta tb tc : DE) : DE := fun ρ M P => ta ρ M fun x M1 => tb ρ M1 fun y M2 => o x y M2 fun z M3 => ∃ k, z = .bl k ∧ if k = true then tc ρ M3 fun w M4 => o' y w M4 P else P (.bl false) M3
end
end Pd
set_option Elab.async false
set_option linter.all false
set_option maxRecDepth 100000
namespace Pd
open PySem PySem.Spec PyProof.Rows L2
section
variable {X : Cx} {a b c e : Expr} {es : List Expr} {ta tb tc t : DE} {tA tB' : DT} {tl : DA} {pos : Pos}
theorem pd_chain {op op' : CmpOp} {r r' : R2} {o o' : D2} (ho : OpR X (compareOp op) r) (hr : SimR X.K r o) (ho' : OpR X (compareOp op') r') (hr' : SimR X.K r' o') (ha : PD X a ta) (hb : PD X b tb) (hc : PD X c tc)
    (hm : lastMarks [op, op'] [b, c] = false := by with_unfolding_all rfl) : PD X (.Compare a [op, op'] [b, c] pos) (dChain o o' ta tb tc) := by
  obtain ⟨ua, pa, sa⟩ := ha.ex
  obtain ⟨ub, pb, sb⟩ := hb.ex
  obtain ⟨uc, pc, sc⟩ := hc.ex
  refine ⟨_, pe_chain ho ho' pa pb pc hm, ?_⟩
  intro as σ ρ L H M P Q hE A h q
  refine sa as σ ρ L H M _ _ hE A h fun x d L1 H1 M1 s1 A1 h1 r1 => ?_
  refine sb as σ ρ L1 H1 M1 _ _ (hE.mono s1.k s1.pre) A1 h1 fun y e L2 H2 M2 s2 A2 h2 r2 => ?_
  refine hr as L2 H2 M2 x y d e _ _ A2 (r1.mono s2.k s2.pre) r2 h2 fun v z L3 H3 M3 s3 A3 h3 r3 => ?_
  obtain ⟨k, rfl, h3⟩ := h3
  cases r3
  have s13 := s1.trans A1 (s2.trans A2 s3)
  refine ⟨k, rfl, ?_⟩
  cases k with
  | false =>
    rw [if_neg Bool.false_ne_true] at h3 ⊢
    exact q _ _ L3 H3 M3 s13 A3 h3 (.bl false)
  | true =>
    rw [if_pos rfl] at h3 ⊢
    refine sc as σ ρ L3 H3 M3 _ _ (hE.mono s13.k s13.pre) A3 h3 fun w' f L4 H4 M4 s4 A4 h4 r4 => ?_
    refine hr' as L4 H4 M4 y w' e f P Q A4 (r2.mono (s3.k.trans s4.k) (s3.pre.trans s4.pre)) r4 h4 fun v z L5 H5 M5 s5 A5 h5 r5 => ?_
    exact q v z L5 H5 M5 (s13.trans A3 (s4.trans A4 s5)) A5 h5 r5
@[simp] def dAnd (t u : DT) : DT := fun ρ M P => t ρ M fun c M1 => if c = true then u ρ M1 P else P false M1
@[simp] def dOr (t u : DT) : DT := fun ρ M P => t ρ M fun c M1 => if c = true then P true M1 else u ρ M1 P
@[simp] def dNot (t : DT) : DT := fun ρ M P => t ρ M fun c M1 => P (!c) M1
theorem pdw_or1 (ha : PDT X a tA) : PDW X (.BoolOp .Or [a] pos) tA := by
  obtain ⟨u, p, s⟩ := ha.ex
  exact ⟨u, pw_or1 p, s⟩
theorem pdw_or {rest : List Expr} (ha : PDT X a tA) (hb : PDW X (.BoolOp .Or (b :: rest) pos) tB') : PDW X (.BoolOp .Or (a :: b :: rest) pos) (dOr tA tB') := by
  obtain ⟨u, p, s⟩ := ha.ex
  obtain ⟨u', p', s'⟩ := hb.ex
  refine ⟨_, pw_or p p', ?_⟩
  intro as σ ρ L H M P Q hE A h q
  refine s as σ ρ L H M _ _ hE A h fun k L1 H1 M1 s1 A1 h1 => ?_
  cases k with
  | true =>
    rw [if_pos rfl] at h1 ⊢
    exact q true L1 H1 M1 s1 A1 h1
  | false =>
    rw [if_neg Bool.false_ne_true] at h1 ⊢
    exact s' as σ ρ L1 H1 M1 _ _ (hE.mono s1.k s1.pre) A1 h1 fun b L2 H2 M2 s2 A2 h2 => q b L2 H2 M2 (s1.trans A1 s2) A2 h2
theorem pdt_w (h : PDW X e tA) : PDT X e tA := by
  obtain ⟨u, p, s⟩ := h.ex
  exact ⟨u, p.pt, s⟩
theorem pdt_not (ha : PDT X a tA) : PDT X (.UnaryOp .Not a pos) (dNot tA) := by
  obtain ⟨u, p, s⟩ := ha.ex
  refine ⟨_, pt_not p, ?_⟩
  intro as σ ρ L H M P Q hE A h q
  exact s as σ ρ L H M _ _ hE A h fun k L1 H1 M1 s1 A1 h1 => q (!k) L1 H1 M1 s1 A1 h1
@[simp] def dAndV (ta tb : DE) : DE := fun ρ M P => ta ρ M fun x M1 => ∃ c, x = .bl c ∧ if c = true then tb ρ M1 P else P (.bl false) M1
@[simp] def dOrV (ta tb : DE) : DE := fun ρ M P => ta ρ M fun x M1 => ∃ c, x = .bl c ∧ if c = true then P (.bl true) M1 else tb ρ M1 P
@[simp] def dNotV (ta : DE) : DE := fun ρ M P => ta ρ M fun x M1 => ∃ c, x = .bl c ∧ P (.bl (!c)) M1
theorem pd_one {op} (h : PD X a t) : PD X (.BoolOp op [a] pos) t := by
  obtain ⟨u, p, s⟩ := h.ex
  exact ⟨u, pe_one p, s⟩
theorem pd_and {rest : List Expr} (ha : PD X a ta) (hb : PD X (.BoolOp .And (b :: rest) pos) tb) : PD X (.BoolOp .And (a :: b :: rest) pos) (dAndV ta tb) := by
  obtain ⟨u, p, s⟩ := ha.ex
  obtain ⟨u', p', s'⟩ := hb.ex
  refine ⟨_, pe_and p p', ?_⟩
  intro as σ ρ L H M P Q hE A h q
  refine s as σ ρ L H M _ _ hE A h fun x d L1 H1 M1 s1 A1 h1 r1 => ?_
  obtain ⟨k, rfl, h1⟩ := h1
  cases r1
  refine ⟨k, rfl, ?_⟩
  cases k with
  | true =>
    rw [if_pos rfl] at h1 ⊢
    exact s' as σ ρ L1 H1 M1 _ _ (hE.mono s1.k s1.pre) A1 h1 fun v z L2 H2 M2 s2 A2 h2 => q v z L2 H2 M2 (s1.trans A1 s2) A2 h2
  | false =>
    rw [if_neg Bool.false_ne_true] at h1 ⊢
    exact q _ _ L1 H1 M1 s1 A1 h1 (.bl false)
theorem pd_not (ha : PD X a ta) : PD X (.UnaryOp .Not a pos) (dNotV ta) := by
  obtain ⟨u, p, s⟩ := ha.ex
  refine ⟨_, pe_not p, ?_⟩
  intro as σ ρ L H M P Q hE A h q
  refine s as σ ρ L H M _ _ hE A h fun x d L1 H1 M1 s1 A1 h1 r1 => ?_
  obtain ⟨k, rfl, h1⟩ := h1
  cases r1
  exact ⟨k, rfl, q _ _ L1 H1 M1 s1 A1 h1 (.bl (!k))⟩
@[simp] def dIf (t : DT) (ta tb : DE) : DE := fun ρ M P => t ρ M fun c M1 => if c = true then ta ρ M1 P else tb ρ M1 P
theorem pd_ifExp (hc : PDT X c tA) (ha : PD X a ta) (hb : PD X b tb) : PD X (.IfExp c a b pos) (dIf tA ta tb) := by
  obtain ⟨u, p, s⟩ := hc.ex
  obtain ⟨u1, p1, s1⟩ := ha.ex
  obtain ⟨u2, p2, s2⟩ := hb.ex
  refine ⟨_, pe_ifExp p p1 p2, ?_⟩
  intro as σ ρ L H M P Q hE A h q
  refine s as σ ρ L H M _ _ hE A h fun k L1 H1 M1 st A1 h1 => ?_
  cases k with
  | true =>
    rw [if_pos rfl] at h1 ⊢
    exact s1 as σ ρ L1 H1 M1 _ _ (hE.mono st.k st.pre) A1 h1 fun v z L2 H2 M2 s2 A2 h2 => q v z L2 H2 M2 (st.trans A1 s2) A2 h2
  | false =>
    rw [if_neg Bool.false_ne_true] at h1 ⊢
    exact s2 as σ ρ L1 H1 M1 _ _ (hE.mono st.k st.pre) A1 h1 fun v z L2 H2 M2 s2 A2 h2 => q v z L2 H2 M2 (st.trans A1 s2) A2 h2
@[simp] def dNil : DA := fun _ M P => P [] M
@[simp] def dCons (ta : DE) (tl : DA) : DA := fun ρ M P => ta ρ M fun x M1 => tl ρ M1 fun xs M2 => P (x :: xs) M2
theorem pda_nil : PDA X [] dNil := ⟨_, pa_nil, fun as σ ρ L H M P Q hE A h q => q [] [] L H M .refl A h .nil⟩
theorem pda_cons (ha : PD X e ta) (hr : PDA X es tl) (hs : starEach (e :: es) X.env = (false, eval e X.env) :: starEach es X.env := by rfl) : PDA X (e :: es) (dCons ta tl) := by
  obtain ⟨u, p, s⟩ := ha.ex
  obtain ⟨u', p', s'⟩ := hr.ex
  refine ⟨_, pa_cons p p' hs, ?_⟩
  intro as σ ρ L H M P Q hE A h q
  refine s as σ ρ L H M _ _ hE A h fun x d L1 H1 M1 s1 A1 h1 r1 => ?_
  exact s' as σ ρ L1 H1 M1 _ _ (hE.mono s1.k s1.pre) A1 h1 fun vs ds L2 H2 M2 s2 A2 h2 r2 => q _ _ L2 H2 M2 (s1.trans A1 s2) A2 h2 (.cons (r1.mono s2.k s2.pre) r2)
@[simp] def dTup (tl : DA) : DE := fun ρ M P => tl ρ M fun ds M1 => ds.length ≤ sizeLine ∧ P (.tup ds) M1
@[simp] def dLst (tl : DA) : DE := fun ρ M P => tl ρ M fun ds M1 => ds.length ≤ sizeLine ∧ P (.lst ds) M1
theorem lowfree {K : PySem.W.Frag} {as : List Addr} {M : Ms} {L H : Hp} {p : Addr} (A : At K as M L H) (hp : H p = none) : L p = none := by
  cases q : L p with
  | none => rfl
  | some u => rw [A.low p u q] at hp; cases hp
theorem pd_tup {x1} (h : PDA X es tl) : PD X (.Tuple es x1 pos) (dTup tl) := by
  obtain ⟨u, p, s⟩ := h.ex
  refine ⟨_, pe_tup p, ?_⟩
  intro as σ ρ L H M P Q hE A h q
  refine s as σ ρ L H M _ _ hE A h fun vs ds L1 H1 M1 s1 A1 h1 r1 => ⟨by rw [r1.length]; exact h1.1, fun p hp => ?_⟩
  exact q _ _ _ _ M1 (s1.trans A1 (Step.know A1 hp)) (A1.know hp) h1.2 (.tup (.inl (.inl upd_same)) (r1.mono (Ex.new (lowfree A1 hp)) (Pre.refl _)))
theorem pd_lst (h : PDA X es tl) : PD X (.List es pos) (dLst tl) := by
  obtain ⟨u, p, s⟩ := h.ex
  refine ⟨_, pe_lst p, ?_⟩
  intro as σ ρ L H M P Q hE A h q
  refine s as σ ρ L H M _ _ hE A h fun vs ds L1 H1 M1 s1 A1 h1 r1 => ⟨by rw [r1.length]; exact h1.1, fun p hp => ?_⟩
  exact q _ _ _ _ M1 (s1.trans A1 (Step.know A1 hp)) (A1.know hp) h1.2 (.lst (.inl (.inl upd_same)) (r1.mono (Ex.new (lowfree A1 hp)) (Pre.refl _)))
/-- what a def promises, over data -/
def spD (n : Nat) (W : DC) : PySem.W.Frag → Sp := fun K vs H Q _ => vs.length = n ∧ ∃ as M L ds P, RpA K as L vs ds ∧ At K as M L H ∧ W ds M P ∧
  ∀ v d L' H' M', Step as L H as L' H' → At K as M' L' H' → P d M' → Rp K as L' v d → Q v H'
@[simp] def dCall (n : Nat) (W : DC) (tl : DA) : DE := fun ρ M P => tl ρ M fun ds M1 => ds.length = n ∧ W ds M1 P
theorem sim_call {n : Nat} {W : DC} {u : TA} {K : PySem.W.Frag} {E : XK} (s : SimA K u tl) : SimE K (tCall (spD n W K) [] E u) (dCall n W tl) := by
  intro as σ ρ L H M P Q hE A h q
  refine s as σ ρ L H M _ _ hE A h fun vs ds L1 H1 M1 s1 A1 h1 r1 => ?_
  rw [List.append_nil]
  exact ⟨by rw [r1.length]; exact h1.1, as, M1, L1, ds, P, r1, A1, h1.2, fun v d L2 H2 M2 s2 A2 h2 r2 => q v d L2 H2 M2 (s1.trans A1 s2) A2 h2 r2⟩
theorem pd_call {k : Nat} {f : Addr} {fd : FuncData} {ps : List Str} {n : Nat} {W : DC} {x : Str} {p : Pos} (F : FnOk X.prog X.w X.K X.mg X.base CX0 k f fd ps (spD n W X.K)) (hr : Room k X.A) (hg : Gl X x) (hm : X.mg x = some (.ref f)) (hk : PySem.W.keepIn X.K (.ref f) = true)
    (hb : Binds X.K fd ps []) (ha : PDA X (e :: es) tl) (hdb : (x == ("__debug__" : Str)) = false := by decide) (he : starEach (e :: es) X.env = (false, eval e X.env) :: starEach es X.env := by rfl) (hpl : (backTo pos (starEach es X.env)).any (·.1) = false := by rfl) :
    PD X (.Call (.Name x p) (e :: es) [] pos) (dCall n W tl) := by
  obtain ⟨u, pa, s⟩ := ha.ex
  exact ⟨_, pe_call F hr hg hm hk hb .nil pass0 pa hdb he hpl, sim_call s⟩
@[simp] def dCB (o : DC) (tl : DA) : DE := fun ρ M P => tl ρ M fun ds M1 => o ds M1 P
theorem sim_cb {r : List V → Hp → VK → Prop} {o : DC} {u : TA} {K : PySem.W.Frag} (hr : SimC K r o) (s : SimA K u tl) : SimE K (tCB r u) (dCB o tl) := by
  intro as σ ρ L H M P Q hE A h q
  refine s as σ ρ L H M _ _ hE A h fun vs ds L1 H1 M1 s1 A1 h1 r1 => ?_
  exact hr as L1 H1 M1 vs ds P Q A1 r1 h1 fun v z L2 H2 M2 s2 A2 h2 r2 => q v z L2 H2 M2 (s1.trans A1 s2) A2 h2 r2
theorem pd_callB {id : String} {r : List V → Hp → VK → Prop} {o : DC} {x : Str} {p : Pos} (hc : CallR X (.builtin id) r) (hs : SimC X.K r o) (hg : Gl X x) (hm : X.mg x = none) (hv : bootBuiltins x = some (.builtin id)) (ha : PDA X (e :: es) tl) (hn : x ≠ "__name__" := by decide)
    (hdb : (x == ("__debug__" : Str)) = false := by decide) (he : starEach (e :: es) X.env = (false, eval e X.env) :: starEach es X.env := by rfl) (hpl : (backTo pos (starEach es X.env)).any (·.1) = false := by rfl) : PD X (.Call (.Name x p) (e :: es) [] pos) (dCB o tl) := by
  obtain ⟨u, pa, s⟩ := ha.ex
  exact ⟨_, pe_callB hc hg hm hv pa hn hdb he hpl, sim_cb hs s⟩
theorem pd_callTy {T : String} {r : List V → Hp → VK → Prop} {o : DC} {x : Str} {p : Pos} (hc : CallR X (.type T) r) (hs : SimC X.K r o) (hg : Gl X x) (hm : X.mg x = none) (hv : bootBuiltins x = some (.type T)) (ha : PDA X (e :: es) tl) (hn : x ≠ "__name__" := by decide)
    (hdb : (x == ("__debug__" : Str)) = false := by decide) (he : starEach (e :: es) X.env = (false, eval e X.env) :: starEach es X.env := by rfl) (hpl : (backTo pos (starEach es X.env)).any (·.1) = false := by rfl) : PD X (.Call (.Name x p) (e :: es) [] pos) (dCB o tl) := by
  obtain ⟨u, pa, s⟩ := ha.ex
  exact ⟨_, pe_callTy hc hg hm hv pa hn hdb he hpl, sim_cb hs s⟩
theorem pd_ix {r : R2} {o : D2} (hi : IxR X r) (hr : SimR X.K r o) (ha : PD X a ta) (hb : PD X b tb) (hs : PlainIx b := by exact fun _ _ => rfl) : PD X (.Subscript a b pos) (d2 o ta tb) := by
  obtain ⟨ua, pa, sa⟩ := ha.ex
  obtain ⟨ub, pb, sb⟩ := hb.ex
  exact ⟨_, pe_ix hi pa pb hs, sim_op hr sa sb⟩
structure DEnds where
  nx : Rho → Ms → Prop
  rt : D → Ms → Prop
  bk : Rho → Ms → Prop := fun _ _ => False
  ct : Rho → Ms → Prop := fun _ _ => False
abbrev DS := DEnds → Rho → Ms → Prop
def EndN (K : PySem.W.Frag) (as : List Addr) (L H : Hp) (d : Rho → Ms → Prop) (v : L2.St → Hp → Prop) : Prop := ∀ σ' ρ' L' H' M', Step as L H as L' H' → At K as M' L' H' → En K as L' σ' ρ' → d ρ' M' → v σ' H'
structure Comp (K : PySem.W.Frag) (as : List Addr) (L H : Hp) (De : DEnds) (D : Ends) : Prop where
  nx : EndN K as L H De.nx D.nx
  rt : ∀ v d L' H' M', Step as L H as L' H' → At K as M' L' H' → De.rt d M' → Rp K as L' v d → D.rt v H'
  bk : EndN K as L H De.bk D.bk
  ct : EndN K as L H De.ct D.ct
theorem EndN.step {K : PySem.W.Frag} {as : List Addr} {L H L1 H1 : Hp} {M1 : Ms} {d : Rho → Ms → Prop} {v : L2.St → Hp → Prop} (s : Step as L H as L1 H1) (A1 : At K as M1 L1 H1) (h : EndN K as L H d v) : EndN K as L1 H1 d v :=
  fun σ' ρ' L' H' M' s' A' e' q => h σ' ρ' L' H' M' (s.trans A1 s') A' e' q
theorem Comp.step {K : PySem.W.Frag} {as : List Addr} {L H L1 H1 : Hp} {M1 : Ms} {De : DEnds} {D : Ends} (s : Step as L H as L1 H1) (A1 : At K as M1 L1 H1) (h : Comp K as L H De D) : Comp K as L1 H1 De D :=
  ⟨h.nx.step s A1, fun v d L' H' M' s' A' q r => h.rt v d L' H' M' (s.trans A1 s') A' q r, h.bk.step s A1, h.ct.step s A1⟩
def SimS (K : PySem.W.Frag) (ts : TS) (t : DS) : Prop := ∀ as σ ρ L H M De D, En K as L σ ρ → At K as M L H → t De ρ M → Comp K as L H De D → ts D σ H
structure PDS (X : Cx) (st : Stmt) (t : DS) : Prop where
  ex : ∃ ts, PS X st ts ∧ SimS X.K ts t
structure PDSs (X : Cx) (st : List Stmt) (t : DS) : Prop where
  ex : ∃ ts, PSs X st ts ∧ SimS X.K ts t
variable {st : Stmt} {sts : List Stmt} {s1 s2 : DS}
@[simp] def sNext : DS := fun D ρ M => D.nx ρ M
@[simp] def sSeq (t u : DS) : DS := fun D ρ M => t { D with nx := fun ρ' M' => u D ρ' M' } ρ M
theorem pdss_nil : PDSs X [] sNext := ⟨_, pss_nil, fun as σ ρ L H M De D hE A h c => c.nx σ ρ L H M .refl A hE h⟩
theorem pdss_cons (h1 : PDS X st s1) (h2 : PDSs X sts s2) : PDSs X (st :: sts) (sSeq s1 s2) := by
  obtain ⟨u, p, s⟩ := h1.ex
  obtain ⟨u', p', s'⟩ := h2.ex
  refine ⟨_, pss_cons p p', ?_⟩
  intro as σ ρ L H M De D hE A h c
  refine s as σ ρ L H M _ _ hE A h ⟨fun σ1 ρ1 L1 H1 M1 st1 A1 e1 q1 => ?_, c.rt, c.bk, c.ct⟩
  exact s' as σ1 ρ1 L1 H1 M1 De D e1 A1 q1 (c.step st1 A1)
theorem pdss_one (h1 : PDS X st s1) : PDSs X [st] s1 := by
  obtain ⟨u, p, s⟩ := h1.ex
  exact ⟨_, pss_one p, s⟩
@[simp] def sDrop (t : DE) : DS := fun D ρ M => t ρ M fun _ M1 => D.nx ρ M1
theorem pds_expr (he : PD X e t) (hs : swapsWith e none pos.line X.env = pure false := by rfl) : PDS X (.Expr e pos) (sDrop t) := by
  obtain ⟨u, p, s⟩ := he.ex
  exact ⟨_, ps_expr p hs, fun as σ ρ L H M De D hE A h c => s as σ ρ L H M _ _ hE A h fun v d L1 H1 M1 st A1 q _ => c.nx σ ρ L1 H1 M1 st A1 (hE.mono st.k st.pre) q⟩
@[simp] def sRet (t : DE) : DS := fun D ρ M => t ρ M D.rt
theorem pds_ret (he : PD X e t) : PDS X (.Return (some e) pos) (sRet t) := by
  obtain ⟨u, p, s⟩ := he.ex
  exact ⟨_, ps_ret p, fun as σ ρ L H M De D hE A h c => s as σ ρ L H M _ _ hE A h fun v d L1 H1 M1 st A1 q r => c.rt v d L1 H1 M1 st A1 q r⟩
@[simp] def sIf (c : DT) (t u : DS) : DS := fun D ρ M => c ρ M fun b M1 => if b = true then t D ρ M1 else u D ρ M1
theorem pds_if {a b : List Stmt} (hc : PDT X c tA) (ha : PDSs X a s1) (hb : PDSs X b s2) : PDS X (.If c a b pos) (sIf tA s1 s2) := by
  obtain ⟨u, p, s⟩ := hc.ex
  obtain ⟨u1, p1, z1⟩ := ha.ex
  obtain ⟨u2, p2, z2⟩ := hb.ex
  refine ⟨_, ps_if p p1 p2, ?_⟩
  intro as σ ρ L H M De D hE A h c
  refine s as σ ρ L H M _ _ hE A h fun k L1 H1 M1 st A1 h1 => ?_
  cases k with
  | true =>
    rw [if_pos rfl] at h1 ⊢
    exact z1 as σ ρ L1 H1 M1 De D (hE.mono st.k st.pre) A1 h1 (c.step st A1)
  | false =>
    rw [if_neg Bool.false_ne_true] at h1 ⊢
    exact z2 as σ ρ L1 H1 M1 De D (hE.mono st.k st.pre) A1 h1 (c.step st A1)
@[simp] def sNever : DS := fun _ _ _ => False
theorem pds_never : PDS X st sNever := ⟨_, ps_never, fun _ _ _ _ _ _ _ _ _ _ h _ => h.elim⟩
theorem pdss_never : PDSs X sts sNever := ⟨_, pss_never, fun _ _ _ _ _ _ _ _ _ _ h _ => h.elim⟩
abbrev DG := D → Rho → (Rho → Prop) → Prop
abbrev DGs := List D → Rho → (Rho → Prop) → Prop
/-- ts: the slots that are stored -/
def SimG (K : PySem.W.Frag) (g : TG) (t : DG) (ts : List Nat) : Prop := ∀ as L H v d σ ρ M P Q, En K as L σ ρ → At K as M L H → Rp K as L v d → t d ρ P →
  (∀ σ' ρ', En K as L σ' ρ' → P ρ' → (∀ vs, (∀ i ∈ ts, i ∈ vs) → wipe σ' vs = wipe σ vs) → Q σ' H) → g v σ H Q
def SimGs (K : PySem.W.Frag) (g : TGs) (t : DGs) (ts : List Nat) : Prop := ∀ as L H vs ds σ ρ M P Q, En K as L σ ρ → At K as M L H → RpA K as L vs ds → t ds ρ P →
  (∀ σ' ρ', En K as L σ' ρ' → P ρ' → (∀ vs, (∀ i ∈ ts, i ∈ vs) → wipe σ' vs = wipe σ vs) → Q σ' H) → g vs σ H Q
structure PDG (X : Cx) (tg : Expr) (t : DG) (ts : List Nat) : Prop where
  ex : ∃ g, PG X tg g ∧ SimG X.K g t ts
structure PDGs (X : Cx) (tg : List Expr) (t : DGs) (ts : List Nat) : Prop where
  ex : ∃ g, PGs X tg g ∧ SimGs X.K g t ts
theorem wipe_set {σ : L2.St} {i : Nat} {x : Option V} : ∀ {vs : List Nat}, i ∈ vs → wipe (σ.set i x) vs = wipe σ vs
  | [], h => by simp at h
  | v :: vs, h => by
    unfold wipe
    by_cases hi : i ∈ vs
    · rw [wipe_set hi]
    · have e : i = v := by
        rcases List.mem_cons.mp h with z | z
        · exact z
        · exact absurd z hi
      subst e
      have : ∀ {us : List Nat}, i ∉ us → wipe (σ.set i x) us = (wipe σ us).set i x := by
        intro us
        induction us with
        | nil => intro _; rfl
        | cons u us ih =>
          intro hu
          unfold wipe
          have h1 : i ≠ u := fun z => hu (by rw [z]; exact List.mem_cons_self)
          rw [ih fun z => hu (List.mem_cons_of_mem _ z), List.set_comm _ _ h1]
      rw [this hi, List.set_set]
@[simp] def gN (i : Nat) : DG := fun d ρ P => P (ρ.set i (some d))
theorem sim_gN {K : PySem.W.Frag} (i : Nat) : SimG K (gName i) (gN i) [i] := fun as L H v d σ ρ M P Q hE A r p q => q _ _ (hE.set i r) p fun vs h => wipe_set (h i List.mem_cons_self)
theorem pdg_name (i : Nat) {x : Str} (hN : X.N.Nodup) (hi : X.N[i]? = some x := by rfl) (hx : Loc X.env.scope x := by first | exact Or.inl rfl | exact Or.inr rfl) (hf : X.fn x = true ∨ X.env.scope.names.lookup x = some .local := by first | exact .inl rfl | exact .inr rfl | assumption) : PDG X (.Name x pos) (gN i) [i] :=
  ⟨_, pg_name hN hi hx hf, sim_gN i⟩
@[simp] def gNi : DGs := fun ds ρ P => ds = [] ∧ P ρ
@[simp] def gCo (t : DG) (u : DGs) : DGs := fun ds ρ P => ∃ d r, ds = d :: r ∧ t d ρ fun ρ' => u r ρ' P
theorem pdgs_nil : PDGs X [] gNi [] := ⟨_, pgs_nil, fun as L H vs ds σ ρ M P Q hE A r ⟨e, p⟩ q => by
  subst e
  cases r
  exact ⟨rfl, q σ ρ hE p fun _ _ => rfl⟩⟩
theorem pdgs_cons {t : DG} {u : DGs} {us vs : List Nat} (h1 : PDG X e t us) (h2 : PDGs X es u vs) (hs : (assignEach (e :: es) X.env).map (·.2) = assign e X.env :: (assignEach es X.env).map (·.2) := by rfl) : PDGs X (e :: es) (gCo t u) (us ++ vs) := by
  obtain ⟨g, p, s⟩ := h1.ex
  obtain ⟨g', p', s'⟩ := h2.ex
  refine ⟨_, pgs_cons p p' hs, ?_⟩
  intro as L H ws ds σ ρ M P Q hE A r h q
  obtain ⟨d, rr, rfl, h⟩ := h
  cases r with
  | cons r1 r2 =>
    refine ⟨_, _, rfl, s as L H _ _ σ ρ M _ _ hE A r1 h fun σ1 ρ1 e1 h1 w1 => ?_⟩
    exact s' as L H _ _ σ1 ρ1 M _ _ e1 A r2 h1 fun σ2 ρ2 e2 h2 w2 => q σ2 ρ2 e2 h2 fun vs hv => (w2 vs fun i hi => hv i (List.mem_append_right _ hi)).trans (w1 vs fun i hi => hv i (List.mem_append_left _ hi))
@[simp] def gTu (n : Nat) (t : DGs) : DG := fun d ρ P => ∃ ds, d = .tup ds ∧ ds.length = n ∧ t ds ρ P
theorem pdg_tup {k : Nat} {t : DGs} {n : Nat} {us : List Nat} (hc : X.calm = true) (h : PDGs X es t us)
    (hn : (assignEach es X.env).length = n := by rfl) (hst : (assignEach es X.env).findIdx? (·.1) = none := by rfl) : PDG X (.Tuple es k pos) (gTu n t) us := by
  obtain ⟨g, p, s⟩ := h.ex
  refine ⟨_, pg_tup hc p hn hst, ?_⟩
  intro as L H v d σ ρ M P Q hE A r h q
  obtain ⟨ds, rfl, hl, h⟩ := h
  cases r with
  | tup hs ra => exact ⟨_, _, rfl, ex_t A.low hs, by rw [ra.length]; exact hl, s as L H _ _ σ ρ M _ _ hE A ra h q⟩
@[simp] def sAsg (t : DE) (g : DG) : DS := fun D ρ M => t ρ M fun d M1 => g d ρ fun ρ' => D.nx ρ' M1
theorem sim_asg {K : PySem.W.Frag} {u : TE} {g : TG} {t : DE} {dg : DG} {us : List Nat} (s : SimE K u t) (sg : SimG K g dg us) : SimS K (tAsg u g) (sAsg t dg) := by
  intro as σ ρ L H M De D hE A h c
  refine s as σ ρ L H M _ _ hE A h fun v d L1 H1 M1 s1 A1 h1 r1 => ?_
  exact sg as L1 H1 v d σ ρ M1 _ _ (hE.mono s1.k s1.pre) A1 r1 h1 fun σ' ρ' e' p' _ => c.nx σ' ρ' L1 H1 M1 s1 A1 e' p'
theorem pds_set (i : Nat) {x : Str} {p' : Pos} (hN : X.N.Nodup) (he : PD X e t) (hi : X.N[i]? = some x := by rfl) (hx : Loc X.env.scope x := by first | exact Or.inl rfl | exact Or.inr rfl) (hs : swapsWith e (some (.Name x p')) pos.line X.env = pure false := by rfl)
    (hf : X.fn x = true ∨ X.env.scope.names.lookup x = some .local := by first | exact .inl rfl | exact .inr rfl | assumption) : PDS X (.Assign [.Name x p'] e pos) (sAsg t (gN i)) := by
  obtain ⟨u, p, s⟩ := he.ex
  exact ⟨_, ps_set hN hi hx p hs hf, sim_asg s (sim_gN i)⟩
theorem pds_asg {tg : Expr} {g : DG} {us : List Nat} (he : PD X e t) (hg : PDG X tg g us) (hs : swapsWithSole [tg] e pos.line X.env = pure false := by rfl) (hw : swappedStores [tg] e X.env = pure none := by rfl)
    (h1 : (assignEach [tg] X.env).map (·.2) = [assign tg X.env] := by rfl) : PDS X (.Assign [tg] e pos) (sAsg t g) := by
  obtain ⟨u, p, s⟩ := he.ex
  obtain ⟨g', pg, sg⟩ := hg.ex
  exact ⟨_, ps_asg p pg hs hw h1, sim_asg s sg⟩
end
/-- J gives the items ds, one after the other, wherever L is known -/
def Walks (K : PySem.W.Frag) (J : It) (as : List Addr) (L0 : Hp) (ds : List D) : Prop := ∀ L H M, Ex L0 L → At K as M L H →
  (∀ i, i < ds.length → J.go i H ∧ ∀ x H', J.yld i H x H' → ∃ d L', ds[i]? = some d ∧ Step as L H as L' H' ∧ At K as M L' H' ∧ Rp K as L' x d) ∧ J.stop ds.length H
def SimI (K : PySem.W.Frag) (wi : TI) (t : DA) : Prop := ∀ as σ ρ L H M P R, En K as L σ ρ → At K as M L H → t ρ M P →
  (∀ J ds L' H' M', Step as L H as L' H' → At K as M' L' H' → P ds M' → Walks K J as L' ds → R J H') → wi σ H R
structure PDI (X : Cx) (tg iter : Expr) (t : DA) : Prop where
  ex : ∃ wi, PI X tg iter wi ∧ SimI X.K wi t
section
variable {X : Cx} {tg iter e : Expr} {es : List Expr} {t : DE} {tl : DA} {pos : Pos} {K : PySem.W.Frag}
/-- over a list; over a tuple -/
@[simp] def iLst (t : DE) : DA := fun ρ M P => t ρ M fun d M1 => ∃ ds, d = .lst ds ∧ P ds M1
@[simp] def iTpl (t : DE) : DA := fun ρ M P => t ρ M fun d M1 => ∃ ds, d = .tup ds ∧ P ds M1
theorem walks_list {as : List Addr} {L0 : Hp} {a : Addr} {xs : List V} {ds : List D} (hs : SqL K L0 a xs) (r : RpA K as L0 xs ds) : Walks K (Itl K a) as L0 ds := by
  intro L H M e A
  have h1 : SqL K H a xs := ex_l (e.trans A.low) hs
  refine ⟨fun i hi => ⟨?_, fun x H' y => ?_⟩, xs, h1, by rw [r.length]; exact Nat.le_refl _⟩
  · have hx : i < xs.length := by rw [r.length]; exact hi
    exact ⟨xs, xs[i], h1, List.getElem?_eq_getElem hx⟩
  · obtain ⟨rfl, hy⟩ := y
    obtain ⟨d, hd, rd⟩ := r.getV (hy xs h1)
    exact ⟨d, L, hd, .refl, A, rd.mono e (Pre.refl _)⟩
theorem walks_tup {as : List Addr} {L0 : Hp} {a : Addr} {xs : List V} {ds : List D} (hs : SqT K L0 a xs) (r : RpA K as L0 xs ds) : Walks K (Itt K a) as L0 ds := by
  intro L H M e A
  have h1 : SqT K H a xs := ex_t (e.trans A.low) hs
  refine ⟨fun i hi => ⟨?_, fun x H' y => ?_⟩, xs, h1, by rw [r.length]; exact Nat.le_refl _⟩
  · have hx : i < xs.length := by rw [r.length]; exact hi
    exact ⟨xs, xs[i], h1, List.getElem?_eq_getElem hx⟩
  · obtain ⟨rfl, hy⟩ := y
    obtain ⟨d, hd, rd⟩ := r.getV (hy xs h1)
    exact ⟨d, L, hd, .refl, A, rd.mono e (Pre.refl _)⟩
theorem pdi_list (h : PD X e t) : PDI X tg e (iLst t) := by
  obtain ⟨u, p, s⟩ := h.ex
  refine ⟨_, pi_list p, ?_⟩
  intro as σ ρ L H M P R hE A h q
  refine s as σ ρ L H M _ _ hE A h fun v d L1 H1 M1 s1 A1 h1 r1 => ?_
  obtain ⟨ds, rfl, h1⟩ := h1
  cases r1 with
  | lst hs ra => exact ⟨_, rfl, ⟨_, ex_l A1.low hs⟩, q _ ds L1 H1 M1 s1 A1 h1 (walks_list hs ra)⟩
theorem pdi_tup (h : PD X e t) : PDI X tg e (iTpl t) := by
  obtain ⟨u, p, s⟩ := h.ex
  refine ⟨_, pi_tup p, ?_⟩
  intro as σ ρ L H M P R hE A h q
  refine s as σ ρ L H M _ _ hE A h fun v d L1 H1 M1 s1 A1 h1 r1 => ?_
  obtain ⟨ds, rfl, h1⟩ := h1
  cases r1 with
  | tup hs ra => exact ⟨_, rfl, ⟨_, ex_t A1.low hs⟩, q _ ds L1 H1 M1 s1 A1 h1 (walks_tup hs ra)⟩
/-- lo, lo + 1, .. -/
def rng (lo : Int) (n : Nat) : List D := (List.range n).map fun i => .int (lo + (i : Nat))
theorem rng_len (lo : Int) (n : Nat) : (rng lo n).length = n := by unfold rng; rw [List.length_map, List.length_range]
theorem walks_range {as : List Addr} {L0 : Hp} (lo : Int) (n : Nat) : Walks K (Itr lo n) as L0 (rng lo n) := by
  intro L H M e A
  rw [rng_len]
  refine ⟨fun i hi => ⟨hi, fun x H' y => ?_⟩, Nat.le_refl _⟩
  obtain ⟨rfl, rfl⟩ := y
  refine ⟨.int (lo + i), L, ?_, .refl, A, .int _⟩
  unfold rng
  rw [List.getElem?_map, List.getElem?_range hi]
  rfl
@[simp] def iR1 (tl : DA) : DA := fun ρ M P => tl ρ M fun ds M1 => ∃ j : Int, ds = [.int j] ∧ -(2 ^ 62) ≤ j ∧ j < 2 ^ 62 ∧ P (rng 0 j.toNat) M1
theorem pdi_range1 {p : Pos} (hg : Gl X "range") (hm : X.mg "range" = none) (ha : PDA X [e] tl) (hs : starEach [e] X.env = [(false, eval e X.env)] := by rfl) : PDI X tg (.Call (.Name "range" p) [e] [] pos) (iR1 tl) := by
  obtain ⟨u, pa, s⟩ := ha.ex
  refine ⟨_, pi_range1 hg hm pa (hs := hs), ?_⟩
  intro as σ ρ L H M P R hE A h q
  refine s as σ ρ L H M _ _ hE A h fun vs ds L1 H1 M1 s1 A1 h1 r1 => ?_
  obtain ⟨j, rfl, h2, h3, h1⟩ := h1
  cases r1 with
  | cons r2 r3 =>
    cases r2
    cases r3
    exact ⟨j, rfl, h2, h3, q _ _ L1 H1 M1 s1 A1 h1 (walks_range 0 _)⟩
@[simp] def iR2 (tl : DA) : DA := fun ρ M P => tl ρ M fun ds M1 => ∃ i j : Int, ds = [.int i, .int j] ∧ (-(2 ^ 62) ≤ i ∧ i < 2 ^ 62 ∧ -(2 ^ 62) ≤ j ∧ j < 2 ^ 62) ∧ P (rng i (j - i).toNat) M1
def forRun (g : DG) (body : DS) (De : DEnds) : List D → Rho → Ms → Prop
  | [], ρ, M => De.nx ρ M
  | d :: r, ρ, M => g d ρ fun ρ' => body { De with nx := fun ρ2 M2 => forRun g body De r ρ2 M2, ct := fun ρ2 M2 => forRun g body De r ρ2 M2, bk := De.nx } ρ' M
@[simp] def sFor (it : DA) (g : DG) (body : DS) : DS := fun D ρ M => it ρ M fun ds M1 => forRun g body D ds ρ M1
theorem pds_for {body : List Stmt} {it : DA} {g : DG} {us : List Nat} {tb : DS} (hp : PassesOwn (model X.prog X.w) X.A X.env X.xe) (hc : X.calm = true) (hi : PDI X tg iter it) (hg : PDG X tg g us) (hb : PDSs X body tb)
    (hs : ∀ x, foldedSetIterable iter X.env x = pure x := by intro _; rfl) : PDS X (.For tg iter body [] pos) (sFor it g tb) := by
  obtain ⟨wi, p, s⟩ := hi.ex
  obtain ⟨g', pg, sg⟩ := hg.ex
  obtain ⟨ub, pb, sb⟩ := hb.ex
  refine ⟨_, ps_for hp hc p pg pb hs, ?_⟩
  intro as σ ρ L H M De D hE A h c
  refine s as σ ρ L H M _ _ hE A h fun J ds L1 H1 M1 s1 A1 h1 w1 => ?_
  refine ⟨fun i m σ H => m = ds.length - i ∧ i ≤ ds.length ∧ ∃ ρ L M, Step as L1 H1 as L H ∧ At X.K as M L H ∧ En X.K as L σ ρ ∧ forRun g tb De (ds.drop i) ρ M, ⟨ds.length, by simp, Nat.zero_le _, ρ, L1, M1, .refl, A1, hE.mono s1.k s1.pre, h1⟩, ?_⟩
  rintro i m σ H ⟨rfl, hi, ρ, L, M, st, A, hE, hf⟩
  obtain ⟨wg, ws⟩ := w1 L H M st.k A
  by_cases hlt : i < ds.length
  · obtain ⟨go, wy⟩ := wg i hlt
    rw [List.drop_eq_getElem_cons hlt] at hf
    refine .inr ⟨go, fun σ' H' => ∃ ρ L M, Step as L1 H1 as L H' ∧ At X.K as M L H' ∧ En X.K as L σ' ρ ∧ forRun g tb De (ds.drop (i + 1)) ρ M, fun σ' H' q => ⟨ds.length - (i + 1), by omega, rfl, hlt, q⟩, fun x H' y => ?_⟩
    obtain ⟨d, L', hd, s2, A2, r2⟩ := wy x H' y
    rw [List.getElem?_eq_getElem hlt] at hd
    cases hd
    refine sg as L' H' x _ σ ρ M _ _ (hE.mono s2.k s2.pre) A2 r2 hf fun σ2 ρ2 e2 p2 _ => ?_
    have s12 := st.trans A s2
    have c2 := (c.step s1 A1).step s12 A2
    refine sb as σ2 ρ2 L' H' M _ _ e2 A2 p2 ⟨fun σ3 ρ3 L3 H3 M3 s3 A3 e3 q3 => ⟨ρ3, L3, M3, s12.trans A2 s3, A3, e3, q3⟩, c2.rt, c2.nx, fun σ3 ρ3 L3 H3 M3 s3 A3 e3 q3 => ⟨ρ3, L3, M3, s12.trans A2 s3, A3, e3, q3⟩⟩
  · have e : i = ds.length := by omega
    subst e
    rw [List.drop_length] at hf
    exact .inl ⟨ws, (c.step s1 A1).nx σ ρ L H M st A hE hf⟩
end
abbrev wipeS := @L2.wipe
theorem wipe_wipe (σ : L2.St) (us : List Nat) : L2.wipe (L2.wipe σ us) us = L2.wipe σ us := by
  have : ∀ (τ : L2.St) (ts : List Nat), (∀ i ∈ ts, i ∈ us) → L2.wipe (L2.wipe τ ts) us = L2.wipe τ us := by
    intro τ ts
    induction ts with
    | nil => intro _; rfl
    | cons t ts ih =>
      intro ht
      show L2.wipe ((L2.wipe τ ts).set t none) us = _
      rw [wipe_set (ht t List.mem_cons_self), ih fun i hi => ht i (List.mem_cons_of_mem _ hi)]
  exact this σ us fun _ h => h
def wipeR (ρ : Rho) : List Nat → Rho
  | [] => ρ
  | v :: vs => (wipeR ρ vs).set v none
theorem En.unset {K : PySem.W.Frag} {as : List Addr} {L : Hp} {σ : L2.St} {ρ : Rho} (i : Nat) (h : En K as L σ ρ) : En K as L (σ.set i none) (ρ.set i none) := by
  refine ⟨by rw [List.length_set, List.length_set]; exact h.len, fun j e q => ?_⟩
  rw [List.getElem?_set] at q ⊢
  by_cases hj : i = j
  · subst hj
    rw [if_pos rfl] at q
    split at q <;> cases q
  · rw [if_neg hj] at q ⊢
    exact h.at_ j e q
theorem En.wipe {K : PySem.W.Frag} {as : List Addr} {L : Hp} {σ : L2.St} {ρ : Rho} (h : En K as L σ ρ) : ∀ vs : List Nat, En K as L (wipeS σ vs) (wipeR ρ vs)
  | [] => h
  | v :: vs => (En.wipe h vs).unset v
structure PDTs (X : Cx) (es : List Expr) (t : DT) : Prop where
  ex : ∃ te, PTs X es te ∧ SimT X.K te t
@[simp] def dYes : DT := fun _ M P => P true M
def lcRun (g : DG) (tt : DT) (te : DE) (ρ : Rho) (P : D → Ms → Prop) : List D → List D → Ms → Prop
  | [], acc, M => P (.lst acc) M
  | d :: r, acc, M => g d ρ fun ρ' => tt ρ' M fun b M1 => if b = true then te ρ' M1 fun y M2 => acc.length < sizeLine ∧ lcRun g tt te ρ P r (acc ++ [y]) M2 else lcRun g tt te ρ P r acc M1
@[simp] def dLc (it : DA) (g : DG) (tt : DT) (te : DE) (vs : List Nat) : DE := fun ρ M P => it ρ M fun ds M1 => lcRun g tt te (wipeR ρ vs) P ds [] M1
theorem sim_lc {K : PySem.W.Frag} {wi : TI} {it : DA} {g' : TG} {g : DG} {us : List Nat} {ut : TT} {tt : DT} {ue : TE} {te : DE} {vs : List Nat} (hus : ∀ i ∈ us, i ∈ vs) (s : SimI K wi it) (sg : SimG K g' g us) (st : SimT K ut tt) (se : SimE K ue te) :
    SimE K (tLc wi g' ut ue vs) (dLc it g tt te vs) := by
  intro as σ ρ L H M P Q hE A h q
  refine s as σ ρ L H M _ _ hE A h fun J ds L1 H1 M1 s1 A1 h1 w1 => ?_
  intro D hD
  -- D stays hidden while it grows
  have base : ∀ {L' H' : Hp} {M' : Ms} {acc : List V}, At K as M' L' H' → H' D = some (.lst acc) → L' D = none → D ∉ as → ∀ acc', At K as M' L' (upd H' D (.lst acc')) := by
    intro L' H' M' acc A' hd hl hn acc'
    refine ⟨fun a o h => ?_, A'.len, A'.nd, fun k a m e1 e2 => ?_, A'.nt⟩
    · have e : a ≠ D := fun z => by rw [z, hl] at h; cases h
      rw [upd_ne e]; exact A'.low a o h
    · obtain ⟨h3, o, h4, h5⟩ := A'.mo k a m e1 e2
      have e : a ≠ D := fun z => hn (by rw [← z]; exact List.mem_of_getElem? e1)
      exact ⟨h3, o, by rw [upd_ne e]; exact h4, h5.1, h5.2.keep (KeepC.over hd rfl)⟩
  have dn : D ∉ as := fun z => (A1.held z).2 hD
  have ld : L1 D = none := lowfree A1 hD
  refine ⟨fun i m H' => m = ds.length - i ∧ i ≤ ds.length ∧ ∃ L' M' xs acc, Step as L1 H1 as L' H' ∧ At K as M' L' H' ∧ H' D = some (.lst xs) ∧ L' D = none ∧ RpA K as L' xs acc ∧ lcRun g tt te (wipeR ρ vs) P (ds.drop i) acc M',
    ⟨ds.length, by simp, Nat.zero_le _, L1, M1, [], [], ⟨fun a o _ h => ?_, Ex.refl _, fun _ h _ => h, Pre.refl _, fun _ h => .inl h⟩, ?_, upd_same, ld, .nil, h1⟩, ?_⟩
  · rw [upd_ne (ne_of_none h hD)]; exact h
  · refine ⟨fun a o h => ?_, A1.len, A1.nd, fun k a m e1 e2 => ?_, A1.nt⟩
    · rw [upd_ne (ne_of_none (A1.low a o h) hD)]; exact A1.low a o h
    · obtain ⟨h3, o, h4, h5⟩ := A1.mo k a m e1 e2
      exact ⟨h3, o, by rw [upd_ne (ne_of_none h4 hD)]; exact h4, h5.1, h5.2.keep (KeepC.new hD)⟩
  rintro i m H' ⟨rfl, hi, L', M', xs, acc, s', A', hd', ld', ra, hf⟩
  obtain ⟨wg, ws⟩ := w1 L' H' M' s'.k A'
  have upD : ∀ {L2 H2 : Hp} {M2 : Ms}, Step as L1 H1 as L2 H2 → At K as M2 L2 H2 → ∀ acc', Step as L1 H1 as L2 (upd H2 D (.lst acc')) := by
    intro L2 H2 M2 s2 A2 acc'
    exact ⟨fun a o ha h => by rw [upd_ne (ne_of_none h hD)]; exact s2.up a o ha h, s2.k, s2.hid, s2.pre, s2.new⟩
  by_cases hlt : i < ds.length
  · obtain ⟨go, wy⟩ := wg i hlt
    rw [List.drop_eq_getElem_cons hlt] at hf
    refine .inr ⟨go, fun H2 => ∃ L' M' xs acc, Step as L1 H1 as L' H2 ∧ At K as M' L' H2 ∧ H2 D = some (.lst xs) ∧ L' D = none ∧ RpA K as L' xs acc ∧ lcRun g tt te (wipeR ρ vs) P (ds.drop (i + 1)) acc M', fun H2 q => ⟨ds.length - (i + 1), by omega, rfl, hlt, q⟩, fun x H2 y => ?_⟩
    obtain ⟨d, L2, hd, s2, A2, r2⟩ := wy x H2 y
    rw [List.getElem?_eq_getElem hlt] at hd
    cases hd
    have hE2 : En K as L2 (wipeS σ vs) (wipeR ρ vs) := ((hE.mono (s1.k.trans (s'.k.trans s2.k)) (Pre.refl _)).wipe vs)
    have hd2 : H2 D = some (.lst xs) := s2.up D _ dn hd'
    have ld2 : L2 D = none := s2.hid D ld' (by rw [hd']; simp)
    refine sg as L2 H2 x _ _ _ M' _ _ hE2 A2 r2 hf fun σ3 ρ3 e3 p3 wp => ⟨?_, ?_⟩
    · have z := wp vs hus
      rw [z, wipe_wipe]
    · refine st as σ3 ρ3 L2 H2 M' _ _ e3 A2 p3 fun b L3 H3 M3 s3 A3 h3 => ?_
      have s13 := (s'.trans A' s2).trans A2 s3
      have hd3 : H3 D = some (.lst xs) := s3.up D _ dn hd2
      have ld3 : L3 D = none := s3.hid D ld2 (by rw [hd2]; simp)
      cases b with
      | false =>
        rw [if_neg Bool.false_ne_true] at h3 ⊢
        exact ⟨L3, M3, xs, acc, s13, A3, hd3, ld3, ra.mono (s2.k.trans s3.k) (Pre.refl _), h3⟩
      | true =>
        rw [if_pos rfl] at h3 ⊢
        refine se as σ3 ρ3 L3 H3 M3 _ _ (e3.mono s3.k s3.pre) A3 h3 fun v z L4 H4 M4 s4 A4 h4 r4 => ?_
        have hd4 : H4 D = some (.lst xs) := s4.up D _ dn hd3
        have ld4 : L4 D = none := s4.hid D ld3 (by rw [hd3]; simp)
        have s14 := s13.trans A3 s4
        have ra4 := ra.mono (s2.k.trans (s3.k.trans s4.k)) (Pre.refl as)
        refine ⟨xs, hd4, by rw [ra4.length]; exact h4.1, L4, M4, xs ++ [v], acc ++ [z], upD s14 A4 _, base A4 hd4 ld4 dn _, upd_same, ld4, ra4.append (.one r4), h4.2⟩
  · have e : i = ds.length := by omega
    subst e
    rw [List.drop_length] at hf
    -- the list is known for good
    refine .inl ⟨ws, q _ _ (upd L' D (.lst xs)) H' M' (s1.trans A1 ⟨s'.up, s'.k.trans (Ex.new ld'), fun a h h' => ?_, Pre.refl _, fun _ h => .inl h⟩) ⟨fun a o h => ?_, A'.len, A'.nd, fun k a m e1 e2 => ?_, A'.nt.new (fun ps z => by cases z)⟩ hf (.lst (.inl (.inl upd_same)) (ra.mono (Ex.new ld') (Pre.refl _)))⟩
    · have e : a ≠ D := fun z => h' (by rw [z]; exact hD)
      rw [upd_ne e]; exact s'.hid a h h'
    · by_cases e : a = D
      · subst e; rw [upd_same] at h; rw [hd']; exact h
      · rw [upd_ne e] at h; exact A'.low a o h
    · obtain ⟨h3, o, h4, h5⟩ := A'.mo k a m e1 e2
      have e : a ≠ D := fun z => dn (by rw [← z]; exact List.mem_of_getElem? e1)
      exact ⟨by rw [upd_ne e]; exact h3, o, h4, h5.1.mono (Ex.new ld') (Pre.refl _), h5.2⟩
end Pd
set_option Elab.async false
set_option linter.all false
set_option maxRecDepth 100000
namespace Pd
open PySem PySem.Spec PyProof.Rows L2
def upE (K : PySem.W.Frag) (t : DE) : TE := fun σ H Q => ∃ as ρ L M P, En K as L σ ρ ∧ At K as M L H ∧ t ρ M P ∧ ∀ v d L' H' M', Step as L H as L' H' → At K as M' L' H' → P d M' → Rp K as L' v d → Q v H'
def upT (K : PySem.W.Frag) (t : DT) : TT := fun σ H Q => ∃ as ρ L M P, En K as L σ ρ ∧ At K as M L H ∧ t ρ M P ∧ ∀ b L' H' M', Step as L H as L' H' → At K as M' L' H' → P b M' → Q b H'
def upG (K : PySem.W.Frag) (t : DG) (ts : List Nat) : TG := fun v σ H Q => ∃ as L d ρ M P, En K as L σ ρ ∧ At K as M L H ∧ Rp K as L v d ∧ t d ρ P ∧ ∀ σ' ρ', En K as L σ' ρ' → P ρ' → (∀ vs, (∀ i ∈ ts, i ∈ vs) → L2.wipe σ' vs = L2.wipe σ vs) → Q σ' H
theorem sim_upE {K : PySem.W.Frag} (t : DE) : SimE K (upE K t) t := fun as σ ρ L H M P Q hE A h q => ⟨as, ρ, L, M, P, hE, A, h, q⟩
theorem sim_upT {K : PySem.W.Frag} (t : DT) : SimT K (upT K t) t := fun as σ ρ L H M P Q hE A h q => ⟨as, ρ, L, M, P, hE, A, h, q⟩
theorem sim_upG {K : PySem.W.Frag} (t : DG) (ts : List Nat) : SimG K (upG K t ts) t ts := fun as L H v d σ ρ M P Q hE A r h q => ⟨as, L, d, ρ, M, P, hE, A, r, h, q⟩
theorem PD.up {X : Cx} {e : Expr} {t : DE} (h : PD X e t) : PE X e (upE X.K t) := by
  obtain ⟨u, p, s⟩ := h.ex
  exact ⟨fun pins sh σ H Q I ⟨as, ρ, L, M, P, hE, A, h, q⟩ => p.run pins sh σ H Q I (s as σ ρ L H M P Q hE A h q)⟩
theorem PDTs.up {X : Cx} {es : List Expr} {t : DT} (h : PDTs X es t) : PTs X es (upT X.K t) := by
  obtain ⟨u, p, s⟩ := h.ex
  exact ⟨fun pins sh σ H Q I ⟨as, ρ, L, M, P, hE, A, h, q⟩ => p.run pins sh σ H Q I (s as σ ρ L H M P Q hE A h q)⟩
theorem PDG.up {X : Cx} {tg : Expr} {t : DG} {ts : List Nat} (h : PDG X tg t ts) : PG X tg (upG X.K t ts) := by
  obtain ⟨g, p, s⟩ := h.ex
  exact ⟨fun pins sh σ H v u Q I r ⟨as, L, d, ρ, M, P, hE, A, rp, h, q⟩ => p.run pins sh σ H v u Q I r (s as L H v d σ ρ M P Q hE A rp h q)⟩
theorem pdts_nil {X : Cx} : PDTs X [] dYes := ⟨_, pts_nil, fun as σ ρ L H M P Q hE A h q => q true L H M .refl A h⟩
theorem pdts_one {X : Cx} {c : Expr} {t : DT} (h : PDT X c t) : PDTs X [c] t := by
  obtain ⟨u, p, s⟩ := h.ex
  exact ⟨_, pts_one p, s⟩
section
variable {X : Cx}
theorem pd_lc {elt tg iter : Expr} {ifs : List Expr} {scope : Scope} (own : List (Str × Nat)) {pos : Pos} {it : DA} {g : DG} {us : List Nat} {tt : DT} {te : DE} (hc : X.calm = true) (hN : X.N.Nodup) (hi : PDI X tg iter it) (ok : BlkOk X.N X.env.scope scope own)
    (hg : ∀ (s : Shared) (H : Hp) (C : Addr) (cl : List (Str × Addr)) (fp : List Addr), PDG (X.blk s H scope (compEnvC scope cl C X.env) fp) tg g us) (ht : ∀ (s : Shared) (H : Hp) (C : Addr) (cl : List (Str × Addr)) (fp : List Addr), PDTs (X.blk s H scope (compEnvC scope cl C X.env) fp) ifs tt)
    (he : ∀ (s : Shared) (H : Hp) (C : Addr) (cl : List (Str × Addr)) (fp : List Addr), PD (X.blk s H scope (compEnvC scope cl C X.env) fp) elt te) (hu : ∀ i ∈ us, i ∈ own.map (·.2) := by decide) (hs : ∀ x, foldedSetIterable iter X.env x = pure x := by intro _; rfl) :
    PD X (.ListComp elt [⟨tg, iter, ifs, 0⟩] scope pos) (dLc it g tt te (own.map (·.2))) := by
  obtain ⟨wi, p, s⟩ := hi.ex
  exact ⟨_, pe_lc hc hN p ok (fun a b c d e => (hg a b c d e).up) (fun a b c d e => (ht a b c d e).up) (fun a b c d e => (he a b c d e).up) hs, sim_lc hu s (sim_upG g us) (sim_upT tt) (sim_upE te)⟩
/-- y = [..], y a local -/
theorem pds_setLc (i : Nat) {y : Str} {py : Pos} {elt tg iter : Expr} {ifs : List Expr} {scope : Scope} (own : List (Str × Nat)) {pos spos : Pos} {it : DA} {g : DG} {us : List Nat} {tt : DT} {te : DE} (hc : X.calm = true) (hN : X.N.Nodup) (hy : X.N[i]? = some y) (hyl : X.env.scope.names.lookup y = some .local)
    (hsw : swapsWith (.ListComp elt [⟨tg, iter, ifs, 0⟩] scope pos) (some (.Name y py)) spos.line X.env = pure true) (hi : PDI X tg iter it) (ok : BlkOk X.N X.env.scope scope own)
    (hg : ∀ (s : Shared) (H : Hp) (C : Addr) (cl : List (Str × Addr)) (fp : List Addr), PDG (X.blk s H scope (compEnvC scope cl C X.env) fp) tg g us) (ht : ∀ (s : Shared) (H : Hp) (C : Addr) (cl : List (Str × Addr)) (fp : List Addr), PDTs (X.blk s H scope (compEnvC scope cl C X.env) fp) ifs tt)
    (he : ∀ (s : Shared) (H : Hp) (C : Addr) (cl : List (Str × Addr)) (fp : List Addr), PD (X.blk s H scope (compEnvC scope cl C X.env) fp) elt te) (hu : ∀ i ∈ us, i ∈ own.map (·.2) := by decide) (hs : ∀ x, foldedSetIterable iter X.env x = pure x := by intro _; rfl) :
    PDS X (.Assign [.Name y py] (.ListComp elt [⟨tg, iter, ifs, 0⟩] scope pos) spos) (sAsg (dLc it g tt te (own.map (·.2))) (gN i)) := by
  obtain ⟨wi, p, s⟩ := hi.ex
  exact ⟨_, ps_setLc (i := i) hc hN hy hyl hsw p ok (fun a b c d e => (hg a b c d e).up) (fun a b c d e => (ht a b c d e).up) (fun a b c d e => (he a b c d e).up) hs, sim_asg (sim_lc hu s (sim_upG g us) (sim_upT tt) (sim_upE te)) (sim_gN i)⟩
end
def startD (N : List Str) (ds : List D) : Rho := ds.map some ++ List.replicate (N.length - ds.length) none
theorem en_start {K : PySem.W.Frag} {as : List Addr} {L : Hp} {N : List Str} {vs : List V} {ds : List D} (r : RpA K as L vs ds) : En K as L (L2.start N vs) (startD N ds) := by
  refine ⟨?_, fun i d h => ?_⟩
  · unfold L2.start startD
    rw [List.length_append, List.length_append, List.length_map, List.length_map, List.length_replicate, List.length_replicate, r.length]
  · unfold startD at h
    unfold L2.start
    by_cases hi : i < ds.length
    · rw [List.getElem?_append_left (by simpa using hi), List.getElem?_map] at h
      cases e : ds[i]? with
      | none => rw [e] at h; cases h
      | some d' =>
        rw [e] at h
        cases h
        obtain ⟨v, h1, h2⟩ := r.get e
        refine ⟨v, ?_, h2⟩
        rw [List.getElem?_append_left (by rw [List.length_map, r.length]; exact hi), List.getElem?_map, h1]
        rfl
    · rw [List.getElem?_append_right (by simpa using hi), List.getElem?_replicate] at h
      split at h <;> cases h
section
variable {P : Program} {w : World} {K : PySem.W.Frag} {mg : Str → Option Value} {base : Heap}
theorem pd_fn {x qual : Str} {st : Stmt} {f : Addr} {fd : FuncData} {N ps : List Str} {k : Nat} {W : DC} (F : Fun K x qual st f fd) (S : FnScope N ps (defScope st))
    (hbody : ∀ (cdv : Value) (A : Around) (outer : List Env) (s : Shared) (H : Hp) (E : XK), Room k (A.deeper (envOfC qual (defScope st) s.heap.objs.size f cdv)) →
      ∃ t, PDSs (cxOf CX0 P w K mg base N qual (defScope st) f cdv A outer s H E).nox (defBody st) t ∧ ∀ ds M Q, ds.length = ps.length → W ds M Q → t { nx := fun _ M' => Q .non M', rt := Q } (startD N ds) M) :
    FnOk P w K mg base CX0 (k + 1) f fd ps (spD ps.length W K) := by
  refine F.ok S (fun vs H Q E h => h.1) (fun cdv A outer s H vs Q E hr h => ?_)
  obtain ⟨hl, as, M, L, ds, P', r, A0, hw, q⟩ := h
  obtain ⟨t, ht, hb⟩ := hbody cdv A outer s H E hr
  obtain ⟨ts, pt, st'⟩ := ht.ex
  refine ⟨ts, pt, st' as (L2.start N vs) (startD N ds) L H M _ _ (en_start r) A0 (hb ds M P' (by rw [← r.length]; exact hl) hw) ⟨?_, ?_, ?_, ?_⟩⟩
  · exact fun σ' ρ' L' H' M' s1 A1 _ p => q .non .non L' H' M' s1 A1 p .non
  · exact fun v d L' H' M' s1 A1 p r => q v d L' H' M' s1 A1 p r
  · exact fun _ _ _ _ _ _ _ _ p => p.elim
  · exact fun _ _ _ _ _ _ _ _ p => p.elim
end
section
variable {K : PySem.W.Frag}
@[simp] def oI0 (g : Int → Int → D) : D2 := fun x y M P => ∃ i j, x = .int i ∧ y = .int j ∧ P (g i j) M
@[simp] def oI (C : Int → Int → Prop) (g : Int → Int → D) : D2 := fun x y M P => ∃ i j, x = .int i ∧ y = .int j ∧ C i j ∧ P (g i j) M
@[simp] def oU (g : Int → D) : D1 := fun x M P => ∃ i, x = .int i ∧ P (g i) M
theorem sr_I0i {g : Int → Int → Int} : SimR K (rI0 fun i j => .int (g i j)) (oI0 fun i j => .int (g i j)) := by
  intro as L H M x y d e P Q A r1 r2 ⟨i, j, h1, h2, p⟩ q
  subst h1; subst h2
  cases r1; cases r2
  exact ⟨i, j, rfl, rfl, q _ _ L H M .refl A p (.int _)⟩
theorem sr_I0b {g : Int → Int → Bool} : SimR K (rI0 fun i j => .bl (g i j)) (oI0 fun i j => .bl (g i j)) := by
  intro as L H M x y d e P Q A r1 r2 ⟨i, j, h1, h2, p⟩ q
  subst h1; subst h2
  cases r1; cases r2
  exact ⟨i, j, rfl, rfl, q _ _ L H M .refl A p (.bl _)⟩
theorem sr_I {C : Int → Int → Prop} {g : Int → Int → Int} : SimR K (rI C fun i j => .int (g i j)) (oI C fun i j => .int (g i j)) := by
  intro as L H M x y d e P Q A r1 r2 ⟨i, j, h1, h2, c, p⟩ q
  subst h1; subst h2
  cases r1; cases r2
  exact ⟨i, j, rfl, rfl, c, q _ _ L H M .refl A p (.int _)⟩
theorem su_U {g : Int → Int} : SimU K (rU fun i => .int (g i)) (oU fun i => .int (g i)) := by
  intro as L H M x d P Q A r1 ⟨i, h1, p⟩ q
  subst h1
  cases r1
  exact ⟨i, rfl, q _ _ L H M .refl A p (.int _)⟩
mutual
def plain : D → Bool
  | .non => true | .bl _ => true | .int _ => true | .str _ => true
  | .lst ds => plainA ds | .tup ds => plainA ds | .tfz _ => true
  | _ => false
def plainA : List D → Bool
  | [] => true
  | d :: ds => plain d && plainA ds
end
def keyP : Key → PyData
  | .inl i => .int i
  | .inr x => .str x
mutual
def toP : D → PyData
  | .non => .none | .bl b => .bool b | .int i => .int i | .str x => .str x
  | .lst ds => .list (toPA ds) | .tup ds => .tuple (toPA ds)
  | .dic ks ds => .dict ((ks.map keyP).zip (toPA ds))
  | .tfz ns => .tuple (ns.map PyData.int)
  | _ => .none
def toPA : List D → List PyData
  | [] => []
  | d :: ds => toP d :: toPA ds
end
theorem dp_ints {K : PySem.W.Frag} {H : Hp} : ∀ ns : List Int, DpAll K H (ns.map V.int) (ns.map PyData.int)
  | [] => .nil
  | n :: ns => .cons (.int n) (dp_ints ns)
mutual
theorem Rp.dp' {as : List Addr} {L H : Hp} (e : Ex L H) : ∀ (d : D) (v : V), Rp K as L v d → plain d = true → Dp K H v (toP d)
  | .non, _, h, _ => by cases h; exact .non
  | .bl b, _, h, _ => by cases h; exact .bl b
  | .int i, _, h, _ => by cases h; exact .int i
  | .str x, _, h, _ => by cases h; exact .str x
  | .lst ds, _, h, p => by
    cases h with
    | lst h1 r => exact .lst (ex_l e h1) (RpA.dp' e ds _ r p)
  | .tup ds, _, h, p => by
    cases h with
    | tup h1 r => exact .tup (ex_t e h1) (RpA.dp' e ds _ r p)
  | .ins _ _, _, _, p => by cases p
  | .mu _, _, _, p => by cases p
  | .ob _, _, _, p => by cases p
  | .ty _, _, _, p => by cases p
  | .exc _ _, _, _, p => by cases p
  | .dic _ _, _, _, p => by cases p
  | .dit _ _, _, _, p => by cases p
  | .tfz ns, _, h, _ => by
    cases h with
    | tfz h => obtain ⟨o, h, _⟩ := h; exact .tup (.inl (.inr ⟨o, e _ _ h⟩)) (dp_ints ns)
theorem RpA.dp' {as : List Addr} {L H : Hp} (e : Ex L H) : ∀ (ds : List D) (vs : List V), RpA K as L vs ds → plainA ds = true → DpAll K H vs (toPA ds)
  | [], _, h, _ => by cases h; exact .nil
  | d :: ds, _, h, p => by
    cases h with
    | cons r t =>
      have p' := Bool.and_eq_true_iff.mp p
      exact .cons (Rp.dp' e d _ r p'.1) (RpA.dp' e ds _ t p'.2)
end
theorem Rp.dp {as : List Addr} {L H : Hp} (e : Ex L H) {v : V} {d : D} (r : Rp K as L v d) (p : plain d = true) : Dp K H v (toP d) := Rp.dp' e d v r p
def eqD (d e : D) : Bool := PyData.eqv (toP d) (toP e)
def okD (d : D) : Bool := plain d && SeqAt.shaped (toP d)
@[simp] def oEq : D2 := fun x y M P => okD x = true ∧ okD y = true ∧ P (.bl (eqD x y)) M
@[simp] def oNe : D2 := fun x y M P => okD x = true ∧ okD y = true ∧ P (.bl (!eqD x y)) M
theorem sr_eq : SimR K (rEqD K) oEq := by
  intro as L H M x y d e P Q A r1 r2 ⟨h1, h2, p⟩ q
  have g1 := Bool.and_eq_true_iff.mp h1
  have g2 := Bool.and_eq_true_iff.mp h2
  exact ⟨_, _, Rp.dp A.low r1 g1.1, Rp.dp A.low r2 g2.1, g1.2, g2.2, q _ _ L H M .refl A p (.bl _)⟩
theorem sr_ne : SimR K (rNeD K) oNe := by
  intro as L H M x y d e P Q A r1 r2 ⟨h1, h2, p⟩ q
  have g1 := Bool.and_eq_true_iff.mp h1
  have g2 := Bool.and_eq_true_iff.mp h2
  exact ⟨_, _, Rp.dp A.low r1 g1.1, Rp.dp A.low r2 g2.1, g1.2, g2.2, q _ _ L H M .refl A p (.bl _)⟩
theorem eqD_refl {d : D} (h : okD d = true) : eqD d d = true := SeqAt.eqv_refl _ (SeqAt.canLay_of_shaped (Bool.and_eq_true_iff.mp h).2)
@[simp] def oIxL : D2 := fun x y M P => ∃ ds i v, x = .lst ds ∧ y = .int i ∧ (0 ≤ i ∧ ds[i.toNat]? = some v) ∧ P v M
@[simp] def oIxT : D2 := fun x y M P => ∃ ds i v, x = .tup ds ∧ y = .int i ∧ (0 ≤ i ∧ ds[i.toNat]? = some v) ∧ P v M
theorem at_in {as : List Addr} {L : Hp} {xs : List V} {ds : List D} {i : Int} {d : D} (r : RpA K as L xs ds) (h : 0 ≤ i ∧ ds[i.toNat]? = some d) : ∃ v, atI xs i = some v ∧ Rp K as L v d := by
  obtain ⟨v, h1, h2⟩ := r.get h.2
  exact ⟨v, at_of (by omega) h1, h2⟩
theorem sr_ixL : SimR K (rIxL K) oIxL := by
  intro as L H M x y d e P Q A r1 r2 ⟨ds, i, v, h1, h2, h3, p⟩ q
  subst h1; subst h2
  cases r2
  cases r1 with
  | lst hs ra =>
    obtain ⟨z, h4, h5⟩ := at_in ra h3
    exact ⟨_, _, i, z, rfl, rfl, ex_l A.low hs, h4, q _ _ L H M .refl A p h5⟩
theorem sr_ixT : SimR K (rIxT K) oIxT := by
  intro as L H M x y d e P Q A r1 r2 ⟨ds, i, v, h1, h2, h3, p⟩ q
  subst h1; subst h2
  cases r2
  cases r1 with
  | tup hs ra =>
    obtain ⟨z, h4, h5⟩ := at_in ra h3
    exact ⟨_, _, i, z, rfl, rfl, ex_t A.low hs, h4, q _ _ L H M .refl A p h5⟩
@[simp] def oLen : DC := fun xs M P => ∃ ds, (xs = [.lst ds] ∨ xs = [.tup ds]) ∧ P (.int ds.length) M
theorem sc_len : SimC K (fun xs H Q => ∃ p ys, xs = [.ref p] ∧ (SqL K H p ys ∨ SqT K H p ys) ∧ Q (.int ys.length) H) oLen := by
  intro as L H M xs ds P Q A r ⟨es, h, p⟩ q
  rcases h with h | h
  · subst h
    cases r with
    | cons r1 r2 =>
      cases r2
      cases r1 with
      | lst hs ra =>
        refine ⟨_, _, rfl, .inl (ex_l A.low hs), ?_⟩
        rw [ra.length]
        exact q _ _ L H M .refl A p (.int _)
  · subst h
    cases r with
    | cons r1 r2 =>
      cases r2
      cases r1 with
      | tup hs ra =>
        refine ⟨_, _, rfl, .inr (ex_t A.low hs), ?_⟩
        rw [ra.length]
        exact q _ _ L H M .refl A p (.int _)
theorem RpA.ints {as : List Addr} {L : Hp} : ∀ {xs : List V} {ns : List Int}, RpA K as L xs (ns.map D.int) → xs = ns.map V.int
  | _, [], .nil => rfl
  | [], _ :: _, h => by cases h
  | x :: xs, n :: ns, .cons r t => by
    cases r
    rw [RpA.ints t]
    rfl
theorem RpA.bls {as : List Addr} {L : Hp} : ∀ {xs : List V} {bs : List Bool}, RpA K as L xs (bs.map D.bl) → xs = bs.map V.bl
  | _, [], .nil => rfl
  | [], _ :: _, h => by cases h
  | x :: xs, n :: ns, .cons r t => by
    cases r
    rw [RpA.bls t]
    rfl
@[simp] def oSum : DC := fun xs M P => ∃ ns : List Int, xs = [.lst (ns.map D.int)] ∧ P (.int ns.sum) M
theorem sc_sum : SimC K (rSum K) oSum := by
  intro as L H M xs ds P Q A r ⟨ns, h, p⟩ q
  subst h
  cases r with
  | cons r1 r2 =>
    cases r2
    cases r1 with
    | lst hs ra =>
      have e := ra.ints
      subst e
      exact ⟨_, ns, rfl, ex_l A.low hs, q _ _ L H M .refl A p (.int _)⟩
@[simp] def oAll : DC := fun xs M P => ∃ bs : List Bool, xs = [.lst (bs.map D.bl)] ∧ P (.bl (bs.all id)) M
@[simp] def oAny : DC := fun xs M P => ∃ bs : List Bool, xs = [.lst (bs.map D.bl)] ∧ P (.bl (bs.any id)) M
theorem sc_all : SimC K (rAll K) oAll := by
  intro as L H M xs ds P Q A r ⟨ns, h, p⟩ q
  subst h
  cases r with
  | cons r1 r2 =>
    cases r2
    cases r1 with
    | lst hs ra =>
      have e := ra.bls
      subst e
      exact ⟨_, ns, rfl, ex_l A.low hs, q _ _ L H M .refl A p (.bl _)⟩
theorem sc_any : SimC K (rAny K) oAny := by
  intro as L H M xs ds P Q A r ⟨ns, h, p⟩ q
  subst h
  cases r with
  | cons r1 r2 =>
    cases r2
    cases r1 with
    | lst hs ra =>
      have e := ra.bls
      subst e
      exact ⟨_, ns, rfl, ex_l A.low hs, q _ _ L H M .refl A p (.bl _)⟩
@[simp] def oInt : DC := fun xs M P => (∃ i, xs = [.int i] ∧ P (.int i) M) ∨ ∃ b, xs = [.bl b] ∧ P (.int (if b then 1 else 0)) M
theorem sc_int : SimC K (fun xs H Q => (∃ i, xs = [.int i] ∧ Q (.int i) H) ∨ ∃ k, xs = [.bl k] ∧ Q (.int (if k then 1 else 0)) H) oInt := by
  intro as L H M xs ds P Q A r h q
  rcases h with ⟨i, h, p⟩ | ⟨b, h, p⟩
  · subst h
    cases r with
    | cons r1 r2 => cases r2; cases r1; exact .inl ⟨i, rfl, q _ _ L H M .refl A p (.int _)⟩
  · subst h
    cases r with
    | cons r1 r2 => cases r2; cases r1; exact .inr ⟨b, rfl, q _ _ L H M .refl A p (.int _)⟩
@[simp] def oMax : DC := fun xs M P => ∃ i j, xs = [.int i, .int j] ∧ P (.int (if j > i then j else i)) M
@[simp] def oMin : DC := fun xs M P => ∃ i j, xs = [.int i, .int j] ∧ P (.int (if j < i then j else i)) M
theorem sc_max : SimC K (fun xs H Q => ∃ i j, xs = [.int i, .int j] ∧ Q (.int (if j > i then j else i)) H) oMax := by
  intro as L H M xs ds P Q A r ⟨i, j, h, p⟩ q
  subst h
  cases r with
  | cons r1 r2 => cases r1; cases r2 with | cons r3 r4 => cases r3; cases r4; exact ⟨i, j, rfl, q _ _ L H M .refl A p (.int _)⟩
theorem sc_min : SimC K (fun xs H Q => ∃ i j, xs = [.int i, .int j] ∧ Q (.int (if j < i then j else i)) H) oMin := by
  intro as L H M xs ds P Q A r ⟨i, j, h, p⟩ q
  subst h
  cases r with
  | cons r1 r2 => cases r1; cases r2 with | cons r3 r4 => cases r3; cases r4; exact ⟨i, j, rfl, q _ _ L H M .refl A p (.int _)⟩
end
end Pd
set_option Elab.async false
set_option linter.all false
set_option maxRecDepth 100000
namespace Pd
open PySem PySem.Spec PyProof.Rows L2
theorem At.lst {K : PySem.W.Frag} {as : List Addr} {M : Ms} {L H : Hp} {k : Nat} {a : Addr} {ds : List D} (A : At K as M L H) (h : as[k]? = some a) (hm : M[k]? = some (.lst ds)) : ∃ xs, H a = some (.lst xs) ∧ RpA K as L xs ds := by
  obtain ⟨_, o, h1, h2, _⟩ := A.mo k a _ h hm
  cases h2 with
  | lst r => exact ⟨_, h1, r⟩
theorem At.ins {K : PySem.W.Frag} {as : List Addr} {M : Ms} {L H : Hp} {k : Nat} {a C : Addr} {gs : List (Str × D)} (A : At K as M L H) (h : as[k]? = some a) (hm : M[k]? = some (.ins C gs)) : ∃ dx fs, H a = some (.ins C dx fs) ∧ RpF K as L fs gs := by
  obtain ⟨_, o, h1, h2, _⟩ := A.mo k a _ h hm
  cases h2 with
  | ins r => exact ⟨_, _, h1, r⟩
/-- the k-th object is changed -/
theorem At.put {K : PySem.W.Frag} {as : List Addr} {M : Ms} {L H : Hp} {k : Nat} {a : Addr} {o : HO} {m : MO} (A : At K as M L H) (h : as[k]? = some a) (r : Ro K as L o m) (tb : TabOk (upd H a o) a o m := by trivial) : At K as (M.set k m) L (upd H a o) := by
  have hk : k < as.length := (List.getElem?_eq_some_iff.mp h).1
  have hl := A.held (List.mem_of_getElem? h)
  have kc : KeepC H (upd H a o) := by
    have hk2 : k < M.length := by rw [← A.len]; exact hk
    obtain ⟨_, u, h2, h3, _⟩ := A.mo k a _ h (List.getElem?_eq_getElem hk2)
    exact KeepC.over h2 h3.noExt
  refine ⟨fun b u e => ?_, by rw [List.length_set]; exact A.len, A.nd, fun j b m' e1 e2 => ?_, A.nt⟩
  · have : b ≠ a := fun z => by rw [z, hl.1] at e; cases e
    rw [upd_ne this]; exact A.low b u e
  · by_cases hj : j = k
    · subst hj
      rw [h] at e1
      cases e1
      rw [List.getElem?_set, if_pos rfl] at e2
      split at e2
      · cases e2; exact ⟨hl.1, o, upd_same, r, tb⟩
      · cases e2
    · rw [List.getElem?_set, if_neg (fun z => hj z.symm)] at e2
      obtain ⟨h3, o', h4, h5⟩ := A.mo j b m' e1 e2
      have hb : b ≠ a := fun z => by
        subst z
        have := (List.getElem?_inj (List.getElem?_eq_some_iff.mp e1).1 A.nd).mp (e1.trans h.symm)
        exact hj this
      exact ⟨h3, o', by rw [upd_ne hb]; exact h4, h5.1, h5.2.keep kc⟩
theorem Step.put {as : List Addr} {L H : Hp} {a : Addr} {o : HO} (h : a ∈ as) : Step as L H as L (upd H a o) :=
  ⟨fun b u hb e => by rw [upd_ne (fun z => hb (by rw [z]; exact h))]; exact e, Ex.refl _, fun _ e _ => e, Pre.refl _, fun _ e => .inl e⟩
section
variable {K : PySem.W.Frag}
@[simp] def oIxM : D2 := fun x y M P => ∃ k ds i v, x = .mu k ∧ y = .int i ∧ M[k]? = some (.lst ds) ∧ (0 ≤ i ∧ ds[i.toNat]? = some v) ∧ P v M
theorem sr_ixM : SimR K (rIxL K) oIxM := by
  intro as L H M x y d e P Q A r1 r2 ⟨k, ds, i, v, h1, h2, hm, h3, p⟩ q
  subst h1; subst h2
  cases r2
  cases r1 with
  | mu hs =>
    obtain ⟨xs, h4, ra⟩ := A.lst hs hm
    obtain ⟨z, h5, h6⟩ := at_in ra h3
    exact ⟨_, xs, i, z, rfl, rfl, .inl (.inl h4), h5, q _ _ L H M .refl A p h6⟩
end
section
variable {X : Cx} {a b c e o i value : Expr} {es : List Expr} {t ta tb tc to ti tv : DE} {tl : DA} {pos pos' : Pos}
/-- o[i] = e, o a changeable list -/
@[simp] def sSetI (to ti te : DE) : DS := fun De ρ M => te ρ M fun v M1 => to ρ M1 fun x M2 => ti ρ M2 fun y M3 => ∃ k ds i, x = .mu k ∧ y = .int i ∧ M3[k]? = some (.lst ds) ∧ (0 ≤ i ∧ i.toNat < ds.length) ∧ De.nx ρ (M3.set k (.lst (ds.set i.toNat v)))
theorem RpA.set {K : PySem.W.Frag} {as : List Addr} {L : Hp} {v : V} {d : D} (r : Rp K as L v d) : ∀ {xs : List V} {ds : List D} (i : Nat), RpA K as L xs ds → RpA K as L (xs.set i v) (ds.set i d)
  | _, _, _, .nil => .nil
  | _, _, 0, .cons _ t => .cons r t
  | _, _, i + 1, .cons q t => .cons q (RpA.set r i t)
theorem pds_setItem (he : PD X value tv) (ho : PD X o to) (hi : PD X i ti) (ha : ∀ v, assign (.Subscript o i pos') X.env v = (do
      let ov ← holding [v] (eval o X.env)
      let iv ← holding [v, ov] (eval i X.env)
      standAt pos'
      holding [v, ov, iv] (setItem ov iv v)
      release [v, ov, iv] []) := by intro _; rfl) (hs : swapsWithSole [.Subscript o i pos'] value pos.line X.env = pure false := by rfl) (hw : swappedStores [.Subscript o i pos'] value X.env = pure none := by rfl)
    (h1 : (assignEach [.Subscript o i pos'] X.env).map (·.2) = [assign (.Subscript o i pos') X.env] := by rfl) : PDS X (.Assign [.Subscript o i pos'] value pos) (sSetI to ti tv) := by
  obtain ⟨u, p, s⟩ := he.ex
  obtain ⟨u1, p1, s1⟩ := ho.ex
  obtain ⟨u2, p2, s2⟩ := hi.ex
  refine ⟨_, ps_asg p (pg_sub p1 p2 set_list ha) hs hw h1, ?_⟩
  intro as σ ρ L H M De D hE A h c
  refine s as σ ρ L H M _ _ hE A h fun v d L1 H1 M1 t1 A1 h1 r1 => ?_
  refine s1 as σ ρ L1 H1 M1 _ _ (hE.mono t1.k t1.pre) A1 h1 fun x d2 L2 H2 M2 t2 A2 h2 r2 => ?_
  refine s2 as σ ρ L2 H2 M2 _ _ (hE.mono (t1.k.trans t2.k) (Pre.refl _)) A2 h2 fun y d3 L3 H3 M3 t3 A3 h3 r3 => ?_
  obtain ⟨k, ds, i, rfl, rfl, hm, hi, p⟩ := h3
  cases r3
  cases r2 with
  | mu hk =>
    obtain ⟨xs, g1, g2⟩ := A3.lst hk hm
    refine ⟨_, xs, i, i.toNat, rfl, rfl, g1, ?_, ?_⟩
    · unfold ixN
      rw [if_pos hi.1, if_pos (by rw [g2.length]; omega)]
    · have r1' := r1.mono (t2.k.trans t3.k) (Pre.refl as)
      refine c.nx σ ρ L3 _ _ ((t1.trans A1 (t2.trans A2 t3)).trans A3 (Step.put (List.mem_of_getElem? hk))) (A3.put hk (.lst (g2.set r1' _))) (hE.mono (t1.k.trans (t2.k.trans t3.k)) (Pre.refl _)) p
theorem pd_glob {x : Str} {v : V} {u : Value} {d : D} (hg : Gl X x) (hm : X.mg x = some u) (r : RelV v u) (hd : ∀ as L, Rp X.K as L v d) (hdb : (x == ("__debug__" : Str)) = false := by decide) : PD X (.Name x pos) (dC d) :=
  ⟨_, pe_glob hg hm r hdb, fun as σ ρ L H M P Q hE A p q => q _ _ L H M .refl A p (hd as L)⟩
theorem pd_bltn {x : Str} {v : V} {u : Value} {d : D} (hg : Gl X x) (hm : X.mg x = none) (hv : bootBuiltins x = some u) (r : RelV v u) (hd : ∀ as L, Rp X.K as L v d) (hn : x ≠ "__name__" := by decide) (hdb : (x == ("__debug__" : Str)) = false := by decide) : PD X (.Name x pos) (dC d) :=
  ⟨_, pe_bltn hg hm hv r hn hdb, fun as σ ρ L H M P Q hE A p q => q _ _ L H M .refl A p (hd as L)⟩
/-- what isinstance asks of an own class -/
structure ClsI (K : PySem.W.Frag) (C : Addr) : Prop where
  cl : Cls K C
  ha : PySem.W.findIn K (.ref C) "__class__" = some (some (.builtin "object.__class__"))
  hn : PySem.W.specialIn K (.builtin "object.__class__") "__get__" = some (some (.builtin "getset_descriptor.__get__"))
  htk : PySem.W.takesIn K (.builtin "object.__class__") = some true
  hm : PySem.W.mroIn K C (.type "object") = some true
/-- the type of data -/
inductive DTy (K : PySem.W.Frag) : D → Value → Prop
  | non : DTy K .non (.type "NoneType")
  | bl (b : Bool) : DTy K (.bl b) (.type "bool")
  | int (i : Int) : DTy K (.int i) (.type "int")
  | str (x : Str) : DTy K (.str x) (.type "str")
  | lst (ds : List D) : DTy K (.lst ds) (.type "list")
  | tup (ds : List D) : DTy K (.tup ds) (.type "tuple")
  | ins {C : Addr} {fs : List (Str × D)} (h : ClsI K C) : DTy K (.ins C fs) (.ref C)
  | dic (ks : List Key) (ds : List D) : DTy K (.dic ks ds) (.type "dict")
  | tfz (ns : List Int) : DTy K (.tfz ns) (.type "tuple")
inductive DCl : D → V → Value → Prop
  | ty (n : String) : DCl (.ty n) (.ty n) (.type n)
  | ob (C : Addr) : DCl (.ob C) (.ref C) (.ref C)
theorem DTy.ty {K : PySem.W.Frag} {as : List Addr} {M : Ms} {L H : Hp} {v : V} {d : D} {t : Value} (A : At K as M L H) (r : Rp K as L v d) (h : DTy K d t) : TyX K H v t := by
  cases h with
  | non => cases r; exact .base .non
  | bl b => cases r; exact .base (.bl b)
  | int b => cases r; exact .base (.int b)
  | str b => cases r; exact .base (.str b)
  | lst ds =>
    cases r with
    | lst hs _ =>
      rcases ex_l A.low hs with (h | ⟨o, h⟩) | ⟨o, its, n, h1, h2, _⟩
      · exact .base (.lst h)
      · exact .base (.frz h)
      · exact .kList h1 h2
  | tup ds =>
    cases r with
    | tup hs _ =>
      rcases ex_t A.low hs with (h | ⟨o, h⟩) | ⟨o, its, n, h1, h2, _⟩
      · exact .base (.tup h)
      · exact .fTuple h
      · exact .kTuple h1 h2
  | ins h =>
    cases r with
    | ins hs _ => exact .base (.ins (A.low _ _ hs) h.cl h.ha h.hn h.htk h.hm)
  | dic ks ds =>
    cases r with
    | dic hs _ _ =>
      rcases ex_rd A.low (.inr hs) with h | ⟨o, h⟩
      · exact .base (.dK h)
      · exact .fDict h
  | tfz ns =>
    cases r with
    | tfz h => obtain ⟨o, h, _⟩ := h; exact .fTuple (A.low _ _ h)
@[simp] def oIsi (K : PySem.W.Frag) : DC := fun xs M P => ∃ x c t v u b, xs = [x, c] ∧ DTy K x t ∧ DCl c v u ∧ PySem.W.kitOne K t u = some b ∧ P (.bl b) M
theorem sc_isi {K : PySem.W.Frag} : SimC K (rIsi K) (oIsi K) := by
  intro as L H M xs ds P Q A r ⟨x, c, t, v, u, b, h, ht, hc, hk, p⟩ q
  subst h
  cases r with
  | cons r1 r2 =>
    cases r2 with
    | cons r3 r4 =>
      cases r4
      cases hc with
      | ty n => cases r3; exact ⟨_, _, t, _, b, rfl, .ty n, DTy.ty A r1 ht, hk, q _ _ L H M .refl A p (.bl b)⟩
      | ob C => cases r3; exact ⟨_, _, t, _, b, rfl, .own C, DTy.ty A r1 ht, hk, q _ _ L H M .refl A p (.bl b)⟩
/-- isinstance(e, (T1, T2)) -/
@[simp] def dIsi2 (K : PySem.W.Frag) (te : DE) (n1 n2 : String) : DE := fun ρ M P => te ρ M fun x M1 => ∃ t b, DTy K x t ∧ PySem.W.kitAny K t [.type n1, .type n2] = some b ∧ P (.bl b) M1
theorem pd_isi2 {n1 n2 : Str} {T1 T2 : String} {p p1 p2 tp : Pos} {k : Nat} {te : DE} (hg : Gl X "isinstance") (hm : X.mg "isinstance" = none) (he : PD X e te) (g1 : Gl X n1) (m1 : X.mg n1 = none) (v1 : bootBuiltins n1 = some (.type T1)) (g2 : Gl X n2) (m2 : X.mg n2 = none) (v2 : bootBuiltins n2 = some (.type T2))
    (d1 : n1 ≠ "__name__" := by decide) (d2 : n2 ≠ "__name__" := by decide) (e1 : (n1 == ("__debug__" : Str)) = false := by decide) (e2 : (n2 == ("__debug__" : Str)) = false := by decide)
    (hs1 : starEach [e, .Tuple [.Name n1 p1, .Name n2 p2] k tp] X.env = (false, eval e X.env) :: starEach [.Tuple [.Name n1 p1, .Name n2 p2] k tp] X.env := by rfl) (hs2 : starEach [.Tuple [.Name n1 p1, .Name n2 p2] k tp] X.env = (false, eval (.Tuple [.Name n1 p1, .Name n2 p2] k tp) X.env) :: starEach [] X.env := by rfl)
    (hs3 : starEach [.Name n1 p1, .Name n2 p2] X.env = (false, eval (.Name n1 p1) X.env) :: starEach [.Name n2 p2] X.env := by rfl) (hs4 : starEach [.Name n2 p2] X.env = (false, eval (.Name n2 p2) X.env) :: starEach [] X.env := by rfl)
    (hpl : (backTo pos (starEach [.Tuple [.Name n1 p1, .Name n2 p2] k tp] X.env)).any (·.1) = false := by rfl) (hb : bootBuiltins "isinstance" = some (.builtin "isinstance") := by decide +kernel) :
    PD X (.Call (.Name "isinstance" p) [e, .Tuple [.Name n1 p1, .Name n2 p2] k tp] [] pos) (dIsi2 X.K te T1 T2) := by
  obtain ⟨u, pe, s⟩ := he.ex
  refine ⟨_, pe_callB call_isiT hg hm hb (pa_cons pe (pa_cons (pe_tup (pa_cons (pe_bltn (v := .ty T1) g1 m1 v1 rfl d1 e1) (pa_cons (pe_bltn (v := .ty T2) g2 m2 v2 rfl d2 e2) pa_nil hs4) hs3)) pa_nil hs2) hs1) (by decide) (by decide) hs1 hpl, ?_⟩
  intro as σ ρ L H M P Q hE A h q
  refine s as σ ρ L H M _ _ hE A h fun v d L1 H1 M1 s1 A1 h1 r1 => ?_
  obtain ⟨t, b, ht, hk, p⟩ := h1
  refine ⟨by show 2 ≤ sizeLine; decide, fun pT hT => ?_⟩
  have A2 := A1.know (o := .tup [.ty T1, .ty T2]) hT
  have s2 := Step.know (o := .tup [.ty T1, .ty T2]) A1 hT
  exact ⟨v, pT, _, t, _, b, rfl, upd_same, .cons (.ty T1) (.cons (.ty T2) .nil), DTy.ty A2 (r1.mono s2.k (Pre.refl _)) ht, hk, q _ _ _ _ M1 (s1.trans A1 s2) A2 p (.bl b)⟩
@[simp] def dFld (K : PySem.W.Frag) (t : DE) (f : Str) : DE := fun ρ M P => t ρ M fun x M1 => ∃ C fs v, x = .ins C fs ∧ Cls K C ∧ NoAttr K C f ∧ fs.lookup f = some v ∧ P v M1
theorem pd_fld {f : Str} (he : PD X e t) (hb : attributeBase e f X.env (eval e X.env) = eval e X.env := by rfl) : PD X (.Attribute e f pos) (dFld X.K t f) := by
  obtain ⟨u, p, s⟩ := he.ex
  refine ⟨_, pe_fld p hb, ?_⟩
  intro as σ ρ L H M P Q hE A h q
  refine s as σ ρ L H M _ _ hE A h fun v d L1 H1 M1 s1 A1 h1 r1 => ?_
  obtain ⟨C, fs, w, rfl, c, n, hl, p⟩ := h1
  cases r1 with
  | ins hs rf =>
    obtain ⟨z, h2, h3⟩ := rf.look hl
    exact ⟨_, C, _, _, z, rfl, A1.low _ _ hs, c, n, h2, q _ _ L1 H1 M1 s1 A1 p h3⟩
/-- a property -/
@[simp] def dProp (C : Addr) (W : DC) (t : DE) : DE := fun ρ M P => t ρ M fun x M1 => ∃ fs, x = .ins C fs ∧ W [x] M1 P
theorem pd_prop {C p g : Addr} {k : Nat} {f : Str} {fd : FuncData} {ps : List Str} {W : DC} (he : PD X e t) (c : Cls X.K C) (hp : PropOf X.K C f p g) (F : FnOk X.prog X.w X.K X.mg X.base CX0 k g fd ps (spD 1 W X.K)) (hr : Room (k + 1) X.A) (hb : Binds X.K fd ps [])
    (hab : attributeBase e f X.env (eval e X.env) = eval e X.env := by rfl) : PD X (.Attribute e f pos) (dProp C W t) := by
  obtain ⟨u, pp, s⟩ := he.ex
  refine ⟨_, pe_prop pp c hp F hr hb .nil (E := E0) (pass0 (X := X.nox)) hab, ?_⟩
  intro as σ ρ L H M P Q hE A h q
  refine s as σ ρ L H M _ _ hE A h fun v d L1 H1 M1 s1 A1 h1 r1 => ?_
  obtain ⟨fs, rfl, hw⟩ := h1
  have r1' := r1
  cases r1 with
  | ins hs rf => exact ⟨_, _, _, rfl, A1.low _ _ hs, rfl, as, M1, L1, _, P, .cons r1' .nil, A1, hw, fun v z L2 H2 M2 s2 A2 h2 r2 => q v z L2 H2 M2 (s1.trans A1 s2) A2 h2 r2⟩
mutual
/-- the k-th changeable object is not within -/
def apart (k : Nat) : D → Bool
  | .lst ds => apartA k ds | .tup ds => apartA k ds | .ins _ fs => apartF k fs | .exc _ fs => apartF k fs | .dic _ ds => apartA k ds | .dit _ ds => apartA k ds | .mu j => decide (j < k)
  | _ => true
def apartA (k : Nat) : List D → Bool
  | [] => true
  | d :: ds => apart k d && apartA k ds
def apartF (k : Nat) : List (Str × D) → Bool
  | [] => true
  | (_, d) :: fs => apart k d && apartF k fs
end
def apartM (k : Nat) (M : Ms) : Bool := M.all fun m => match m with
  | .lst ds => apartA k ds
  | .ins _ fs => apartF k fs
  | .tab _ _ => true
  | .dic _ ds => apartA k ds
  | .dit _ ds => apartA k ds
section
variable {K : PySem.W.Frag} {as : List Addr} {x : Addr} {L : Hp}
mutual
theorem Rp.cut : ∀ {v : V} {d : D}, Rp K (as ++ [x]) L v d → apart as.length d = true → Rp K as L v d
  | _, _, .non, _ => .non
  | _, _, .bl b, _ => .bl b
  | _, _, .int i, _ => .int i
  | _, _, .str z, _ => .str z
  | _, _, .lst h r, p => .lst h (RpA.cut r p)
  | _, _, .tup h r, p => .tup h (RpA.cut r p)
  | _, _, .ins h r, p => .ins h (RpF.cut r p)
  | _, _, .mu (k := k) h, p => .mu (by rw [List.getElem?_append_left (of_decide_eq_true p)] at h; exact h)
  | _, _, .ob a, _ => .ob a
  | _, _, .ty n, _ => .ty n
  | _, _, .exc h1 h2 r, p => .exc h1 h2 (RpF.cut r p)
  | _, _, .exc0 h, _ => .exc0 h
  | _, _, .dic h l r, p => .dic h l (RpA.cut r p)
  | _, _, .dit h l r, p => .dit h l (RpA.cut r p)
  | _, _, .tfz h, _ => .tfz h
theorem RpA.cut : ∀ {vs : List V} {ds : List D}, RpA K (as ++ [x]) L vs ds → apartA as.length ds = true → RpA K as L vs ds
  | _, _, .nil, _ => .nil
  | _, _, .cons r t, p => .cons (Rp.cut r (Bool.and_eq_true_iff.mp p).1) (RpA.cut t (Bool.and_eq_true_iff.mp p).2)
theorem RpF.cut : ∀ {fs : List (Str × V)} {gs : List (Str × D)}, RpF K (as ++ [x]) L fs gs → apartF as.length gs = true → RpF K as L fs gs
  | _, _, .nil, _ => .nil
  | _, _, .cons r t, p => .cons (Rp.cut r (Bool.and_eq_true_iff.mp p).1) (RpF.cut t (Bool.and_eq_true_iff.mp p).2)
end
end
theorem pre_app (as : List Addr) (x : Addr) : Pre as (as ++ [x]) := fun k a h => by
  rw [List.getElem?_append_left (List.getElem?_eq_some_iff.mp h).1]
  exact h
/-- C(e, ..): __init__ is given the new instance as the last changeable object -/
@[simp] def dMake (C : Addr) (n : Nat) (W : DC) (tl : DA) : DE := fun ρ M P => tl ρ M fun ds M1 => ds.length + 1 = n ∧ W (.mu M1.length :: ds) (M1 ++ [.ins C []]) fun d M2 => ∃ M3 fs, d = .non ∧ M2 = M3 ++ [.ins C fs] ∧ M3.length = M1.length ∧ apartF M1.length fs = true ∧ apartM M1.length M3 = true ∧ P (.ins C fs) M3
theorem sim_make {K : PySem.W.Frag} {C : Addr} {n : Nat} {W : DC} {u : TA} {E : XK} (s : SimA K u tl) : SimE K (tMake C (spD n W K) [] E u) (dMake C n W tl) := by
  intro as σ ρ L H M P Q hE A h q
  refine s as σ ρ L H M _ _ hE A h fun vs ds L1 H1 M1 s1 A1 h1 r1 => ?_
  intro x dx hx hdx hne
  obtain ⟨hn, hw⟩ := h1
  rw [List.append_nil]
  have xa : x ∉ as := fun z => (A1.held z).2 hx
  have lx : L1 x = none := lowfree A1 hx
  have e0 : ∀ b o, H1 b = some o → (upd (upd H1 dx (.own x)) x (.ins C dx [])) b = some o := fun b o e => by
    rw [upd_ne (ne_of_none e hx), upd_ne (ne_of_none e hdx)]
    exact e
  have A2 : At K (as ++ [x]) (M1 ++ [.ins C []]) L1 (upd (upd H1 dx (.own x)) x (.ins C dx [])) := by
    refine ⟨fun b o e => e0 b o (A1.low b o e), by rw [List.length_append, List.length_append, A1.len]; rfl, ?_, fun k a m g1 g2 => ?_, A1.nt⟩
    · rw [List.nodup_append]
      refine ⟨A1.nd, by simp, fun a ha b hb => ?_⟩
      rw [List.mem_singleton] at hb
      subst hb
      exact fun z => xa (z ▸ ha)
    · by_cases hk : k < as.length
      · rw [List.getElem?_append_left hk] at g1
        rw [List.getElem?_append_left (by rw [← A1.len]; exact hk)] at g2
        obtain ⟨h3, o, h4, h5⟩ := A1.mo k a m g1 g2
        exact ⟨h3, o, e0 a o h4, h5.1.mono (Ex.refl _) (pre_app _ _), h5.2.keep (KeepC.of e0)⟩
      · have e : k = as.length := by
          have := (List.getElem?_eq_some_iff.mp g1).1
          rw [List.length_append] at this
          simp only [List.length_cons, List.length_nil] at this
          omega
        subst e
        rw [List.getElem?_append_right (Nat.le_refl _), Nat.sub_self] at g1
        rw [A1.len, List.getElem?_append_right (Nat.le_refl _), Nat.sub_self] at g2
        cases g1
        cases g2
        exact ⟨lx, _, upd_same, .ins .nil, trivial⟩
  refine ⟨by rw [List.length_cons, r1.length]; exact hn, as ++ [x], M1 ++ [.ins C []], L1, _, _, .cons (.mu ?_) (r1.mono (Ex.refl _) (pre_app _ _)), A2, hw, fun v d L3 H3 M3 s3 A3 h3 r3 => ?_⟩
  · rw [← A1.len, List.getElem?_append_right (Nat.le_refl _), Nat.sub_self]
    rfl
  · obtain ⟨M4, fs, rfl, rfl, hl4, hap, hapM, p⟩ := h3
    cases r3
    refine ⟨rfl, ?_⟩
    have gx : (as ++ [x])[as.length]? = some x := by rw [List.getElem?_append_right (Nat.le_refl _), Nat.sub_self]; rfl
    have gm : (M4 ++ [MO.ins C fs])[as.length]? = some (.ins C fs) := by rw [A1.len, ← hl4, List.getElem?_append_right (Nat.le_refl _), Nat.sub_self]; rfl
    obtain ⟨dx', fv, g1, g2⟩ := A3.ins gx gm
    have g3 : RpF K as L3 fv fs := g2.cut (by rw [A1.len]; exact hap)
    have lx3 : L3 x = none := s3.hid x lx (by rw [upd_same]; simp)
    -- the instance is known for good
    have A4 : At K as M4 (upd L3 x (.ins C dx' fv)) H3 := by
      refine ⟨fun b o e => ?_, by rw [hl4]; exact A1.len, A1.nd, fun k a m e1 e2 => ?_, A3.nt.new (fun ps z => by cases z)⟩
      · by_cases hb : b = x
        · subst hb; rw [upd_same] at e; cases e; exact g1
        · rw [upd_ne hb] at e; exact A3.low b o e
      · have hk : k < as.length := (List.getElem?_eq_some_iff.mp e1).1
        obtain ⟨h5, o, h6, h7⟩ := A3.mo k a m (by rw [List.getElem?_append_left hk]; exact e1) (by rw [List.getElem?_append_left (by rw [hl4, ← A1.len]; exact hk)]; exact e2)
        have hax : a ≠ x := fun z => xa (by rw [← z]; exact List.mem_of_getElem? e1)
        refine ⟨by rw [upd_ne hax]; exact h5, o, h6, ?_, h7.2⟩
        have hm := List.all_eq_true.mp hapM m (List.mem_of_getElem? e2)
        cases h7.1 with
        | lst r => exact .lst ((r.cut (by rw [A1.len]; exact hm)).mono (Ex.new lx3) (Pre.refl _))
        | ins r => exact .ins ((r.cut (by rw [A1.len]; exact hm)).mono (Ex.new lx3) (Pre.refl _))
        | tab => exact .tab
        | dic l r => exact .dic l ((r.cut (by rw [A1.len]; exact hm)).mono (Ex.new lx3) (Pre.refl _))
        | dit l r => exact .dit l ((r.cut (by rw [A1.len]; exact hm)).mono (Ex.new lx3) (Pre.refl _))
    have s4 : Step as L1 H1 as (upd L3 x (.ins C dx' fv)) H3 := by
      refine ⟨fun b o hb e => ?_, fun b o e => ?_, fun b e e' => ?_, Pre.refl _, fun _ e => .inl e⟩
      · have hbx : b ≠ x := ne_of_none e hx
        refine s3.up b o (fun z => ?_) (e0 b o e)
        rcases List.mem_append.mp z with z | z
        · exact hb z
        · exact hbx (List.mem_singleton.mp z)
      · rw [upd_ne (fun z => by rw [z, lx] at e; cases e)]; exact s3.k b o e
      · have hbx : b ≠ x := fun z => e' (by rw [z]; exact hx)
        rw [upd_ne hbx]
        refine s3.hid b e ?_
        cases q2 : H1 b with
        | none => exact absurd q2 e'
        | some o => rw [e0 b o q2]; simp
    exact q _ _ _ H3 M4 (s1.trans A1 s4) A4 p (.ins upd_same (g3.mono (Ex.new lx3) (Pre.refl _)))
end
end Pd
set_option Elab.async false
set_option linter.all false
set_option maxRecDepth 100000
namespace Pd
open PySem PySem.Spec PyProof.Rows L2
abbrev DCN := List D → Ms → (List D → Ms → Prop) → Prop
def spN (n : Nat) (W : DCN) : PySem.W.Frag → Sp := fun K vs H Q _ => vs.length = n ∧ ∃ as M L ds P, RpA K as L vs ds ∧ At K as M L H ∧ W ds M P ∧
  ∀ p xs m L' H' M', Step as L H as L' H' → At K as M' L' H' → H p = none → L' p = none → H' p = some (.lst xs) → RpA K as L' xs m → P m M' → Q (.ref p) H'
section
variable {X : Cx} {e : Expr} {es : List Expr} {t : DE} {tl : DA} {pos p : Pos} {st : Stmt} {sts : List Stmt} {s1 s2 : DS}
/-- the last statement by the layer's own reading -/
theorem sim_then {K : PySem.W.Frag} {ts u : TS} {t : DS} (h : SimS K ts t) {as : List Addr} {σ : L2.St} {ρ : Rho} {L H : Hp} {M : Ms} {nx : Rho → Ms → Prop} {De : DEnds} {D : Ends} (hE : En K as L σ ρ) (A : At K as M L H) (c : Comp K as L H De D)
    (hn : ∀ σ' ρ' L' H' M', Step as L H as L' H' → At K as M' L' H' → En K as L' σ' ρ' → nx ρ' M' → u D σ' H') (ht : t { De with nx := nx } ρ M) : tSeq ts u D σ H :=
  h as σ ρ L H M _ _ hE A ht ⟨hn, c.rt, c.bk, c.ct⟩
def clean (k : Nat) (ρ : Rho) : Rho := ρ.map fun o => match o with
  | some d => if apart k d then some d else none
  | none => none
def cutE (k : Nat) (P : Rho → Ms → Prop) : Rho → Ms → Prop := fun ρ M => ∃ M3 m, M = M3 ++ [m] ∧ M3.length = k ∧ apartM k M3 = true ∧ P (clean k ρ) M3
def cutR (k : Nat) (P : D → Ms → Prop) : D → Ms → Prop := fun d M => ∃ M3 m, M = M3 ++ [m] ∧ M3.length = k ∧ apartM k M3 = true ∧ apart k d = true ∧ P d M3
theorem En.cut {K : PySem.W.Frag} {as : List Addr} {x : Addr} {L : Hp} {σ : L2.St} {ρ : Rho} (h : En K (as ++ [x]) L σ ρ) : En K as L σ (clean as.length ρ) := by
  refine ⟨by unfold clean; rw [List.length_map]; exact h.len, fun i d q => ?_⟩
  unfold clean at q
  rw [List.getElem?_map] at q
  cases e : ρ[i]? with
  | none => rw [e] at q; cases q
  | some o =>
    rw [e] at q
    cases o with
    | none => cases q
    | some d' =>
      have q' : (if apart as.length d' = true then some d' else none) = some d := Option.some.inj q
      by_cases ha : apart as.length d' = true
      · rw [if_pos ha] at q'
        cases q'
        obtain ⟨v, h1, h2⟩ := h.at_ i _ e
        exact ⟨v, h1, h2.cut ha⟩
      · rw [if_neg ha] at q'; cases q'
theorem Ro.cut {K : PySem.W.Frag} {as : List Addr} {x : Addr} {L : Hp} {o : HO} {m : MO} {M : Ms} (r : Ro K (as ++ [x]) L o m) (hm : m ∈ M) (h : apartM as.length M = true) : Ro K as L o m := by
  have hm := List.all_eq_true.mp h m hm
  cases r with
  | lst r => exact .lst (r.cut hm)
  | ins r => exact .ins (r.cut hm)
  | tab => exact .tab
  | dic l r => exact .dic l (r.cut hm)
  | dit l r => exact .dit l (r.cut hm)
theorem At.cut {K : PySem.W.Frag} {as : List Addr} {x : Addr} {M3 : Ms} {m : MO} {L H : Hp} (A : At K (as ++ [x]) (M3 ++ [m]) L H) (h : apartM as.length M3 = true) : At K as M3 L H := by
  have hl : as.length = M3.length := by
    have := A.len
    rw [List.length_append, List.length_append] at this
    simp only [List.length_cons, List.length_nil] at this
    omega
  refine ⟨A.low, hl, (List.nodup_append.mp A.nd).1, fun k a m' e1 e2 => ?_, A.nt⟩
  obtain ⟨h3, o, h4, h5⟩ := A.mo k a m' (by rw [List.getElem?_append_left (List.getElem?_eq_some_iff.mp e1).1]; exact e1) (by rw [List.getElem?_append_left (List.getElem?_eq_some_iff.mp e2).1]; exact e2)
  exact ⟨h3, o, h4, h5.1.cut (List.mem_of_getElem? e2) h, h5.2⟩
theorem At.add {K : PySem.W.Frag} {as : List Addr} {x : Addr} {M : Ms} {L H : Hp} {xs : List V} {ds : List D} (A : At K as M L H) (hx : H x = some (.lst xs)) (lx : L x = none) (xa : x ∉ as) (r : RpA K as L xs ds) : At K (as ++ [x]) (M ++ [.lst ds]) L H := by
  refine ⟨A.low, by rw [List.length_append, List.length_append, A.len]; rfl, ?_, fun k a m g1 g2 => ?_, A.nt⟩
  · rw [List.nodup_append]
    refine ⟨A.nd, by simp, fun a ha b hb => ?_⟩
    rw [List.mem_singleton] at hb
    subst hb
    exact fun z => xa (z ▸ ha)
  · by_cases hk : k < as.length
    · rw [List.getElem?_append_left hk] at g1
      rw [List.getElem?_append_left (by rw [← A.len]; exact hk)] at g2
      obtain ⟨h3, o, h4, h5⟩ := A.mo k a m g1 g2
      exact ⟨h3, o, h4, h5.1.mono (Ex.refl _) (pre_app _ _), h5.2⟩
    · have e : k = as.length := by
        have := (List.getElem?_eq_some_iff.mp g1).1
        rw [List.length_append] at this
        simp only [List.length_cons, List.length_nil] at this
        omega
      subst e
      rw [List.getElem?_append_right (Nat.le_refl _), Nat.sub_self] at g1
      rw [A.len, List.getElem?_append_right (Nat.le_refl _), Nat.sub_self] at g2
      cases g1
      cases g2
      exact ⟨lx, _, hx, .lst (r.mono (Ex.refl _) (pre_app _ _)), trivial⟩
/-- x = f(..), a new list that may be changed in the rest of the block -/
@[simp] def sNewN (i n : Nat) (W : DCN) (tl : DA) (rest : DS) : DS := fun De ρ M => tl ρ M fun ds M1 => ds.length = n ∧ W ds M1 fun m M2 => M2.length = M1.length ∧
  rest { nx := cutE M2.length De.nx, rt := cutR M2.length De.rt, bk := cutE M2.length De.bk, ct := cutE M2.length De.ct } (ρ.set i (some (.mu M2.length))) (M2 ++ [.lst m])
theorem Step.cutx {K : PySem.W.Frag} {as : List Addr} {x : Addr} {M : Ms} {L0 H0 L H L' H' : Hp} (s : Step as L0 H0 as L H) (A : At K as M L H) (hx : H0 x = none) (t : Step (as ++ [x]) L H (as ++ [x]) L' H') : Step as L0 H0 as L' H' := by
  have there : ∀ a, H0 a ≠ none → H a ≠ none := fun a h => by
    by_cases ha : a ∈ as
    · exact (A.held ha).2
    · cases q : H0 a with
      | none => exact absurd q h
      | some o => rw [s.up a o ha q]; simp
  refine ⟨fun a o ha h => ?_, s.k.trans t.k, fun a h h' => t.hid a (s.hid a h h') (there a h'), Pre.refl _, fun _ h => .inl h⟩
  refine t.up a o (fun z => ?_) (s.up a o ha h)
  rcases List.mem_append.mp z with z | z
  · exact ha z
  · rw [List.mem_singleton.mp z, hx] at h; cases h
theorem sim_rest {K : PySem.W.Frag} {ts : TS} {rest : DS} (h : SimS K ts rest) {as : List Addr} {x : Addr} {σ : L2.St} {ρ : Rho} {i : Nat} {L0 H0 L H : Hp} {M : Ms} {m : List D} {xs : List V} {De : DEnds} {D : Ends} (hE : En K as L σ ρ) (A : At K as M L H) (hx : H x = some (.lst xs)) (lx : L x = none) (xa : x ∉ as)
    (r : RpA K as L xs m) (s : Step as L0 H0 as L H) (hx0 : H0 x = none) (c : Comp K as L0 H0 De D) (hr : rest { nx := cutE M.length De.nx, rt := cutR M.length De.rt, bk := cutE M.length De.bk, ct := cutE M.length De.ct } (ρ.set i (some (.mu M.length))) (M ++ [.lst m])) : ts D (σ.set i (some (.ref x))) H := by
  have A2 := A.add hx lx xa r
  have gx : (as ++ [x])[M.length]? = some x := by rw [← A.len, List.getElem?_append_right (Nat.le_refl _), Nat.sub_self]; rfl
  have E2 : En K (as ++ [x]) L (σ.set i (some (.ref x))) (ρ.set i (some (.mu M.length))) := (hE.mono (Ex.refl _) (pre_app _ _)).set i (.mu gx)
  have fin : ∀ {d : Rho → Ms → Prop} {v : L2.St → Hp → Prop}, EndN K as L0 H0 d v → EndN K (as ++ [x]) L H (cutE M.length d) v := by
    intro d v hd σ' ρ' L' H' M' s' A' e' q
    obtain ⟨M3, m', rfl, hl, hap, q⟩ := q
    rw [← A.len] at hap q
    exact hd σ' _ L' H' M3 (s.cutx A hx0 s') (A'.cut hap) e'.cut q
  refine h (as ++ [x]) _ _ L H _ _ D E2 A2 hr ⟨fin c.nx, fun v d L' H' M' s' A' q rv => ?_, fin c.bk, fin c.ct⟩
  obtain ⟨M3, m', rfl, hl, hap, hd, q⟩ := q
  rw [← A.len] at hap hd
  exact c.rt v d L' H' M3 (s.cutx A hx0 s') (A'.cut hap) q (rv.cut hd)
theorem pdss_newN {k i n : Nat} {f : Addr} {fd : FuncData} {ps : List Str} {W : DCN} {x y : Str} {p' cp : Pos} (hN : X.N.Nodup) (F : FnOk X.prog X.w X.K X.mg X.base CX0 k f fd ps (spN n W X.K)) (hr : Room k X.A) (hg : Gl X x) (hm : X.mg x = some (.ref f)) (hk : PySem.W.keepIn X.K (.ref f) = true)
    (hb : Binds X.K fd ps []) (ha : PDA X (e :: es) tl) (hrest : PDSs X sts s2) (hi : X.N[i]? = some y := by rfl) (hy : Loc X.env.scope y := by first | exact Or.inl rfl | exact Or.inr rfl) (hs : swapsWith (.Call (.Name x p) (e :: es) [] cp) (some (.Name y p')) pos.line X.env = pure false := by rfl)
    (hf : X.fn y = true ∨ X.env.scope.names.lookup y = some .local := by first | exact .inl rfl | exact .inr rfl | assumption)
    (hdb : (x == ("__debug__" : Str)) = false := by decide) (he : starEach (e :: es) X.env = (false, eval e X.env) :: starEach es X.env := by rfl) (hpl : (backTo cp (starEach es X.env)).any (·.1) = false := by rfl) :
    PDSs X (.Assign [.Name y p'] (.Call (.Name x p) (e :: es) [] cp) pos :: sts) (sNewN i n W tl s2) := by
  obtain ⟨u, pa, sa⟩ := ha.ex
  obtain ⟨ur, pr, sr⟩ := hrest.ex
  refine ⟨_, pss_cons (ps_set hN hi hy (pe_call F hr hg hm hk hb .nil pass0 pa hdb he hpl) hs hf) pr, ?_⟩
  intro as σ ρ L H M De D hE A h c
  refine sa as σ ρ L H M _ _ hE A h fun vs ds L1 H1 M1 s1 A1 h1 r1 => ?_
  rw [List.append_nil]
  refine ⟨by rw [r1.length]; exact h1.1, as, M1, L1, ds, _, r1, A1, h1.2, fun a xs m L2 H2 M2 s2 A2 ha0 la hx rx hw => ?_⟩
  obtain ⟨hl, hw⟩ := hw
  have an : a ∉ as := fun z => (A1.held z).2 ha0
  have hH : H a = none := by
    cases q : H a with
    | none => rfl
    | some o => rw [s1.up a o an q] at ha0; cases ha0
  exact sim_rest sr (hE.mono ((s1.trans A1 s2).k) (Pre.refl _)) A2 hx la an rx (s1.trans A1 s2) hH c hw
end
end Pd
set_option Elab.async false
set_option linter.all false
set_option maxRecDepth 100000
set_option maxHeartbeats 1000000
namespace Pd
open PySem PySem.Spec PyProof.Rows L2
structure IntD (K : PySem.W.Frag) (P : Program) (w : World) (d : Addr) (f : Int → Option Int) : Prop where
  ex : ∃ es n, K.lookup d = some ⟨.type "dict", none, .dict es n, #[]⟩ ∧ KeysOf (intKind P w) es ∧ ∀ k, (findBy Value.isInt es k = none ∧ f k = none) ∨ ∃ v t, findBy Value.isInt es k = some (.int v t) ∧ f k = some v
  low : (d == sysModules) = false
section
variable {X : Cx} {d : Addr} {f : Int → Option Int}
theorem op_in_id (D : IntD X.K X.prog X.w d f) : OpR X (compareOp .In) (fun x y H Q => ∃ z, x = .int z ∧ y = .ref d ∧ Q (.bl (f z).isSome) H) := by
  intro pins s σ H x y v u Q I rx ry h
  obtain ⟨z, rfl, rfl, q⟩ := h
  obtain ⟨t, rfl⟩ := rx
  cases ry
  obtain ⟨es, n, h1, h2, h3⟩ := D.ex
  have hm : s.heap.MapOf (intKind X.prog X.w) d (fun k => findBy Value.isInt es k) := ⟨_, es, n, I.kIn _ _ h1, ⟨rfl, rfl, rfl⟩, rfl, h2, fun _ => rfl⟩
  refine wpAny_in_of (PySem.intKind_is X.prog X.w z t) D.low hm ?_
  rcases h3 z with ⟨e1, e2⟩ | ⟨a, b, e1, e2⟩
  · rw [e1]; rw [e2] at q; exact ⟨.bl false, H, I.tok _, rfl, q⟩
  · rw [e1]; rw [e2] at q; exact ⟨.bl true, H, I.tok _, rfl, q⟩
theorem ix_id (D : IntD X.K X.prog X.w d f) : IxR X (fun x y H Q => ∃ z v, x = .ref d ∧ y = .int z ∧ f z = some v ∧ Q (.int v) H) := by
  intro value slice pins s σ H x y v u Q I rx ry h hs
  obtain ⟨z, a, rfl, rfl, hf, q⟩ := h
  cases rx
  obtain ⟨t, rfl⟩ := ry
  obtain ⟨es, n, h1, h2, h3⟩ := D.ex
  have hm : s.heap.MapOf (intKind X.prog X.w) d (fun k => findBy Value.isInt es k) := ⟨_, es, n, I.kIn _ _ h1, ⟨rfl, rfl, rfl⟩, rfl, h2, fun _ => rfl⟩
  rcases h3 z with ⟨e1, e2⟩ | ⟨b, tb, e1, e2⟩
  · rw [e2] at hf; cases hf
  · rw [e2] at hf
    cases hf
    exact tail_any hm.typeIs PySem.F.slot_dict_getitem.lookup (wpAny_getItem_of (PySem.intKind_is X.prog X.w z t) hm e1 ⟨.int a, H, I.tok _, ⟨tb, rfl⟩, q⟩) hs
end
@[simp] def oInD (d : Addr) (f : Int → Option Int) : D2 := fun x y M P => ∃ z, x = .int z ∧ y = .ob d ∧ P (.bl (f z).isSome) M
theorem sr_inD {K : PySem.W.Frag} {d : Addr} {f : Int → Option Int} : SimR K (fun x y H Q => ∃ z, x = .int z ∧ y = .ref d ∧ Q (.bl (f z).isSome) H) (oInD d f) := by
  intro as L H M x y d1 e P Q A r1 r2 ⟨z, h1, h2, p⟩ q
  subst h1; subst h2
  cases r1; cases r2
  exact ⟨z, rfl, rfl, q _ _ L H M .refl A p (.bl _)⟩
@[simp] def oIxD (d : Addr) (f : Int → Option Int) : D2 := fun x y M P => ∃ z v, x = .ob d ∧ y = .int z ∧ f z = some v ∧ P (.int v) M
theorem sr_ixD {K : PySem.W.Frag} {d : Addr} {f : Int → Option Int} : SimR K (fun x y H Q => ∃ z v, x = .ref d ∧ y = .int z ∧ f z = some v ∧ Q (.int v) H) (oIxD d f) := by
  intro as L H M x y d1 e P Q A r1 r2 ⟨z, v, h1, h2, h3, p⟩ q
  subst h1; subst h2
  cases r1; cases r2
  exact ⟨z, v, rfl, rfl, h3, q _ _ L H M .refl A p (.int _)⟩
def iSeqH (K : PySem.W.Frag) (tl : TE) : TI := fun σ H R => tl σ H fun x H1 => ∃ a xs, x = .ref a ∧ ((SqL K H1 a xs ∧ R (Itl K a) H1) ∨ (SqT K H1 a xs ∧ R (Itt K a) H1))
section
variable {X : Cx} {tg l e : Expr} {es : List Expr} {pos : Pos} {t : DE} {tl : DA}
theorem pi_seq {tl : TE} (hl : PE X l tl) : PI X tg l (iSeqH X.K tl) := by
  refine ⟨fun pins s σ H R I h => ?_⟩
  refine thn (hl.run pins s σ H _ I h) fun v s1 ⟨x, H1, I1, r1, q1⟩ => ?_
  obtain ⟨a, xs, e, q⟩ := q1
  subst e
  cases r1
  have fr : ∀ b ∈ [s1.heap.objs.size], FpOk X pins H1 b := fun b hb => by
    have e : b = s1.heap.objs.size := by simpa using hb
    subst e
    exact I1.fpOk (Nat.le_refl _) (I1.hok.fresh (Nat.le_refl _))
  rcases q with ⟨hq, q⟩ | ⟨hq, q⟩
  · obtain ⟨its, rv, p, hz⟩ := I1.list hq
    refine wpAny_pyIter_list p.isList ?_
    exact ⟨s1.heap.objs.size, [s1.heap.objs.size], _, _, H1, rfl, I1.kept (t' := s1.toks) fun b o e => Heap.get?_push_of_some _ e, turn_list a _, ⟨_, Heap.get?_push_size _ rfl, rfl, rfl⟩, fr, q⟩
  · obtain ⟨its, rv, p, hz⟩ := I1.tuple hq
    refine wpAny_pyIter_tuple (show s1.heap.IsTuple a its.toArray from p) ?_
    exact ⟨s1.heap.objs.size, [s1.heap.objs.size], _, _, H1, rfl, I1.kept (t' := s1.toks) fun b o e => Heap.get?_push_of_some _ e, turn_tuple a _, ⟨_, Heap.get?_push_size _ rfl, rfl, rfl⟩, fr, q⟩
/-- a list or a tuple, its items -/
def isSeq : D → List D → Prop := fun d ds => d = .lst ds ∨ d = .tup ds
@[simp] def iSeq (t : DE) : DA := fun ρ M P => t ρ M fun d M1 => ∃ ds, isSeq d ds ∧ P ds M1
theorem pdi_seq (h : PD X e t) : PDI X tg e (iSeq t) := by
  obtain ⟨u, p, s⟩ := h.ex
  refine ⟨_, pi_seq p, ?_⟩
  intro as σ ρ L H M P R hE A h q
  refine s as σ ρ L H M _ _ hE A h fun v d L1 H1 M1 s1 A1 h1 r1 => ?_
  obtain ⟨ds, hd, h1⟩ := h1
  rcases hd with rfl | rfl
  · cases r1 with
    | lst hs ra => exact ⟨_, _, rfl, .inl ⟨ex_l A1.low hs, q _ ds L1 H1 M1 s1 A1 h1 (walks_list hs ra)⟩⟩
  · cases r1 with
    | tup hs ra => exact ⟨_, _, rfl, .inr ⟨ex_t A1.low hs, q _ ds L1 H1 M1 s1 A1 h1 (walks_tup hs ra)⟩⟩
@[simp] def oTuple : DC := fun xs M P => ∃ d ds, xs = [d] ∧ isSeq d ds ∧ P (.tup ds) M
theorem sc_tuple {K : PySem.W.Frag} : SimC K (fun xs H Q => ∃ p ys, xs = [.ref p] ∧ ((SqL K H p ys ∧ ∀ l, H l = none → Q (.ref l) (upd H l (.tup ys))) ∨ (SqT K H p ys ∧ Q (.ref p) H))) oTuple := by
  intro as L H M xs ds P Q A r ⟨d, es, h, hd, p⟩ q
  subst h
  cases r with
  | cons r1 r2 =>
    cases r2
    rcases hd with rfl | rfl
    · cases r1 with
      | lst hs ra => exact ⟨_, _, rfl, .inl ⟨ex_l A.low hs, fun l hl => q _ _ _ _ M (Step.know A hl) (A.know hl) p (.tup (.inl (.inl upd_same)) (ra.mono (Ex.new (lowfree A hl)) (Pre.refl _)))⟩⟩
    · cases r1 with
      | tup hs ra => exact ⟨_, _, rfl, .inr ⟨ex_t A.low hs, q _ _ L H M .refl A p (.tup hs ra)⟩⟩
def rAnyT (K : PySem.W.Frag) : List V → Hp → VK → Prop := fun vs H Q => ∃ (a : Addr) (ns : List Int), vs = [V.ref a] ∧ SqT K H a (ns.map V.int) ∧ Q (.bl (ns.any fun n => n != 0)) H
theorem any_rangeI : ∀ bs : List Int, (List.range bs.length).any (fun i => (bs.getD i 0) != 0) = bs.any fun n => n != 0
  | [] => rfl
  | b :: bs => by
    rw [List.length_cons, List.range_succ_eq_map, List.any_cons, List.any_map, List.any_cons, ← any_rangeI bs]
    all_goals rfl
theorem ints_of_vals : ∀ {ns : List Int} {us : List Value}, Vals (ns.map V.int) us → IntsAre us ns := fun h => L2.ints_vals h
theorem cr_anyT (hc : X.calm = true) : CallR X (.builtin "any") (rAnyT X.K) := by
  intro pins s σ H vs us Q I r h
  obtain ⟨a, ns, rfl, hs, q⟩ := h
  obtain ⟨its, rv, hl, _⟩ := I.tuple hs
  rw [Vals.ref1 r]
  have hlt : a < s.heap.objs.size := by obtain ⟨o, e, _⟩ := hl; exact Heap.lt_size e
  have hlen := rv.length
  rw [List.length_map] at hlen
  refine call_any_walk (wpAny_pyIter_tuple (show s.heap.IsTuple a its.toArray from hl) ?_)
  refine ⟨_, _, _, _, _, _, fun i => (ns.getD i 0) != 0, rfl, Walks.tuple (A := X.A.in1) (I.ok.hd hc) _ a (Nat.ne_of_lt hlt) its.toArray, ⟨⟨_, Heap.get?_push_size _ rfl, rfl, rfl⟩, hl.push _⟩, fun i v s' Q' E' hv hq => ?_, fun h' tk hk => ?_⟩
  · have hv' : its[i]? = some v := by simpa using hv
    obtain ⟨n, hn⟩ : ∃ n, ns[i]? = some n := by
      have h1 : i < its.length := (List.getElem?_eq_some_iff.mp hv').1
      exact ⟨ns[i]'(by omega), List.getElem?_eq_getElem (by omega)⟩
    obtain ⟨u, hu, ru⟩ := rv.get (i := i) (x := .int n) (by rw [List.getElem?_map, hn]; rfl)
    rw [hv'] at hu
    cases hu
    obtain ⟨t, rfl⟩ := ru
    have hg : ns.getD i 0 = n := by rw [List.getD_eq_getElem?_getD, hn]; rfl
    simp only [hg] at hq
    exact PyProof.Rows.truthy_int hq
  · refine ⟨.bl _, H, I.kept fun b o eo => hk b o (fun hmem => ?_) (Heap.get?_push_of_some _ eo), ?_, q⟩
    · rcases List.mem_cons.mp hmem with e1 | hmem
      · exact absurd (e1 ▸ Heap.lt_size eo) (Nat.lt_irrefl _)
      · cases hmem
    · show Value.bool _ = Value.bool _
      rw [← any_rangeI, List.size_toArray, ← hlen]
end
end Pd
set_option Elab.async false
set_option linter.all false
set_option maxRecDepth 100000
set_option maxHeartbeats 1000000
namespace Pd
open PySem PySem.Spec PyProof.Rows L2
inductive Kd | l | t
def SqK (K : PySem.W.Frag) : Kd → Hp → Addr → List V → Prop
  | .l => SqL K
  | .t => SqT K
def IterK : Kd → Heap → Addr → Addr → Nat → Prop
  | .l => fun h it a i => h.IsListIter it a i
  | .t => fun h it a i => h.IsTupleIter it a i
def SeqAtK : Kd → Heap → Addr → Array Value → Prop
  | .l => fun h a items => h.IsList a items
  | .t => fun h a items => h.IsTuple a items
def itObj : Kd → Addr → Obj
  | .l, a => { cls := .type "list_iterator", data := .fields #[.ref a, .int 0 0] }
  | .t, a => { cls := .type "tuple_iterator", data := .fields #[.ref a, .int 0 0] }
theorem drawsK (k : Kd) {prog : Program} {w : World} {A : Around} (hh : A.handled = none) (it l : Addr) (hne : l ≠ it) (items : Array Value) :
    Draws prog w A it [it, l] items.size (fun i v => items[i]? = some v) (fun i h => IterK k h it l i ∧ SeqAtK k h l items) := by
  cases k with
  | l => exact Draws.list hh it l hne items
  | t => exact Draws.tuple hh it l hne items
theorem beginsK (k : Kd) (a : Addr) (items : Array Value) : Begins (.ref a) (itObj k a) fun h => SeqAtK k h a items := by
  cases k with
  | l => exact begins_list a items
  | t => exact begins_tuple a items
theorem iterK_at {k : Kd} {h h' : Heap} {it a : Addr} {i : Nat} (x : IterK k h it a i) (hk : ∀ o, h.get? it = some o → h'.get? it = some o) : IterK k h' it a i := by
  cases k with
  | l => exact Heap.IsListIter.at x hk
  | t => exact Heap.IsTupleIter.at x hk
theorem iterK_obj {k : Kd} {h : Heap} {it a : Addr} {i : Nat} (x : IterK k h it a i) : ∃ o, h.get? it = some o ∧ ∀ v, o.data ≠ .cell v := by
  cases k with
  | l => obtain ⟨o, e, _, d⟩ := x; exact ⟨o, e, fun v z => by rw [d] at z; cases z⟩
  | t => obtain ⟨o, e, _, d⟩ := x; exact ⟨o, e, fun v z => by rw [d] at z; cases z⟩
theorem iterK_new {k : Kd} {h : Heap} {it a : Addr} (e : h.get? it = some (itObj k a)) : IterK k h it a 0 := by
  cases k with
  | l => exact ⟨_, e, rfl, rfl⟩
  | t => exact ⟨_, e, rfl, rfl⟩
theorem sqK_at {X : Cx} {pins : List (Addr × Obj)} {σ : L2.St} {H : Hp} {s : Shared} {k : Kd} {a : Addr} {xs : List V} (I : Inv X pins σ H s) (h : SqK X.K k H a xs) : ∃ its : List Value, Vals xs its ∧ SeqAtK k s.heap a its.toArray ∧ a < s.heap.objs.size := by
  cases k with
  | l =>
    obtain ⟨its, r, p, _⟩ := I.list h
    exact ⟨its, r, p.isList, p.lt⟩
  | t =>
    obtain ⟨its, r, p, _⟩ := I.tuple h
    exact ⟨its, r, p, by obtain ⟨o, e, _⟩ := p; exact Heap.lt_size e⟩
theorem sqK_inj {X : Cx} {pins : List (Addr × Obj)} {σ : L2.St} {H : Hp} {s : Shared} {k : Kd} {a : Addr} {xs ys : List V} (I : Inv X pins σ H s) (h : SqK X.K k H a xs) (h' : SqK X.K k H a ys) : xs = ys := by
  cases k with
  | l => exact I.list_inj h h'
  | t => exact I.tuple_inj h h'
def Itz2 (K : PySem.W.Frag) (ka kb : Kd) (a b : Addr) : It :=
  ⟨fun i H => ∃ (xs ys : List V) (x y : V), SqK K ka H a xs ∧ SqK K kb H b ys ∧ xs[i]? = some x ∧ ys[i]? = some y,
    fun i H v H' => ∃ T x y, v = .ref T ∧ H T = none ∧ H' = upd H T (.tup [x, y]) ∧ (∀ xs, SqK K ka H a xs → xs[i]? = some x) ∧ ∀ ys, SqK K kb H b ys → ys[i]? = some y,
    fun i H => ∃ xs ys : List V, SqK K ka H a xs ∧ SqK K kb H b ys ∧ i = min xs.length ys.length⟩
theorem zsep {z TI TO i1 i2 a b : Addr} (D : ZipApart z TI TO i1 i2 a b) : ZipSep2 z TI TO i1 i2 [i1, a] [i2, b] where
  TIz := D.TIz
  TOz := D.TOz
  TITO := D.TITO
  TIi1 := D.TIi1
  mem1 := by simp
  zf1 := by simp; exact ⟨fun e => D.i1z e.symm, fun e => D.l1z e.symm⟩
  Tf1 := by simp; exact ⟨D.TOi1, fun e => D.l1TO e.symm⟩
  TIi2 := D.TIi2
  mem2 := by simp
  zf2 := by simp; exact ⟨fun e => D.i2z e.symm, fun e => D.l2z e.symm⟩
  Tf2 := by simp; exact ⟨D.TOi2, fun e => D.l2TO e.symm⟩
  sep1_2 := by simp; exact ⟨D.i12, fun e => D.l2i1 e.symm⟩
  sep2_1 := by simp; exact ⟨fun e => D.i12 e.symm, fun e => D.l1i2 e.symm⟩
theorem turn_z2 {P : Program} {w : World} {K : PySem.W.Frag} {elts : List Expr} {kk : Nat} {tpos : Pos} (ka kb : Kd) {a b z TI TO i1 i2 : Addr} (D : ZipApart z TI TO i1 i2 a b) :
    Turn P w K (.Tuple elts kk tpos) (Itz2 K ka kb a b) [z, TI, TO, i1, i2] z (fun i h => IsZip h z TI TO .none ∧ IsTupOf2 h TI (.ref i1) (.ref i2) ∧ (∃ x y, IsTupOf2 h TO x y) ∧ IterK ka h i1 a i ∧ IterK kb h i2 b i) where
  mem := by simp
  obj := fun i h st c hc => by
    obtain ⟨hz, hTI, ⟨x, y, hTO⟩, h1, h2⟩ := st
    have e' : c = z ∨ c = TI ∨ c = TO ∨ c = i1 ∨ c = i2 := by simpa using hc
    rcases e' with q | q | q | q | q
    · rw [q]; exact ⟨_, hz, fun v q => nomatch q⟩
    · rw [q]; exact ⟨_, hTI, fun v q => nomatch q⟩
    · rw [q]; exact ⟨_, hTO, fun v q => nomatch q⟩
    · rw [q]; exact iterK_obj h1
    · rw [q]; exact iterK_obj h2
  keep := fun i h h' st k => by
    obtain ⟨hz, hTI, ⟨x, y, hTO⟩, h1, h2⟩ := st
    exact ⟨k z (by simp) _ hz, k TI (by simp) _ hTI, ⟨x, y, k TO (by simp) _ hTO⟩, iterK_at h1 fun o q => k i1 (by simp) o q, iterK_at h2 fun o q => k i2 (by simp) o q⟩
  item := by
    intro X hP hw hK hc i pins s σ H E I hf st hg
    subst hP hw hK
    obtain ⟨hz, hTI, ⟨x0, y0, hTO⟩, h1, h2⟩ := st
    obtain ⟨xs, ys, x, y, hqx, hqy, hx, hy⟩ := hg
    obtain ⟨its, rv, p, _⟩ := sqK_at I hqx
    obtain ⟨its2, rv2, p2, _⟩ := sqK_at I hqy
    obtain ⟨u, hu, ru⟩ := rv.get hx
    obtain ⟨u2, hu2, ru2⟩ := rv2.get hy
    have hzl : z < s.heap.objs.size := Heap.lt_size hz
    have hi1 : i < its.toArray.size := by simpa using (List.getElem?_eq_some_iff.mp hu).1
    have hi2 : i < its2.toArray.size := by simpa using (List.getElem?_eq_some_iff.mp hu2).1
    refine wpAny_pyNext_zipD2_item (zsep D) (drawsK ka (A := X.A.in1) (I.ok.hd hc) i1 a D.l1i1 its.toArray) (drawsK kb (A := X.A.in1) (I.ok.hd hc) i2 b D.l2i2 its2.toArray) hz hTI hTO ⟨h1, p⟩ ⟨h2, p2⟩ hi1 hi2 fun x1 x2 h' tk g1 g2 z' TO' st1 st2 hT hsz hk => ?_
    have e1 : x1 = u := by
      have g1' : its[i]? = some x1 := by simpa using g1
      rw [hu] at g1'; exact (Option.some.inj g1').symm
    have e2 : x2 = u2 := by
      have g2' : its2[i]? = some x2 := by simpa using g2
      rw [hu2] at g2'; exact (Option.some.inj g2').symm
    subst e1; subst e2
    refine ⟨_, rfl, wpAny_letOwnedTupleGo_zip (s := { s with heap := h', toks := tk }) z' fun h'' z'' sb => ?_⟩
    have hT2 : h''.get? s.heap.objs.size = some { cls := .type "tuple", data := .seq #[x1, x2] } := (sb.2 _ (Nat.ne_of_gt hzl)).trans hT
    have new : ObjOk X.prog X.w (upd H s.heap.objs.size (.tup [x, y])) h'' s.heap.objs.size (.tup [x, y]) :=
      ⟨by show 2 ≤ sizeLine; decide, [x1, x2], .cons ru (.cons ru2 .nil), ⟨_, hT2, rfl, _, rfl⟩⟩
    have I1 : Inv X pins σ (upd H s.heap.objs.size (.tup [x, y])) { s with heap := h'', toks := tk } :=
      I.turnedNew (t' := tk) (ch := [z, TI, TO, i1, i2]) (fun c o hb q => (sb.2 c (fun q' => hb (by simp [q']))).trans (hk c o (fun q' => hb (by simp [q'])) (fun q' => hb (by simp [q'])) (fun q' => hb (by simp [q'])) (fun q' => hb (by simp [q'])) q)) hf (Nat.le_refl _) new
    refine ⟨.ref s.heap.objs.size, _, I1, rfl, ⟨_, x, y, rfl, I.hok.fresh (Nat.le_refl _), rfl, fun l hl => by rw [sqK_inj I hl hqx]; exact hx, fun l hl => by rw [sqK_inj I hl hqy]; exact hy⟩, ⟨z'', ?_, ⟨x1, x2, ?_⟩, ?_, ?_⟩, fun c hcm => ?_⟩
    · exact (sb.2 _ D.TIz).trans (hk _ _ D.TIz D.TITO D.TIi1 D.TIi2 hTI)
    · exact (sb.2 _ D.TOz).trans TO'
    · exact iterK_at st1.1 fun o q => (sb.2 _ D.i1z).trans q
    · exact iterK_at st2.1 fun o q => (sb.2 _ D.i2z).trans q
    · have hlt : c < s.heap.objs.size := by
        have e' : c = z ∨ c = TI ∨ c = TO ∨ c = i1 ∨ c = i2 := by simpa using hcm
        rcases e' with q | q | q | q | q
        · rw [q]; exact hzl
        · rw [q]; exact Heap.lt_size hTI
        · rw [q]; exact Heap.lt_size hTO
        · rw [q]; obtain ⟨_, e1, _⟩ := iterK_obj h1; exact Heap.lt_size e1
        · rw [q]; obtain ⟨_, e2, _⟩ := iterK_obj h2; exact Heap.lt_size e2
      rw [upd_ne (Nat.ne_of_lt hlt)]
      exact (hf c hcm).1
  done := by
    intro X hP hw hK hc i pins s σ H E I hf st hg
    subst hP hw hK
    obtain ⟨hz, hTI, ⟨x0, y0, hTO⟩, h1, h2⟩ := st
    obtain ⟨xs, ys, hqx, hqy, hend⟩ := hg
    obtain ⟨its, rv, p, _⟩ := sqK_at I hqx
    obtain ⟨its2, rv2, p2, _⟩ := sqK_at I hqy
    have l1 := rv.length
    have l2 := rv2.length
    refine wpAny_pyNext_zipD2_end (zsep D) (drawsK ka (A := X.A.in1) (I.ok.hd hc) i1 a D.l1i1 its.toArray) (drawsK kb (A := X.A.in1) (I.ok.hd hc) i2 b D.l2i2 its2.toArray) hz hTI hTO ⟨h1, p⟩ ⟨h2, p2⟩ (by simp; omega) (by simp; omega) (by simp; omega) fun h' tk hk => ?_
    exact ⟨rfl, I.turnedL (t' := tk) (ch := [z, TI, TO, i1, i2]) (fun c o hb q => hk c o (fun q' => hb (by simp [q'])) (fun q' => hb (by simp [q'])) (fun q' => hb (by simp [q'])) (fun q' => hb (by simp [q'])) q) hf⟩
  self := fun A i s Q E st h => wpAny_pyIter_zip st.1 h
def iZip2 (K : PySem.W.Frag) (ta : TA) : TI := fun σ H R => ta σ H fun vs H1 => ∃ ka kb a b xs ys, vs = [.ref a, .ref b] ∧ SqK K ka H1 a xs ∧ SqK K kb H1 b ys ∧ R (Itz2 K ka kb a b) H1
section
variable {X : Cx} {e e2 : Expr} {pos p tpos : Pos} {elts : List Expr} {kk : Nat} {tl : DA}
theorem pi_zip2 {ta : TA} (hg : Gl X "zip") (hm : X.mg "zip" = none) (ha : PA X [e, e2] ta)
    (hs : starEach [e, e2] X.env = (false, eval e X.env) :: starEach [e2] X.env := by rfl) (hpl : (backTo pos (starEach [e2] X.env)).any (·.1) = false := by rfl) :
    PI X (.Tuple elts kk tpos) (.Call (.Name "zip" p) [e, e2] [] pos) (iZip2 X.K ta) := by
  refine ⟨fun pins s σ H R I h => ?_⟩
  refine Call_ (ld_blt I hg hm PyProof.Rows.boot_zip (PyProof.Rows.callWith_type1 (thn (ha.run pos pins s σ H _ I h) fun us s1 ⟨vs, H1, I1, r1, q1⟩ => ?_) hs hpl))
  obtain ⟨ka, kb, a, b, xs, ys, ex, hqx, hqy, q⟩ := q1
  subst ex
  cases r1 with
  | cons r rr =>
    cases rr with
    | cons r' rr =>
      cases rr
      cases r
      cases r'
      have fresh5 : ∀ c, c ∈ [s1.heap.objs.size + 4, s1.heap.objs.size + 2, s1.heap.objs.size + 3, s1.heap.objs.size, s1.heap.objs.size + 1] → FpOk X pins H1 c := fun c hcm => by
        have e' : c = s1.heap.objs.size + 4 ∨ c = s1.heap.objs.size + 2 ∨ c = s1.heap.objs.size + 3 ∨ c = s1.heap.objs.size ∨ c = s1.heap.objs.size + 1 := by simpa using hcm
        have hle : s1.heap.objs.size ≤ c := by
          rcases e' with z | z | z | z | z
          · rw [z]; exact Nat.le_add_right _ _
          · rw [z]; exact Nat.le_add_right _ _
          · rw [z]; exact Nat.le_add_right _ _
          · rw [z]; exact Nat.le_refl _
          · rw [z]; exact Nat.le_add_right _ _
        exact I1.fpOk hle (I1.hok.fresh hle)
      obtain ⟨its, rv, p1, l1⟩ := sqK_at I1 hqx
      obtain ⟨its2, rv2, p2, l2⟩ := sqK_at I1 hqy
      refine zip_begins2 (beginsK ka a its.toArray) (beginsK kb b its2.toArray) p1 p2 fun h' hz hTI hTO h1 h2 hsz hk => wpAny_pyIter_zip hz ?_
      have I2 : Inv X pins σ H1 { s1 with heap := h' } := I1.kept (t' := s1.toks) hk
      exact ⟨s1.heap.objs.size + 4, [s1.heap.objs.size + 4, s1.heap.objs.size + 2, s1.heap.objs.size + 3, s1.heap.objs.size, s1.heap.objs.size + 1], _, _, H1, rfl, I2, turn_z2 ka kb (PySem.W.ktu_apart s1.heap.objs.size a b l1 l2), ⟨hz, hTI, ⟨_, _, hTO⟩, iterK_new h1, iterK_new h2⟩, fresh5, q⟩
/-- the pairs -/
def pairs : List D → List D → List D
  | x :: xs, y :: ys => .tup [x, y] :: pairs xs ys
  | _, _ => []
theorem pairs_get : ∀ (xs ys : List D) (i : Nat) (x y : D), xs[i]? = some x → ys[i]? = some y → (pairs xs ys)[i]? = some (.tup [x, y])
  | x :: xs, y :: ys, 0, a, b, h1, h2 => by simp at h1 h2; subst h1; subst h2; rfl
  | x :: xs, y :: ys, i + 1, a, b, h1, h2 => pairs_get xs ys i a b h1 h2
  | [], _, _, _, _, h1, _ => by simp at h1
  | _ :: _, [], _, _, _, _, h2 => by simp at h2
theorem pairs_len : ∀ (xs ys : List D), (pairs xs ys).length = min xs.length ys.length
  | [], ys => by simp [pairs]
  | _ :: _, [] => by simp [pairs]
  | x :: xs, y :: ys => by
    show (pairs xs ys).length + 1 = _
    rw [pairs_len xs ys, List.length_cons, List.length_cons]
    omega
@[simp] def iZp (tl : DA) : DA := fun ρ M P => tl ρ M fun ds M1 => ∃ d e xs ys, ds = [d, e] ∧ isSeq d xs ∧ isSeq e ys ∧ P (pairs xs ys) M1
theorem rp_seq {K : PySem.W.Frag} {as : List Addr} {L : Hp} {v : V} {d : D} {ds : List D} (r : Rp K as L v d) (h : isSeq d ds) : ∃ k a xs, v = .ref a ∧ SqK K k L a xs ∧ RpA K as L xs ds := by
  rcases h with rfl | rfl
  · cases r with | lst hs ra => exact ⟨.l, _, _, rfl, hs, ra⟩
  · cases r with | tup hs ra => exact ⟨.t, _, _, rfl, hs, ra⟩
theorem ex_k {K : PySem.W.Frag} {k : Kd} {H H' : Hp} {a : Addr} {xs : List V} (e : Ex H H') (h : SqK K k H a xs) : SqK K k H' a xs := by
  cases k with
  | l => exact ex_l e h
  | t => exact ex_t e h
theorem walks_zip {K : PySem.W.Frag} {as : List Addr} {L0 : Hp} {ka kb : Kd} {a b : Addr} {xs ys : List V} {ds es : List D} (h1 : SqK K ka L0 a xs) (r1 : RpA K as L0 xs ds) (h2 : SqK K kb L0 b ys) (r2 : RpA K as L0 ys es) : Walks K (Itz2 K ka kb a b) as L0 (pairs ds es) := by
  intro L H M e A
  have g1 := ex_k (e.trans A.low) h1
  have g2 := ex_k (e.trans A.low) h2
  refine ⟨fun i hi => ?_, xs, ys, g1, g2, by rw [pairs_len, r1.length, r2.length]⟩
  rw [pairs_len] at hi
  have i1 : i < xs.length := by rw [r1.length]; omega
  have i2 : i < ys.length := by rw [r2.length]; omega
  refine ⟨⟨xs, ys, _, _, g1, g2, List.getElem?_eq_getElem i1, List.getElem?_eq_getElem i2⟩, fun v H' y => ?_⟩
  obtain ⟨T, x, y, rfl, hT, rfl, f1, f2⟩ := y
  obtain ⟨d1, q1, w1⟩ := r1.getV (f1 xs g1)
  obtain ⟨d2, q2, w2⟩ := r2.getV (f2 ys g2)
  have lT := lowfree A hT
  exact ⟨_, upd L T (.tup [x, y]), pairs_get ds es i d1 d2 q1 q2, Step.know A hT, A.know hT, .tup (.inl (.inl upd_same)) (.cons (w1.mono (e.trans (Ex.new lT)) (Pre.refl _)) (.cons (w2.mono (e.trans (Ex.new lT)) (Pre.refl _)) .nil))⟩
theorem pdi_zip (hg : Gl X "zip") (hm : X.mg "zip" = none) (ha : PDA X [e, e2] tl)
    (hs : starEach [e, e2] X.env = (false, eval e X.env) :: starEach [e2] X.env := by rfl) (hpl : (backTo pos (starEach [e2] X.env)).any (·.1) = false := by rfl) : PDI X (.Tuple elts kk tpos) (.Call (.Name "zip" p) [e, e2] [] pos) (iZp tl) := by
  obtain ⟨u, pa, s⟩ := ha.ex
  refine ⟨_, pi_zip2 hg hm pa hs hpl, ?_⟩
  intro as σ ρ L H M P R hE A h q
  refine s as σ ρ L H M _ _ hE A h fun vs ds L1 H1 M1 s1 A1 h1 r1 => ?_
  obtain ⟨d, f, xs, ys, rfl, hd, hf, p⟩ := h1
  cases r1 with
  | cons ra rb =>
    cases rb with
    | cons rb rc =>
      cases rc
      obtain ⟨ka, a, xv, rfl, g1, w1⟩ := rp_seq ra hd
      obtain ⟨kb, b, yv, rfl, g2, w2⟩ := rp_seq rb hf
      exact ⟨ka, kb, a, b, xv, yv, rfl, ex_k A1.low g1, ex_k A1.low g2, q _ _ L1 H1 M1 s1 A1 p (walks_zip g1 w1 g2 w2)⟩
end
@[simp] def oAnyT : DC := fun xs M P => ∃ ns : List Int, xs = [.tup (ns.map D.int)] ∧ P (.bl (ns.any fun n => n != 0)) M
theorem sc_anyT {K : PySem.W.Frag} : SimC K (rAnyT K) oAnyT := by
  intro as L H M xs ds P Q A r ⟨ns, h, p⟩ q
  subst h
  cases r with
  | cons r1 r2 =>
    cases r2
    cases r1 with
    | tup hs ra =>
      have e := ra.ints
      subst e
      exact ⟨_, ns, rfl, ex_t A.low hs, q _ _ L H M .refl A p (.bl _)⟩
end Pd
set_option Elab.async false
set_option linter.all false
set_option maxRecDepth 100000
set_option maxHeartbeats 1000000
namespace Pd
open PySem PySem.Spec PyProof.Rows L2
section
variable {X : Cx} {k n : Nat} {C g : Addr} {fd : FuncData} {ps : List Str} {W : DC}
@[simp] def oOwnI (C : Addr) (W : DC) : D2 := fun x y M P => ∃ fs gs, x = .ins C fs ∧ y = .ins C gs ∧ W [x, y] M P
theorem sp_of {K : PySem.W.Frag} {as : List Addr} {L H : Hp} {M : Ms} {vs : List V} {ds : List D} {P : D → Ms → Prop} {Q : VK} {E : XK} (A : At K as M L H) (r : RpA K as L vs ds) (hn : ds.length = n) (h : W ds M P)
    (q : ∀ v z L' H' M', Step as L H as L' H' → At K as M' L' H' → P z M' → Rp K as L' v z → Q v H') : spD n W K vs H Q E := ⟨by rw [r.length]; exact hn, as, M, L, ds, P, r, A, h, q⟩
@[simp] def oOwnN (C : Addr) (W : DC) : D2 := fun x y M P => ∃ fs i, x = .ins C fs ∧ y = .int i ∧ W [x, y] M P
@[simp] def oOwnU (C : Addr) (W : DC) : D1 := fun x M P => ∃ fs, x = .ins C fs ∧ W [x] M P
@[simp] def oOwnE (K : PySem.W.Frag) (C : Addr) (W : DC) : D2 := fun x y M P => ∃ fs t, x = .ins C fs ∧ DTy K y t ∧ PySem.W.notFirst K C t = true ∧ W [x, y] M P
end
section
variable {X : Cx} {k n : Nat} {C g : Addr} {fd : FuncData} {ps : List Str} {W : DC} {e fe o value : Expr} {es : List Expr} {t tv : DE} {tl : DA} {pos pos' p apos : Pos}
@[simp] def dCallO (C : Addr) (n : Nat) (W : DC) (t : DE) (tl : DA) : DE := fun ρ M P => t ρ M fun x M1 => ∃ fs, x = .ins C fs ∧ tl ρ M1 fun ds M2 => ds.length + 1 = n ∧ W (x :: ds) M2 P
theorem pd_callO (hf : PD X fe t) (c : StX.CallO X.K C g) (F : FnOk X.prog X.w X.K X.mg X.base CX0 k g fd ps (spD n W X.K)) (hb : Binds X.K fd ps []) (hr : Room k X.A) (ha : PDA X (e :: es) tl)
    (ht : eval (.Call fe (e :: es) [] pos) X.env = (do callWith pos (← eval fe X.env) [] (backTo pos (starEach (e :: es) X.env)) (backToKw pos (keywordEach [] X.env))) := by rfl)
    (he : starEach (e :: es) X.env = (false, eval e X.env) :: starEach es X.env := by rfl) (hpl : (backTo pos (starEach es X.env)).any (·.1) = false := by rfl) : PD X (.Call fe (e :: es) [] pos) (dCallO C n W t tl) := by
  obtain ⟨u, pf, sf⟩ := hf.ex
  obtain ⟨ua, pa, sa⟩ := ha.ex
  refine ⟨_, StX.pe_callO pf c (F.raw hb .nil) hr (pass0 (X := X)) pa ht he hpl, ?_⟩
  intro as σ ρ L H M P Q hE A h q
  refine sf as σ ρ L H M _ _ hE A h fun v d L1 H1 M1 s1 A1 h1 r1 => ?_
  obtain ⟨fs, rfl, h1⟩ := h1
  have r0 := r1
  cases r1 with
  | ins g1 _ =>
    refine ⟨_, rfl, sa as σ ρ L1 H1 M1 _ _ (hE.mono s1.k s1.pre) A1 h1 fun vs ds L2 H2 M2 s2 A2 h2 r2 => ⟨.inr ⟨_, _, A2.low _ _ (s2.k _ _ g1)⟩, ?_⟩⟩
    have s12 := s1.trans A1 s2
    have q2 := sp_of (n := n) (W := W) (Q := Q) (E := E0) A2 (RpA.cons (r0.mono s2.k s2.pre) r2) (by rw [List.length_cons]; exact h2.1) h2.2 fun v z L3 H3 M3 s3 A3 h3 r3 => q v z L3 H3 M3 (s12.trans A2 s3) A3 h3 r3
    show spD n W X.K (V.ref _ :: vs ++ []) H2 Q E0
    rw [List.append_nil]
    exact q2
/-- C.m(e, ..), m a staticmethod whose def is at g -/
structure SMet (K : PySem.W.Frag) (C : Addr) (mc : Value) (m : Str) (p g : Addr) : Prop where
  rd : PySem.W.readsIn K C mc = true
  ga : PySem.W.specialIn K (.ref C) "__getattribute__" = some (some (.builtin "type.__getattribute__"))
  at_ : PySem.W.findCls K (.ref C) mc m = some (.get (.builtin "staticmethod.__get__") (.ref p) .none (.ref C))
  rc : ∃ rest, PySem.W.recIn K p "staticmethod" = some (.ref g :: rest)
  kp : PySem.W.keepIn K (.ref g) = true
def tSM (C : Addr) (sp : Sp) (ta : TE) (t : TA) : TE := fun σ H Q => ta σ H fun x H1 => x = .ref C ∧ t σ H1 fun vs H2 => sp vs H2 Q E0
theorem pe_smeth {m : Str} {mc : Value} {q : Addr} {sp : Sp} {ta : TE} {ta' : TA} {pl : Sem Bool} (he : PE X o ta) (c : SMet X.K C mc m q g) (F : FnOk X.prog X.w X.K X.mg X.base CX0 k g fd ps sp) (hb : Binds X.K fd ps []) (hr : Room k X.A) (ha : PA X (e :: es) ta')
    (hst : starEach (e :: es) X.env = (false, eval e X.env) :: starEach es X.env := by rfl) (hpl : (backTo pos (starEach es X.env)).any (·.1) = false := by rfl)
    (ht : eval (.Call (.Attribute o m apos) (e :: es) [] pos) X.env = (do
      let ov ← eval o X.env
      standAt apos.atName
      let (f, first) ← holding [ov] (getMethod ov m pl)
      callWith pos f first (backTo pos (starEach (e :: es) X.env)) (backToKw pos (keywordEach [] X.env))) := by rfl) :
    PE X (.Call (.Attribute o m apos) (e :: es) [] pos) (tSM C sp ta ta') := by
  refine ⟨fun pins s σ H Q I h => ?_⟩
  refine PySem.W.methodCall_KW (pl := pl) (thn (he.run pins s σ H _ I h) fun u s1 ⟨x, H1, I1, rx, ex, q⟩ => ?_) ht
  subst ex
  obtain rfl : u = Value.ref C := rx
  obtain ⟨rest, hp⟩ := c.rc
  refine PySem.W.method_cls I1.kIn c.ga (PySem.W.cls_bind I1.kIn c.rd c.at_ (wpAny_call (PySem.W.sm_get (s := { s1 with toks := s1.toks + 1 }) I1.kIn hp (PySem.W.handed_on rfl ?_))))
  have I2 := I1.tok (s1.toks + 1)
  refine PySem.W.callWith_K (first := []) (h₀ := X.base) I2.ok.mod.kin c.kp (thn (ha.run pos pins _ σ H1 _ I2 q) fun us s2 ⟨vs, H2, I3, r, q2⟩ => ⟨I3.kIn, ?_⟩) hst hpl
  exact run_fn (us := us) (vs := vs) F hr hb .nil (pass0 (X := X)) I3 r (by rw [List.append_nil]; exact q2)
@[simp] def dSM (C : Addr) (n : Nat) (W : DC) (t : DE) (tl : DA) : DE := fun ρ M P => t ρ M fun x M1 => x = .ob C ∧ tl ρ M1 fun ds M2 => ds.length = n ∧ W ds M2 P
theorem pd_smeth {m : Str} {mc : Value} {q : Addr} {pl : Sem Bool} (he : PD X o t) (c : SMet X.K C mc m q g) (F : FnOk X.prog X.w X.K X.mg X.base CX0 k g fd ps (spD n W X.K)) (hb : Binds X.K fd ps []) (hr : Room k X.A) (ha : PDA X (e :: es) tl)
    (hst : starEach (e :: es) X.env = (false, eval e X.env) :: starEach es X.env := by rfl) (hpl : (backTo pos (starEach es X.env)).any (·.1) = false := by rfl)
    (ht : eval (.Call (.Attribute o m apos) (e :: es) [] pos) X.env = (do
      let ov ← eval o X.env
      standAt apos.atName
      let (f, first) ← holding [ov] (getMethod ov m pl)
      callWith pos f first (backTo pos (starEach (e :: es) X.env)) (backToKw pos (keywordEach [] X.env))) := by rfl) :
    PD X (.Call (.Attribute o m apos) (e :: es) [] pos) (dSM C n W t tl) := by
  obtain ⟨u, pf, sf⟩ := he.ex
  obtain ⟨ua, pa, sa⟩ := ha.ex
  refine ⟨_, pe_smeth pf c F hb hr pa hst hpl ht, ?_⟩
  intro as σ ρ L H M P Q hE A h qq
  refine sf as σ ρ L H M _ _ hE A h fun v d L1 H1 M1 s1 A1 h1 r1 => ?_
  obtain ⟨rfl, h1⟩ := h1
  cases r1
  refine ⟨rfl, sa as σ ρ L1 H1 M1 _ _ (hE.mono s1.k s1.pre) A1 h1 fun vs ds L2 H2 M2 s2 A2 h2 r2 => ?_⟩
  exact sp_of A2 r2 h2.1 h2.2 fun v z L3 H3 M3 s3 A3 h3 r3 => qq v z L3 H3 M3 ((s1.trans A1 s2).trans A2 s3) A3 h3 r3
theorem pd_make {f : Addr} {x : Str} (M : Mk X.K C f) (F : FnOk X.prog X.w X.K X.mg X.base CX0 k f fd ps (spD n W X.K)) (hr : Room (k + 1) X.A) (hg : Gl X x) (hm : X.mg x = some (.ref C)) (hb : Binds X.K fd ps [])
    (ha : PDA X (e :: es) tl) (hdb : (x == ("__debug__" : Str)) = false := by decide) (he : starEach (e :: es) X.env = (false, eval e X.env) :: starEach es X.env := by rfl) (hpl : (backTo pos (starEach es X.env)).any (·.1) = false := by rfl) :
    PD X (.Call (.Name x p) (e :: es) [] pos) (dMake C n W tl) := by
  obtain ⟨ua, pa, sa⟩ := ha.ex
  exact ⟨_, pe_make M F hr hg hm hb .nil (pass0 (X := X)) pa hdb he hpl, sim_make sa⟩
def putD (f : Str) (v : D) : List (Str × D) → List (Str × D)
  | [] => [(f, v)]
  | (g, x) :: r => if g = f then (g, v) :: r else (g, x) :: putD f v r
theorem RpF.put {K : PySem.W.Frag} {as : List Addr} {L : Hp} {f : Str} {v : V} {d : D} (r : Rp K as L v d) : ∀ {fs : List (Str × V)} {gs : List (Str × D)}, RpF K as L fs gs → RpF K as L (putF f v fs) (putD f d gs)
  | _, _, .nil => .cons r .nil
  | _, _, .cons (f := g) (v := w) (fs := fs) (d := dd) (gs := gs) q t => by
    show RpF K as L (if g = f then (g, v) :: fs else (g, w) :: putF f v fs) (if g = f then (g, d) :: gs else (g, dd) :: putD f d gs)
    by_cases h : g = f
    · rw [if_pos h, if_pos h]; exact .cons r t
    · rw [if_neg h, if_neg h]; exact .cons q (RpF.put r t)
@[simp] def sFldM (K : PySem.W.Frag) (f : Str) (tv to : DE) : DS := fun De ρ M => tv ρ M fun v M1 => to ρ M1 fun x M2 => ∃ j C gs, x = .mu j ∧ M2[j]? = some (.ins C gs) ∧ Cls K C ∧ NoAttr K C f ∧ gs.length < 1000 ∧ De.nx ρ (M2.set j (.ins C (putD f v gs)))
theorem pds_fldM {f : Str} (hv : PD X value tv) (ho : PD X o t) (hs : swapsWith value (some (.Attribute o f pos')) pos.line X.env = pure false := by rfl) : PDS X (.Assign [.Attribute o f pos'] value pos) (sFldM X.K f tv t) := by
  obtain ⟨u, p1, s1⟩ := hv.ex
  obtain ⟨u2, p2, s2⟩ := ho.ex
  refine ⟨_, ps_fld p2 p1 hs, ?_⟩
  intro as σ ρ L H M De D hE A h c
  refine s1 as σ ρ L H M _ _ hE A h fun v d L1 H1 M1 t1 A1 h1 r1 => ?_
  refine s2 as σ ρ L1 H1 M1 _ _ (hE.mono t1.k t1.pre) A1 h1 fun x d2 L2 H2 M2 t2 A2 h2 r2 => ?_
  obtain ⟨j, C, gs, rfl, hm, hc, hn, hl, p⟩ := h2
  cases r2 with
  | mu hk =>
    obtain ⟨dx, fs, g1, g2⟩ := A2.ins hk hm
    refine ⟨_, C, dx, fs, rfl, g1, hc, hn, by rw [g2.length]; exact hl, ?_⟩
    exact c.nx σ ρ L2 _ _ ((t1.trans A1 t2).trans A2 (Step.put (List.mem_of_getElem? hk))) (A2.put hk (.ins (g2.put (r1.mono t2.k t2.pre)))) (hE.mono (t1.k.trans t2.k) (Pre.refl _)) p
end
end Pd
set_option Elab.async false
set_option linter.all false
set_option maxRecDepth 100000
set_option maxHeartbeats 1000000
namespace Pd
open PySem PySem.Spec PyProof.Rows L2
@[simp] def oCatL : D2 := fun x y M P => ∃ ds es, x = .lst ds ∧ y = .lst es ∧ ds.length + es.length ≤ sizeLine ∧ P (.lst (ds ++ es)) M
@[simp] def oCatT : D2 := fun x y M P => ∃ ds es, x = .tup ds ∧ y = .tup es ∧ ds.length + es.length ≤ sizeLine ∧ P (.tup (ds ++ es)) M
@[simp] def oRepT : D2 := fun x y M P => ∃ (ds : List D) (k : Int), x = .tup ds ∧ y = .int k ∧ ds ≠ [] ∧ 1 ≤ k ∧ k ≤ 1000 ∧ ds.length ≤ 1000 ∧ P (.tup (List.replicate k.toNat ds).flatten) M
theorem RpA.rep {K : PySem.W.Frag} {as : List Addr} {L : Hp} {xs : List V} {ds : List D} (r : RpA K as L xs ds) : ∀ n : Nat, RpA K as L (List.replicate n xs).flatten (List.replicate n ds).flatten
  | 0 => .nil
  | n + 1 => by
    rw [List.replicate_succ, List.replicate_succ, List.flatten_cons, List.flatten_cons]
    exact r.append (RpA.rep r n)
section
variable {X : Cx} {k n : Nat} {C g : Addr} {fd : FuncData} {ps : List Str} {W : DC}
@[simp] def oOwnNe (K : PySem.W.Frag) (C : Addr) (W : DC) : D2 := fun x y M P => ∃ fs t, x = .ins C fs ∧ DTy K y t ∧ PySem.W.notFirst K C t = true ∧ W [x, y] M fun z M' => ∃ b, z = .bl b ∧ P (.bl (!b)) M'
end
end Pd
set_option Elab.async false
set_option linter.all false
set_option maxRecDepth 100000
set_option maxHeartbeats 1000000
namespace Pd
open PySem PySem.Spec PyProof.Rows L2
end Pd
set_option Elab.async false
set_option linter.all false
set_option maxRecDepth 100000
set_option maxHeartbeats 1000000
namespace Pd
open PySem PySem.Spec PyProof.Rows L2
/-- the pairs that a list holds -/
def PairsIn (H : Hp) (ts xs ys : List V) : Prop := ∀ (j : Nat) (t : V), ts[j]? = some t → ∃ T x y, t = .ref T ∧ H T = some (.tup [x, y]) ∧ xs[j]? = some x ∧ ys[j]? = some y
theorem PairsIn.up {H H' : Hp} {ts xs ys : List V} (h : PairsIn H ts xs ys) (k : ∀ c xs, H c = some (.tup xs) → H' c = some (.tup xs)) : PairsIn H' ts xs ys := fun j t e =>
  let ⟨T, x, y, h1, h2, h3, h4⟩ := h j t e
  ⟨T, x, y, h1, k _ _ h2, h3, h4⟩
section
variable {X : Cx} {e e2 : Expr} {pos p pos2 p2 : Pos} {tl : DA}
@[simp] def dZipL (tl : DA) : DE := fun ρ M P => tl ρ M fun ds M1 => ∃ d e xs ys, ds = [d, e] ∧ isSeq d xs ∧ isSeq e ys ∧ P (.lst (pairs xs ys)) M1
theorem RpA.of {K : PySem.W.Frag} {as : List Addr} {L : Hp} : ∀ {vs : List V} {ds : List D}, vs.length = ds.length → (∀ (j : Nat) (v : V) (d : D), vs[j]? = some v → ds[j]? = some d → Rp K as L v d) → RpA K as L vs ds
  | [], [], _, _ => .nil
  | [], _ :: _, h, _ => by simp at h
  | _ :: _, [], h, _ => by simp at h
  | v :: vs, d :: ds, hl, h => .cons (h 0 v d rfl rfl) (RpA.of (by simpa using hl) fun j v' d' e1 e2 => h (j + 1) v' d' (by simpa using e1) (by simpa using e2))
end
end Pd
set_option Elab.async false
set_option linter.all false
set_option maxRecDepth 100000
set_option maxHeartbeats 1000000
namespace Pd
open PySem PySem.Spec PyProof.Rows L2
theorem lc_map {g : DG} {te : DE} {ρ : Rho} {P : D → Ms → Prop} {M : Ms} (f : D → D) : ∀ (ds acc : List D), (∀ d ∈ ds, ∀ R : D → Ms → Prop, R (f d) M → g d ρ fun ρ' => te ρ' M R) → acc.length + ds.length ≤ sizeLine → P (.lst (acc ++ ds.map f)) M → lcRun g dYes te ρ P ds acc M
  | [], acc, _, _, p => by
    show P (.lst acc) M
    simpa using p
  | d :: r, acc, h, hz, p => by
    rw [List.length_cons] at hz
    have := h d List.mem_cons_self (fun y M2 => acc.length < sizeLine ∧ lcRun g dYes te ρ P r (acc ++ [y]) M2) ⟨by omega, lc_map f r (acc ++ [f d]) (fun d' h' => h d' (List.mem_cons_of_mem _ h')) (by rw [List.length_append, List.length_singleton]; omega) (by simpa using p)⟩
    exact this
theorem for_ind {g : DG} {body : DS} {De : DEnds} (I : Nat → Rho → Ms → Prop) (ds : List D) (step : ∀ (k : Nat) (d : D) (ρ : Rho) (M : Ms) (N : Rho → Ms → Prop), ds[k]? = some d → I k ρ M → (∀ ρ2 M2, I (k + 1) ρ2 M2 → N ρ2 M2) → g d ρ fun ρ' => body { De with nx := N, ct := N, bk := De.nx } ρ' M)
    (fin : ∀ ρ M, I ds.length ρ M → De.nx ρ M) {ρ : Rho} {M : Ms} (h : I 0 ρ M) : forRun g body De ds ρ M := by
  have key : ∀ (r : List D) (k : Nat) (ρ : Rho) (M : Ms), ds.drop k = r → k + r.length = ds.length → I k ρ M → forRun g body De r ρ M := by
    intro r
    induction r with
    | nil =>
      intro k ρ M _ hl h
      have e : k = ds.length := by simpa using hl
      subst e
      exact fin ρ M h
    | cons d r ih =>
      intro k ρ M hd hl h
      have hk : ds[k]? = some d := by
        have := congrArg (·[0]?) hd
        simpa using this
      rw [List.length_cons] at hl
      have hr : ds.drop (k + 1) = r := by
        have := congrArg List.tail hd
        simpa using this
      exact step k d ρ M (fun ρ2 M2 => forRun g body De r ρ2 M2) hk h fun ρ2 M2 h2 => ih (k + 1) ρ2 M2 hr (by omega) h2
  exact key ds 0 ρ M (by simp) (by simp) h
abbrev dI (xs : List Int) : List D := xs.map D.int
theorem plain_ints : ∀ xs : List Int, plainA (dI xs) = true
  | [] => rfl
  | x :: xs => by show (true && plainA (dI xs)) = true; rw [plain_ints xs]; rfl
theorem lay_ints : ∀ xs : List Int, PyData.canLayAll0 (toPA (dI xs)) = true
  | [] => rfl
  | x :: xs => by show (true && PyData.canLayAll0 (toPA (dI xs))) = true; rw [lay_ints xs]; rfl
theorem depth_ints : ∀ xs : List Int, PyData.depthAll (toPA (dI xs)) = 0
  | [] => rfl
  | x :: xs => by show max 0 (PyData.depthAll (toPA (dI xs))) = 0; rw [depth_ints xs]; rfl
theorem okD_tup (xs : List Int) : okD (.tup (dI xs)) = true := by
  have h1 : plain (.tup (dI xs)) = true := plain_ints xs
  have h2 : SeqAt.shaped (toP (.tup (dI xs))) = true := by
    show (PyData.canLayAll0 (toPA (dI xs)) && decide (PyData.depthAll (toPA (dI xs)) + 1 ≤ 64)) = true
    rw [lay_ints, depth_ints]
    rfl
  unfold okD
  rw [h1, h2]
  rfl
theorem okD_lst (xs : List Int) : okD (.lst (dI xs)) = true := okD_tup xs
theorem eqA_ints : ∀ xs ys : List Int, PyData.eqvAll (toPA (dI xs)) (toPA (dI ys)) = decide (xs = ys)
  | [], [] => rfl
  | [], _ :: _ => rfl
  | _ :: _, [] => rfl
  | x :: xs, y :: ys => by
    show ((x == y) && PyData.eqvAll (toPA (dI xs)) (toPA (dI ys))) = _
    rw [eqA_ints xs ys, Bool.eq_iff_iff]
    simp
theorem eqD_tup (xs ys : List Int) : eqD (.tup (dI xs)) (.tup (dI ys)) = decide (xs = ys) := eqA_ints xs ys
theorem eqD_int (i j : Int) : eqD (.int i) (.int j) = decide (i = j) := by
  show (i == j) = _
  rw [Bool.eq_iff_iff]; simp
theorem pd_fldK {X : Cx} {K : PySem.W.Frag} {e : Expr} {t : DE} {pos : Pos} {f : Str} (hK : X.K = K) (he : PD X e t) (hb : attributeBase e f X.env (eval e X.env) = eval e X.env := by rfl) : PD X (.Attribute e f pos) (dFld K t f) := hK ▸ pd_fld he hb
section
variable {K : PySem.W.Frag}
@[simp] def oIsB : D2 := fun x y M P => ∃ a b : Bool, x = .bl a ∧ y = .bl b ∧ P (.bl (decide (a = b))) M
@[simp] def oList : DC := fun xs M P => ∃ d ds, xs = [d] ∧ isSeq d ds ∧ P (.lst ds) M
theorem sc_list : SimC K (fun xs H Q => ∃ p ys, xs = [.ref p] ∧ (SqL K H p ys ∨ SqT K H p ys) ∧ ∀ l, H l = none → Q (.ref l) (upd H l (.lst ys))) oList := by
  intro as L H M xs ds P Q A r ⟨d, es, h, hd, p⟩ q
  subst h
  cases r with
  | cons r1 r2 =>
    cases r2
    rcases hd with rfl | rfl
    · cases r1 with
      | lst hs ra => exact ⟨_, _, rfl, .inl (ex_l A.low hs), fun l hl => q _ _ _ _ M (Step.know A hl) (A.know hl) p (.lst (.inl (.inl upd_same)) (ra.mono (Ex.new (lowfree A hl)) (Pre.refl _)))⟩
    · cases r1 with
      | tup hs ra => exact ⟨_, _, rfl, .inr (ex_t A.low hs), fun l hl => q _ _ _ _ M (Step.know A hl) (A.know hl) p (.lst (.inl (.inl upd_same)) (ra.mono (Ex.new (lowfree A hl)) (Pre.refl _)))⟩
end
/-- the changeable objects hold none that stands behind -/
def okM (M : Ms) : Prop := apartM M.length M = true
theorem apartA_ints (k : Nat) : ∀ xs : List Int, apartA k (dI xs) = true
  | [] => rfl
  | x :: xs => by show (true && apartA k (dI xs)) = true; rw [apartA_ints k xs]; rfl
theorem set_last {α : Type} (M : List α) (x y : α) : (M ++ [x]).set M.length y = M ++ [y] := by
  rw [List.set_append_right _ _ (Nat.le_refl _), Nat.sub_self]
  rfl
theorem get_last {α : Type} (M : List α) (x : α) : (M ++ [x])[M.length]? = some x := by
  rw [List.getElem?_append_right (Nat.le_refl _), Nat.sub_self]
  rfl
end Pd
set_option Elab.async false
set_option linter.all false
set_option maxRecDepth 100000
set_option maxHeartbeats 1000000
namespace Pd
open PySem PySem.Spec PyProof.Rows L2
theorem bsplit {b : Bool} {P Q : Prop} (h1 : b = true → P) (h0 : b = false → Q) : if b = true then P else Q := by
  cases b
  · exact h0 rfl
  · exact h1 rfl
abbrev DN := (List D → Ms → Prop) → Rho → Ms → Prop
structure PDN (X : Cx) (sts : List Stmt) (t : DN) : Prop where
  ex : ∃ ts, PSs X sts ts ∧ ∀ as σ ρ L H M P D, En X.K as L σ ρ → At X.K as M L H → t P ρ M →
    (∀ p xs m L' H' M', Step as L H as L' H' → At X.K as M' L' H' → H p = none → L' p = none → H' p = some (.lst xs) → RpA X.K as L' xs m → P m M' → D.rt (.ref p) H') → ts D σ H
theorem Step.free {as : List Addr} {L H L1 H1 : Hp} {K : PySem.W.Frag} {M M1 : Ms} (A : At K as M L H) (s : Step as L H as L1 H1) (A1 : At K as M1 L1 H1) {p : Addr} (h : H1 p = none) : H p = none := by
  by_cases hp : p ∈ as
  · exact absurd h (A1.held hp).2
  · cases q : H p with
    | none => rfl
    | some o => rw [s.up p o hp q] at h; cases h
theorem At.hidden {K : PySem.W.Frag} {as : List Addr} {M : Ms} {L H : Hp} {p : Addr} {o : HO} (A : At K as M L H) (hp : H p = none) : At K as M L (upd H p o) := by
  have lp := lowfree A hp
  refine ⟨fun a u h => ?_, A.len, A.nd, fun k a m e1 e2 => ?_, A.nt⟩
  · rw [upd_ne (fun z => by rw [z, lp] at h; cases h)]; exact A.low a u h
  · obtain ⟨h3, u, h4, h5⟩ := A.mo k a m e1 e2
    exact ⟨h3, u, by rw [upd_ne (ne_of_none h4 hp)]; exact h4, h5.1, h5.2.keep (KeepC.new hp)⟩
theorem Step.hidden {as : List Addr} {L H L1 H1 : Hp} {p : Addr} {o : HO} (s : Step as L H as L1 H1) (hp : H1 p = none) : Step as L H as L1 (upd H1 p o) :=
  ⟨fun a u ha h => by rw [upd_ne (ne_of_none (s.up a u ha h) hp)]; exact s.up a u ha h, s.k, s.hid, s.pre, s.new⟩
section
variable {X : Cx} {st : Stmt} {sts : List Stmt} {s1 : DS} {t : DN} {es : List Expr} {tl : DA} {pos pos' : Pos}
@[simp] def nRet (tl : DA) : DN := fun P ρ M => tl ρ M fun ds M1 => ds.length ≤ sizeLine ∧ P ds M1
theorem pdn_ret (h : PDA X es tl) : PDN X [.Return (some (.List es pos)) pos'] (nRet tl) := by
  obtain ⟨u, p, s⟩ := h.ex
  refine ⟨_, pss_one (ps_ret (pe_lst p)), fun as σ ρ L H M P D hE A h k => ?_⟩
  refine s as σ ρ L H M _ _ hE A h fun vs ds L1 H1 M1 s1 A1 h1 r1 => ⟨by rw [r1.length]; exact h1.1, fun p hp => ?_⟩
  exact k p vs ds L1 _ M1 (s1.hidden hp) (A1.hidden hp) (Step.free A s1 A1 hp) (lowfree A1 hp) upd_same r1 h1.2
@[simp] def nSeq (s : DS) (t : DN) : DN := fun P ρ M => s { nx := fun ρ' M' => t P ρ' M', rt := fun _ _ => False } ρ M
theorem pdn_cons (h1 : PDS X st s1) (h2 : PDN X sts t) : PDN X (st :: sts) (nSeq s1 t) := by
  obtain ⟨u1, p1, q1⟩ := h1.ex
  obtain ⟨u2, p2, q2⟩ := h2.ex
  refine ⟨_, pss_cons p1 p2, fun as σ ρ L H M P D hE A h k => ?_⟩
  refine sim_then (De := { nx := fun _ _ => False, rt := fun _ _ => False }) q1 hE A ⟨fun _ _ _ _ _ _ _ _ z => z.elim, fun _ _ _ _ _ _ _ z => z.elim, fun _ _ _ _ _ _ _ _ z => z.elim, fun _ _ _ _ _ _ _ _ z => z.elim⟩ (nx := fun ρ' M' => t P ρ' M') (fun σ' ρ' L' H' M' s' A' e' h' => ?_) h
  exact q2 as σ' ρ' L' H' M' P D e' A' h' fun p xs m L2 H2 M2 s2 A2 h0 l0 hx r q => k p xs m L2 H2 M2 (s'.trans A' s2) A2 (Step.free A s' A' h0) l0 hx r q
end
section
variable {X : Cx} {a b : Expr} {tl : DA} {pos : Pos}
/-- x, y = a, b -/
@[simp] def sPar (i j : Nat) (tl : DA) : DS := fun De ρ M => tl ρ M fun ds M1 => ∃ d e, ds = [d, e] ∧ De.nx ((ρ.set i (some d)).set j (some e)) M1
end
section
variable {P : Program} {w : World} {K : PySem.W.Frag} {mg : Str → Option Value} {base : Heap}
theorem pd_fnN {x qual : Str} {st : Stmt} {f : Addr} {fd : FuncData} {N ps : List Str} {k : Nat} {W : DCN} (F : Fun K x qual st f fd) (S : FnScope N ps (defScope st))
    (hbody : ∀ (cdv : Value) (A : Around) (outer : List Env) (s : Shared) (H : Hp) (E : XK), Room k (A.deeper (envOfC qual (defScope st) s.heap.objs.size f cdv)) →
      ∃ t, PDN (cxOf CX0 P w K mg base N qual (defScope st) f cdv A outer s H E).nox (defBody st) t ∧ ∀ ds M Q, ds.length = ps.length → W ds M Q → t Q (startD N ds) M) :
    FnOk P w K mg base CX0 (k + 1) f fd ps (spN ps.length W K) := by
  refine F.ok S (fun vs H Q E h => h.1) (fun cdv A outer s H vs Q E hr h => ?_)
  obtain ⟨hl, as, M, L, ds, P', r, A0, hw, q⟩ := h
  obtain ⟨t, ht, hb⟩ := hbody cdv A outer s H E hr
  obtain ⟨ts, pt, st'⟩ := ht.ex
  exact ⟨ts, pt, st' as (L2.start N vs) (startD N ds) L H M P' _ (en_start r) A0 (hb ds M P' (by rw [← r.length]; exact hl) hw) fun p xs m L' H' M' s' A' h0 l0 hx rx hp => q p xs m L' H' M' s' A' h0 l0 hx rx hp⟩
end
end Pd
set_option Elab.async false
set_option linter.all false
set_option maxRecDepth 100000
set_option maxHeartbeats 2000000
namespace Pd
open PySem PySem.Spec PyProof.Rows L2 PySem.HandSPX
/-- a built-in base of own exceptions -/
structure Tail (B newId initId : String) (tl : List Value) : Prop where
  F : ExcBaseFacts B newId initId tl
  S : ∀ self, refuseLoop self "__setattr__" tl = pure ()
  nr : ∀ c r, tl ≠ .ref c :: r
  ne : tl ≠ []
  ob : tl.contains (.type "object") = true
theorem tail_Exception : Tail "Exception" "Exception.__new__" "Exception.__init__" [.type "Exception", .type "BaseException", .type "object"] :=
  ⟨PySem.F.excBase_Exception, fun s => PySem.F.store_Exception.passes s, fun _ _ z => (by cases z), fun z => (by cases z), by decide +kernel⟩
/-- own classes, then the base's mro -/
inductive RefsT (tl : List Value) : List Value → Prop
  | tl : RefsT tl tl
  | ref (c : Addr) {r : List Value} : RefsT tl r → RefsT tl (.ref c :: r)
section
variable {B newId initId : String} {tl : List Value}
theorem RefsT.pass (T : Tail B newId initId tl) (self : Value) : ∀ {l : List Value}, RefsT tl l → refuseLoop self "__setattr__" l = pure ()
  | _, .tl => T.S self
  | _, .ref c h => by rw [refuseLoop_ref]; exact h.pass T self
theorem RefsT.contains (X : String) : ∀ {l : List Value}, RefsT tl l → l.contains (.type X) = tl.contains (.type X)
  | _, .tl => rfl
  | _, .ref c h => by rw [List.contains_cons, h.contains X]; rfl
theorem RefsT.ne (T : Tail B newId initId tl) : ∀ {l : List Value}, RefsT tl l → l.isEmpty = false
  | _, .tl => by
    have := T.ne
    cases tl with
    | nil => exact absurd rfl this
    | cons _ _ => rfl
  | _, .ref c h => rfl
end
section
open PySem.W PySem.Calls Builtin Builtin.ObjectAttr
variable {prog : Program} {w : World} {A : Around} {E : Value → Shared → Prop} {R : Result → Shared → Prop} {hp : Heap} {g : Array GenState} {d : Drawn} {t : Nat} {os : OsState} {B newId initId : String} {tl : List Value}
/-- self.name = v, the first field -/
theorem osaT_new (T : Tail B newId initId tl) {K : W.Frag} {name : Str} {tk : Tok} {v : Value} {x C : Addr} {fv : Array Value} {cd : ClassData}
    (X : K.In hp) (hx : hp.get? x = some { cls := .ref C, data := .fields fv }) (hcd : W.clsIn K C = some cd) (hm : RefsT tl cd.mro) (hh : cd.hasDict = true) (ha : W.findIn K (.ref C) name = some none)
    (hq : ∀ h' tk' dx, (∀ b o, b ≠ x → hp.get? b = some o → h'.get? b = some o) → hp.objs.size ≤ dx → dx ≠ x → h'.get? x = some { cls := .ref C, dict := some dx, data := .fields fv } →
      h'.Ns1 dx (fun y => if y = name then some v else none) → R (.ok (.ret .none)) ⟨h', g, d, tk', os⟩) :
    codeAny (model prog w) A (.call (.builtin "object.__setattr__") ⟨[.ref x, .str name tk, v], []⟩) R ⟨hp, g, d, t, os⟩ := by
  have I : W.InstAt hp x { cls := .ref C, data := .fields fv } C none := ⟨hx, rfl, rfl, trivial⟩
  have SF := PySem.F.store_object
  have ne := hm.ne T
  have hob : cd.mro.contains (.type "object") = true := (hm.contains "object").trans T.ob
  have hxs : x ≠ hp.objs.size := Nat.ne_of_lt (Heap.lt_size hx)
  have sub : W.Looks (model prog w) hp (isInstance (.ref x) (.type "object")) true := I.type.andThen (W.looks_mroIn X (by unfold W.mroIn; rw [hcd, Option.bind_some, if_neg (by rw [ne]; decide), hob]))
  refine codeAny_call_builtin SF.slot.plain SF.entry (@W.check_slot (model prog w) _ _ ⟨hp, g, d, t, os⟩ "object.__setattr__" "object" "__setattr__" (.ref x) [.str name tk, v] [] _ SF.kind SF.split sub (SF.args (.ref x) (.str name tk) v) ?_)
  have hmr : W.Looks (model prog w) hp (mroOf (.ref C)) cd.mro := (W.looks_clsIn X hcd).andThen .now
  have L3 : W.Looks (model prog w) hp (storeTaker? none) none := .now
  have hcls : W.Looks (model prog w) hp (classData C) cd := W.looks_clsIn X hcd
  rw [W.osa_eq, refuse_eq]
  refine wpAny_bind (wpAny_bind (I.type.at (wpAny_bind (hmr.at ?_))))
  rw [hm.pass T]
  refine wpAny_pure (wpAny_bind (I.type.at (wpAny_bind ((W.looks_findIn X ha).at (wpAny_bind (L3.at ?_))))))
  show wpAny _ _ (storeInOwnDict (.ref x) (.ref C) (.str name tk) name v false) _ _ _
  obtain ⟨nm, bs, mro, ns, qn, hd, sn, sb, ab, col, del⟩ := cd
  dsimp only at hh
  subst hh
  unfold storeInOwnDict ownDictForStores
  repeat (first | with_reducible refine store_in_new ?_ ?_ | with_reducible refine wpAny_loadPart_at hx ?_ | with_reducible refine hcls.at ?_ | wp_step)
  · exact ⟨_, #[], _, (Heap.get?_update_ne _ _ _ _ hxs.symm).trans (Heap.get?_push_at rfl rfl), rfl, fun e he => absurd he (by simp), fun _ => rfl⟩
  · intro h' tk' hn' hs
    have hx₁ : (hp.push { cls := .type "dict", data := .dict #[] }).get? x = some { cls := .ref C, data := .fields fv } := Heap.get?_push_of_some _ hx
    refine hq h' tk' hp.objs.size (fun b o hb ho => ?_) (Nat.le_refl _) hxs.symm ?_ hn'
    · exact (hs.2 b (Nat.ne_of_lt (Heap.lt_size ho))).trans ((Heap.get?_update_ne _ _ _ _ hb).trans (Heap.get?_push_of_some _ ho))
    · exact (hs.2 x hxs).trans (Heap.get?_update_self _ hx₁ rfl)
/-- a further field -/
theorem osaT_old (T : Tail B newId initId tl) {K : W.Frag} {name : Str} {tk : Tok} {v : Value} {x C dx : Addr} {fv : Array Value} {cd : ClassData} {m0 : Str → Option Value} {nl : List Str}
    (X : K.In hp) (hx : hp.get? x = some { cls := .ref C, dict := some dx, data := .fields fv }) (hns : hp.Ns1 dx m0) (hw : Within m0 nl) (hz : nl.length ≤ 1000) (hcd : W.clsIn K C = some cd) (hm : RefsT tl cd.mro) (hh : cd.hasDict = true)
    (ha : W.findIn K (.ref C) name = some none)
    (hq : ∀ h' tk', (∀ b o, b ≠ dx → hp.get? b = some o → h'.get? b = some o) → h'.Ns1 dx (fun y => if y = name then some v else m0 y) → R (.ok (.ret .none)) ⟨h', g, d, tk', os⟩) :
    codeAny (model prog w) A (.call (.builtin "object.__setattr__") ⟨[.ref x, .str name tk, v], []⟩) R ⟨hp, g, d, t, os⟩ := by
  obtain ⟨oD, esD, epD, hoD, hdD, _⟩ := hns.count hw
  have I : W.InstAt hp x { cls := .ref C, dict := some dx, data := .fields fv } C (some oD) := ⟨hx, rfl, rfl, hoD⟩
  have SF := PySem.F.store_object
  have ne := hm.ne T
  have hob : cd.mro.contains (.type "object") = true := (hm.contains "object").trans T.ob
  have sub : W.Looks (model prog w) hp (isInstance (.ref x) (.type "object")) true := I.type.andThen (W.looks_mroIn X (by unfold W.mroIn; rw [hcd, Option.bind_some, if_neg (by rw [ne]; decide), hob]))
  refine codeAny_call_builtin SF.slot.plain SF.entry (@W.check_slot (model prog w) _ _ ⟨hp, g, d, t, os⟩ "object.__setattr__" "object" "__setattr__" (.ref x) [.str name tk, v] [] _ SF.kind SF.split sub (SF.args (.ref x) (.str name tk) v) ?_)
  have hmr : W.Looks (model prog w) hp (mroOf (.ref C)) cd.mro := (W.looks_clsIn X hcd).andThen .now
  have L3 : W.Looks (model prog w) hp (storeTaker? none) none := .now
  have hcls : W.Looks (model prog w) hp (classData C) cd := W.looks_clsIn X hcd
  rw [W.osa_eq, refuse_eq]
  refine wpAny_bind (wpAny_bind (I.type.at (wpAny_bind (hmr.at ?_))))
  rw [hm.pass T]
  refine wpAny_pure (wpAny_bind (I.type.at (wpAny_bind ((W.looks_findIn X ha).at (wpAny_bind (L3.at ?_))))))
  show wpAny _ _ (storeInOwnDict (.ref x) (.ref C) (.str name tk) name v false) _ _ _
  obtain ⟨nm, bs, mro, ns, qn, hd, sn, sb, ab, col, del⟩ := cd
  dsimp only at hh
  subst hh
  unfold storeInOwnDict ownDictForStores
  repeat (first | with_reducible refine PySem.OEX.store_in_old hns hw hz ?_ | with_reducible refine wpAny_loadPart_at hx ?_ | with_reducible refine hcls.at ?_ | wp_step)
  intro h' tk' hn' hs
  exact hq h' tk' (fun b o hb ho => (hs.2 b hb).trans ho) hn'
end
/-- what the written part says of an own exception class -/
structure OexT (K : PySem.W.Frag) (newId : String) (tl : List Value) (C : Addr) : Prop where
  cls : ∃ nm q N bs bm sn sub ab col dd k0 k1 k2 k3 k5, K.lookup C = some (excClassObj nm q C N bs bm true sn sub ab col dd k0 k1 k2 k3 k5 newId) ∧ RefsT tl bm
  sa : PySem.W.findIn K (.ref C) "__setattr__" = some (some (.builtin "object.__setattr__"))
  exC : PySem.W.subIn K (.ref C) (.type "BaseException") = some true
  tyC : PySem.W.typeIn K (.ref C) = some (.type "type")
  kC : PySem.W.keepIn K (.ref C) = true
section
variable {X : Cx} {pins : List (Addr × Obj)} {σ : L2.St} {H : Hp} {s : Shared} {a C dx : Addr} {f : Str} {y : V} {u : Value} {fs : List (Str × V)} {Q : Unit → Shared → Prop} {E : Value → Shared → Prop} {A : Around} {B newId initId : String} {tl : List Value}
theorem ostT_new (TT : Tail B newId initId tl) (T : OexT X.K newId tl C) (I : Inv X pins σ H s) (e : H a = some (exo a C none)) (hno : PySem.W.findIn X.K (.ref C) f = some none) (ry : RelV y u)
    (h : ∀ dx s', H dx = none → dx ≠ a → Inv X pins σ (upd (upd H dx (exd dx [(f, y)])) a (exo a C (some dx))) s' → Q () s') : wpAny (model X.prog X.w) A (setAttr (.ref a) f u) Q E s := by
  obtain ⟨nm, q, N, bs, bm, sn, sub, ab, col, dd, k0, k1, k2, k3, k5, hC, hbm⟩ := T.cls
  have hcl : PySem.W.clsIn X.K C = some { name := nm, bases := bs, mro := .ref C :: bm, ns := N, qualname := q, hasDict := true, slotNames := sn, subclasses := sub, abstract := ab, collection := col, hasDel := false } := by unfold PySem.W.clsIn; rw [hC] <;> rfl
  obtain ⟨t1, ho⟩ := exo_at I.hok e
  obtain ⟨hp, g, d, t, os⟩ := s
  refine PySem.W.set_plain I.kIn (ox := { cls := .ref C, dict := none, data := .fields #[.ref t1, .none, .none, .none, .bool false, .none] }) (od := none) ⟨ho, rfl, rfl, trivial⟩ T.sa ?_
  refine osaT_new TT I.kIn ho hcl (show RefsT tl (.ref C :: bm) from .ref C hbm) rfl hno (fun h' tk' dx k dn dne hx hn => ?_)
  have hnd : H dx = none := I.hok.fresh dn
  have nd : ∀ {b : Addr} {o : Obj}, hp.get? b = some o → b ≠ dx := fun {b o} q => Nat.ne_of_lt (Nat.lt_of_lt_of_le (Heap.lt_size q) dn)
  have na : ∀ {b : Addr}, H b = none → b ≠ a := fun {b} n z => by
    rw [z, e] at n
    cases n
  have Un1 : Un X.fs [] H (upd (upd H dx (exd dx [(f, y)])) a (exo a C (some dx))) hp h' := {
    keep := fun b o q n _ _ => k b o (na n) q
    slot := fun b o q n _ _ => ⟨o.slots, k b o (na n) q⟩
    free := fun b o q n _ => by rw [upd_ne (na n), upd_ne (nd q)]; exact n
    there := fun b o q _ => by
      by_cases hb : b = a
      · exact ⟨_, by rw [hb]; exact hx⟩
      · exact ⟨o, k b o hb q⟩
    tups := fun b xs q => by rw [upd_ne (at_ne e q exo_tup), upd_ne (ne_of_none q hnd)]; exact q
    frzs := fun b o v q => by rw [upd_ne (at_ne e q exo_frz), upd_ne (ne_of_none q hnd)]; exact q
    tbls := fun b ps q => ⟨#[], by rw [upd_ne (at_ne e q exo_tbl), upd_ne (ne_of_none q hnd), q]; simp⟩ }
  refine h dx _ hnd dne (I.un (t' := tk') Un1 fun b o q => ?_)
  by_cases hb : b = a
  · subst hb
    rw [upd_same] at q
    cases q
    exact exo_ok hx
  · rw [upd_ne hb] at q
    by_cases hd : b = dx
    · subst hd
      rw [upd_same] at q
      cases q
      exact exd_ok hn (relO_put (fs := []) ry fun g => True.intro)
    · rw [upd_ne hd] at q
      exact (I.hok b o q).stay (fun c v hc z => k c v (by
          rcases hc with hc | hc
          · rw [hc]
            exact hb
          · exact at_ne e hc exo_own) z)
        (fun c hc => by rw [upd_ne (at_ne e hc exo_own), upd_ne (ne_of_none hc hnd)]; exact hc) (fun c xs hc => by rw [upd_ne (at_ne e hc exo_tup), upd_ne (ne_of_none hc hnd)]; exact hc)
theorem ostT_old (TT : Tail B newId initId tl) (T : OexT X.K newId tl C) (I : Inv X pins σ H s) (e : H a = some (exo a C (some dx))) (ed : H dx = some (exd dx fs)) (hl : fs.length ≤ 900) (hno : PySem.W.findIn X.K (.ref C) f = some none) (ry : RelV y u)
    (h : ∀ s', Inv X pins σ (upd H dx (exd dx ((f, y) :: fs))) s' → Q () s') : wpAny (model X.prog X.w) A (setAttr (.ref a) f u) Q E s := by
  obtain ⟨nm, q, N, bs, bm, sn, sub, ab, col, dd, k0, k1, k2, k3, k5, hC, hbm⟩ := T.cls
  have hcl : PySem.W.clsIn X.K C = some { name := nm, bases := bs, mro := .ref C :: bm, ns := N, qualname := q, hasDict := true, slotNames := sn, subclasses := sub, abstract := ab, collection := col, hasDel := false } := by unfold PySem.W.clsIn; rw [hC] <;> rfl
  obtain ⟨t1, ho⟩ := exo_at I.hok e
  obtain ⟨mA, hns, rel⟩ := exd_at I.hok ed
  have hw := within_of rel
  obtain ⟨hp, g, d, t, os⟩ := s
  obtain ⟨oD, _, _, hoD, _, _⟩ := hns.count hw
  refine PySem.W.set_plain I.kIn (ox := { cls := .ref C, dict := some dx, data := .fields #[.ref t1, .none, .none, .none, .bool false, .none] }) (od := some oD) ⟨ho, rfl, rfl, hoD⟩ T.sa ?_
  refine osaT_old TT I.kIn ho hns hw (by rw [List.length_map]; omega) hcl (show RefsT tl (.ref C :: bm) from .ref C hbm) rfl hno (fun h' tk' k hn => ?_)
  have hd : ∃ o, h'.get? dx = some o := by
    obtain ⟨o, _, _, e', _⟩ := hn
    exact ⟨o, e'⟩
  exact h _ (I.write (t' := tk') (x := dx) (e := dx) (o := exd dx ((f, y) :: fs)) (by rw [ed]; exact True.intro) (.inl rfl) k hd (exd_ok hn (relO_put ry rel)))
end
def tOstT (K : PySem.W.Frag) (newId : String) (tl : List Value) (f : Str) (to te : TE) : TS := fun D σ H => te σ H fun y H1 => to σ H1 fun x H2 => ∃ a C : Addr, x = .ref a ∧ OexT K newId tl C ∧ PySem.W.findIn K (.ref C) f = some none ∧
  ((H2 a = some (exo a C none) ∧ ∀ dx, H2 dx = none → dx ≠ a → D.nx σ (upd (upd H2 dx (exd dx [(f, y)])) a (exo a C (some dx)))) ∨
    ∃ (dx : Addr) (fs : List (Str × V)), H2 a = some (exo a C (some dx)) ∧ H2 dx = some (exd dx fs) ∧ fs.length ≤ 900 ∧ D.nx σ (upd H2 dx (exd dx ((f, y) :: fs))))
theorem ps_ostT {X : Cx} {B newId initId : String} {tl : List Value} (TT : Tail B newId initId tl) {o e : Expr} {to te : TE} {f : Str} {p' pos : Pos} (ho : PE X o to) (he : PE X e te) (hs : swapsWith e (some (.Attribute o f p')) pos.line X.env = pure false := by rfl) : PS X (.Assign [.Attribute o f p'] e pos) (tOstT X.K newId tl f to te) := by
  refine ⟨fun pins s σ H D I h => ?_⟩
  refine plainObj_wpAny_Assign_Attribute (thn (he.run pins s σ H _ I h) fun v s1 ⟨y, H1, I1, r1, q1⟩ => thn (ho.run pins s1 σ H1 _ I1 q1) fun u s2 ⟨x, H2, I2, r2, a, C, ex, T, hno, q⟩ => ?_) hs
  subst ex
  obtain rfl : u = Value.ref a := r2
  rcases q with ⟨ea, q⟩ | ⟨dx, fs, ea, ed, hl, q⟩
  · exact ostT_new TT T I2 ea hno r1 fun dx s' n ne J => ⟨σ, _, J, q dx n ne⟩
  · exact ostT_old TT T I2 ea ed hl hno r1 fun s' J => ⟨σ, _, J, q⟩
end Pd
set_option Elab.async false
set_option linter.all false
set_option maxRecDepth 100000
set_option maxHeartbeats 2000000
namespace Pd
open PySem PySem.Spec PyProof.Rows L2 PySem.HandSPX
section
variable {P : Program} {w : World} {K : PySem.W.Frag} {mg : Str → Option Value} {base : Heap} {B newId initId : String} {tl : List Value}
/-- what __init__(self, y): self.f = y promises -/
def spI1 (newId : String) (tl : List Value) (C : Addr) (f : Str) : PySem.W.Frag → Sp := fun K vs H Q _ => vs.length = 2 ∧ ∃ a y, vs = [.ref a, y] ∧ OexT K newId tl C ∧ PySem.W.findIn K (.ref C) f = some none ∧ H a = some (exo a C none) ∧
  ∀ dx, H dx = none → dx ≠ a → Q .non (upd (upd H dx (exd dx [(f, y)])) a (exo a C (some dx)))
theorem fn_init1 {x qual : Str} {st : Stmt} {f : Addr} {fd : FuncData} {N : List Str} {p0 p1 fld : Str} {C : Addr} (F : Fun K x qual st f fd) (S : FnScope N [p0, p1] (defScope st))
    (hbody : ∀ (cdv : Value) (A : Around) (outer : List Env) (s : Shared) (H : Hp) (E : XK), PSs (cxOf CX0 P w K mg base N qual (defScope st) f cdv A outer s H E).nox (defBody st) (tOstT K newId tl fld (tVar 0) (tVar 1))) :
    FnOk P w K mg base CX0 1 f fd [p0, p1] (spI1 newId tl C fld K) := by
  refine F.ok S (fun vs H Q E h => h.1) (fun cdv A outer s H vs Q E hr h => ⟨_, hbody cdv A outer s H E, ?_⟩)
  obtain ⟨_, a, y, rfl, T, hno, ha, q⟩ := h
  exact ⟨y, rfl, .ref a, rfl, a, C, rfl, T, hno, .inl ⟨ha, fun dx h1 h2 => q dx h1 h2⟩⟩
end
theorem At.shown {K : PySem.W.Frag} {as : List Addr} {M : Ms} {L H : Hp} {a : Addr} {o : HO} (A : At K as M L H) (la : L a = none) (na : a ∉ as) (kc : KeepC H (upd H a o)) (ho : ∀ ps, o ≠ .tbl ps) : At K as M (upd L a o) (upd H a o) := by
  refine ⟨fun b u h => ?_, A.len, A.nd, fun k b m e1 e2 => ?_, A.nt.new ho⟩
  · by_cases hb : b = a
    · subst hb; rw [upd_same] at h ⊢; exact h
    · rw [upd_ne hb] at h ⊢; exact A.low b u h
  · obtain ⟨h3, u, h4, h5⟩ := A.mo k b m e1 e2
    have hb : b ≠ a := fun z => na (by rw [← z]; exact List.mem_of_getElem? e1)
    exact ⟨by rw [upd_ne hb]; exact h3, u, by rw [upd_ne hb]; exact h4, h5.1.mono (Ex.new la) (Pre.refl _), h5.2.keep kc⟩
theorem Step.shown {as : List Addr} {L0 H0 L H : Hp} {a : Addr} {o : HO} (s : Step as L0 H0 as L H) (ha : H0 a = none) (la : L a = none) : Step as L0 H0 as (upd L a o) (upd H a o) :=
  ⟨fun b u hb h => by rw [upd_ne (ne_of_none h ha)]; exact s.up b u hb h, fun b u h => by
    have := s.k b u h
    rw [upd_ne (fun z => by rw [z, la] at this; cases this)]; exact this, fun b h h' => by rw [upd_ne (fun z => h' (by rw [z]; exact ha))]; exact s.hid b h h', s.pre, s.new⟩
section
variable {X : Cx} {p pos : Pos}
@[simp] def dExc0 (C : Addr) : DE := fun _ M P => P (.exc C []) M
end
section
variable {X : Cx} {B newId initId : String} {tl : List Value} {e : Expr} {ta : DA} {p pos : Pos}
/-- C(e), the exception keeps e in its field f -/
@[simp] def dExc1 (C : Addr) (f : Str) (ta : DA) : DE := fun ρ M P => ta ρ M fun ds M1 => ∃ y, ds = [y] ∧ P (.exc C [(f, y)]) M1
end
end Pd
set_option Elab.async false
set_option linter.all false
set_option maxRecDepth 100000
set_option maxHeartbeats 2000000
namespace Pd
open PySem PySem.Spec PyProof.Rows L2 PySem.HandSPX
section
variable {X : Cx} {e : Expr} {te : TE} {t : DE} {pos : Pos} {n : Str}
@[simp] def dXg (K : PySem.W.Frag) (t : DE) (n : Str) : DE := fun ρ M P => t ρ M fun x M1 => ∃ C gs v, x = .exc C gs ∧ ExcC K C ∧ PySem.W.findIn K (.ref C) n = some none ∧ gs.lookup n = some v ∧ P v M1
@[simp] def oIsiE (K : PySem.W.Frag) : DC := fun xs M P => ∃ C gs c v u b, xs = [.exc C gs, c] ∧ ExcC K C ∧ DCl c v u ∧ PySem.W.kitOne K (.ref C) u = some b ∧ P (.bl b) M
end
end Pd
set_option Elab.async false
set_option linter.all false
set_option maxRecDepth 100000
set_option maxHeartbeats 2000000
namespace Pd
open PySem PySem.HandSPX
open PySem.Spec PyProof.Rows L2
section
variable {X : Cx} {B newId initId : String} {tl : List Value} {e : Expr} {kws : List Keyword} {tk : TA} {p pos kpos : Pos} {nm : Option Str} {te : DE} {td : DA}
structure PDK (X : Cx) (kws : List Keyword) (t : DA) : Prop where
  ex : ∃ te, PK X kws te ∧ SimA X.K te t
theorem pdk_nil : PDK X [] dNil := ⟨_, pk_nil, fun as σ ρ L H M P Q hE A h q => q [] [] L H M .refl A h .nil⟩
theorem pdk_cons (ha : PD X e te) (hr : PDK X kws td) : PDK X (⟨nm, e, kpos⟩ :: kws) (dCons te td) := by
  obtain ⟨u, p1, s⟩ := ha.ex
  obtain ⟨u2, p2, s'⟩ := hr.ex
  refine ⟨_, pk_cons p1 p2, ?_⟩
  intro as σ ρ L H M P Q hE A h q
  refine s as σ ρ L H M _ _ hE A h fun v d L1 H1 M1 s1 A1 h1 r1 => ?_
  exact s' as σ ρ L1 H1 M1 _ _ (hE.mono s1.k s1.pre) A1 h1 fun vs ds L2 H2 M2 s2 A2 h2 r2 => q _ _ L2 H2 M2 (s1.trans A1 s2) A2 h2 (.cons (r1.mono s2.k s2.pre) r2)
end
end Pd
set_option Elab.async false
set_option linter.all false
set_option maxRecDepth 100000
set_option maxHeartbeats 2000000
namespace Pd
open PySem PySem.Spec PyProof.Rows L2
/-- a def's promise where nothing is being shown -/
structure FnG (P : Program) (w : World) (K : PySem.W.Frag) (mg : Str → Option Value) (base : Heap) (k : Nat) (f : Addr) (fd : FuncData) (ps : List Str) (sp : Sp) : Prop where
  len : ∀ vs H Q E, sp vs H Q E → vs.length = ps.length
  run : ∀ (A : Around) (outer : List Env) (s : Shared) (H : Hp) (args : Args) (us : List Value) (vs : List V) (Q : VK) (E : XK), A.guards = some [] → Room k A → Env0 P w K mg base A outer s H → BindsTo s fd args (ps.zip us) → Vals vs us → sp vs H Q E →
    codeAny (model P w) A (.call (.ref f) args) (CR CX0 outer P w H s Q E) s
theorem FnG.of {P : Program} {w : World} {K : PySem.W.Frag} {mg : Str → Option Value} {base : Heap} {k : Nat} {f : Addr} {fd : FuncData} {ps : List Str} {sp : Sp} (F : FnOk P w K mg base CX0 k f fd ps sp) : FnG P w K mg base k f fd ps sp :=
  ⟨F.len, fun A outer s H args us vs Q E _ hr e0 hb r h => F.run A outer s H args us vs Q E hr e0 hb r h⟩
section
variable {X : Cx} {e : Expr} {es : List Expr} {tl : DA} {pos p : Pos}
theorem pd_callG {k : Nat} {f : Addr} {fd : FuncData} {ps : List Str} {n : Nat} {W : DC} {x : Str} (hgu : X.A.guards = some []) (F : FnG X.prog X.w X.K X.mg X.base k f fd ps (spD n W X.K)) (hr : Room k X.A) (hg : Gl X x) (hm : X.mg x = some (.ref f)) (hk : PySem.W.keepIn X.K (.ref f) = true)
    (hb : Binds X.K fd ps []) (ha : PDA X (e :: es) tl) (hdb : (x == ("__debug__" : Str)) = false := by decide) (he : starEach (e :: es) X.env = (false, eval e X.env) :: starEach es X.env := by rfl) (hpl : (backTo pos (starEach es X.env)).any (·.1) = false := by rfl) :
    PD X (.Call (.Name x p) (e :: es) [] pos) (dCall n W tl) := by
  obtain ⟨u, pa, sa⟩ := ha.ex
  refine ⟨tCall (spD n W X.K) [] E0 u, ⟨fun pins s σ H Q I h => ?_⟩, sim_call sa⟩
  refine wpAny_Call_Name_kw (ld_glob I hg hm ?_ hdb)
  refine PySem.W.callWith_K (h₀ := X.base) I.ok.mod.kin hk (thn (pa.run pos pins s σ H _ I h) fun us s1 ⟨vs, H1, I1, r, q⟩ => ⟨I1.kIn, ?_⟩) he hpl
  have q' : spD n W X.K vs H1 Q E0 := by
    have q2 : spD n W X.K (vs ++ []) H1 Q E0 := q
    rwa [List.append_nil] at q2
  have hl : us.length = ps.length := by rw [← r.length]; exact F.len _ _ _ _ q'
  refine wpAny_call (codeAny_mono (F.run X.A X.stack s1 H1 ⟨us, []⟩ us vs Q E0 hgu hr I1.env0 (by simpa using hb s1 us I1.kIn (by simpa using hl)) r q') fun r s' hq => ?_)
  cases r with
  | error e => exact False.elim hq
  | ok fl =>
    cases fl with
    | ret u => exact I1.after hq
    | next => exact False.elim hq
    | brk => exact False.elim hq
    | cont => exact False.elim hq
end
mutual
/-- data that repr may read -/
def plainR : D → Bool
  | .non => true | .bl _ => true | .int _ => true | .str _ => true
  | .lst ds => plainRA ds | .tup ds => plainRA ds | .dic _ ds => plainRA ds
  | _ => false
def plainRA : List D → Bool
  | [] => true
  | d :: ds => plainR d && plainRA ds
end
section
variable {X : Cx} {pins : List (Addr × Obj)} {σ : L2.St} {H L : Hp} {s : Shared} {as : List Addr}
/-- it is read, and shown -/
def ShO (X : Cx) (h : Heap) (u : Value) (p : PyData) : Prop := (∃ rs, Reads h u p rs) ∧ ∃ bs, ReadAtMost h p.depth bs ∧ ReprK X.prog X.w bs h p.depth u p.shown
def ShA (X : Cx) (h : Heap) (us : List Value) (ps : List PyData) : Prop := (∃ rs, ReadsAll h us ps rs) ∧ ∃ bs, ReadAtMost h (PyData.depthAll ps) bs ∧ ReprAllK X.prog X.w bs h (PyData.depthAll ps) us (PyData.shownAll ps)
theorem ShA.nil {h : Heap} : ShA X h [] [] := ⟨⟨_, .nil⟩, [], (fun _ z => nomatch z), by simp only [PyData.shownAll]; exact .nil⟩
theorem ShA.cons {h : Heap} {u : Value} {us : List Value} {p : PyData} {ps : List PyData} (a : ShO X h u p) (b : ShA X h us ps) : ShA X h (u :: us) (p :: ps) := by
  obtain ⟨⟨r1, e1⟩, b1, m1, k1⟩ := a
  obtain ⟨⟨r2, e2⟩, b2, m2, k2⟩ := b
  refine ⟨⟨_, .cons e1 e2⟩, b1 ++ b2, ?_, ?_⟩
  · show ReadAtMost h (max p.depth (PyData.depthAll ps)) _
    exact (m1.mono (Nat.le_max_left _ _)).append (m2.mono (Nat.le_max_right _ _))
  · show ReprAllK X.prog X.w (b1 ++ b2) h (max p.depth (PyData.depthAll ps)) _ (p.shown :: PyData.shownAll ps)
    have s1 : ∀ b ∈ b1, b ∈ b1 ++ b2 := fun b hb => List.mem_append_left _ hb
    have s2 : ∀ b ∈ b2, b ∈ b1 ++ b2 := fun b hb => List.mem_append_right _ hb
    exact .cons ((k1.more s1).level_le (Nat.le_max_left _ _)) (k2.more_le s2 (Nat.le_max_right _ _))
theorem keyP_sh {h : Heap} {k : Key} {u : Value} (e : (mixKind X.prog X.w).is k u = true) (hs : (keyP k).showable = true) (hz : (keyP k).shown.length ≤ sizeLine) : ShO X h u (keyP k) := by
  rcases keyIs_shape e with ⟨i, t, rfl, rfl⟩ | ⟨x, t, rfl, rfl⟩
  · exact ⟨⟨_, .int i t⟩, [], (fun _ z => nomatch z), .of_is (ReprIs.int t (of_decide_eq_true hs)) _ _ _⟩
  · exact ⟨⟨_, .str x t⟩, [], (fun _ z => nomatch z), .of_is (ReprIs.str x t hz) _ _ _⟩
theorem toPA_len : ∀ ds : List D, (toPA ds).length = ds.length
  | [] => rfl
  | _ :: ds => congrArg (· + 1) (toPA_len ds)
theorem keys_sh {h : Heap} : ∀ {es : List DictEntry} {vs0 : List (Key × Value)}, Pairs (mixKind X.prog X.w) es vs0 → PyData.showableAll (vs0.map fun p => keyP p.1) = true → (∀ t ∈ PyData.shownAll (vs0.map fun p => keyP p.1), t.length ≤ sizeLine) →
    ShA X h (es.map fun e => e.key) (vs0.map fun p => keyP p.1)
  | _, _, .nil, _, _ => .nil
  | _, _, .cons a b c, hs, hz => by
    have hs' := Bool.and_eq_true_iff.mp hs
    exact .cons (keyP_sh a hs'.1 (hz _ List.mem_cons_self)) (keys_sh c hs'.2 fun t ht => hz t (List.mem_cons_of_mem _ ht))
theorem vals_of_pairs : ∀ {es : List DictEntry} {vs0 : List (Key × Value)}, Pairs (mixKind X.prog X.w) es vs0 → es.map (fun e => e.val) = vs0.map fun p => p.2
  | _, _, .nil => rfl
  | _, _, .cons a b c => by rw [List.map_cons, List.map_cons, b, vals_of_pairs c]
theorem kv_keys {ks : List Key} {vs : List V} {vs0 : List (Key × Value)} (hl : ks.length = vs.length) (r : KV (ks.zip vs) vs0) : (vs0.map fun p => p.1) = ks ∧ Vals vs (vs0.map fun p => p.2) := by
  induction ks generalizing vs vs0 with
  | nil =>
    cases vs with
    | nil => cases r; exact ⟨rfl, .nil⟩
    | cons v vs => cases hl
  | cons k ks ih =>
    cases vs with
    | nil => cases hl
    | cons v vs =>
      cases r with
      | cons q t =>
        obtain ⟨h1, h2⟩ := ih (Nat.succ.inj hl) t
        exact ⟨by rw [List.map_cons, h1, ← q.1], .cons q.2 h2⟩
theorem zip_fst : ∀ (ks : List PyData) (ps : List PyData), ks.length = ps.length → (ks.zip ps).map (·.1) = ks
  | [], _, _ => by rw [List.zip_nil_left]; rfl
  | k :: ks, [], h => by cases h
  | k :: ks, p :: ps, h => by rw [List.zip_cons_cons, List.map_cons, zip_fst ks ps (Nat.succ.inj h)]
theorem zip_snd : ∀ (ks : List PyData) (ps : List PyData), ks.length = ps.length → (ks.zip ps).map (·.2) = ps
  | [], [], _ => rfl
  | [], p :: ps, h => by cases h
  | k :: ks, [], h => by cases h
  | k :: ks, p :: ps, h => by rw [List.zip_cons_cons, List.map_cons, zip_snd ks ps (Nat.succ.inj h)]
theorem ShO.lst {h : Heap} {a : Addr} {o : Obj} {n : Nat} {us : List Value} {ps : List PyData} (ho : h.get? a = some o) (hc : o.cls = .type "list") (hd : o.data = .seq us.toArray n) (x : ShA X h us ps) : ShO X h (.ref a) (.list ps) := by
  obtain ⟨⟨rs, r⟩, bs, m, k⟩ := x
  have r' : Reads h (.ref a) (.list ps) (a :: rs) := .list ho hc hd r
  have lt : PyData.depthAll ps < (PyData.list ps).depth := by simp only [PyData.depth]; omega
  refine ⟨⟨_, r'⟩, a :: bs, ReadAtMost.cons r' (Nat.le_of_lt lt) m, ?_⟩
  show ReprK X.prog X.w (a :: bs) h (PyData.depthAll ps + 1) (.ref a) (listText (PyData.shownAll ps))
  cases us with
  | nil =>
    cases r
    have e0 : listText (PyData.shownAll []) = ("[]" : Str) := listText_nil
    rw [e0]
    exact ReprK.listEmpty ho hc hd
  | cons u us => exact ReprK.list ho hc hd (not_mem_of_deeper r' lt m) (by simpa using k.length_eq) fun i y e => k.item i y (by simpa using e)
theorem ShO.tup {h : Heap} {a : Addr} {o : Obj} {n : Nat} {us : List Value} {ps : List PyData} (ho : h.get? a = some o) (hc : o.cls = .type "tuple") (hd : o.data = .seq us.toArray n) (x : ShA X h us ps) : ShO X h (.ref a) (.tuple ps) := by
  obtain ⟨⟨rs, r⟩, bs, m, k⟩ := x
  have r' : Reads h (.ref a) (.tuple ps) rs := .tuple ho hc hd r
  have lt : PyData.depthAll ps < (PyData.tuple ps).depth := by simp only [PyData.depth]; omega
  exact ⟨⟨_, r'⟩, a :: bs, ReadAtMost.cons r' (Nat.le_of_lt lt) m, ReprK.tuple ho hc hd (not_mem_of_deeper r' lt m) k⟩
theorem ShO.dic {h : Heap} {a : Addr} {o : Obj} {es : Array DictEntry} {n : Nat} {kvs : List (PyData × PyData)} (ho : h.get? a = some o) (hc : o.cls = .type "dict") (hd : o.data = .dict es n) (hs : (a == sysModules) = false)
    (x : ShA X h (es.toList.map fun e => e.key) (kvs.map (·.1))) (y : ShA X h (es.toList.map fun e => e.val) (kvs.map (·.2))) : ShO X h (.ref a) (.dict kvs) := by
  obtain ⟨⟨rs, r⟩, bs, m, k⟩ := x
  obtain ⟨⟨rs2, r2⟩, bs2, m2, k2⟩ := y
  have r' : Reads h (.ref a) (.dict kvs) (a :: rs ++ rs2) := .dict ho hc hd r r2
  have lt : PyData.depthKv kvs < (PyData.dict kvs).depth := by simp only [PyData.depth]; omega
  have l1 := PyData.depthAll_keys_le kvs
  have l2 := PyData.depthAll_vals_le kvs
  have mm := (m.mono l1).append (m2.mono l2)
  have s1 : ∀ b ∈ bs, b ∈ bs ++ bs2 := fun b hb => List.mem_append_left _ hb
  have s2 : ∀ b ∈ bs2, b ∈ bs ++ bs2 := fun b hb => List.mem_append_right _ hb
  refine ⟨⟨_, r'⟩, a :: (bs ++ bs2), ReadAtMost.cons r' (Nat.le_of_lt lt) mm, ?_⟩
  show ReprK X.prog X.w (a :: (bs ++ bs2)) h (PyData.depthKv kvs + 1) (.ref a) (dictText (PyData.shownKv kvs))
  rw [PyData.shownKv_eq]
  exact ReprK.dict ho hc hd hs (not_mem_of_deeper r' lt mm) (ReprEntriesK.of_two es.toList _ _ (k.more_le s1 l1) (k2.more_le s2 l2))
mutual
theorem Rp.sh (I : Inv X pins σ H s) (ex : Ex L H) : ∀ (d : D) (v : V) (u : Value), Rp X.K as L v d → plainR d = true → (toP d).showable = true → (toP d).shown.length ≤ sizeLine → RelV v u → ShO X s.heap u (toP d)
  | .non, _, _, h, _, _, _, r => by cases h; cases r; exact ⟨⟨_, .none⟩, [], (fun _ z => nomatch z), .of_is ReprIs.none _ _ _⟩
  | .bl b, _, _, h, _, _, _, r => by cases h; cases r; exact ⟨⟨_, .bool b⟩, [], (fun _ z => nomatch z), .of_is (ReprIs.bool b) _ _ _⟩
  | .int i, _, _, h, _, hs, _, r => by
    cases h
    obtain ⟨t, rfl⟩ := r
    exact ⟨⟨_, .int i t⟩, [], (fun _ z => nomatch z), .of_is (ReprIs.int t (of_decide_eq_true hs)) _ _ _⟩
  | .str x, _, _, h, _, _, hz, r => by
    cases h
    obtain ⟨t, rfl⟩ := r
    exact ⟨⟨_, .str x t⟩, [], (fun _ z => nomatch z), .of_is (ReprIs.str x t hz) _ _ _⟩
  | .lst ds, _, _, h, p, hs, hz, r => by
    cases h with
    | lst h1 ra =>
      cases r
      obtain ⟨its, rv, ⟨o, n, ho, hc, _, hd⟩, _⟩ := I.list (ex_l ex h1)
      exact ShO.lst ho hc hd (RpA.sh I ex ds _ its ra p hs (fun t ht => Nat.le_trans (listText_mem_le ht) hz) rv)
  | .tup ds, _, _, h, p, hs, hz, r => by
    cases h with
    | tup h1 ra =>
      cases r
      obtain ⟨its, rv, ⟨o, ho, hc, n, hd⟩, _⟩ := I.tuple (ex_t ex h1)
      exact ShO.tup ho hc hd (RpA.sh I ex ds _ its ra p hs (fun t ht => Nat.le_trans (tupleText_mem_le ht) hz) rv)
  | .dic ks ds, _, _, h, p, hs, hz, r => by
    cases h with
    | dic h1 hl ra =>
      cases r
      obtain ⟨_, hsys, vs0, kv, o, es, ep, ho, hex, hd, _, hp, _⟩ := dk_rd I.hok (ex_rd ex (.inr h1))
      obtain ⟨e1, rv⟩ := kv_keys hl kv
      have e2 : (vs0.map fun p => keyP p.1) = ks.map keyP := by rw [← e1, List.map_map]; rfl
      have hlen : (ks.map keyP).length = (toPA ds).length := by rw [List.length_map, toPA_len, hl, ra.length]
      have f1 := zip_fst _ _ hlen
      have f2 := zip_snd _ _ hlen
      obtain ⟨s1, s2⟩ := PyData.showableKv_split _ hs
      rw [f1] at s1
      rw [f2] at s2
      have z1 : ∀ t ∈ PyData.shownAll (ks.map keyP), t.length ≤ sizeLine := fun t ht => by
        obtain ⟨q, hq, hl⟩ := PyData.shownKv_key_le ((ks.map keyP).zip (toPA ds)) t (by rw [f1]; exact ht)
        exact Nat.le_trans hl (Nat.le_trans (dictText_mem_le hq) hz)
      have z2 : ∀ t ∈ PyData.shownAll (toPA ds), t.length ≤ sizeLine := fun t ht => by
        obtain ⟨q, hq, hl⟩ := PyData.shownKv_val_le ((ks.map keyP).zip (toPA ds)) t (by rw [f2]; exact ht)
        exact Nat.le_trans hl (Nat.le_trans (dictText_mem_le hq) hz)
      refine ShO.dic ho hex.1 hd hsys ?_ ?_
      · rw [f1, ← e2]
        exact keys_sh hp (by rw [e2]; exact s1) (by rw [e2]; exact z1)
      · rw [f2, vals_of_pairs hp]
        exact RpA.sh I ex ds _ _ ra p s2 z2 rv
theorem RpA.sh (I : Inv X pins σ H s) (ex : Ex L H) : ∀ (ds : List D) (vs : List V) (us : List Value), RpA X.K as L vs ds → plainRA ds = true → PyData.showableAll (toPA ds) = true → (∀ t ∈ PyData.shownAll (toPA ds), t.length ≤ sizeLine) → Vals vs us → ShA X s.heap us (toPA ds)
  | [], _, _, h, _, _, _, r => by cases h; cases r; exact .nil
  | d :: ds, _, _, h, p, hs, hz, r => by
    cases h with
    | cons h1 h2 =>
      cases r with
      | cons r1 r2 =>
        have p' := Bool.and_eq_true_iff.mp p
        have hs' := Bool.and_eq_true_iff.mp hs
        exact .cons (Rp.sh I ex d _ _ h1 p'.1 hs'.1 (hz _ List.mem_cons_self) r1) (RpA.sh I ex ds _ _ h2 p'.2 hs'.2 (fun t ht => hz t (List.mem_cons_of_mem _ ht)) r2)
end
end
def reprD (d : D) : Str := (toP d).shown
/-- data whose repr is told -/
structure Shows (d : D) : Prop where
  pl : plainR d = true
  sh : (toP d).showable = true
  sz : (reprD d).length ≤ sizeLine
  dp : (toP d).depth ≤ 60
section
variable {X : Cx}
def rReprD (K : PySem.W.Frag) : List V → Hp → VK → Prop := fun xs H Q => ∃ x d as L, xs = [x] ∧ Ex L H ∧ Rp K as L x d ∧ Shows d ∧ Q (.str (reprD d)) H
theorem call_repr (hgu : X.A.guards = some []) (hu : X.A.units + 64 < cLine) : CallR X (.builtin "repr") (rReprD X.K) := by
  intro pins s σ H xs us Q I r h
  obtain ⟨x, d, as, L, rfl, ex, rp, sw, q⟩ := h
  obtain ⟨u, rfl, rx⟩ := vals1 r
  have fin : ∀ (h' : Heap) (w1 : Tok) (tk : Nat), (∀ b o, s.heap.get? b = some o → h'.get? b = some o) → EP X pins σ Q (.str (reprD d) w1) { s with heap := h', toks := tk } := fun h' w1 tk hk => ⟨.str (reprD d), H, I.kept (t' := tk) hk, ⟨w1, rfl⟩, q⟩
  have hz : (toP d).shown.length ≤ sizeLine := sw.sz
  have hdp := sw.dp
  have go : ∀ (a : Addr) (T idr : String), u = .ref a → s.TypeIs (.ref a) T → SlotG T "__repr__" idr →
      wpAny (model X.prog X.w) X.A.in1 (call (.builtin idr) [.ref a]) (fun r s₁ => ∃ x t, r = .str x t ∧ EP X pins σ Q r s₁) X.xe s → wpAny (model X.prog X.w) X.A (call (.builtin "repr") [u]) (EP X pins σ Q) X.xe s := by
    intro a T idr e hT hS hc
    subst e
    exact call_repr_slot (by omega) hT hS hc
  have hun : ∀ n : Nat, n < 61 → X.A.in1.units + n < cLine := fun n hn => by show X.A.units + 1 + n < cLine; omega
  cases d with
  | non =>
    cases rp
    cases (show u = Value.none from rx)
    exact PySem.P.repr_of_none ⟨.str _, H, I.tok _, ⟨_, rfl⟩, q⟩
  | bl b =>
    cases rp
    cases (show u = Value.bool b from rx)
    exact PySem.P.repr_of_bool ⟨.str _, H, I.tok _, ⟨_, by cases b <;> rfl⟩, q⟩
  | int i =>
    cases rp
    obtain ⟨t, rfl⟩ := (show ∃ t, u = Value.int i t from rx)
    exact PySem.P.repr_of_int (of_decide_eq_true sw.sh) ⟨.str _, H, I.tok _, ⟨_, rfl⟩, q⟩
  | str y =>
    cases rp
    obtain ⟨t, rfl⟩ := (show ∃ t, u = Value.str y t from rx)
    exact PySem.P.repr_of_str ⟨.str _, H, I.tok _, ⟨_, rfl⟩, q⟩ hz
  | lst ds =>
    cases rp with
    | lst h1 ra =>
      cases rx
      obtain ⟨its, rv, ⟨o, n, ho, hc, _, hd⟩, _⟩ := I.list (ex_l ex h1)
      have x := RpA.sh I ex ds _ its ra sw.pl sw.sh (fun t ht => Nat.le_trans (listText_mem_le ht) hz) rv
      obtain ⟨⟨rs, r1⟩, bs, m, k⟩ := x
      have r' : Reads s.heap (.ref _) (.list (toPA ds)) _ := .list ho hc hd r1
      have lt : PyData.depthAll (toPA ds) < (PyData.list (toPA ds)).depth := by simp only [PyData.depth]; omega
      have hd60 : PyData.depthAll (toPA ds) + 1 ≤ 60 := hdp
      refine go _ "list" "list.__repr__" rfl ⟨o, ho, hc⟩ F.slot_list_repr.toG ?_
      cases its with
      | nil =>
        have eds : toPA ds = [] := by
          clear k m lt hd60 r'
          revert r1
          generalize toPA ds = ps
          intro r1
          cases r1
          rfl
        have er : reprD (.lst ds) = ("[]" : Str) := by show listText (PyData.shownAll (toPA ds)) = _; rw [eds]; exact listText_nil
        refine call_list_repr_empty ⟨o, ho, hc⟩ ho hd ⟨_, _, rfl, ?_⟩
        rw [er] at fin
        exact fin s.heap _ _ fun _ _ e => e
      | cons y its =>
        exact call_list_reprK ho hc hd (not_mem_of_deeper r' lt m) (by simpa using k.length_eq) (fun i y e => k.item i y (by simpa using e)) hgu (fun b _ => Clear.nil b) (hun _ (by omega)) (fun _ _ e => e)
          (fun h' w1 tk hk => ⟨_, _, rfl, fin h' w1 tk hk⟩) hz
  | tup ds =>
    cases rp with
    | tup h1 ra =>
      cases rx
      obtain ⟨its, rv, ⟨o, ho, hc, n, hd⟩, _⟩ := I.tuple (ex_t ex h1)
      have x := RpA.sh I ex ds _ its ra sw.pl sw.sh (fun t ht => Nat.le_trans (tupleText_mem_le ht) hz) rv
      obtain ⟨⟨rs, r1⟩, bs, m, k⟩ := x
      have r' : Reads s.heap (.ref _) (.tuple (toPA ds)) _ := .tuple ho hc hd r1
      have lt : PyData.depthAll (toPA ds) < (PyData.tuple (toPA ds)).depth := by simp only [PyData.depth]; omega
      have hd60 : PyData.depthAll (toPA ds) + 1 ≤ 60 := hdp
      exact go _ "tuple" "tuple.__repr__" rfl ⟨o, ho, hc⟩ F.slot_tuple_repr (call_tuple_reprK ho hc hd (not_mem_of_deeper r' lt m) k hgu (fun b _ => Clear.nil b) (hun _ (by omega)) (fun _ _ e => e)
          (fun h' w1 tk hk => ⟨_, _, rfl, fin h' w1 tk hk⟩) hz)
  | dic ks ds =>
    have x0 := Rp.sh I ex (.dic ks ds) _ _ rp sw.pl sw.sh hz rx
    cases rp with
    | dic h1 hl ra =>
      cases rx
      obtain ⟨_, hsys, vs0, kv, o, es, ep, ho, hex, hd, _, hp, _⟩ := dk_rd I.hok (ex_rd ex (.inr h1))
      obtain ⟨⟨rs, r1⟩, _⟩ := x0
      obtain ⟨e1, rv⟩ := kv_keys hl kv
      have e2 : (vs0.map fun p => keyP p.1) = ks.map keyP := by rw [← e1, List.map_map]; rfl
      have hlen : (ks.map keyP).length = (toPA ds).length := by rw [List.length_map, toPA_len, hl, ra.length]
      have f1 := zip_fst _ _ hlen
      have f2 := zip_snd _ _ hlen
      obtain ⟨s1, s2⟩ := PyData.showableKv_split _ sw.sh
      rw [f1] at s1
      rw [f2] at s2
      have z1 : ∀ t ∈ PyData.shownAll (ks.map keyP), t.length ≤ sizeLine := fun t ht => by
        obtain ⟨q, hq, hl⟩ := PyData.shownKv_key_le ((ks.map keyP).zip (toPA ds)) t (by rw [f1]; exact ht)
        exact Nat.le_trans hl (Nat.le_trans (dictText_mem_le hq) hz)
      have z2 : ∀ t ∈ PyData.shownAll (toPA ds), t.length ≤ sizeLine := fun t ht => by
        obtain ⟨q, hq, hl⟩ := PyData.shownKv_val_le ((ks.map keyP).zip (toPA ds)) t (by rw [f2]; exact ht)
        exact Nat.le_trans hl (Nat.le_trans (dictText_mem_le hq) hz)
      have xk : ShA X s.heap (es.toList.map fun e => e.key) (ks.map keyP) := by
        rw [← e2]
        exact keys_sh hp (by rw [e2]; exact s1) (by rw [e2]; exact z1)
      have xv : ShA X s.heap (es.toList.map fun e => e.val) (toPA ds) := by
        rw [vals_of_pairs hp]
        exact RpA.sh I ex ds _ _ ra sw.pl s2 z2 rv
      obtain ⟨_, b1, m1, k1⟩ := xk
      obtain ⟨_, b2, m2, k2⟩ := xv
      have l1 := PyData.depthAll_keys_le ((ks.map keyP).zip (toPA ds))
      have l2 := PyData.depthAll_vals_le ((ks.map keyP).zip (toPA ds))
      rw [f1] at l1
      rw [f2] at l2
      have lt : PyData.depthKv ((ks.map keyP).zip (toPA ds)) < (toP (.dic ks ds)).depth := by simp only [toP, PyData.depth]; omega
      have mm := (m1.mono l1).append (m2.mono l2)
      have t1 : ∀ b ∈ b1, b ∈ b1 ++ b2 := fun b hb => List.mem_append_left _ hb
      have t2 : ∀ b ∈ b2, b ∈ b1 ++ b2 := fun b hb => List.mem_append_right _ hb
      have hd60 : PyData.depthKv ((ks.map keyP).zip (toPA ds)) + 1 ≤ 60 := hdp
      have et : reprD (.dic ks ds) = dictText (List.zipWith (fun k v : Str => k ++ ": " ++ v) (PyData.shownAll (ks.map keyP)) (PyData.shownAll (toPA ds))) := by
        show dictText (PyData.shownKv _) = _
        rw [PyData.shownKv_eq, f1, f2]
      have hz3 : (reprD (.dic ks ds)).length ≤ sizeLine := hz
      rw [et] at fin hz3
      exact go _ "dict" "dict.__repr__" rfl ⟨o, ho, hex.1⟩ F.slot_dict_repr (call_dict_reprK ho hex.1 hd hsys (not_mem_of_deeper r1 lt mm) (ReprEntriesK.of_two es.toList _ _ (k1.more_le t1 l1) (k2.more_le t2 l2)) hgu (fun b _ => Clear.nil b) (hun _ (by omega)) (fun _ _ e => e)
          (fun h' w1 tk hk => ⟨_, _, rfl, fin h' w1 tk hk⟩) hz3)
  | _ => cases sw.pl
end
@[simp] def oRepr : DC := fun xs M P => ∃ d, xs = [d] ∧ Shows d ∧ P (.str (reprD d)) M
theorem sc_repr {K : PySem.W.Frag} : SimC K (rReprD K) oRepr := by
  intro as L H M xs ds P Q A r ⟨d, h, hs, p⟩ q
  subst h
  cases r with
  | cons r1 r2 =>
    cases r2
    exact ⟨_, d, as, L, rfl, A.low, r1, hs, q _ _ L H M .refl A p (.str _)⟩
end Pd
set_option Elab.async false
set_option linter.all false
set_option maxRecDepth 100000
set_option maxHeartbeats 2000000
namespace Pd
open PySem PySem.Spec PyProof.Rows L2
section
variable {X : Cx} {e b : Expr} {es : List Expr} {pos p tpos lpos : Pos} {elts : List Expr} {kk : Nat} {tl : DA} {tb : DE}
/-- the items with their places -/
def numd : Nat → List D → List D
  | _, [] => []
  | i, d :: ds => .tup [.int (i : Int), d] :: numd (i + 1) ds
theorem numd_len : ∀ (ds : List D) (i : Nat), (numd i ds).length = ds.length
  | [], _ => rfl
  | d :: ds, i => congrArg (· + 1) (numd_len ds (i + 1))
theorem numd_get : ∀ (ds : List D) (i j : Nat) (d : D), ds[j]? = some d → (numd i ds)[j]? = some (.tup [.int ((i + j : Nat) : Int), d])
  | [], _, _, _, h => by simp at h
  | x :: xs, i, 0, d, h => by simp at h; subst h; rfl
  | x :: xs, i, j + 1, d, h => by
    have := numd_get xs (i + 1) j d (by simpa using h)
    rw [show i + 1 + j = i + (j + 1) by omega] at this
    exact this
@[simp] def iEn (tl : DA) : DA := fun ρ M P => tl ρ M fun ds M1 => ∃ xs, ds = [.lst xs] ∧ P (numd 0 xs) M1
/-- [e, ..] * n -/
@[simp] def dRepL (tl : DA) (tb : DE) : DE := fun ρ M P => tl ρ M fun ds M1 => ds.length ≤ sizeLine ∧ tb ρ M1 fun y M2 => ∃ k : Int, y = .int k ∧ -(2 ^ 63) ≤ k ∧ k < 2 ^ 63 ∧ ds.length * k.toNat ≤ sizeLine ∧ P (.lst (List.replicate k.toNat ds).flatten) M2
theorem pd_repL (ha : PDA X es tl) (hb : PD X b tb) : PD X (.BinOp (.List es lpos) .Mult b pos) (dRepL tl tb) := by
  obtain ⟨u, pa, s⟩ := ha.ex
  obtain ⟨u2, pb, s'⟩ := hb.ex
  refine ⟨_, pe_op op_rep (pe_lst pa) pb, ?_⟩
  intro as σ ρ L H M P Q hE A h q
  refine s as σ ρ L H M _ _ hE A h fun vs ds L1 H1 M1 s1 A1 h1 r1 => ⟨by rw [r1.length]; exact h1.1, fun pp hp => ?_⟩
  have s2 := Step.know (o := .lst vs) A1 hp
  have A2 := A1.know (o := .lst vs) hp
  refine s' as σ ρ _ _ M1 _ _ (hE.mono (s1.k.trans s2.k) (Pre.refl _)) A2 h1.2 fun y d L3 H3 M3 s3 A3 h3 r3 => ?_
  obtain ⟨k, rfl, k1, k2, k3, hP⟩ := h3
  cases r3
  have hl : H3 pp = some (.lst vs) := A3.low _ _ (s3.k _ _ upd_same)
  refine ⟨pp, k, vs, rfl, rfl, hl, k1, k2, by rw [r1.length]; exact k3, fun p' hp' => ?_⟩
  have s123 := (s1.trans A1 s2).trans A2 s3
  exact q _ _ _ _ M3 (s123.trans A3 (Step.know A3 hp')) (A3.know hp') hP (.lst (.inl (.inl upd_same)) (((r1.mono (s2.k.trans s3.k) (Pre.refl _)).rep _).mono (Ex.new (lowfree A3 hp')) (Pre.refl _)))
end
end Pd
set_option Elab.async false
set_option linter.all false
set_option maxRecDepth 100000
set_option maxHeartbeats 2000000
namespace Pd
open PySem PySem.Spec PyProof.Rows L2
theorem strOk_of (s : String) : PyData.strOk (Str.ofString s) = true := by
  rw [Str.ofString_eq_toList]
  unfold PyData.strOk
  rw [Array.all_eq_true']
  intro x hx
  simp only [List.mem_toArray, List.mem_map] at hx
  obtain ⟨c, _, rfl⟩ := hx
  have := c.valid
  simp only [decide_eq_true_eq]
  rcases this with h | ⟨_, h⟩
  · exact Nat.lt_of_lt_of_le h (by decide)
  · exact h
end Pd
set_option Elab.async false
set_option linter.all false
set_option maxRecDepth 100000
set_option maxHeartbeats 2000000
namespace Pd
open PySem PySem.Spec PyProof.Rows L2 PySem.HandSPX
def cutD (xs : List D) (lo hi : Option Int) : List D := (xs.drop (HT.sIx xs.length 0 lo)).take (HT.sIx xs.length xs.length hi - HT.sIx xs.length 0 lo)
abbrev DO := Rho → Ms → (Option Int → Ms → Prop) → Prop
def SimO (K : PySem.W.Frag) (u : TO) (t : DO) : Prop := ∀ as σ ρ L H M P Q, En K as L σ ρ → At K as M L H → t ρ M P →
  (∀ o L' H' M', Step as L H as L' H' → At K as M' L' H' → P o M' → Q o H') → u σ H Q
structure PDO (X : Cx) (e : Option Expr) (t : DO) : Prop where
  ex : ∃ u, PO X e u ∧ SimO X.K u t
@[simp] def oNo : DO := fun _ M P => P none M
@[simp] def oSome (t : DE) : DO := fun ρ M P => t ρ M fun x M1 => ∃ i, x = .int i ∧ P (some i) M1
section
variable {X : Cx} {K : PySem.W.Frag} {e : Expr} {t : DE} {lo hi : Option Expr} {tl tu : DO} {pos p2 : Pos}
theorem RpA.dropN {as : List Addr} {L : Hp} : ∀ (n : Nat) {vs : List V} {ds : List D}, RpA K as L vs ds → RpA K as L (vs.drop n) (ds.drop n)
  | 0, _, _, h => h
  | n + 1, _, _, .nil => .nil
  | n + 1, _, _, .cons _ t => RpA.dropN n t
theorem RpA.takeN {as : List Addr} {L : Hp} : ∀ (n : Nat) {vs : List V} {ds : List D}, RpA K as L vs ds → RpA K as L (vs.take n) (ds.take n)
  | 0, _, _, _ => .nil
  | n + 1, _, _, .nil => .nil
  | n + 1, _, _, .cons r t => .cons r (RpA.takeN n t)
theorem RpA.slice {as : List Addr} {L : Hp} {vs : List V} {ds : List D} (r : RpA K as L vs ds) (lo hi : Option Int) : RpA K as L (cutV vs lo hi) (cutD ds lo hi) := by
  unfold cutV cutD
  rw [r.length]
  exact RpA.takeN _ (RpA.dropN _ r)
theorem pdo_no : PDO X none oNo := ⟨_, po_none, fun as σ ρ L H M P Q hE A h q => q _ L H M .refl A h⟩
theorem pdo_some (h : PD X e t) : PDO X (some e) (oSome t) := by
  obtain ⟨u, p, s⟩ := h.ex
  refine ⟨_, po_some p, ?_⟩
  intro as σ ρ L H M P Q hE A h q
  refine s as σ ρ L H M _ _ hE A h fun v d L1 H1 M1 s1 A1 h1 r1 => ?_
  obtain ⟨i, rfl, h1⟩ := h1
  cases r1
  exact ⟨i, rfl, q _ L1 H1 M1 s1 A1 h1⟩
/-- xs[lo:hi] of a list -/
@[simp] def dSlL (t : DE) (tl tu : DO) : DE := fun ρ M P => t ρ M fun d M1 => ∃ ds, d = .lst ds ∧ tl ρ M1 fun l M2 => tu ρ M2 fun u M3 => P (.lst (cutD ds l u)) M3
/-- t[lo:hi] of a tuple, not the whole of it -/
@[simp] def dSlT (t : DE) (tl tu : DO) : DE := fun ρ M P => t ρ M fun d M1 => ∃ ds, d = .tup ds ∧ tl ρ M1 fun l M2 => tu ρ M2 fun u M3 => ¬ (HT.sIx ds.length 0 l = 0 ∧ HT.sIx ds.length ds.length u = ds.length) ∧ P (.tup (cutD ds l u)) M3
end
def keyD : Key → D
  | .inl i => .int i
  | .inr x => .str x
abbrev DPr := Rho → Ms → (List (Key × D) → Ms → Prop) → Prop
@[simp] def pNil : DPr := fun _ M P => P [] M
@[simp] def pCons (tk tv : DE) (r : DPr) : DPr := fun ρ M P => tk ρ M fun k M1 => ∃ key, k = keyD key ∧ tv ρ M1 fun v M2 => r ρ M2 fun ps M3 => P ((key, v) :: ps) M3
section
variable {X : Cx} {K : PySem.W.Frag} {k v : Expr} {ks : List (Option Expr)} {vs : List Expr} {tk tv : DE} {r : DPr} {pos : Pos}
/-- what is known of a dict is that it stays as it is -/
def tFrzK (te : TE) : TE := fun σ H Q => te σ H fun v H1 => ∃ d kvs, v = .ref d ∧ H1 d = some (.dK kvs) ∧ ∀ o, Q v (upd H1 d (.frz o (.dK kvs)))
theorem pe_frzK {X : Cx} {e : Expr} {te : TE} (h : PE X e te) : PE X e (tFrzK te) := by
  refine ⟨fun pins s σ H Q I hw => ?_⟩
  refine thn (h.run pins s σ H _ I hw) fun v s1 ⟨x, H1, I1, rx, d, kvs, ex, hd, q⟩ => ?_
  subst ex
  obtain ⟨od, I2⟩ := I1.lock hd trivial
  exact ⟨_, _, I2, rx, q od⟩
@[simp] def dDic (r : DPr) : DE := fun ρ M P => r ρ M fun kvs M1 => (kvs.map (·.1)).Nodup ∧ kvs.length ≤ 15 ∧ P (.dic (kvs.map (·.1)) (kvs.map (·.2))) M1
@[simp] def dDic0 : DE := fun _ M P => P (.dic [] []) M
end
section
variable {X : Cx}
/-- the second argument: a tuple of classes -/
inductive DCls : List D → List Value → Prop
  | nil : DCls [] []
  | cons {d : D} {v : V} {u : Value} {ds : List D} {us : List Value} : DCl d v u → DCls ds us → DCls (d :: ds) (u :: us)
variable {e : Expr} {es : List Expr} {te : DE} {tl : DA} {p tp pos : Pos} {k : Nat}
/-- isinstance(e, (T1, ..)), e an exception that keeps something -/
@[simp] def dIsiTE (K : PySem.W.Frag) (te : DE) (tl : DA) : DE := fun ρ M P => te ρ M fun x M1 => ∃ C g gs, x = .exc C (g :: gs) ∧ ExcC K C ∧ tl ρ M1 fun cs M2 => cs.length ≤ sizeLine ∧ ∃ us b, DCls cs us ∧ PySem.W.kitAny K (.ref C) us = some b ∧ P (.bl b) M2
end
section
variable {X : Cx} {B newId initId : String} {tl : List Value} {e e2 : Expr} {ta td : DA} {p pos : Pos}
/-- C(e, e2), the exception keeps both -/
@[simp] def dExc2 (C : Addr) (f g : Str) (ta : DA) : DE := fun ρ M P => ta ρ M fun ds M1 => ∃ y z, ds = [y, z] ∧ P (.exc C [(g, z), (f, y)]) M1
/-- C(g = e, f = e2), the names the other way round -/
@[simp] def dExc2R (C : Addr) (f g : Str) (ta : DA) : DE := fun ρ M P => ta ρ M fun ds M1 => ∃ y z, ds = [z, y] ∧ P (.exc C [(g, z), (f, y)]) M1
end
end Pd
set_option Elab.async false
set_option linter.all false
set_option maxRecDepth 100000
set_option maxHeartbeats 2000000
namespace Pd
open PySem PySem.Spec PyProof.Rows L2 PySem.HandSPX
/-- what is asked where C(e, ..) is made to be raised -/
def tMkR (C : Addr) (sp : Sp) (ta : TA) : L2.St → Hp → XK → Prop := fun σ H Q => ta σ H fun vs H1 => vs.length ≤ 1000 ∧ ∀ a, H1 a = none → sp (.ref a :: vs) (upd H1 a (exo a C none))
  (fun v H2 => v = .non ∧ ∃ (d : Addr) (fs : List (Str × V)), H2 a = some (exo a C (some d)) ∧ H2 d = some (exd d fs) ∧ H1 d = none ∧ Q (.ref C) (some d) (upd (del H2 a) d (.xd fs))) E0
section
variable {X : Cx} {B newId initId : String} {tl : List Value} {e : Expr} {es : List Expr} {ta : TA} {p pos : Pos}
theorem pmk_exT (TT : Tail B newId initId tl) {x : Str} {C fI : Addr} {k : Nat} {fd : FuncData} {ps : List Str} {sp : Sp} (T : OexT X.K newId tl C) (iC : PySem.W.findIn X.K (.ref C) "__init__" = some (some (.ref fI))) (tI : PySem.W.typeIn X.K (.ref fI) = some (.type "function"))
    (F1 : FnOk X.prog X.w X.K X.mg X.base CX0 k fI fd ps sp) (hr : Room (k + 1) X.A) (hb : Binds X.K fd ps []) (hg : Gl X x) (hm : X.mg x = some (.ref C)) (ha : PA X (e :: es) ta)
    (hdb : (x == ("__debug__" : Str)) = false := by decide) (he : starEach (e :: es) X.env = (false, eval e X.env) :: starEach es X.env := by rfl) (hpl : (backTo pos (starEach es X.env)).any (·.1) = false := by rfl) :
    PMk X (.Call (.Name x p) (e :: es) [] pos) (tMkR C sp ta) := by
  intro pins st σ H Q I hask
  obtain ⟨nm, q, N, bs, bm, sn, sub, ab, col, dd, k0, k1, k2, k3, k5, hC, hbm⟩ := T.cls
  refine wpAny_Call_Name_kw (ld_glob I hg hm ?_ hdb)
  refine PySem.W.callWith_K (h₀ := X.base) I.ok.mod.kin T.kC (thn (ha.run pos pins st σ H _ I hask) fun ws s1 ⟨vs, H1, I1, r1, hz, q1⟩ => ⟨I1.kIn, ?_⟩) he hpl
  show wpAny _ _ (call (.ref C) ws) _ _ _
  obtain ⟨hp, gg, dr, tk, os⟩ := s1
  generalize hA : hp.objs.size + 1 = A1
  have size1 : hp.objs.size ≤ A1 := by omega
  have free1 : H1 A1 = none := I1.hok.fresh size1
  have ask1 := q1 A1 free1
  have stay1 : ∀ b o, hp.get? b = some o → ((hp.push (PySem.W.kdv_tup ws)).push (excO C hp.objs.size)).get? b = some o := fun b o z => Heap.get?_push_of_some _ (Heap.get?_push_of_some _ z)
  have made1 : ((hp.push (PySem.W.kdv_tup ws)).push (excO C hp.objs.size)).get? A1 = some (excO C hp.objs.size) := by subst hA; heap_get
  have I2 := I1.laid (t' := tk) (a := A1) (o := exo A1 C none) stay1 size1 (exo_ok made1)
  have r2 : Vals (V.ref A1 :: vs) (Value.ref A1 :: ws) := .cons rfl r1
  have len2 : (Value.ref A1 :: ws).length = ps.length := r2.length.symm.trans (F1.len _ _ _ _ ask1)
  have len3 : ws.length ≤ sizeLine := by
    rw [← r1.length, sizeLine_eq]
    omega
  subst hA
  refine wpAny_call (call_own TT.F (fun Y => hbm.contains Y) (I1.kIn _ _ hC) (PySem.W.looks_findIn I1.kIn iC) (fun self => PySem.W.bind_fn I1.kIn self tI) len3
    (codeAny_mono (F1.run _ X.stack _ _ ⟨Value.ref (hp.objs.size + 1) :: ws, []⟩ (Value.ref (hp.objs.size + 1) :: ws) _ _ E0 (hr.make C ws []) (I2.env0.make C ws []) (by simpa using hb _ (Value.ref (hp.objs.size + 1) :: ws) I2.kIn (by simpa using len2)) r2 ask1) fun r s' hq' => ?_))
  match r, hq' with
  | .error _, z => exact (show False from z).elim
  | .ok .next, z => exact (show False from z).elim
  | .ok .brk, z => exact (show False from z).elim
  | .ok .cont, z => exact (show False from z).elim
  | .ok (.ret u), z =>
    obtain ⟨v, H2, os2, bare2, un2, hok2, rv, ev, d, fs, ea, ed, hd1, q2⟩ := z
    subst ev
    obtain ⟨h2, g2, d2, t2, os'⟩ := s'
    exact ⟨rv, mk_end (raises_own T.exC T.tyC) I1 size1 stay1 un2 hok2 os2 bare2 ea ed hd1 q2⟩
end
abbrev XD := Addr → List (Str × D) → Ms → Prop
def XC (K : PySem.W.Frag) (as : List Addr) (L H : Hp) (Xd : XD) (E : XK) : Prop := ∀ (C : Addr) (gs : List (Str × D)) (dx : Addr) (fs : List (Str × V)) (L' H' : Hp) (M' : Ms), Step as L H as L' H' → At K as M' L' H' → Xd C gs M' → L' dx = some (.xd fs) → RpF K as L' fs gs → E (.ref C) (some dx) H'
theorem XC.step {K : PySem.W.Frag} {as : List Addr} {L H L1 H1 : Hp} {M1 : Ms} {Xd : XD} {E : XK} (s : Step as L H as L1 H1) (A1 : At K as M1 L1 H1) (h : XC K as L H Xd E) : XC K as L1 H1 Xd E :=
  fun C gs dx fs L' H' M' s' A' x e r => h C gs dx fs L' H' M' (s.trans A1 s') A' x e r
def xNo : XD := fun _ _ _ => False
theorem XC.no {K : PySem.W.Frag} {as : List Addr} {L H : Hp} {E : XK} : XC K as L H xNo E := fun _ _ _ _ _ _ _ _ _ x => x.elim
/-- an expression whose last step may raise -/
abbrev DX := Rho → Ms → (D → Ms → Prop) → XD → Prop
def SimEX (K : PySem.W.Frag) (E : XK) (te : TE) (t : DX) : Prop := ∀ as σ ρ L H M P Xd Q, En K as L σ ρ → At K as M L H → t ρ M P Xd →
  (∀ v d L' H' M', Step as L H as L' H' → At K as M' L' H' → P d M' → Rp K as L' v d → Q v H') → XC K as L H Xd E → te σ H Q
structure PDX (X : Cx) (E : XK) (e : Expr) (t : DX) : Prop where
  ex : ∃ te, PE X e te ∧ SimEX X.K E te t
abbrev SX := DEnds → XD → Rho → Ms → Prop
def SimSX (K : PySem.W.Frag) (E : XK) (ts : TS) (t : SX) : Prop := ∀ as σ ρ L H M De Xd D, En K as L σ ρ → At K as M L H → t De Xd ρ M → Comp K as L H De D → XC K as L H Xd E → ts D σ H
structure PDSX (X : Cx) (E : XK) (st : Stmt) (t : SX) : Prop where
  ex : ∃ ts, PS X st ts ∧ SimSX X.K E ts t
structure PDSsX (X : Cx) (E : XK) (st : List Stmt) (t : SX) : Prop where
  ex : ∃ ts, PSs X st ts ∧ SimSX X.K E ts t
section
variable {X : Cx} {E : XK} {e : Expr} {es : List Expr} {t : DE} {tl : DA} {tx : DX} {tA : DT} {st : Stmt} {sts : List Stmt} {s1 s2 : SX} {s0 : DS} {pos p : Pos}
@[simp] def xOf (t : DE) : DX := fun ρ M P _ => t ρ M P
@[simp] def zOf (t : DS) : SX := fun De _ ρ M => t De ρ M
theorem pdx_of (h : PD X e t) : PDX X E e (xOf t) := by
  obtain ⟨u, p, s⟩ := h.ex
  exact ⟨u, p, fun as σ ρ L H M P Xd Q hE A h q _ => s as σ ρ L H M P Q hE A h q⟩
theorem pdssx_of (h : PDSs X sts s0) : PDSsX X E sts (zOf s0) := by
  obtain ⟨u, p, s⟩ := h.ex
  exact ⟨u, p, fun as σ ρ L H M De Xd D hE A h c _ => s as σ ρ L H M De D hE A h c⟩
theorem pdssx_nil : PDSsX X E [] (zOf sNext) := pdssx_of pdss_nil
@[simp] def zSeq (t u : SX) : SX := fun De Xd ρ M => t { De with nx := fun ρ' M' => u De Xd ρ' M' } Xd ρ M
theorem pdssx_cons (h1 : PDSX X E st s1) (h2 : PDSsX X E sts s2) : PDSsX X E (st :: sts) (zSeq s1 s2) := by
  obtain ⟨u, p, s⟩ := h1.ex
  obtain ⟨u', p', s'⟩ := h2.ex
  refine ⟨_, pss_cons p p', ?_⟩
  intro as σ ρ L H M De Xd D hE A h c x
  refine s as σ ρ L H M _ Xd _ hE A h ⟨fun σ1 ρ1 L1 H1 M1 st1 A1 e1 q1 => ?_, c.rt, c.bk, c.ct⟩ x
  exact s' as σ1 ρ1 L1 H1 M1 De Xd D e1 A1 q1 (c.step st1 A1) (x.step st1 A1)
theorem pdssx_one (h1 : PDSX X E st s1) : PDSsX X E [st] s1 := by
  obtain ⟨u, p, s⟩ := h1.ex
  exact ⟨_, pss_one p, s⟩
@[simp] def zIf (c : DT) (t u : SX) : SX := fun D Xd ρ M => c ρ M fun b M1 => if b = true then t D Xd ρ M1 else u D Xd ρ M1
theorem pdsx_if {a b : List Stmt} (hc : PDT X c tA) (ha : PDSsX X E a s1) (hb : PDSsX X E b s2) : PDSX X E (.If c a b pos) (zIf tA s1 s2) := by
  obtain ⟨u, p, s⟩ := hc.ex
  obtain ⟨u1, p1, z1⟩ := ha.ex
  obtain ⟨u2, p2, z2⟩ := hb.ex
  refine ⟨_, ps_if p p1 p2, ?_⟩
  intro as σ ρ L H M De Xd D hE A h c x
  refine s as σ ρ L H M _ _ hE A h fun k L1 H1 M1 st A1 h1 => ?_
  have eE := hE.mono st.k st.pre
  cases k with
  | true => exact (if_pos rfl : (if true = true then u1 D σ H1 else u2 D σ H1) = _) ▸ z1 as σ ρ L1 H1 M1 De Xd D eE A1 h1 (c.step st A1) (x.step st A1)
  | false => exact (if_neg Bool.false_ne_true : (if false = true then u1 D σ H1 else u2 D σ H1) = _) ▸ z2 as σ ρ L1 H1 M1 De Xd D eE A1 h1 (c.step st A1) (x.step st A1)
@[simp] def zRet (t : DX) : SX := fun D Xd ρ M => t ρ M D.rt Xd
theorem pdsx_ret (he : PDX X E e tx) : PDSX X E (.Return (some e) pos) (zRet tx) := by
  obtain ⟨u, p, s⟩ := he.ex
  exact ⟨_, ps_ret p, fun as σ ρ L H M De Xd D hE A h c x => s as σ ρ L H M _ Xd _ hE A h (fun v d L1 H1 M1 st A1 q r => c.rt v d L1 H1 M1 st A1 q r) x⟩
@[simp] def zDrop (t : DX) : SX := fun D Xd ρ M => t ρ M (fun _ M1 => D.nx ρ M1) Xd
theorem pdsx_expr (he : PDX X E e tx) (hs : swapsWith e none pos.line X.env = pure false := by rfl) : PDSX X E (.Expr e pos) (zDrop tx) := by
  obtain ⟨u, p, s⟩ := he.ex
  exact ⟨_, ps_expr p hs, fun as σ ρ L H M De Xd D hE A h c x => s as σ ρ L H M _ Xd _ hE A h (fun v d L1 H1 M1 st A1 q _ => c.nx σ ρ L1 H1 M1 st A1 (hE.mono st.k st.pre) q) x⟩
@[simp] def zAsg (t : DX) (g : DG) : SX := fun D Xd ρ M => t ρ M (fun d M1 => g d ρ fun ρ' => D.nx ρ' M1) Xd
@[simp] def zRaise1 (C : Addr) (f : Str) (tl : DA) : SX := fun _ Xd ρ M => tl ρ M fun ds M1 => ∃ y, ds = [y] ∧ Xd C [(f, y)] M1
theorem pdsx_raise {B newId initId : String} {tlv : List Value} (TT : Tail B newId initId tlv) {x : Str} {C fI : Addr} {k : Nat} {fd : FuncData} {ps : List Str} {f : Str} (hc : X.calm = true) (tk : Takes X (fun cls d _ H => E cls d H)) (T : OexT X.K newId tlv C)
    (iC : PySem.W.findIn X.K (.ref C) "__init__" = some (some (.ref fI))) (tI : PySem.W.typeIn X.K (.ref fI) = some (.type "function")) (hno : PySem.W.findIn X.K (.ref C) f = some none)
    (F1 : FnOk X.prog X.w X.K X.mg X.base CX0 k fI fd ps (spI1 newId tlv C f X.K)) (hr : Room (k + 1) X.A) (hb : Binds X.K fd ps []) (hg : Gl X x) (hm : X.mg x = some (.ref C)) (ha : PDA X [e] tl)
    (hdb : (x == ("__debug__" : Str)) = false := by decide) (he : starEach [e] X.env = (false, eval e X.env) :: starEach [] X.env := by rfl) {cpos : Pos} (hpl : (backTo cpos (starEach [] X.env)).any (·.1) = false := by rfl) :
    PDSX X E (.Raise (some (.Call (.Name x p) [e] [] cpos)) none pos) (zRaise1 C f tl) := by
  obtain ⟨u, pa, s⟩ := ha.ex
  refine ⟨_, ps_raise hc tk (pmk_exT TT T iC tI F1 hr hb hg hm pa hdb he hpl), ?_⟩
  intro as σ ρ L H M De Xd D hE A h c xx
  refine s as σ ρ L H M _ _ hE A h fun vs ds L1 H1 M1 st1 A1 h1 r1 => ?_
  obtain ⟨y, rfl, h1⟩ := h1
  cases r1 with
  | @cons v _ _ _ r2 r3 =>
    cases r3
    refine ⟨(by show 1 ≤ 1000; decide), fun a ha => ⟨rfl, a, _, rfl, T, hno, upd_same, fun dx hdx hne => ⟨rfl, dx, [(f, v)], upd_same, by rw [upd_ne hne, upd_same], ?_, ?_⟩⟩⟩
    · rw [upd_ne hne] at hdx; exact hdx
    · have hdx1 : H1 dx = none := by rw [upd_ne hne] at hdx; exact hdx
      have eH : upd (del (upd (upd (upd H1 a (exo a C none)) dx (exd dx [(f, v)])) a (exo a C (some dx))) a) dx (.xd [(f, v)]) = upd H1 dx (.xd [(f, v)]) := by
        funext b
        by_cases hb : b = dx
        · rw [hb, upd_same, upd_same]
        · rw [upd_ne hb, upd_ne hb]
          by_cases hba : b = a
          · rw [hba, del_same, ha]
          · rw [del_ne hba, upd_ne hba, upd_ne hb, upd_ne hba]
      rw [eH]
      have ld : L1 dx = none := lowfree A1 hdx1
      exact xx C [(f, y)] dx [(f, v)] _ _ M1 (st1.trans A1 (Step.know A1 hdx1)) (A1.know hdx1) h1 upd_same (.cons (r2.mono (Ex.new ld) (Pre.refl _)) .nil)
end
abbrev DCX := List D → Ms → (D → Ms → Prop) → XD → Prop
def spX (n : Nat) (W : DCX) : PySem.W.Frag → Sp := fun K vs H Q E => vs.length = n ∧ ∃ as M L ds P Xd, RpA K as L vs ds ∧ At K as M L H ∧ W ds M P Xd ∧
  (∀ v d L' H' M', Step as L H as L' H' → At K as M' L' H' → P d M' → Rp K as L' v d → Q v H') ∧ XC K as L H Xd E
section
variable {P : Program} {w : World} {K : PySem.W.Frag} {mg : Str → Option Value} {base : Heap}
theorem pd_fnX {x qual : Str} {st : Stmt} {f : Addr} {fd : FuncData} {N ps : List Str} {k : Nat} {W : DCX} (F : Fun K x qual st f fd) (S : FnScope N ps (defScope st))
    (hbody : ∀ (cdv : Value) (A : Around) (outer : List Env) (s : Shared) (H : Hp) (E : XK), Room k (A.deeper (envOfC qual (defScope st) s.heap.objs.size f cdv)) →
      ∃ t, PDSsX (cxOf (L2.CX P w) P w K mg base N qual (defScope st) f cdv A outer s H E) E (defBody st) t ∧ ∀ ds M Q Xd, ds.length = ps.length → W ds M Q Xd → t { nx := fun _ M' => Q .non M', rt := Q } Xd (startD N ds) M) :
    FnOk P w K mg base (L2.CX P w) (k + 1) f fd ps (spX ps.length W K) := by
  refine F.okX S (fun vs H Q E h => h.1) (fun cdv A outer s H vs Q E hr h => ?_)
  obtain ⟨hl, as, M, L, ds, P', Xd, r, A0, hw, q, xx⟩ := h
  obtain ⟨t, ht, hb⟩ := hbody cdv A outer s H E hr
  obtain ⟨ts, pt, st'⟩ := ht.ex
  refine ⟨ts, pt, st' as (L2.start N vs) (startD N ds) L H M _ Xd _ (en_start r) A0 (hb ds M P' Xd (by rw [← r.length]; exact hl) hw) ⟨?_, ?_, ?_, ?_⟩ xx⟩
  · exact fun σ' ρ' L' H' M' s1 A1 _ p => q .non .non L' H' M' s1 A1 p .non
  · exact fun v d L' H' M' s1 A1 p r => q v d L' H' M' s1 A1 p r
  · exact fun _ _ _ _ _ _ _ _ p => p.elim
  · exact fun _ _ _ _ _ _ _ _ p => p.elim
end
section
variable {X : Cx} {E : XK} {e : Expr} {es : List Expr} {tl : DA} {pos p : Pos}
@[simp] def dCallX (n : Nat) (W : DCX) (tl : DA) : DX := fun ρ M P Xd => tl ρ M fun ds M1 => ds.length = n ∧ W ds M1 P Xd
theorem pdx_call {k : Nat} {f : Addr} {fd : FuncData} {ps : List Str} {n : Nat} {W : DCX} {x : Str} (tk : Takes X (fun cls d _ H => E cls d H)) (F : FnOk X.prog X.w X.K X.mg X.base (L2.CX X.prog X.w) k f fd ps (spX n W X.K)) (hr : Room k X.A) (hg : Gl X x) (hm : X.mg x = some (.ref f)) (hk : PySem.W.keepIn X.K (.ref f) = true)
    (hb : Binds X.K fd ps []) (ha : PDA X (e :: es) tl) (hdb : (x == ("__debug__" : Str)) = false := by decide) (he : starEach (e :: es) X.env = (false, eval e X.env) :: starEach es X.env := by rfl) (hpl : (backTo pos (starEach es X.env)).any (·.1) = false := by rfl) :
    PDX X E (.Call (.Name x p) (e :: es) [] pos) (dCallX n W tl) := by
  obtain ⟨u, pa, s⟩ := ha.ex
  refine ⟨_, pe_callS (E := fun _ => E) F hr hg hm hk hb (fun σ => passAt tk σ) pa hdb he hpl, ?_⟩
  intro as σ ρ L H M P Xd Q hE A h q xx
  refine s as σ ρ L H M _ _ hE A h fun vs ds L1 H1 M1 s1 A1 h1 r1 => ?_
  exact ⟨by rw [r1.length]; exact h1.1, as, M1, L1, ds, P, Xd, r1, A1, h1.2, fun v d L2 H2 M2 s2 A2 h2 r2 => q v d L2 H2 M2 (s1.trans A1 s2) A2 h2 r2, xx.step s1 A1⟩
/-- a def that may raise, where it does not -/
@[simp] def dCallN (n : Nat) (W : DCX) (tl : DA) : DE := fun ρ M P => tl ρ M fun ds M1 => ds.length = n ∧ W ds M1 P xNo
end
section
variable {X : Cx} {E : XK} {e : Expr} {es : List Expr} {tl : DA} {pos p : Pos} {K : PySem.W.Frag}
@[simp] def dMakeX (C : Addr) (n : Nat) (W : DCX) (tl : DA) : DX := fun ρ M P Xd => tl ρ M fun ds M1 => ds.length + 1 = n ∧ W (.mu M1.length :: ds) (M1 ++ [.ins C []])
  (fun d M2 => ∃ M3 fs, d = .non ∧ M2 = M3 ++ [.ins C fs] ∧ M3.length = M1.length ∧ apartF M1.length fs = true ∧ apartM M1.length M3 = true ∧ P (.ins C fs) M3)
  (fun C' gs M2 => ∃ M3 m, M2 = M3 ++ [m] ∧ M3.length = M1.length ∧ apartF M1.length gs = true ∧ apartM M1.length M3 = true ∧ Xd C' gs M3)
@[simp] def dMakeN (C : Addr) (n : Nat) (W : DCX) (tl : DA) : DE := fun ρ M P => tl ρ M fun ds M1 => ds.length + 1 = n ∧ W (.mu M1.length :: ds) (M1 ++ [.ins C []])
  (fun d M2 => ∃ M3 fs, d = .non ∧ M2 = M3 ++ [.ins C fs] ∧ M3.length = M1.length ∧ apartF M1.length fs = true ∧ apartM M1.length M3 = true ∧ P (.ins C fs) M3) xNo
end
end Pd
set_option Elab.async false
set_option linter.all false
set_option maxRecDepth 100000
set_option maxHeartbeats 2000000
namespace Pd
open PySem PySem.Spec PyProof.Rows L2 PySem.HandSPX
abbrev TH := Addr → Value → Option Addr → TS
def wAsM (K : PySem.W.Frag) (Wo : WX) (D : Ends) : List (Value × Nat × TH) → WX
  | [] => Wo
  | (c, i, th) :: r => fun cls d σ H => ∃ b, PySem.W.exmOne K cls c = some b ∧
      (b = true → ∀ a, H a = none → th a cls d { nx := fun σ2 H2 => D.nx (σ2.set i none) H2, rt := D.rt, bk := fun σ2 H2 => D.bk (σ2.set i none) H2, ct := fun σ2 H2 => D.ct (σ2.set i none) H2 } (σ.set i (some (.ref a))) H) ∧
      (b = false → wAsM K Wo D r cls d σ H)
inductive Clauses (X : Cx) : List ExceptHandler → List (Value × Nat × TH) → Prop
  | nil : Clauses X [] []
  | cons {x n : Str} {c : Value} {i : Nat} {th : TH} {b0 : Stmt} {bs : List Stmt} {np hpos : Pos} {hds : List ExceptHandler} {l : List (Value × Nat × TH)} (hi : X.N[i]? = some n) (hk : X.env.kindOf n = some .local) (hc : Names X x c)
      (hsu : ∀ (a : Addr) (oe : Obj) (cls : Value) (d : Option Addr) (pn : List (Addr × Obj)), Zc cls d oe → (∃ vs, oe.data = .fields vs) → PSs (X.suite a ((a, oe) :: pn)) (b0 :: bs) (th a cls d)) (r : Clauses X hds l) :
      Clauses X (.ExceptHandler (some (.Name x np)) (some n) (b0 :: bs) hpos :: hds) ((c, i, th) :: l)
section
variable {X : Cx} {body : List Stmt} {h0 : ExceptHandler} {hds : List ExceptHandler} {l : List (Value × Nat × TH)} {tpos : Pos} {tb : WX → TS} {Wo : WX}
theorem ps_try_asM (hst : X.stack = X.env :: X.outer) (hfm : X.env.frame = some X.env.locals) (hND : X.N.Nodup) (tkO : Takes X Wo)
    (hbd : ∀ (W : WX) (pn : List (Addr × Obj)) (xe : Value → Shared → Prop), Takes (X.tr pn xe) W → PassesOwn (model X.prog X.w) X.A X.env xe → PSs (X.tr pn xe) body (tb W))
    (hh : Clauses X (h0 :: hds) l) : PS X (.Try body (h0 :: hds) [] [] tpos) (fun D σ H => tb (wAsM X.K Wo D l) D σ H) := by
  refine ⟨fun pns st σ H D I ask => ?_⟩
  have okX := I.ok
  have frX : X.A.frames = some (X.env :: X.outer) := by rw [okX.frames, hst]
  refine wpAny_Try_except ?_
  have looks : PassesOwn (model X.prog X.w) X.A X.env (fun e s₁ => wpAny (model X.prog X.w) X.A (noteFrame e X.env) (fun _ s₂ => wpAny (model X.prog X.w) X.A (setFlight e none) (fun _ s₃ =>
    wpAny (model X.prog X.w) X.A (handleBy e X.env (h0 :: hds)) (SP X pns D) X.xe s₃) X.xe s₂) X.xe s₁) := PassesOwn.looking
  refine wpAny_mono ((hbd (wAsM X.K Wo D l) (X.pn ++ pns) _ (fun u sx air => ?_) looks).run [] st σ H D (I.toTry _) ask) (fun f sb hsp => ?_) (fun e sb z => z)
  · obtain ⟨a, B, sI, pns2, τ, G, cls, d, rfl, Jt, nb, up, sky, na, os, ag, w⟩ := air
    have J : Inv X pns τ G sI := Jt.ofTry okX
    have sky2 : Sky B (X.env :: X.outer) a (Zc cls d) X.env.locals sx.heap := by rw [← hst]; exact sky
    show wpAny (model X.prog X.w) X.A (noteFrame (.ref a) X.env) _ _ _
    refine Sky.land Zc.steady frX hfm sky2 fun hp3 fly3 rise3 => ?_
    have K3 : Inv X pns τ G { sx with heap := hp3 } := J.landed nb fly3.1 (up.trans rise3) os ag
    obtain ⟨oe3, vs3, at3, z3, dat3⟩ := fly3.there
    have apartF : a ∉ frs (X.env :: X.outer) := fun hm => by
      obtain ⟨_, o2, e2, nofields⟩ := fly3.2.2.1.mem hm
      rw [at3] at e2
      cases e2
      exact nofields _ dat3
    have aLoc : a ≠ X.env.locals := fun z => apartF (List.mem_filterMap.mpr ⟨X.env, List.mem_cons_self, by rw [hfm, z]⟩)
    have aFs : a ∉ X.fs := fun hm => by
      obtain ⟨e, he, qe⟩ := List.mem_filterMap.mp hm
      exact apartF (List.mem_filterMap.mpr ⟨e, List.mem_cons_of_mem _ he, qe⟩)
    have U3 := K3.suite at3 dat3 na aLoc aFs
    have walk : ∀ {hs2 : List ExceptHandler} {l2 : List (Value × Nat × TH)}, Clauses X hs2 l2 → wAsM X.K Wo D l2 cls d τ G → wpAny (model X.prog X.w) X.A (handleBy (.ref a) X.env hs2) (SP X pns D) X.xe { sx with heap := hp3 } := by
      intro hs2 l2 cl
      induction cl with
      | nil =>
        intro wo
        refine wpAny_handleBy_nil ?_
        obtain ⟨_, _, _, oe, vs, tb, oT, ts, heA, _, hdA, hv1, _⟩ := id fly3
        unfold PySem.passOn
        refine wpAny_bind (wpAny_field heA hdA hv1 ?_)
        rw [if_neg (show ¬ ((Value.ref tb == Value.none) = true) from by simp)]
        have away : wpAny (model X.prog X.w) X.A (setFlight (.ref a) X.env.frame) (fun _ s4 => wpAny (model X.prog X.w) X.A (throw (.ref a) : Sem Flow) (SP X pns D) X.xe s4) X.xe { sx with heap := hp3 } := by
          rw [hfm]
          refine HandSPX.setFlight_upZ fly3 fun hp4 held4 rise4 => wpAny_throw (tkO _ _ ⟨a, B, sI, pns, τ, G, cls, d, rfl, J, nb, (up.trans rise3).trans rise4, .inr (.inr (by rw [hst]; exact held4)), na, os, ag, wo⟩)
        first
          | exact wpAny_bind (wpAny_pure (wpAny_bind away))
          | exact wpAny_bind away
      | @cons x n c i th b0 bs np hpos hs3 l3 hi hk hc hsu r ih =>
        intro wo
        obtain ⟨b, hb1, yes, no⟩ := wo
        have locn : Loc X.env.scope n := .inl hk
        refine wpAny_handleBy_cons (codeAny_handlers_test ?_) (by intro q; cases q)
        have typ3 : PySem.W.Looks (model X.prog X.w) hp3 (typeOf (.ref a)) cls := fun A2 Q2 E2 s2 k2 q2 => wpAny_typeOf_ref (k2 _ _ at3) (by rw [z3.1]; exact q2)
        have match3 := PySem.W.exm_one (M := model X.prog X.w) (K3.kIn) typ3 hb1
        have name3 : ∀ {Q2 : Value → Shared → Prop} {E2 : Value → Shared → Prop}, Q2 c { sx with heap := hp3 } → wpAny (model X.prog X.w) (X.A.mark (some (.ref a))) (eval (.Name x np) X.env) Q2 E2 { sx with heap := hp3 } := fun {Q2 E2} q2 => by
          obtain ⟨hgl, hdb, hm | ⟨hm, hv, hn2⟩⟩ := hc
          · exact ld_glob (X := X.suite a ((a, oe3) :: (X.pn ++ pns))) U3 hgl hm q2 hdb
          · exact ld_blt (X := X.suite a ((a, oe3) :: (X.pn ++ pns))) U3 hgl hm hv q2 hn2 hdb
        refine name3 (match3.here ?_)
        cases b with
        | false =>
          show wpAny _ X.A (handleBy (.ref a) X.env hs3) _ _ _
          exact ih (no rfl)
        | true =>
          refine codeAny_handlers_suite_as ?_
          refine HandSPX.lands_againZ fly3 fun hp4 fly4 rise4 => ?_
          have K4 : Inv X pns τ G { sx with heap := hp4 } := J.landed nb fly4.1 ((up.trans rise3).trans rise4) os ag
          obtain ⟨oe4, vs4, at4, z4, dat4⟩ := fly4.there
          have U4 := K4.suite at4 dat4 na aLoc aFs
          refine store_ok (X := X.suite a ((a, oe4) :: (X.pn ++ pns))) (v := .ref a) U4 hND hi locn rfl (fun s5 U5 => ?_) (.inr hk)
          refine wpAny_mono ((hsu a oe4 cls d (X.pn ++ pns) z4 ⟨_, dat4⟩).run [] s5 _ G _ U5 (yes rfl a na)) (fun f s6 hsp6 => ?_) (fun _ _ z => False.elim z)
          have gone : ∀ {τ6 : L2.St} {G6 : Hp} {Q6 : Shared → Prop}, Inv (X.suite a ((a, oe4) :: (X.pn ++ pns))) [] τ6 G6 s6 → (∀ s7, Inv X pns (τ6.set i none) G6 s7 → Q6 s7) →
              wpAny (model X.prog X.w) X.A (do bindName X.env n .none; unbindBehindTheSuite X.env n hpos) (fun _ s7 => Q6 s7) X.xe s6 := fun {τ6 G6 Q6} U6 hq => gone_ok (U6.unsuite okX) hND hi hk hq
          match f, hsp6 with
          | .next, ⟨τ6, G6, U6, q6⟩ => exact gone U6 fun s7 J7 => ⟨_, _, J7, q6⟩
          | .brk, ⟨τ6, G6, U6, q6⟩ => exact gone U6 fun s7 J7 => ⟨_, _, J7, q6⟩
          | .cont, ⟨τ6, G6, U6, q6⟩ => exact gone U6 fun s7 J7 => ⟨_, _, J7, q6⟩
          | .ret u, ⟨v6, τ6, G6, U6, r6, q6⟩ => exact gone U6 fun s7 J7 => ⟨_, _, _, J7, r6, q6⟩
    exact walk hh w
  · match f, hsp with
    | .next, ⟨τ, G, Jb, q⟩ => exact wpAny_execs_nil ⟨τ, G, Jb.ofTry okX, q⟩
    | .brk, ⟨τ, G, Jb, q⟩ => exact ⟨τ, G, Jb.ofTry okX, q⟩
    | .cont, ⟨τ, G, Jb, q⟩ => exact ⟨τ, G, Jb.ofTry okX, q⟩
    | .ret u, ⟨v, τ, G, Jb, r, q⟩ => exact ⟨v, τ, G, Jb.ofTry okX, r, q⟩
end
end Pd
set_option Elab.async false
set_option linter.all false
set_option maxRecDepth 100000
set_option maxHeartbeats 2000000
namespace Pd
open PySem PySem.Spec PyProof.Rows L2 PySem.HandSPX
/-- a new row of a table: codeAmong finds an old one or the new one -/
theorem TabOk.more {H : Hp} {P c : Addr} {q : Str} {ps : Array Value} {pos : Pos} (h : TabOk H P (.tbl ps) (.tab P q)) (hc : H c = some (LamX.CodeO c q)) : TabOk H P (.tbl (ps ++ #[rawInt pos.line, rawInt pos.col, .ref c])) (.tab P q) := by
  obtain ⟨_, h2, h3⟩ := h
  have eL : (ps ++ #[rawInt pos.line, rawInt pos.col, .ref c]).toList = ps.toList ++ [rawInt pos.line, rawInt pos.col, .ref c] := by simp
  refine ⟨rfl, by rw [eL]; exact PySem.TriplesOk_snoc _ _ _ _ h2, fun p' cv hcv => ?_⟩
  rw [eL] at hcv
  rcases LamX.among_app _ h2 hcv with z | z
  · exact h3 p' cv z
  · exact ⟨c, z, hc⟩
section
variable {X : Cx} {pins : List (Addr × Obj)} {σ : L2.St} {H L : Hp} {s : Shared} {as : List Addr} {M : Ms}
/-- a lambda is made where the tables are known -/
theorem lam_at {k : Nat} {c P : Addr} {params : Arguments} {body : Expr} {scope : Scope} {pos : Pos} {E : Value → Shared → Prop} {Q : Value → Shared → Prop} (I : Inv X pins σ H s) (A : At X.K as M L H) (TB : LamX.TabB X.base X.mg c P) (code : X.env.code = .ref c)
    (hm : M[k]? = some (.tab P (X.env.qual ++ "<lambda>"))) (hdef : defaultsOf params X.env = ([], [])) (hfree : ∀ y ∈ scope.names, y.2 = .free → ∃ c, X.env.cells.lookup y.1 = some c)
    (fin : ∀ (f c' : Addr) (pm ctv : Value) (L1 H1 : Hp) (s' : Shared), Inv X pins σ H1 s' → Step as L H as L1 H1 → At X.K as M L1 H1 →
      s'.heap.get? f = some (PySem.W.kla_obj "<lambda>" (X.env.qual ++ "<lambda>") params body scope (cloFrom X.env.cells scope.names []) pm c' ctv) → H1 f = none → f ∉ frs X.stack → H1 c' = some (LamX.CodeO c' (X.env.qual ++ "<lambda>")) → Q (.ref f) s') :
    wpAny (model X.prog X.w) X.A (eval (.Lambda params body scope pos) X.env) Q E s := by
  have hk : k < as.length := by rw [A.len]; exact (List.getElem?_eq_some_iff.mp hm).1
  obtain ⟨lP, o, hP, hro, htab⟩ := A.mo k _ _ (List.getElem?_eq_getElem hk) hm
  cases hro
  rename_i ps
  have eP := htab.1
  have hkP : as[k]? = some P := (List.getElem?_eq_getElem hk).trans (congrArg some eP)
  rw [eP] at hP htab lP
  have tri := htab.2.1
  have objP : s.heap.get? P = some { cls := .none, data := .fields ps } := I.hok P _ hP
  have bat : s.heap.BuiltinsAt X.mg P := TB.bm.keeps I.bk
  have out : ∀ f, s.heap.objs.size ≤ f → f ∉ frs X.stack := fun f hf z => by
    rcases List.mem_cons.mp (I.stkSub _ z) with e | e
    · have h1 := I.lt
      rw [← e] at h1
      exact absurd h1 (Nat.not_lt_of_le hf)
    · exact I.nofs hf e
  refine PySem.W.kla_eval hdef ?_
  cases hit : codeAmong pos ps.toList with
  | some cv =>
    obtain ⟨c', rfl, hco⟩ := htab.2.2 pos cv hit
    refine PySem.W.kla_makeFunctionHit (mg := X.mg) (c := c) (P := P) (ps := ps) (closure_ok hfree) I.ok.glob (I.mod.glob.keeps I.bk) code (TB.code.keeps I.bk) objP tri hit bat fun ctv h' tk stay big => ?_
    exact fin h'.objs.size c' _ ctv L H _ (I.kept (t' := tk) fun b u z => Heap.get?_push_of_some _ (stay b u z)) .refl A (Heap.get?_push_size _ rfl) (I.hok.fresh big) (out _ big) hco
  | none =>
    refine PySem.W.kla_makeFunction (mg := X.mg) (c := c) (P := P) (ps := ps) (closure_ok hfree) I.ok.glob (I.mod.glob.keeps I.bk) code (TB.code.keeps I.bk) objP tri hit TB.gP bat fun c' ctv h' tk stay big less rec tabN => ?_
    obtain ⟨c2, oc, vs, t, e2, hoc, hd, hv⟩ := rec
    cases e2
    have big' : s.heap.objs.size ≤ h'.objs.size := by omega
    have nC : H c' = none := I.hok.fresh big
    have nP : P ≠ c' := ne_of_none hP nC
    have I1 := LamX.inv_table (t' := tk) (more := #[rawInt pos.line, rawInt pos.col, .ref c']) (h' := h'.push (PySem.W.kla_obj "<lambda>" (X.env.qual ++ "<lambda>") params body scope (cloFrom X.env.cells scope.names []) ((X.mg "__name__").getD .none) c' ctv)) I hP
      (fun b u hb z => Heap.get?_push_of_some _ (stay b u hb z)) (Heap.get?_push_of_some _ tabN) big ⟨oc, vs, t, Heap.get?_push_of_some _ hoc, hd, hv⟩
    have ext : ∀ ps', LamX.CodeO c' (X.env.qual ++ "<lambda>") ≠ .tbl ps' := LamX.codeO_ne
    have A2 := A.know (o := LamX.CodeO c' (X.env.qual ++ "<lambda>")) nC ext
    have s2 := Step.know (o := LamX.CodeO c' (X.env.qual ++ "<lambda>")) A nC
    have eH : upd (upd H P (.tbl (ps ++ #[rawInt pos.line, rawInt pos.col, .ref c']))) c' (LamX.CodeO c' (X.env.qual ++ "<lambda>")) = upd (upd H c' (LamX.CodeO c' (X.env.qual ++ "<lambda>"))) P (.tbl (ps ++ #[rawInt pos.line, rawInt pos.col, .ref c'])) := by
      funext b
      by_cases hb : b = c'
      · rw [hb, upd_same, upd_ne (Ne.symm nP), upd_same]
      · by_cases hp : b = P
        · rw [hp, upd_ne nP, upd_same, upd_same]
        · rw [upd_ne hb, upd_ne hp, upd_ne hp, upd_ne hb]
    rw [eH] at I1
    have tb2 : TabOk (upd (upd H c' (LamX.CodeO c' (X.env.qual ++ "<lambda>"))) P (.tbl (ps ++ #[rawInt pos.line, rawInt pos.col, .ref c']))) P (.tbl (ps ++ #[rawInt pos.line, rawInt pos.col, .ref c'])) (.tab P (X.env.qual ++ "<lambda>")) :=
      (TabOk.more (htab.keep (KeepC.new nC)) upd_same).keep (KeepC.over (u := .tbl ps) (by rw [upd_ne nP]; exact hP) rfl)
    have A3 := A2.put hkP (o := .tbl (ps ++ #[rawInt pos.line, rawInt pos.col, .ref c'])) (m := .tab P (X.env.qual ++ "<lambda>")) .tab tb2
    have eM : M.set k (.tab P (X.env.qual ++ "<lambda>")) = M := by
      apply List.ext_getElem?
      intro j
      rw [List.getElem?_set]
      split
      · rename_i e; subst e
        rw [hm]
        split
        · rfl
        · rename_i h1; exact absurd (List.getElem?_eq_some_iff.mp hm).1 h1
      · rfl
    rw [eM] at A3
    have s3 := s2.trans A2 (Step.put (L := upd L c' (LamX.CodeO c' (X.env.qual ++ "<lambda>"))) (H := upd H c' (LamX.CodeO c' (X.env.qual ++ "<lambda>"))) (o := .tbl (ps ++ #[rawInt pos.line, rawInt pos.col, .ref c'])) (List.mem_of_getElem? hkP))
    refine fin h'.objs.size c' _ ctv _ _ _ I1 s3 A3 (Heap.get?_push_size _ rfl) ?_ (out _ big') ?_
    · have n1 : h'.objs.size ≠ c' := Nat.ne_of_gt less
      have n2 : h'.objs.size ≠ P := Nat.ne_of_gt (Nat.lt_of_lt_of_le (Heap.lt_size objP) big')
      rw [upd_ne n2, upd_ne n1]
      exact I.hok.fresh big'
    · rw [upd_ne (Ne.symm nP), upd_same]
end
end Pd
namespace Pd
open PySem PySem.Spec PyProof.Rows L2 PySem.HandSPX
/-- an expression that may raise, one reading for all that is wished -/
def upEX (K : PySem.W.Frag) (E : XK) (t : DX) : TE := fun σ H Q => ∃ as ρ L M P Xd, En K as L σ ρ ∧ At K as M L H ∧ t ρ M P Xd ∧ (∀ v d L' H' M', Step as L H as L' H' → At K as M' L' H' → P d M' → Rp K as L' v d → Q v H') ∧ XC K as L H Xd E
theorem PDX.up {X : Cx} {E : XK} {e : Expr} {t : DX} (h : PDX X E e t) : PE X e (upEX X.K E t) := by
  obtain ⟨u, p, s⟩ := h.ex
  exact ⟨fun pins st σ H Q I ⟨as, ρ, L, M, P, Xd, hE, A, ht, q, xx⟩ => p.run pins st σ H Q I (s as σ ρ L H M P Xd Q hE A ht q xx)⟩
theorem Takes.len {X : Cx} {W : WX} (tk : Takes X W) : Takes X (fun cls d σ H => σ.length = X.N.length → W cls d σ H) := fun u s' ⟨a, B, sI, pins, σ, H, cls, d, e, I, nb, up, sky, na, os, ag, w⟩ =>
  tk u s' ⟨a, B, sI, pins, σ, H, cls, d, e, I, nb, up, sky, na, os, ag, w I.len⟩
/-- which clause takes it, and what is told then -/
def PickC (K : PySem.W.Frag) : List (Addr × Str × Str) → Addr → List (Str × D) → Str × Str → Prop
  | [], _, _, _ => False
  | (C', word, fld) :: r, C, gs, out => ∃ b, PySem.W.exmOne K (.ref C) (.ref C') = some b ∧ (b = true → C = C' ∧ ∃ y, gs.lookup fld = some y ∧ Shows y ∧ out = (word, reprD y)) ∧ (b = false → PickC K r C gs out)
@[simp] def dSaid (K : PySem.W.Frag) (P : Addr) (lq : Str) (cl : List (Addr × Str × Str)) (dn : Str) (tb : DX) : DE := fun ρ M Pp => (∃ j : Nat, M[j]? = some (MO.tab P lq)) ∧
  tb ρ M (fun _ M1 => Pp (.lst [.str dn]) M1) (fun C gs M1 => ∃ out : Str × Str, PickC K cl C gs out ∧ Pp (.lst [.str out.1, .str out.2]) M1)
end Pd
set_option Elab.async false
set_option linter.all false
set_option maxRecDepth 100000
set_option maxHeartbeats 2000000
namespace Pd
open PySem PySem.Spec PyProof.Rows L2
/-- the heap as the law finds it: the script, if it is not written, and the empty tables -/
def startH (K : PySem.W.Frag) (a : Addr) (o : Obj) (ns : List Int) (Ps : List Addr) : Hp := fun b =>
  if b ∈ Ps then some (.tbl #[]) else if b = a ∧ K.lookup a = none then some (.frz o (.lst (ns.map V.int))) else none
section
variable {P : Program} {w : World} {K : PySem.W.Frag} {mg mb : Str → Option Value} {k : Nat} {fa a : Addr} {cs : List (Addr × Addr)} {fd : FuncData} {x : Str} {sp : Sp} {s : Shared} {vs : List Value} {ns : List Int}
theorem startH_tab {o : Obj} {Ps : List Addr} {p : Addr} (h : p ∈ Ps) : startH K a o ns Ps p = some (.tbl #[]) := if_pos h
theorem startH_cases {o : Obj} {Ps : List Addr} {b : Addr} {u : HO} (h : startH K a o ns Ps b = some u) : (b ∈ Ps ∧ u = .tbl #[]) ∨ (b ∉ Ps ∧ b = a ∧ K.lookup a = none ∧ u = .frz o (.lst (ns.map V.int))) := by
  unfold startH at h
  by_cases hb : b ∈ Ps
  · rw [if_pos hb] at h; cases h; exact .inl ⟨hb, rfl⟩
  · rw [if_neg hb] at h
    by_cases ha : b = a ∧ K.lookup a = none
    · rw [if_pos ha] at h; cases h; exact .inr ⟨hb, ha.1, ha.2, rfl⟩
    · rw [if_neg ha] at h; cases h
theorem law_callT (KX : K.In s.heap) (gl : s.heap.Ns mainGlobals mg) (bl : s.heap.Ns builtinsNs mb) (bb : ∀ y : Str, y ≠ "__name__" → mb y = bootBuiltins y) (lim : s.heap.NoLimit) (gens : s.gens = #[])
    (tabs : ∀ p ∈ cs, s.heap.get? p.2 = some { cls := .none, data := .fields #[] }) (unw : ∀ p ∈ cs, K.lookup p.2 = none) (codes : ∀ p ∈ cs, PySem.W.codeHdIn K p.1 p.2 = true)
    (bmod : ∃ (bm : Addr) (ob : Obj), mg "__builtins__" = some (.ref bm) ∧ bm ≠ builtinsNs ∧ s.heap.get? bm = some ob ∧ ob.cls = .type "module" ∧ ob.dict = some builtinsNs ∧ ob.data = .plain)
    (scr : s.heap.get? a = some { cls := .type "list", data := .seq vs.toArray }) (areInts : IntsAre vs ns) (short : ns.length ≤ sizeLine) (room : Room k callerA)
    (fn : ∀ base : Heap, K.In base → base.Ns mainGlobals mg → (∀ p ∈ cs, LamX.TabB base mg p.1 p.2) → FnG P w K mg base k fa fd [x] sp) (bind : ∀ (s : Shared) (u : Value), BindsTo s fd ⟨[u], []⟩ [(x, u)])
    (ask : ∀ o, SqL K (startH K a o ns (cs.map (·.2))) a (ns.map V.int) → a ∉ cs.map (·.2) → sp [.ref a] (startH K a o ns (cs.map (·.2))) (fun v _ => v = .bl true) E0) :
    codeAny (model P w) callerA (.call (.ref fa) ⟨[.ref a], []⟩) (fun r s' => r = .ok (.ret (.bool true)) ∧ OldK s.heap s'.heap ∧ s'.os = s.os ∧ AllBare s'.gens) s := by
  have rv := vals_ints areInts
  have tabP : ∀ b, b ∈ cs.map (·.2) → s.heap.get? b = some { cls := .none, data := .fields #[] } ∧ K.lookup b = none := fun b hb => by
    obtain ⟨p, hp, rfl⟩ := List.mem_map.mp hb
    exact ⟨tabs p hp, unw p hp⟩
  have na : a ∉ cs.map (·.2) := fun z => by
    have e := (tabP a z).1
    rw [scr] at e
    cases congrArg Obj.data (Option.some.inj e)
  generalize hH : startH K a { cls := .type "list", data := .seq vs.toArray } ns (cs.map (·.2)) = H at *
  have split : ∀ {b : Addr} {u : HO}, H b = some u → (b ∈ cs.map (·.2) ∧ u = .tbl #[]) ∨ (b ∉ cs.map (·.2) ∧ b = a ∧ K.lookup a = none ∧ u = .frz { cls := .type "list", data := .seq vs.toArray } (.lst (ns.map V.int))) := fun {b u} h => startH_cases (by rw [hH]; exact h)
  have okH : HOk P w H s.heap := fun b u h => by
    rcases split h with ⟨hb, rfl⟩ | ⟨_, rfl, _, rfl⟩
    · exact (tabP b hb).1
    · refine ⟨scr, ?_, vs, _, rv, scr⟩
      rw [List.length_map]; exact short
  -- what is tracked is neither written, nor a dict, nor a module
  have untr : ∀ {b : Addr} {o : Obj}, s.heap.get? b = some o → (∀ us n, o.data ≠ .seq us n) → o.data ≠ .fields #[] → H b = none := fun {b o} e h1 h2 => by
    cases q : H b with
    | none => rfl
    | some u =>
      rcases split q with ⟨hb, _⟩ | ⟨_, rfl, _, _⟩
      · rw [(tabP b hb).1] at e; cases e; exact absurd rfl h2
      · rw [scr] at e; cases e; exact absurd rfl (h1 _ _)
  have baseNs : ∀ {b : Addr} {m : Str → Option Value}, s.heap.Ns b m → (hidT s.heap H).Ns b m := fun {b m} ⟨o, es, ep, e, d, r⟩ =>
    ⟨o, es, ep, hidT_get e (untr e (fun us n z => by rw [d] at z; cases z) (fun z => by rw [d] at z; cases z)), d, r⟩
  have baseK : K.In (hidT s.heap H) := fun b o e => hidT_get (KX b o e) (by
    cases q : H b with
    | none => rfl
    | some u =>
      rcases split q with ⟨hb, _⟩ | ⟨_, rfl, hk, _⟩
      · rw [(tabP b hb).2] at e; cases e
      · rw [hk] at e; cases e)
  have baseM : Mod K mg (hidT s.heap H) := by
    obtain ⟨mc, h1, h2⟩ := lim
    exact ⟨baseK, baseNs gl, ⟨mb, baseNs bl, bb⟩, mc, baseNs h1, h2⟩
  have noGl : ∀ {b : Addr} {o : Obj}, s.heap.get? b = some o → (∀ es ep, o.data ≠ .dict es ep) → b ≠ mainGlobals := fun {b o} e h z => by
    obtain ⟨o2, es, ep, e2, d2, _⟩ := gl
    rw [z, e2] at e
    cases e
    exact h _ _ d2
  have baseT : ∀ p ∈ cs, LamX.TabB (hidT s.heap H) mg p.1 p.2 := fun p hp => by
    have tp := tabs p hp
    obtain ⟨bm, ob, b1, b2, b3, b4, b5, b6⟩ := bmod
    have n1 : bm ≠ mainGlobals := noGl b3 fun es ep z => by rw [b6] at z; cases z
    have n2 : bm ≠ p.2 := fun z => by rw [z, tp] at b3; cases b3; cases b6
    have n3 : p.2 ≠ mainGlobals := noGl tp fun es ep z => by cases z
    exact ⟨PySem.W.codeHd_of_K baseK (codes p hp), ⟨bm, ob, b1, b2, n1, n2, hidT_get b3 (untr b3 (fun us n z => by rw [b6] at z; cases z) (fun z => by rw [b6] at z; cases z)), b4, b5, b6⟩, fun z => n3 z.symm⟩
  have e0 : Env0 P w K mg (hidT s.heap H) callerA [] s H := ⟨rfl, baseM, fun b o e => of_hidT e, Nat.le_of_eq (hidT_size _ _), trivial, fun b hb => (List.not_mem_nil hb).elim, okH, .of_eq gens⟩
  have hS : SqL K H a (ns.map V.int) := by
    cases hk : K.lookup a with
    | some o =>
      have e := KX a o hk
      rw [scr] at e
      cases e
      exact .inr ⟨_, vs.toArray, _, hk, rfl, rfl, rfl, by rw [List.size_toArray, areInts.length]; exact short, by simpa using rv⟩
    | none =>
      refine .inl (.inr ⟨{ cls := .type "list", data := .seq vs.toArray }, ?_⟩)
      rw [← hH]
      unfold startH
      rw [if_neg na, if_pos ⟨rfl, hk⟩]
  have q0 := ask { cls := .type "list", data := .seq vs.toArray } (by rw [hH]; exact hS) na
  rw [hH] at q0
  refine codeAny_mono ((fn _ baseK (baseNs gl) baseT).run callerA [] s H ⟨[.ref a], []⟩ [.ref a] [.ref a] _ _ rfl room e0 (bind s (.ref a)) (.cons rfl .nil) q0) fun r s' h => ?_
  match r, h with
  | .error _, z => exact (show False from z).elim
  | .ok .next, z => exact (show False from z).elim
  | .ok .brk, z => exact (show False from z).elim
  | .ok .cont, z => exact (show False from z).elim
  | .ok (.ret u), ⟨v, H', os, bare, un, ok', ru, hv⟩ =>
    cases (show v = .bl true from hv)
    cases (show u = Value.bool true from ru)
    have stays : ∀ b o, s.heap.get? b = some o → b ∉ cs.map (·.2) → s'.heap.get? b = some o := fun b o e nb => by
      cases q : H b with
      | none => exact un.keep b o e q (fun z => List.not_mem_nil z) (fun z => List.not_mem_nil z)
      | some u =>
        rcases split q with ⟨hb, _⟩ | ⟨_, rfl, _, rfl⟩
        · exact absurd hb nb
        · have e1 : s.heap.get? b = some { cls := .type "list", data := .seq vs.toArray } := scr
          rw [e] at e1
          cases e1
          exact (ok' b _ (un.frzs b _ _ q)).1
    have grown : ∀ p ∈ cs, ∃ more : Array Value, s'.heap.get? p.2 = some { cls := .none, data := .fields more } := fun p hp => by
      have hp2 : H p.2 = some (.tbl #[]) := by rw [← hH]; exact startH_tab (List.mem_map.mpr ⟨p, hp, rfl⟩)
      obtain ⟨more, z⟩ := un.tbls p.2 #[] hp2
      exact ⟨_, ok' p.2 _ z⟩
    refine ⟨rfl, ⟨fun b o e => ?_, fun b o e => ?_⟩, os, bare⟩
    · by_cases hb : b ∈ cs.map (·.2)
      · obtain ⟨p, hp, rfl⟩ := List.mem_map.mp hb
        obtain ⟨more, hm⟩ := grown p hp
        rw [tabs p hp] at e
        cases e
        exact .inr (.inl ⟨((PySem.W.codeHd_of_K KX (codes p hp)).tab (tabs p hp)).isCodeTable, rfl, #[], more, rfl, by rw [Array.empty_append]; exact hm⟩)
      · exact .inl (stays b o e hb)
    · by_cases hb : b ∈ cs.map (·.2)
      · obtain ⟨p, hp, rfl⟩ := List.mem_map.mp hb
        obtain ⟨more, hm⟩ := grown p hp
        exact ⟨_, hm⟩
      · exact ⟨o, stays b o e hb⟩
end
end Pd
namespace Pd
open PySem PySem.Spec PyProof.Rows L2
section
variable {P : Program} {w : World} {K : PySem.W.Frag} {mg : Str → Option Value} {base : Heap}
/-- a def run where nothing is being shown, its code object told -/
theorem pd_fnGC {x qual : Str} {st : Stmt} {f c : Addr} {fd : FuncData} {N ps : List Str} {k : Nat} {W : DC} (F : Fun K x qual st f fd) (S : FnScope N ps (defScope st)) (hc : fd.code = .ref c)
    (hbody : ∀ (A : Around) (outer : List Env) (s : Shared) (H : Hp) (E : XK), A.guards = some [] → Room k (A.deeper (envOfC qual (defScope st) s.heap.objs.size f (.ref c))) →
      ∃ t, PDSs (cxOf CX0 P w K mg base N qual (defScope st) f (.ref c) A outer s H E).nox (defBody st) t ∧ ∀ ds M Q, ds.length = ps.length → W ds M Q → t { nx := fun _ M' => Q .non M', rt := Q } (startD N ds) M) :
    FnG P w K mg base (k + 1) f fd ps (spD ps.length W K) := by
  obtain ⟨oc, od, kV, doc, pm, an, cdv, ct, osl, rfl, lk, hcd⟩ := F.ex
  have ec : cdv = .ref c := hc
  subst ec
  have F2 : Fun K x qual st f (PySem.W.fnOf x qual (defArgs st) (defBody st) (defScope st) .none kV doc pm an (.ref c) ct) := F
  refine ⟨fun vs H Q E h => h.1, fun A outer s H args us vs Q E hg hr e0 hb r hsp => ?_⟩
  have old : ∀ b o, base.get? b = some o → s.heap.get? b = some o := fun b o e => (e0.bs b o e).1
  have KX : K.In s.heap := e0.mod.kin.keeps old
  have lim : s.heap.NoLimit := e0.mod.nolimit.keeps old
  obtain ⟨hl, as, M, L, ds, P', rr, A0, hw, q⟩ := hsp
  refine codeAny_call_function hr.depth (KX _ _ lk) rfl S.co S.gen rfl (PySem.W.codeRec_of KX hcd) (hb _ _ _ _ ?_)
  refine wpAny_newFunctionEnv_cells S.kind (fun ⟨n, v⟩ hy => ?_) fun env he s1 xx => ?_
  · rcases S.par n (List.of_mem_zip hy).1 with q | q
    · exact .inl q
    · exact .inr ⟨q, PySem.W.cellsFrom_some _ _ _ (.inl q)⟩
  subst he
  refine ⟨lim.keeps xx.toInCall.keep, codeAny_func ?_⟩
  obtain ⟨t, ht0, hb0⟩ := hbody A outer s H E hg (hr.deeper _)
  obtain ⟨ts, pt, st'⟩ := ht0.ex
  have ht := pt.nox
  have I : Inv (cxOf CX0 P w K mg base N qual (defScope st) f (.ref c) A outer s H E) [] (L2.start N vs) H s1 := inv_start S hr.hd e0 hl r xx
  have hq : ts { nx := fun _ H' => Q .non H', rt := Q } (L2.start N vs) H := st' as (L2.start N vs) (startD N ds) L H M _ _ (en_start rr) A0 (hb0 ds M P' (by rw [← rr.length]; exact hl) hw)
    ⟨fun σ' ρ' L' H' M' s1 A1 _ p => q .non .non L' H' M' s1 A1 p .non, fun v d L' H' M' s1 A1 p r => q v d L' H' M' s1 A1 p r, fun _ _ _ _ _ _ _ _ p => p.elim, fun _ _ _ _ _ _ _ _ p => p.elim⟩
  refine wpAny_mono (ht.run [] s1 (L2.start N vs) H _ I hq) (fun fl s' hs => ?_) fun e s' hs => hs
  match fl, hs with
  | .ret u, ⟨v, σ', H', J, rv, q⟩ => exact ⟨v, H', J.os, J.bare, J.base, J.hok, rv, q⟩
  | .next, ⟨σ', H', J, q⟩ => exact ⟨V.non, H', J.os, J.bare, J.base, J.hok, rfl, q⟩
  | .brk, ⟨_, _, _, q⟩ => exact (show False from q).elim
  | .cont, ⟨_, _, _, q⟩ => exact (show False from q).elim
/-- the tables as the law finds them -/
def tabsM (cs : List (Addr × Addr × Str)) : Ms := cs.map fun t => .tab t.2.1 t.2.2
theorem sp_scriptT {cs : List (Addr × Addr × Str)} {W : DC} {a : Addr} {o : Obj} {ns : List Int} {E : XK} (hS : SqL K (startH K a o ns (cs.map (·.2.1))) a (ns.map V.int)) (na : a ∉ cs.map (·.2.1)) (nd : (cs.map (·.2.1)).Nodup)
    (h : W [.lst (dI ns)] (tabsM cs) fun d _ => d = .bl true) : spD 1 W K [.ref a] (startH K a o ns (cs.map (·.2.1))) (fun v _ => v = .bl true) E := by
  have ri : ∀ {L : Hp} {as : List Addr} (ns : List Int), RpA K as L (ns.map V.int) (dI ns) := fun {L as} ns => by
    induction ns with
    | nil => exact .nil
    | cons n ns ih => exact .cons (.int n) ih
  refine ⟨rfl, cs.map (·.2.1), tabsM cs, fun b => if b ∈ cs.map (·.2.1) then none else startH K a o ns (cs.map (·.2.1)) b, [.lst (dI ns)], fun d _ => d = .bl true, .cons (.lst ?_ (ri ns)) .nil, ⟨fun b u e => ?_, ?_, nd, fun k b m e1 e2 => ?_, fun b ps e => ?_⟩, h, fun v d L' H' M' _ _ e r => ?_⟩
  · rcases hS with (hS | ⟨o2, hS⟩) | hS
    · exact .inl (.inl ((if_neg na).trans hS))
    · exact .inl (.inr ⟨o2, (if_neg na).trans hS⟩)
    · exact .inr hS
  · by_cases hb : b ∈ cs.map (·.2.1)
    · cases (if_pos hb).symm.trans e
    · exact (if_neg hb).symm.trans e
  · unfold tabsM
    rw [List.length_map, List.length_map]
  · have hb : b ∈ cs.map (·.2.1) := List.mem_of_getElem? e1
    refine ⟨if_pos hb, .tbl #[], startH_tab hb, ?_⟩
    unfold tabsM at e2
    rw [List.getElem?_map] at e1 e2
    cases hk : cs[k]? with
    | none => rw [hk] at e1; cases e1
    | some t =>
      rw [hk] at e1 e2
      cases e1
      cases e2
      refine ⟨.tab, rfl, True.intro, fun pos cv hc => ?_⟩
      simp [codeAmong] at hc
  · by_cases hb : b ∈ cs.map (·.2.1)
    · cases (if_pos hb).symm.trans e
    · have e2 := (if_neg hb).symm.trans e
      rcases startH_cases e2 with ⟨hb2, _⟩ | ⟨_, _, _, e3⟩
      · exact absurd hb2 hb
      · cases e3
  · subst e
    cases r
    rfl
end
theorem walk_ofT {l : PySem.W.OpenLaw} {n k : Nat} {q : Program} {loose : List Str} {XP : (Str → Option Value) → Heap → Prop} {YP : World → Heap → Prop} {d : DefRec} {K : Params → PySem.W.Frag} {W : World → (Str → Option Value) → DC} {x : Str}
    (hn : l.most = some n) (hn2 : n ≤ sizeLine) (hdf : d.params.defaults = []) (hr : Room k callerA) (hY : ∀ (w : World) (h : Heap), YP w h → (K w.params).In h)
    (F : ∀ (w : World) (mg : Str → Option Value) (fa : Addr) (h : Heap), (K w.params).In h → h.Ns mainGlobals mg → mg d.name = some (.ref fa) →
      ∃ (fd : FuncData) (cs : List (Addr × Addr × Str)) (W : DC), (∀ t ∈ cs, (K w.params).lookup t.2.1 = none ∧ PySem.W.codeHdIn (K w.params) t.1 t.2.1 = true ∧ ∃ (y : Str) (d' : DefRec), (recsOf q).find? (fun e => e.name == y) = some d' ∧ PySem.W.tabIn (K w.params) y = some (t.1, t.2.1)) ∧ (cs.map (·.2.1)).Nodup ∧
        (∀ (s : Shared) (u : Value), BindsTo s fd ⟨[u], []⟩ [(x, u)]) ∧ (∀ ns : List Int, ns.length ≤ n → W [.lst (dI ns)] (tabsM cs) fun d _ => d = .bl true) ∧
        ∀ base : Heap, (K w.params).In base → base.Ns mainGlobals mg → (∀ t ∈ cs, LamX.TabB base mg t.1 t.2.1) → FnG l.prog w (K w.params) mg base k fa fd [x] (spD 1 W (K w.params))) :
    PySem.W.WalkO q loose XP YP l.row.toRowW d [] (fun f vs => PySem.call f vs) := by
  refine Att.attach_call hn hdf fun w s₀ s₁ mg mb fa o pm cd doc a vs ns G Y ho hd hcd hmg hobj hints hlen hg => ?_
  have KX := hY w _ Y
  obtain ⟨fd, cs, W, hcs, nd, hb, hW, hF⟩ := F w mg fa _ KX G.T.g hmg
  have e1 : (cs.map fun t => (t.1, t.2.1)).map (·.2) = cs.map (·.2.1) := by rw [List.map_map]; rfl
  refine law_callT (cs := cs.map fun t => (t.1, t.2.1)) KX G.T.g G.T.b G.T.builtins G.T.nolimit hg ?_ ?_ ?_ G.T.bmain hobj hints (Nat.le_trans hlen hn2) hr (fun base h1 h2 h3 => hF base h1 h2 fun t ht => h3 _ (List.mem_map.mpr ⟨t, ht, rfl⟩)) hb fun o hS na => ?_
  · intro p hp
    obtain ⟨t, ht, rfl⟩ := List.mem_map.mp hp
    obtain ⟨_, _, y, d', h1, h2⟩ := hcs t ht
    exact (PySem.W.tab_of G.T KX h1 h2).2
  · intro p hp
    obtain ⟨t, ht, rfl⟩ := List.mem_map.mp hp
    exact (hcs t ht).1
  · intro p hp
    obtain ⟨t, ht, rfl⟩ := List.mem_map.mp hp
    exact (hcs t ht).2.1
  · rw [e1] at hS na ⊢
    exact sp_scriptT hS na nd (hW ns hlen)
end Pd
set_option Elab.async false
set_option linter.all false
set_option maxRecDepth 100000
set_option maxHeartbeats 2000000
namespace Pd
open PySem PySem.Spec PyProof.Rows L2 PySem.HandSPX
section
variable {X : Cx} {E : XK} {k n : Nat} {C g : Addr} {fd : FuncData} {ps : List Str} {W : DCX} {e fe o : Expr} {es : List Expr} {t : DE} {tl : DA} {pos apos : Pos} {m : Str} {pl : Sem Bool}
@[simp] def dMethX (C : Addr) (m : Str) (n : Nat) (W : DCX) (t : DE) (tl : DA) : DX := fun ρ M P Xd => t ρ M fun x M1 => ∃ fs, x = .ins C fs ∧ fs.lookup m = none ∧ tl ρ M1 fun ds M2 => ds.length + 1 = n ∧ W (x :: ds) M2 P Xd
/-- .. where it does not raise -/
@[simp] def dMethN (C : Addr) (m : Str) (n : Nat) (W : DCX) (t : DE) (tl : DA) : DE := fun ρ M P => dMethX C m n W t tl ρ M P xNo
@[simp] def dCallOX (C : Addr) (n : Nat) (W : DCX) (t : DE) (tl : DA) : DX := fun ρ M P Xd => t ρ M fun x M1 => ∃ fs, x = .ins C fs ∧ tl ρ M1 fun ds M2 => ds.length + 1 = n ∧ W (x :: ds) M2 P Xd
@[simp] def dCallON (C : Addr) (n : Nat) (W : DCX) (t : DE) (tl : DA) : DE := fun ρ M P => dCallOX C n W t tl ρ M P xNo
end
section
variable {X : Cx} {E : XK} {k n : Nat} {C g : Addr} {fd : FuncData} {ps : List Str} {W : DCX} {a b : Expr} {ta tb : DE} {pos : Pos}
/-- a def called one step deeper by the machine -/
theorem run_in1 {CX : CXT} {sp : Sp} (F : FnOk X.prog X.w X.K X.mg X.base CX k g fd ps sp) (hb : Binds X.K fd ps []) (hr : Room (k + 1) X.A) (hx : Passes CX X E) {pins : List (Addr × Obj)} {σ : L2.St} {H : Hp} {s : Shared} {us : List Value} {vs : List V} {Q : VK} (I : Inv X pins σ H s) (r : Vals vs us) (h : sp vs H Q E) :
    wpAny (model X.prog X.w) X.A.in1 (call (.ref g) us) (EP X pins σ Q) X.xe s := by
  have hl : us.length = ps.length := r.length.symm.trans (F.len _ _ _ _ h)
  have b := hb s us I.kIn (by rw [List.append_nil]; exact hl)
  rw [List.append_nil] at b
  refine wpAny_call (codeAny_mono (F.run X.A.in1 X.stack s H ⟨us, []⟩ us vs Q E hr.in1 I.env0.in1 b r h) fun r s' hq => ?_)
  match r, hq with
  | .error e, z => exact hx pins σ H s e s' I z
  | .ok (.ret u), z => exact I.after z
  | .ok .next, z => exact (show False from z).elim
  | .ok .brk, z => exact (show False from z).elim
  | .ok .cont, z => exact (show False from z).elim
@[simp] def dOwnIxX (C : Addr) (W : DCX) (ta tb : DE) : DX := fun ρ M P Xd => ta ρ M fun x M1 => tb ρ M1 fun y M2 => ∃ fs, x = .ins C fs ∧ W [x, y] M2 P Xd
@[simp] def dOwnIxN (C : Addr) (W : DCX) (ta tb : DE) : DE := fun ρ M P => dOwnIxX C W ta tb ρ M P xNo
end
section
variable {X : Cx} {k : Nat} {C g : Addr} {fd : FuncData} {ps : List Str} {W : DC}
@[simp] def oOwnIn (C : Addr) (W : DC) (f : Bool → Bool) : D2 := fun x y M P => ∃ fs, y = .ins C fs ∧ W [y, x] M fun z M' => ∃ b, z = .bl b ∧ P (.bl (f b)) M'
def rOwnLen (K : PySem.W.Frag) (C : Addr) (W : DC) : List V → Hp → VK → Prop := fun xs H Q => ∃ a dx fs, xs = [.ref a] ∧ H a = some (.ins C dx fs) ∧ spD 1 W K xs H (fun z H' => ∃ i : Int, z = .int i ∧ (0 ≤ i ∧ i < 2 ^ 63) ∧ Q (.int i) H') E0
theorem call_ownLen (hs : PySem.W.findIn X.K (.ref C) "__len__" = some (some (.ref g))) (hf : PySem.W.isFn X.K (.ref g) = true) (F : FnOk X.prog X.w X.K X.mg X.base CX0 k g fd ps (spD 1 W X.K)) (hb : Binds X.K fd ps []) (hr : Room (k + 1) X.A) : CallR X (.builtin "len") (rOwnLen X.K C W) := by
  intro pins s σ H xs us Q I r h
  obtain ⟨a, dx, fs, rfl, ha, q⟩ := h
  obtain ⟨u, rfl, rx⟩ := vals1 r
  cases (show u = Value.ref a from rx)
  obtain ⟨mA, O, _⟩ := ins_get I.hok ha
  obtain ⟨od, J, _⟩ := O.look
  obtain ⟨m, hF⟩ := I.fr
  refine PySem.W.len_K hF I.ok.mod.kin J hs hf (wpAny_mono (run_in1 (us := [.ref a]) (vs := [.ref a]) F hb hr pass0 I (.cons rfl .nil) q) (fun w s' z => ?_) fun _ _ x => x)
  obtain ⟨z', H', I', rz, i, rfl, hi, qz⟩ := z
  obtain ⟨tk, rfl⟩ := (show ∃ t, w = Value.int i t from rz)
  exact ⟨hi, ⟨.int i, H', I'.tok _, ⟨_, rfl⟩, qz⟩⟩
@[simp] def oOwnLen (C : Addr) (W : DC) : DC := fun xs M P => ∃ fs, xs = [.ins C fs] ∧ W xs M fun z M' => ∃ i : Int, z = .int i ∧ (0 ≤ i ∧ i < 2 ^ 63) ∧ P (.int i) M'
theorem sc_ownLen {K : PySem.W.Frag} : SimC K (rOwnLen K C W) (oOwnLen C W) := by
  intro as L H M xs ds P Q A r ⟨fs, h, p⟩ q
  subst h
  have r' := r
  cases r with
  | cons r1 r2 =>
    cases r2
    cases r1 with
    | ins g1 _ =>
      refine ⟨_, _, _, rfl, A.low _ _ g1, sp_of A r' rfl p fun v z L' H' M' s' A' h' rr => ?_⟩
      obtain ⟨i, rfl, hi, p2⟩ := h'
      cases rr
      exact ⟨i, rfl, hi, q _ _ L' H' M' s' A' p2 (.int _)⟩
end
end Pd
set_option Elab.async false
set_option linter.all false
set_option maxRecDepth 100000
set_option maxHeartbeats 1000000
namespace Pd
open PySem PySem.Spec PyProof.Rows L2
theorem newClassE (v : Value) : Builtin.SmallTypes.newClass "enumerate" { pos := [Value.type "enumerate", v] } = pure (Value.type "enumerate", [v]) := by
  unfold Builtin.SmallTypes.newClass
  simp only
  rw [sub_enumerate]
  rfl
theorem enew_eq (v : Value) : Builtin.«enumerate.__new__» { pos := [Value.type "enumerate", v] } = (do
    let _ ← Builtin.SmallTypes.calledThroughType (Value.type "enumerate")
    let it ← pyIter v
    let r ← newObj (Value.type "enumerate") (Data.fields #[Value.none, Value.bool false, it, rawInt 0, Value.none, Value.none])
    ret r) := by
  unfold Builtin.«enumerate.__new__»
  rw [newClassE]
  simp only [pure_bind]
  rw [if_pos (by decide)]
  congr 1
  funext b
  cases b <;> rfl
theorem meets_enumG {v : Value} {o : Obj} {C : Heap → Prop} (B : Begins v o C) : Meets (Builtin.«enumerate.__new__» { pos := [Value.type "enumerate", v] }) fun _ R s => C s.heap ∧
    R (.ok (.ret (.ref (s.heap.push o).objs.size))) { s with heap := (s.heap.push o).push { cls := .type "enumerate", data := .fields #[.none, .bool false, .ref s.heap.objs.size, rawInt 0, .none, .none] } } := by
  intro prog w A R s ⟨h, r⟩
  rw [enew_eq]
  refine wpAny_bind ?_
  unfold Builtin.SmallTypes.calledThroughType
  refine wpAny_bind (wpAny_stack fun st _ _ _ => ?_)
  refine wpAny_pure ?_
  refine wpAny_bind (B.iter _ _ _ _ s _ h ?_)
  refine wpAny_bind (wpAny_newObj_type ?_)
  exact wpAny_pure r
theorem enum_begins {prog : Program} {w : World} {A : Around} {E : Value → Shared → Prop} {s : Shared} {v : Value} {o : Obj} {C : Heap → Prop} {Q : Value → Shared → Prop} (B : Begins v o C) (h : C s.heap)
    (q : ∀ h' : Heap, IsEnum h' (s.heap.objs.size + 1) s.heap.objs.size 0 .none → h'.get? s.heap.objs.size = some o → h'.objs.size = s.heap.objs.size + 2 → (∀ b o', s.heap.get? b = some o' → h'.get? b = some o') → Q (.ref (s.heap.objs.size + 1)) { s with heap := h' }) :
    wpAny (model prog w) A (call (.type "enumerate") [v]) Q E s := by
  have e1 : (s.heap.push o).objs.size = s.heap.objs.size + 1 := by simp [Heap.push]
  have g0 : ((s.heap.push o).push { cls := .type "enumerate", data := .fields #[.none, .bool false, .ref s.heap.objs.size, rawInt 0, .none, .none] }).get? (s.heap.objs.size + 1) = some { cls := .type "enumerate", data := .fields #[.none, .bool false, .ref s.heap.objs.size, rawInt 0, .none, .none] } :=
    Heap.get?_push_at e1.symm rfl
  refine callType_new F.called_enumerate (by decide) (F.typeCall_enumerate_1 _) (F.newCall_enumerate_1 _) (fun obj => rfl) F.entry_enumerate_new (meets_enumG B) ⟨h, ?_⟩
  refine ⟨?_, ?_⟩
  · rw [e1]
    exact ⟨_, g0, rfl⟩
  · rw [e1]
    refine q _ g0 ?_ (by simp [Heap.push]) fun b o' hb => ?_
    · exact Heap.get?_push_of_some _ (Heap.get?_push_size _ B.free)
    · exact Heap.get?_push_of_some _ (Heap.get?_push_of_some _ hb)
def IteK (K : PySem.W.Frag) (k : Kd) (a : Addr) : It :=
  ⟨fun i H => ∃ (xs : List V) (x : V), SqK K k H a xs ∧ xs[i]? = some x,
    fun i H v H' => ∃ T x, v = .ref T ∧ H T = none ∧ H' = upd H T (.tup [.int (i : Nat), x]) ∧ ∀ xs, SqK K k H a xs → xs[i]? = some x,
    fun i H => ∃ xs : List V, SqK K k H a xs ∧ i = xs.length⟩
theorem turn_enumK {P : Program} {w : World} {K : PySem.W.Frag} {elts : List Expr} {kk : Nat} {tpos : Pos} (k : Kd) {a e it : Addr} (hne : a ≠ it) (hea : a ≠ e) (he : e ≠ it) :
    Turn P w K (.Tuple elts kk tpos) (IteK K k a) [e, it] e (fun i h => (∃ old, IsEnum h e it (i : Nat) old) ∧ IterK k h it a i) where
  mem := by simp
  obj := fun i h st c hc => by
    obtain ⟨⟨old, h1⟩, h2⟩ := st
    have e' : c = e ∨ c = it := by simpa using hc
    rcases e' with q | q
    · rw [q]; exact ⟨_, h1, fun v q => nomatch q⟩
    · rw [q]; exact iterK_obj h2
  keep := fun i h h' st kp => by
    obtain ⟨⟨old, h1⟩, h2⟩ := st
    exact ⟨⟨old, kp e (by simp) _ h1⟩, iterK_at h2 fun o q => kp it (by simp) o q⟩
  item := by
    intro X hP hw hK hc i pins s σ H E I hf st hg
    subst hP hw hK
    obtain ⟨⟨old, h1⟩, h2⟩ := st
    obtain ⟨xs, x, hq, hx⟩ := hg
    obtain ⟨its, rv, p, _⟩ := sqK_at I hq
    obtain ⟨u, hu, ru⟩ := rv.get hx
    have hel : e < s.heap.objs.size := Heap.lt_size h1
    have hi1 : i < its.toArray.size := by simpa using (List.getElem?_eq_some_iff.mp hu).1
    refine wpAny_pyNext_enum_itemD (drawsK k (A := X.A.in1) (I.ok.hd hc) it a hne its.toArray) h1 ⟨h2, p⟩ hi1 he (by simp; exact ⟨he, fun z => hea z.symm⟩) fun x1 h' tk g1 z1 st1 hT hsz hk => ?_
    have e1 : x1 = u := by
      have g1' : its[i]? = some x1 := by simpa using g1
      rw [hu] at g1'; exact (Option.some.inj g1').symm
    subst e1
    refine ⟨_, rfl, wpAny_letOwnedTupleGo_enum (s := { s with heap := h', toks := tk + 1 }) z1 fun h'' z'' sb => ?_⟩
    have hT2 : h''.get? s.heap.objs.size = some { cls := .type "tuple", data := .seq #[.int (i : Nat) tk, x1] } := (sb.2 _ (Nat.ne_of_gt hel)).trans hT
    have new : ObjOk X.prog X.w (upd H s.heap.objs.size (.tup [.int (i : Nat), x])) h'' s.heap.objs.size (.tup [.int (i : Nat), x]) :=
      ⟨by show 2 ≤ sizeLine; decide, [.int (i : Nat) tk, x1], .cons ⟨_, rfl⟩ (.cons ru .nil), ⟨_, hT2, rfl, _, rfl⟩⟩
    have I1 : Inv X pins σ (upd H s.heap.objs.size (.tup [.int (i : Nat), x])) { s with heap := h'', toks := tk + 1 } :=
      I.turnedNew (t' := tk + 1) (ch := [e, it]) (fun c o hb q => (sb.2 c (fun q' => hb (by simp [q']))).trans (hk c o (fun q' => hb (by simp [q'])) (fun q' => hb (by simp [q'])) q)) hf (Nat.le_refl _) new
    refine ⟨.ref s.heap.objs.size, _, I1, rfl, ⟨_, x, rfl, I.hok.fresh (Nat.le_refl _), rfl, fun l hl => by rw [sqK_inj I hl hq]; exact hx⟩, ⟨⟨_, by simpa using z''⟩, ?_⟩, fun c hcm => ?_⟩
    · exact iterK_at st1.1 fun o q => (sb.2 _ (fun z => he z.symm)).trans q
    · have hlt : c < s.heap.objs.size := by
        have e' : c = e ∨ c = it := by simpa using hcm
        rcases e' with q | q
        · rw [q]; exact hel
        · rw [q]; obtain ⟨_, e1, _⟩ := iterK_obj h2; exact Heap.lt_size e1
      rw [upd_ne (Nat.ne_of_lt hlt)]
      exact (hf c hcm).1
  done := by
    intro X hP hw hK hc i pins s σ H E I hf st hg
    subst hP hw hK
    obtain ⟨⟨old, h1⟩, h2⟩ := st
    obtain ⟨xs, hq, hend⟩ := hg
    obtain ⟨its, rv, p, _⟩ := sqK_at I hq
    have l1 := rv.length
    have hn : its.toArray.size = i := by simp; omega
    refine wpAny_pyNext_enum_endD (drawsK k (A := X.A.in1) (I.ok.hd hc) it a hne its.toArray) h1 (by rw [hn]; exact ⟨h2, p⟩) fun h' hk => ?_
    exact ⟨rfl, I.turnedL (t' := s.toks) (ch := [e, it]) (fun c o hb q => hk c o (fun q' => hb (by simp [q'])) q) hf⟩
  self := fun A i s Q E st h => by obtain ⟨⟨old, h1⟩, _⟩ := st; exact wpAny_pyIter_enum h1 h
def iEnumK (K : PySem.W.Frag) (ta : TA) : TI := fun σ H R => ta σ H fun vs H1 => ∃ k a xs, vs = [.ref a] ∧ SqK K k H1 a xs ∧ R (IteK K k a) H1
section
variable {X : Cx} {e : Expr} {pos p tpos : Pos} {elts : List Expr} {kk : Nat} {tl : DA}
theorem pi_enumK {ta : TA} (hg : Gl X "enumerate") (hm : X.mg "enumerate" = none) (ha : PA X [e] ta)
    (hs : starEach [e] X.env = (false, eval e X.env) :: starEach [] X.env := by rfl) (hpl : (backTo pos (starEach [] X.env)).any (·.1) = false := by rfl) :
    PI X (.Tuple elts kk tpos) (.Call (.Name "enumerate" p) [e] [] pos) (iEnumK X.K ta) := by
  refine ⟨fun pins s σ H R I h => ?_⟩
  refine Call_ (ld_blt I hg hm PyProof.Rows.boot_enumerate (PyProof.Rows.callWith_type1 (thn (ha.run pos pins s σ H _ I h) fun us s1 ⟨vs, H1, I1, r1, q1⟩ => ?_) hs hpl))
  obtain ⟨k, a, xs, ex, hq, q⟩ := q1
  subst ex
  cases r1 with
  | cons r rr =>
    cases rr
    cases r
    obtain ⟨its, rv, p1, l1⟩ := sqK_at I1 hq
    have fresh2 : ∀ c, c ∈ [s1.heap.objs.size + 1, s1.heap.objs.size] → FpOk X pins H1 c := fun c hcm => by
      have e' : c = s1.heap.objs.size + 1 ∨ c = s1.heap.objs.size := by simpa using hcm
      have hle : s1.heap.objs.size ≤ c := by rcases e' with z | z <;> omega
      exact I1.fpOk hle (I1.hok.fresh hle)
    refine enum_begins (beginsK k a its.toArray) p1 fun h' hz h1 hsz hk => wpAny_pyIter_enum hz ?_
    have I2 : Inv X pins σ H1 { s1 with heap := h' } := I1.kept (t' := s1.toks) hk
    exact ⟨s1.heap.objs.size + 1, [s1.heap.objs.size + 1, s1.heap.objs.size], _, _, H1, rfl, I2, turn_enumK k (Nat.ne_of_lt l1) (Nat.ne_of_lt (Nat.lt_succ_of_lt l1)) (Nat.succ_ne_self _), ⟨⟨_, hz⟩, iterK_new h1⟩, fresh2, q⟩
@[simp] def iEnK (tl : DA) : DA := fun ρ M P => tl ρ M fun ds M1 => ∃ d xs, ds = [d] ∧ isSeq d xs ∧ P (numd 0 xs) M1
theorem walks_enumK {K : PySem.W.Frag} {as : List Addr} {L0 : Hp} {k : Kd} {a : Addr} {xs : List V} {ds : List D} (h1 : SqK K k L0 a xs) (r1 : RpA K as L0 xs ds) : Walks K (IteK K k a) as L0 (numd 0 ds) := by
  intro L H M e A
  have g1 := ex_k (e.trans A.low) h1
  refine ⟨fun i hi => ?_, xs, g1, by rw [numd_len, r1.length]⟩
  rw [numd_len] at hi
  have i1 : i < xs.length := by rw [r1.length]; omega
  refine ⟨⟨xs, _, g1, List.getElem?_eq_getElem i1⟩, fun v H' y => ?_⟩
  obtain ⟨T, x, rfl, hT, rfl, f1⟩ := y
  obtain ⟨d1, q1, w1⟩ := r1.getV (f1 xs g1)
  have lT := lowfree A hT
  refine ⟨_, upd L T (.tup [.int (i : Nat), x]), numd_get ds 0 i d1 q1, Step.know A hT, A.know hT, .tup (.inl (.inl upd_same)) (.cons ?_ (.cons (w1.mono (e.trans (Ex.new lT)) (Pre.refl _)) .nil))⟩
  rw [Nat.zero_add]
  exact .int _
theorem pdi_enumK (hg : Gl X "enumerate") (hm : X.mg "enumerate" = none) (ha : PDA X [e] tl)
    (hs : starEach [e] X.env = (false, eval e X.env) :: starEach [] X.env := by rfl) (hpl : (backTo pos (starEach [] X.env)).any (·.1) = false := by rfl) : PDI X (.Tuple elts kk tpos) (.Call (.Name "enumerate" p) [e] [] pos) (iEnK tl) := by
  obtain ⟨u, pa, s⟩ := ha.ex
  refine ⟨_, pi_enumK hg hm pa hs hpl, ?_⟩
  intro as σ ρ L H M P R hE A h q
  refine s as σ ρ L H M _ _ hE A h fun vs ds L1 H1 M1 s1 A1 h1 r1 => ?_
  obtain ⟨d, xs, rfl, hd, p⟩ := h1
  cases r1 with
  | cons ra rb =>
    cases rb
    obtain ⟨k, a, xv, rfl, g1, w1⟩ := rp_seq ra hd
    exact ⟨k, a, xv, rfl, ex_k A1.low g1, q _ _ L1 H1 M1 s1 A1 p (walks_enumK g1 w1)⟩
end
end Pd
set_option Elab.async false
set_option linter.all false
set_option maxRecDepth 100000
set_option maxHeartbeats 1000000
namespace Pd
open PySem PySem.Spec PyProof.Rows L2
def upI (K : PySem.W.Frag) (t : DA) : TI := fun σ H R => ∃ as ρ L M P, En K as L σ ρ ∧ At K as M L H ∧ t ρ M P ∧ ∀ J ds L' H' M', Step as L H as L' H' → At K as M' L' H' → P ds M' → Walks K J as L' ds → R J H'
theorem sim_upI {K : PySem.W.Frag} (t : DA) : SimI K (upI K t) t := fun as σ ρ L H M P R hE A h q => ⟨as, ρ, L, M, P, hE, A, h, q⟩
theorem PDI.up {X : Cx} {tg iter : Expr} {t : DA} (h : PDI X tg iter t) : PI X tg iter (upI X.K t) := by
  obtain ⟨u, p, s⟩ := h.ex
  exact ⟨fun pins sh σ H R I ⟨as, ρ, L, M, P, hE, A, h, q⟩ => p.run pins sh σ H R I (s as σ ρ L H M P R hE A h q)⟩
def lcIn (g : DG) (tt : DT) (te : DE) (ρ : Rho) (k : List D → Ms → Prop) : List D → List D → Ms → Prop
  | [], acc, M => k acc M
  | d :: r, acc, M => g d ρ fun ρ' => tt ρ' M fun b M1 => if b = true then te ρ' M1 fun y M2 => acc.length < sizeLine ∧ lcIn g tt te ρ k r (acc ++ [y]) M2 else lcIn g tt te ρ k r acc M1
def lc2Run (g : DG) (tt : DT) (it1 : DA) (g1 : DG) (tt1 : DT) (te : DE) (vs1 : List Nat) (ρ : Rho) (P : D → Ms → Prop) : List D → List D → Ms → Prop
  | [], acc, M => P (.lst acc) M
  | d :: r, acc, M => g d ρ fun ρ' => tt ρ' M fun b M1 => if b = true then it1 ρ' M1 fun ds1 M2 => lcIn g1 tt1 te (wipeR ρ' vs1) (fun acc' M' => lc2Run g tt it1 g1 tt1 te vs1 ρ P r acc' M') ds1 acc M2 else lc2Run g tt it1 g1 tt1 te vs1 ρ P r acc M1
@[simp] def dLc2 (it : DA) (g : DG) (tt : DT) (it1 : DA) (g1 : DG) (tt1 : DT) (te : DE) (vs vs1 : List Nat) : DE := fun ρ M P => it ρ M fun ds M1 => lc2Run g tt it1 g1 tt1 te vs1 (wipeR ρ vs) P ds [] M1
theorem sim_lc2 {K : PySem.W.Frag} {wi wi1 : TI} {it it1 : DA} {g' g1' : TG} {g g1 : DG} {us us1 : List Nat} {ut ut1 : TT} {tt tt1 : DT} {ue : TE} {te : DE} {vs vs1 : List Nat} (hus : ∀ i ∈ us, i ∈ vs) (hus1 : ∀ i ∈ us1, i ∈ vs1)
    (s : SimI K wi it) (sg : SimG K g' g us) (st : SimT K ut tt) (si1 : SimI K wi1 it1) (sg1 : SimG K g1' g1 us1) (st1 : SimT K ut1 tt1) (se : SimE K ue te) :
    SimE K (tLc2 wi g' ut wi1 g1' ut1 ue vs vs1) (dLc2 it g tt it1 g1 tt1 te vs vs1) := by
  intro as σ ρ L H M P Q hE A h q
  refine s as σ ρ L H M _ _ hE A h fun J ds L1 H1 M1 s1 A1 h1 w1 => ?_
  intro D hD
  have base : ∀ {L' H' : Hp} {M' : Ms} {acc : List V}, At K as M' L' H' → H' D = some (.lst acc) → L' D = none → D ∉ as → ∀ acc', At K as M' L' (upd H' D (.lst acc')) := by
    intro L' H' M' acc A' hd hl hn acc'
    refine ⟨fun a o h => ?_, A'.len, A'.nd, fun k a m e1 e2 => ?_, A'.nt⟩
    · have e : a ≠ D := fun z => by rw [z, hl] at h; cases h
      rw [upd_ne e]; exact A'.low a o h
    · obtain ⟨h3, o, h4, h5⟩ := A'.mo k a m e1 e2
      have e : a ≠ D := fun z => hn (by rw [← z]; exact List.mem_of_getElem? e1)
      exact ⟨h3, o, by rw [upd_ne e]; exact h4, h5.1, h5.2.keep (KeepC.over hd rfl)⟩
  have dn : D ∉ as := fun z => (A1.held z).2 hD
  have ld : L1 D = none := lowfree A1 hD
  refine ⟨fun i m H' => m = ds.length - i ∧ i ≤ ds.length ∧ ∃ L' M' xs acc, Step as L1 H1 as L' H' ∧ At K as M' L' H' ∧ H' D = some (.lst xs) ∧ L' D = none ∧ RpA K as L' xs acc ∧ lc2Run g tt it1 g1 tt1 te vs1 (wipeR ρ vs) P (ds.drop i) acc M',
    ⟨ds.length, by simp, Nat.zero_le _, L1, M1, [], [], ⟨fun a o _ h => ?_, Ex.refl _, fun _ h _ => h, Pre.refl _, fun _ h => .inl h⟩, ?_, upd_same, ld, .nil, h1⟩, ?_⟩
  · rw [upd_ne (ne_of_none h hD)]; exact h
  · refine ⟨fun a o h => ?_, A1.len, A1.nd, fun k a m e1 e2 => ?_, A1.nt⟩
    · rw [upd_ne (ne_of_none (A1.low a o h) hD)]; exact A1.low a o h
    · obtain ⟨h3, o, h4, h5⟩ := A1.mo k a m e1 e2
      exact ⟨h3, o, by rw [upd_ne (ne_of_none h4 hD)]; exact h4, h5.1, h5.2.keep (KeepC.new hD)⟩
  rintro i m H' ⟨rfl, hi, L', M', xs, acc, s', A', hd', ld', ra, hf⟩
  obtain ⟨wg, ws⟩ := w1 L' H' M' s'.k A'
  have upD : ∀ {L2 H2 : Hp} {M2 : Ms}, Step as L1 H1 as L2 H2 → At K as M2 L2 H2 → ∀ acc', Step as L1 H1 as L2 (upd H2 D (.lst acc')) := by
    intro L2 H2 M2 s2 A2 acc'
    exact ⟨fun a o ha h => by rw [upd_ne (ne_of_none h hD)]; exact s2.up a o ha h, s2.k, s2.hid, s2.pre, s2.new⟩
  by_cases hlt : i < ds.length
  · obtain ⟨go, wy⟩ := wg i hlt
    rw [List.drop_eq_getElem_cons hlt] at hf
    refine .inr ⟨go, fun H2 => ∃ L' M' xs acc, Step as L1 H1 as L' H2 ∧ At K as M' L' H2 ∧ H2 D = some (.lst xs) ∧ L' D = none ∧ RpA K as L' xs acc ∧ lc2Run g tt it1 g1 tt1 te vs1 (wipeR ρ vs) P (ds.drop (i + 1)) acc M', fun H2 q => ⟨ds.length - (i + 1), by omega, rfl, hlt, q⟩, fun x H2 y => ?_⟩
    obtain ⟨d, L2, hd, s2, A2, r2⟩ := wy x H2 y
    rw [List.getElem?_eq_getElem hlt] at hd
    cases hd
    have hE2 : En K as L2 (wipeS σ vs) (wipeR ρ vs) := ((hE.mono (s1.k.trans (s'.k.trans s2.k)) (Pre.refl _)).wipe vs)
    have hd2 : H2 D = some (.lst xs) := s2.up D _ dn hd'
    have ld2 : L2 D = none := s2.hid D ld' (by rw [hd']; simp)
    refine sg as L2 H2 x _ _ _ M' _ _ hE2 A2 r2 hf fun σ3 ρ3 e3 p3 wp => ⟨?_, ?_⟩
    · have z := wp vs hus
      rw [z, wipe_wipe]
    · refine st as σ3 ρ3 L2 H2 M' _ _ e3 A2 p3 fun b L3 H3 M3 s3 A3 h3 => ?_
      have s13 := (s'.trans A' s2).trans A2 s3
      have hd3 : H3 D = some (.lst xs) := s3.up D _ dn hd2
      have ld3 : L3 D = none := s3.hid D ld2 (by rw [hd2]; simp)
      cases b with
      | false =>
        rw [if_neg Bool.false_ne_true] at h3 ⊢
        exact ⟨L3, M3, xs, acc, s13, A3, hd3, ld3, ra.mono (s2.k.trans s3.k) (Pre.refl _), h3⟩
      | true =>
        rw [if_pos rfl] at h3 ⊢
        refine si1 as σ3 ρ3 L3 H3 M3 _ _ (e3.mono s3.k s3.pre) A3 h3 fun J1 ds1 L4 H4 M4 s4 A4 h4 w4 => ?_
        have hd4 : H4 D = some (.lst xs) := s4.up D _ dn hd3
        have ld4 : L4 D = none := s4.hid D ld3 (by rw [hd3]; simp)
        have s14 := s13.trans A3 s4
        have ra4 := ra.mono (s2.k.trans (s3.k.trans s4.k)) (Pre.refl as)
        have e4 := e3.mono (s3.k.trans s4.k) (Pre.refl as)
        refine ⟨fun j k H5 => k = ds1.length - j ∧ j ≤ ds1.length ∧ ∃ L5 M5 xs acc, Ex L4 L5 ∧ Step as L1 H1 as L5 H5 ∧ At K as M5 L5 H5 ∧ H5 D = some (.lst xs) ∧ L5 D = none ∧ RpA K as L5 xs acc ∧ lcIn g1 tt1 te (wipeR ρ3 vs1) (fun acc' M' => lc2Run g tt it1 g1 tt1 te vs1 (wipeR ρ vs) P (ds.drop (i + 1)) acc' M') (ds1.drop j) acc M5,
          ⟨ds1.length, by simp, Nat.zero_le _, L4, M4, xs, acc, Ex.refl _, s14, A4, hd4, ld4, ra4, h4⟩, ?_⟩
        rintro j k H5 ⟨rfl, hj, L5, M5, xs5, acc5, x5, s5, A5, hd5, ld5, ra5, hf5⟩
        obtain ⟨wg5, ws5⟩ := w4 L5 H5 M5 x5 A5
        by_cases hl5 : j < ds1.length
        · obtain ⟨go5, wy5⟩ := wg5 j hl5
          rw [List.drop_eq_getElem_cons hl5] at hf5
          refine .inr ⟨go5, fun H6 => ∃ L5 M5 xs acc, Ex L4 L5 ∧ Step as L1 H1 as L5 H6 ∧ At K as M5 L5 H6 ∧ H6 D = some (.lst xs) ∧ L5 D = none ∧ RpA K as L5 xs acc ∧ lcIn g1 tt1 te (wipeR ρ3 vs1) (fun acc' M' => lc2Run g tt it1 g1 tt1 te vs1 (wipeR ρ vs) P (ds.drop (i + 1)) acc' M') (ds1.drop (j + 1)) acc M5, fun H6 q => ⟨ds1.length - (j + 1), by omega, rfl, hl5, q⟩, fun x6 H6 y6 => ?_⟩
          obtain ⟨d6, L6, hd6, s6, A6, r6⟩ := wy5 x6 H6 y6
          rw [List.getElem?_eq_getElem hl5] at hd6
          cases hd6
          have hE6 : En K as L6 (wipeS σ3 vs1) (wipeR ρ3 vs1) := ((e4.mono (x5.trans s6.k) (Pre.refl _)).wipe vs1)
          have hd6 : H6 D = some (.lst xs5) := s6.up D _ dn hd5
          have ld6 : L6 D = none := s6.hid D ld5 (by rw [hd5]; simp)
          refine sg1 as L6 H6 x6 _ _ _ M5 _ _ hE6 A6 r6 hf5 fun σ7 ρ7 e7 p7 wp7 => ⟨?_, ?_⟩
          · have z := wp7 vs1 hus1
            rw [z, wipe_wipe]
          · refine st1 as σ7 ρ7 L6 H6 M5 _ _ e7 A6 p7 fun b L7 H7 M7 s7 A7 h7 => ?_
            have s17 := (s5.trans A5 s6).trans A6 s7
            have hd7 : H7 D = some (.lst xs5) := s7.up D _ dn hd6
            have ld7 : L7 D = none := s7.hid D ld6 (by rw [hd6]; simp)
            cases b with
            | false =>
              rw [if_neg Bool.false_ne_true] at h7 ⊢
              exact ⟨L7, M7, xs5, acc5, x5.trans (s6.k.trans s7.k), s17, A7, hd7, ld7, ra5.mono (s6.k.trans s7.k) (Pre.refl _), h7⟩
            | true =>
              rw [if_pos rfl] at h7 ⊢
              refine se as σ7 ρ7 L7 H7 M7 _ _ (e7.mono s7.k s7.pre) A7 h7 fun v z L8 H8 M8 s8 A8 h8 r8 => ?_
              have hd8 : H8 D = some (.lst xs5) := s8.up D _ dn hd7
              have ld8 : L8 D = none := s8.hid D ld7 (by rw [hd7]; simp)
              have s18 := s17.trans A7 s8
              have ra8 := ra5.mono (s6.k.trans (s7.k.trans s8.k)) (Pre.refl as)
              exact ⟨xs5, hd8, by rw [ra8.length]; exact h8.1, L8, M8, xs5 ++ [v], acc5 ++ [z], x5.trans (s6.k.trans (s7.k.trans s8.k)), upD s18 A8 _, base A8 hd8 ld8 dn _, upd_same, ld8, ra8.append (.one r8), h8.2⟩
        · have e : j = ds1.length := by omega
          subst e
          rw [List.drop_length] at hf5
          exact .inl ⟨ws5, L5, M5, xs5, acc5, s5, A5, hd5, ld5, ra5, hf5⟩
  · have e : i = ds.length := by omega
    subst e
    rw [List.drop_length] at hf
    refine .inl ⟨ws, q _ _ (upd L' D (.lst xs)) H' M' (s1.trans A1 ⟨s'.up, s'.k.trans (Ex.new ld'), fun a h h' => ?_, Pre.refl _, fun _ h => .inl h⟩) ⟨fun a o h => ?_, A'.len, A'.nd, fun k a m e1 e2 => ?_, A'.nt.new (fun ps z => by cases z)⟩ hf (.lst (.inl (.inl upd_same)) (ra.mono (Ex.new ld') (Pre.refl _)))⟩
    · have e : a ≠ D := fun z => h' (by rw [z]; exact hD)
      rw [upd_ne e]; exact s'.hid a h h'
    · by_cases e : a = D
      · subst e; rw [upd_same] at h; rw [hd']; exact h
      · rw [upd_ne e] at h; exact A'.low a o h
    · obtain ⟨h3, o, h4, h5⟩ := A'.mo k a m e1 e2
      have e : a ≠ D := fun z => dn (by rw [← z]; exact List.mem_of_getElem? e1)
      exact ⟨by rw [upd_ne e]; exact h3, o, h4, h5.1.mono (Ex.new ld') (Pre.refl _), h5.2⟩
section
variable {X : Cx}
theorem pd_lc2 {elt tg iter tg1 iter1 : Expr} {ifs ifs1 : List Expr} {scope : Scope} (own : List (Str × Nat)) (vs1 : List Nat) {pos : Pos} {it it1 : DA} {g g1 : DG} {us us1 : List Nat} {tt tt1 : DT} {te : DE} (hc : X.calm = true) (hN : X.N.Nodup) (hi : PDI X tg iter it) (ok : BlkOk X.N X.env.scope scope own)
    (hg : ∀ (s : Shared) (H : Hp) (C : Addr) (cl : List (Str × Addr)) (fp : List Addr), PDG (X.blk s H scope (compEnvC scope cl C X.env) fp) tg g us) (ht : ∀ (s : Shared) (H : Hp) (C : Addr) (cl : List (Str × Addr)) (fp : List Addr), PDTs (X.blk s H scope (compEnvC scope cl C X.env) fp) ifs tt)
    (hi1 : ∀ (s : Shared) (H : Hp) (C : Addr) (cl : List (Str × Addr)) (fp : List Addr), PDI (X.blk s H scope (compEnvC scope cl C X.env) fp) tg1 iter1 it1)
    (hg1 : ∀ (s : Shared) (H : Hp) (C : Addr) (cl : List (Str × Addr)) (fp : List Addr), PDG (X.blk s H scope (compEnvC scope cl C X.env) fp) tg1 g1 us1) (ht1 : ∀ (s : Shared) (H : Hp) (C : Addr) (cl : List (Str × Addr)) (fp : List Addr), PDTs (X.blk s H scope (compEnvC scope cl C X.env) fp) ifs1 tt1)
    (he : ∀ (s : Shared) (H : Hp) (C : Addr) (cl : List (Str × Addr)) (fp : List Addr), PD (X.blk s H scope (compEnvC scope cl C X.env) fp) elt te) (hv : ∀ i ∈ vs1, i ∈ own.map (·.2) := by decide) (hu : ∀ i ∈ us, i ∈ own.map (·.2) := by decide) (hu1 : ∀ i ∈ us1, i ∈ vs1 := by decide)
    (hs : ∀ x, foldedSetIterable iter X.env x = pure x := by intro _; rfl) (hs1 : ∀ env x, foldedSetIterable iter1 env x = pure x := by intro _ _; rfl) :
    PD X (.ListComp elt [⟨tg, iter, ifs, 0⟩, ⟨tg1, iter1, ifs1, 0⟩] scope pos) (dLc2 it g tt it1 g1 tt1 te (own.map (·.2)) vs1) := by
  obtain ⟨wi, p, s⟩ := hi.ex
  exact ⟨_, pe_lc2 hc hN p ok hv (fun a b c d e => (hg a b c d e).up) (fun a b c d e => (ht a b c d e).up) (fun a b c d e => (hi1 a b c d e).up) (fun a b c d e => (hg1 a b c d e).up) (fun a b c d e => (ht1 a b c d e).up) (fun a b c d e => (he a b c d e).up) (hs := hs) (hs1 := hs1),
    sim_lc2 hu hu1 s (sim_upG g us) (sim_upT tt) (sim_upI it1) (sim_upG g1 us1) (sim_upT tt1) (sim_upE te)⟩
theorem pds_setLc2 (i : Nat) {y : Str} {py : Pos} {elt tg iter tg1 iter1 : Expr} {ifs ifs1 : List Expr} {scope : Scope} (own : List (Str × Nat)) (vs1 : List Nat) {pos spos : Pos} {it it1 : DA} {g g1 : DG} {us us1 : List Nat} {tt tt1 : DT} {te : DE} (hc : X.calm = true) (hN : X.N.Nodup) (hy : X.N[i]? = some y) (hyl : X.env.scope.names.lookup y = some .local)
    (hsw : swapsWith (.ListComp elt [⟨tg, iter, ifs, 0⟩, ⟨tg1, iter1, ifs1, 0⟩] scope pos) (some (.Name y py)) spos.line X.env = pure true) (hi : PDI X tg iter it) (ok : BlkOk X.N X.env.scope scope own)
    (hg : ∀ (s : Shared) (H : Hp) (C : Addr) (cl : List (Str × Addr)) (fp : List Addr), PDG (X.blk s H scope (compEnvC scope cl C X.env) fp) tg g us) (ht : ∀ (s : Shared) (H : Hp) (C : Addr) (cl : List (Str × Addr)) (fp : List Addr), PDTs (X.blk s H scope (compEnvC scope cl C X.env) fp) ifs tt)
    (hi1 : ∀ (s : Shared) (H : Hp) (C : Addr) (cl : List (Str × Addr)) (fp : List Addr), PDI (X.blk s H scope (compEnvC scope cl C X.env) fp) tg1 iter1 it1)
    (hg1 : ∀ (s : Shared) (H : Hp) (C : Addr) (cl : List (Str × Addr)) (fp : List Addr), PDG (X.blk s H scope (compEnvC scope cl C X.env) fp) tg1 g1 us1) (ht1 : ∀ (s : Shared) (H : Hp) (C : Addr) (cl : List (Str × Addr)) (fp : List Addr), PDTs (X.blk s H scope (compEnvC scope cl C X.env) fp) ifs1 tt1)
    (he : ∀ (s : Shared) (H : Hp) (C : Addr) (cl : List (Str × Addr)) (fp : List Addr), PD (X.blk s H scope (compEnvC scope cl C X.env) fp) elt te) (hv : ∀ i ∈ vs1, i ∈ own.map (·.2) := by decide) (hu : ∀ i ∈ us, i ∈ own.map (·.2) := by decide) (hu1 : ∀ i ∈ us1, i ∈ vs1 := by decide)
    (hs : ∀ x, foldedSetIterable iter X.env x = pure x := by intro _; rfl) (hs1 : ∀ env x, foldedSetIterable iter1 env x = pure x := by intro _ _; rfl) :
    PDS X (.Assign [.Name y py] (.ListComp elt [⟨tg, iter, ifs, 0⟩, ⟨tg1, iter1, ifs1, 0⟩] scope pos) spos) (sAsg (dLc2 it g tt it1 g1 tt1 te (own.map (·.2)) vs1) (gN i)) := by
  obtain ⟨wi, p, s⟩ := hi.ex
  exact ⟨_, ps_setLc2 (i := i) hc hN hy hyl hsw p ok hv (fun a b c d e => (hg a b c d e).up) (fun a b c d e => (ht a b c d e).up) (fun a b c d e => (hi1 a b c d e).up) (fun a b c d e => (hg1 a b c d e).up) (fun a b c d e => (ht1 a b c d e).up) (fun a b c d e => (he a b c d e).up) (hs := hs) (hs1 := hs1),
    sim_asg (sim_lc2 hu hu1 s (sim_upG g us) (sim_upT tt) (sim_upI it1) (sim_upG g1 us1) (sim_upT tt1) (sim_upE te)) (sim_gN i)⟩
end
end Pd
set_option Elab.async false
set_option linter.all false
set_option maxRecDepth 100000
set_option maxHeartbeats 1000000
namespace Pd
open PySem PySem.Spec PyProof.Rows L2
section
variable {X : Cx} {K : PySem.W.Frag}
@[simp] def dStar (te : DE) (tl : DA) : DA := fun ρ M P => te ρ M fun d M1 => ∃ xs, isSeq d xs ∧ tl ρ M1 fun ys M2 => P (xs ++ ys) M2
theorem pda_star {e : Expr} {es : List Expr} {te : DE} {tl : DA} {p : Pos} (ha : PD X e te) (hr : PDA X es tl) (hs : starEach (.Starred e p :: es) X.env = (true, eval e X.env) :: starEach es X.env := by rfl) : PDA X (.Starred e p :: es) (dStar te tl) := by
  obtain ⟨u, pa, s⟩ := ha.ex
  obtain ⟨u2, pb, s2⟩ := hr.ex
  refine ⟨_, StX.pa_star pa pb hs, ?_⟩
  intro as σ ρ L H M P Q hE A h q
  refine s as σ ρ L H M _ _ hE A h fun v d L1 H1 M1 s1 A1 h1 r1 => ?_
  obtain ⟨xs, hd, h1⟩ := h1
  obtain ⟨k, a, xv, rfl, g1, w1⟩ := rp_seq r1 hd
  refine ⟨a, xv, rfl, ?_, s2 as σ ρ L1 H1 M1 _ _ (hE.mono s1.k s1.pre) A1 h1 fun vs ds L2 H2 M2 t1 A2 h2 r2 => ?_⟩
  · cases k with
    | l => exact .inr (ex_l A1.low g1)
    | t => exact .inl (ex_t A1.low g1)
  · exact q _ _ L2 H2 M2 (s1.trans A1 t1) A2 h2 ((w1.mono t1.k t1.pre).append r2)
def isNonD : D → Bool | .non => true | _ => false
@[simp] theorem isNonD_non : isNonD .non = true := rfl
@[simp] theorem isNonD_int (i : Int) : isNonD (.int i) = false := rfl
@[simp] theorem isNonD_tup (ds : List D) : isNonD (.tup ds) = false := rfl
@[simp] theorem isNonD_lst (ds : List D) : isNonD (.lst ds) = false := rfl
@[simp] theorem isNonD_str (x : Str) : isNonD (.str x) = false := rfl
@[simp] theorem isNonD_bl (b : Bool) : isNonD (.bl b) = false := rfl
theorem Rp.nonD {as : List Addr} {L : Hp} {v : V} {d : D} (r : Rp K as L v d) : decide (v = .non) = isNonD d := by cases r <;> simp [isNonD]
def rIs0 : R2 := fun x y H Q => y = V.non ∧ Q (V.bl (decide (x = V.non))) H
def rNot0 : R2 := fun x y H Q => y = V.non ∧ Q (V.bl (!decide (x = V.non))) H
@[simp] def oIs0 : D2 := fun x y M P => y = .non ∧ P (.bl (isNonD x)) M
@[simp] def oNot0 : D2 := fun x y M P => y = .non ∧ P (.bl (!isNonD x)) M
theorem sr_is0 : SimR K rIs0 oIs0 := by
  intro as L H M x y d e P Q A r1 r2 ⟨h1, p⟩ q
  subst h1
  cases r2
  refine ⟨rfl, ?_⟩
  rw [r1.nonD]
  exact q _ _ L H M .refl A p (.bl _)
theorem sr_not0 : SimR K rNot0 oNot0 := by
  intro as L H M x y d e P Q A r1 r2 ⟨h1, p⟩ q
  subst h1
  cases r2
  refine ⟨rfl, ?_⟩
  rw [r1.nonD]
  exact q _ _ L H M .refl A p (.bl _)
theorem op_is0 : OpR X (compareOp .Is) rIs0 := op_isN
theorem op_not0 : OpR X (compareOp .IsNot) rNot0 := op_notN
def rInS' (K : PySem.W.Frag) : R2 := fun x y H Q => ∃ d ds, Dp K H x d ∧ (Dp K H y (.list ds) ∧ SeqAt.shaped (.list ds) = true ∨ Dp K H y (.tuple ds) ∧ SeqAt.shaped (.tuple ds) = true) ∧ SeqAt.shaped d = true ∧ d.depth ≤ 60 ∧ Q (.bl (ds.any fun z => PyData.eqv z d)) H
theorem op_inS' (hu : X.A.units + 64 < cLine) : OpR X (compareOp .In) (rInS' X.K) := by
  intro pins s σ H x y v u Q I r1 r2 h
  obtain ⟨d, ds, h1, h2, h3, hd, q⟩ := h
  obtain ⟨bs, rx⟩ := Dp.reads I d x v h1 r1
  rcases h2 with ⟨h2, h4⟩ | ⟨h2, h4⟩
  · obtain ⟨as, ry⟩ := Dp.reads I _ y u h2 r2
    have hc := SeqAt.canLay_of_shaped h4
    refine SeqAt.in_list_reads ry rx (by simpa [PyData.canLay0] using hc) (SeqAt.canLay_of_shaped h3) (by omega) ⟨.bl _, H, I, rfl, q⟩
  · obtain ⟨as, ry⟩ := Dp.reads I _ y u h2 r2
    have hc := SeqAt.canLay_of_shaped h4
    refine SeqAt.in_tuple_reads ry rx (by simpa [PyData.canLay0] using hc) (SeqAt.canLay_of_shaped h3) (by omega) ⟨.bl _, H, I, rfl, q⟩
@[simp] def oInS : D2 := fun x y M P => ∃ ds, isSeq y ds ∧ okD x = true ∧ okD y = true ∧ (toP x).depth ≤ 60 ∧ P (.bl (ds.any fun z => eqD z x)) M
theorem toPA_map (ds : List D) : toPA ds = ds.map toP := by
  induction ds with
  | nil => rfl
  | cons d ds ih => show toP d :: toPA ds = _; rw [ih]; rfl
theorem sr_inS : SimR K (rInS' K) oInS := by
  intro as L H M x y d e P Q A r1 r2 ⟨ds, h1, h2, h3, h4, p⟩ q
  have e1 := Bool.and_eq_true_iff.mp h2
  have e2 := Bool.and_eq_true_iff.mp h3
  have d1 := r1.dp A.low e1.1
  have d2 := r2.dp A.low e2.1
  refine ⟨toP d, toPA ds, d1, ?_, e1.2, h4, ?_⟩
  · rcases h1 with rfl | rfl
    · exact .inl ⟨d2, e2.2⟩
    · exact .inr ⟨d2, e2.2⟩
  · have : (toPA ds).any (fun z => PyData.eqv z (toP d)) = ds.any fun z => eqD z d := by rw [toPA_map, List.any_map]; rfl
    rw [this]
    exact q _ _ L H M .refl A p (.bl _)
end
end Pd
set_option Elab.async false
set_option linter.all false
set_option maxRecDepth 100000
set_option maxHeartbeats 1000000
namespace Pd
open PySem PySem.Spec PyProof.Rows L2
@[simp] def tGFor (wi : TI) (g : TG) (tb : TGn) : TGn := fun D ys σ H => wi σ H fun J H1 => ∃ W : Nat → Nat → List V → L2.St → Hp → Prop, (∃ m, W 0 m ys σ H1) ∧ ∀ i m ys σ H, W i m ys σ H →
  (J.stop i H ∧ D.nx ys σ H) ∨ (J.go i H ∧ ∃ N : List V → L2.St → Hp → Prop, (∀ ys' σ' H', N ys' σ' H' → ∃ m', m' < m ∧ W (i + 1) m' ys' σ' H') ∧ ∀ x H', J.yld i H x H' → g x σ H' fun σ2 H2 => tb { D with nx := N, ct := N, bk := D.nx } ys σ2 H2)
end Pd
set_option Elab.async false
set_option linter.all false
set_option maxRecDepth 100000
set_option maxHeartbeats 1000000
namespace Pd
open PySem PySem.Spec PyProof.Rows L2
structure DGE where
  nx : List D → Rho → Ms → Prop
  rt : List D → D → Ms → Prop
  bk : List D → Rho → Ms → Prop := fun _ _ _ => False
  ct : List D → Rho → Ms → Prop := fun _ _ _ => False
abbrev GX := DGE → XD → List D → Rho → Ms → Prop
def GEndN (K : PySem.W.Frag) (as : List Addr) (L H : Hp) (d : List D → Rho → Ms → Prop) (v : List V → L2.St → Hp → Prop) : Prop := ∀ ys ds σ' ρ' L' H' M', Step as L H as L' H' → At K as M' L' H' → En K as L' σ' ρ' → RpA K as L' ys ds → d ds ρ' M' → v ys σ' H'
structure GComp (K : PySem.W.Frag) (as : List Addr) (L H : Hp) (De : DGE) (D : GEnds) : Prop where
  nx : GEndN K as L H De.nx D.nx
  rt : ∀ ys ds v d L' H' M', Step as L H as L' H' → At K as M' L' H' → RpA K as L' ys ds → De.rt ds d M' → Rp K as L' v d → D.rt ys v H'
  bk : GEndN K as L H De.bk D.bk
  ct : GEndN K as L H De.ct D.ct
theorem GEndN.step {K : PySem.W.Frag} {as : List Addr} {L H L1 H1 : Hp} {M1 : Ms} {d : List D → Rho → Ms → Prop} {v : List V → L2.St → Hp → Prop} (s : Step as L H as L1 H1) (A1 : At K as M1 L1 H1) (h : GEndN K as L H d v) : GEndN K as L1 H1 d v :=
  fun ys ds σ' ρ' L' H' M' s' A' e' r q => h ys ds σ' ρ' L' H' M' (s.trans A1 s') A' e' r q
theorem GComp.step {K : PySem.W.Frag} {as : List Addr} {L H L1 H1 : Hp} {M1 : Ms} {De : DGE} {D : GEnds} (s : Step as L H as L1 H1) (A1 : At K as M1 L1 H1) (h : GComp K as L H De D) : GComp K as L1 H1 De D :=
  ⟨h.nx.step s A1, fun ys ds v d L' H' M' s' A' ry q r => h.rt ys ds v d L' H' M' (s.trans A1 s') A' ry q r, h.bk.step s A1, h.ct.step s A1⟩
section
variable {X : Cx} {E : XK} {st : Stmt} {sts : List Stmt} {pos : Pos}
/-- a statement without yields -/
@[simp] def yOf (t : SX) : GX := fun De Xd ds ρ M => t ⟨De.nx ds, De.rt ds, De.bk ds, De.ct ds⟩ Xd ρ M
@[simp] def yNil : GX := fun De _ ds ρ M => De.nx ds ρ M
@[simp] def ySeq (t u : GX) : GX := fun De Xd ds ρ M => t { De with nx := fun ds' ρ' M' => u De Xd ds' ρ' M' } Xd ds ρ M
@[simp] def yYield (te : DE) : GX := fun De _ ds ρ M => ds.length < sizeLine ∧ te ρ M fun d M1 => De.nx (ds ++ [d]) ρ M1
def yRun (g : DG) (body : GX) (De : DGE) (Xd : XD) : List D → List D → Rho → Ms → Prop
  | [], ds, ρ, M => De.nx ds ρ M
  | d :: r, ds, ρ, M => g d ρ fun ρ' => body { De with nx := fun ds2 ρ2 M2 => yRun g body De Xd r ds2 ρ2 M2, ct := fun ds2 ρ2 M2 => yRun g body De Xd r ds2 ρ2 M2, bk := De.nx } Xd ds ρ' M
@[simp] def yFor (it : DA) (g : DG) (body : GX) : GX := fun De Xd ds ρ M => it ρ M fun is M1 => yRun g body De Xd is ds ρ M1
end
abbrev DCG := List D → Ms → (List D → Ms → Prop) → XD → Prop
def spG (n : Nat) (W : DCG) : PySem.W.Frag → SpG := fun K vs H Q E => vs.length = n ∧ ∃ as M L ds P Xd, RpA K as L vs ds ∧ At K as M L H ∧ W ds M P Xd ∧
  (∀ ys out L' H' M', Step as L H as L' H' → At K as M' L' H' → P out M' → RpA K as L' ys out → Q ys H') ∧ XC K as L H Xd E
def noStop (K : PySem.W.Frag) (C : Addr) : Prop := PySem.W.subIn K (.ref C) (.type "StopIteration") = some false
@[simp] def dListG (K : PySem.W.Frag) (n : Nat) (W : DCG) (tl : DA) : DX := fun ρ M P Xd => tl ρ M fun ds M1 => ds.length = n ∧ W ds M1 (fun out M2 => P (.lst out) M2) (fun C gs M2 => noStop K C ∧ Xd C gs M2)
end Pd
set_option Elab.async false
set_option linter.all false
set_option maxRecDepth 100000
set_option maxHeartbeats 1000000
namespace Pd
open PySem PySem.Spec PyProof.Rows L2
@[simp] def dListGN (n : Nat) (W : DCG) (tl : DA) : DE := fun ρ M P => tl ρ M fun ds M1 => ds.length = n ∧ W ds M1 (fun out M2 => P (.lst out) M2) xNo
section
variable {X : Cx} {e : Expr} {es : List Expr} {tl : DA} {pos pos' p p' : Pos}
@[simp] def oStrI : DC := fun xs M P => ∃ i : Int, xs = [.int i] ∧ i.natAbs.log2 < 1920 ∧ P (.str (toString i)) M
theorem sc_strI {K : PySem.W.Frag} : SimC K (fun xs H Q => ∃ i : Int, xs = [V.int i] ∧ i.natAbs.log2 < 1920 ∧ Q (.str (toString i)) H) oStrI := by
  intro as L H M xs ds P Q A r ⟨i, h, h2, p⟩ q
  subst h
  cases r with
  | cons r1 r2 =>
    cases r2
    cases r1
    exact ⟨i, rfl, h2, q _ _ L H M .refl A p (.str _)⟩
end
theorem lcIn_map {g : DG} {te : DE} {ρ : Rho} {k : List D → Ms → Prop} {M : Ms} (f : D → D) : ∀ (es acc : List D), (∀ e ∈ es, ∀ R : D → Ms → Prop, R (f e) M → g e ρ fun ρ' => te ρ' M R) → acc.length + es.length ≤ sizeLine → k (acc ++ es.map f) M → lcIn g dYes te ρ k es acc M
  | [], acc, _, _, p => by
    show k acc M
    simpa using p
  | d :: r, acc, h, hz, p => by
    rw [List.length_cons] at hz
    exact h d List.mem_cons_self (fun y M2 => acc.length < sizeLine ∧ lcIn g dYes te ρ k r (acc ++ [y]) M2) ⟨by omega, lcIn_map f r (acc ++ [f d]) (fun d' h' => h d' (List.mem_cons_of_mem _ h')) (by rw [List.length_append, List.length_singleton]; omega) (by simpa using p)⟩
theorem lc2_map {g g1 : DG} {it1 : DA} {te : DE} {vs1 : List Nat} {ρ : Rho} {P : D → Ms → Prop} {M : Ms} (f : D → List D) : ∀ (ds acc : List D), (∀ d ∈ ds, ∀ (acc : List D) (k : List D → Ms → Prop), acc.length + (f d).length ≤ sizeLine → k (acc ++ f d) M → g d ρ fun ρ' => it1 ρ' M fun ds1 M2 => lcIn g1 dYes te (wipeR ρ' vs1) k ds1 acc M2) →
    acc.length + (ds.flatMap f).length ≤ sizeLine → P (.lst (acc ++ ds.flatMap f)) M → lc2Run g dYes it1 g1 dYes te vs1 ρ P ds acc M
  | [], acc, _, _, p => by
    show P (.lst acc) M
    simpa using p
  | d :: r, acc, h, hz, p => by
    rw [List.flatMap_cons, List.length_append] at hz
    refine h d List.mem_cons_self acc (fun acc' M' => lc2Run g dYes it1 g1 dYes te vs1 ρ P r acc' M') (by omega) (lc2_map f r (acc ++ f d) (fun d' h' => h d' (List.mem_cons_of_mem _ h')) (by rw [List.length_append]; omega) ?_)
    rw [List.append_assoc, ← List.flatMap_cons]
    exact p
def tI (xs : List Int) : D := .tup (dI xs)
theorem plain_tuples : ∀ es : List (List Int), plainA (es.map tI) = true
  | [] => rfl
  | x :: xs => by show (plainA (dI x) && plainA (xs.map tI)) = true; rw [plain_ints, plain_tuples xs]; rfl
theorem lay_tuples : ∀ es : List (List Int), PyData.canLayAll0 (toPA (es.map tI)) = true
  | [] => rfl
  | x :: xs => by show (PyData.canLayAll0 (toPA (dI x)) && PyData.canLayAll0 (toPA (xs.map tI))) = true; rw [lay_ints, lay_tuples xs]; rfl
theorem depth_tuples : ∀ es : List (List Int), PyData.depthAll (toPA (es.map tI)) ≤ 1
  | [] => Nat.zero_le _
  | x :: xs => by
    show max (PyData.depthAll (toPA (dI x)) + 1) (PyData.depthAll (toPA (xs.map tI))) ≤ 1
    rw [depth_ints]
    have := depth_tuples xs
    omega
theorem okD_tuples (es : List (List Int)) : okD (.lst (es.map tI)) = true := by
  have h1 : plain (.lst (es.map tI)) = true := plain_tuples es
  have h2 : SeqAt.shaped (toP (.lst (es.map tI))) = true := by
    show (PyData.canLayAll0 (toPA (es.map tI)) && decide (PyData.depthAll (toPA (es.map tI)) + 1 ≤ 64)) = true
    have := depth_tuples es
    rw [lay_tuples, decide_eq_true (by omega)]
    rfl
  unfold okD
  rw [h1, h2]
  rfl
def lamSb (sc scope : Scope) : Bool := (match scope.kind with | .function => true | _ => false) && !scope.isCoroutine && !scope.isGenerator && scope.names.all fun y =>
  (match y.2 with | .local => false | .cell => false | _ => true) && (match y.2 with | .free => (match sc.names.lookup y.1 with | some .cell => true | some .free => true | _ => false) | _ => true)
theorem lamS_by {sc scope : Scope} (h : lamSb sc scope = true) : LamX.LamS sc scope := by
  unfold lamSb at h
  simp only [Bool.and_eq_true] at h
  obtain ⟨⟨⟨h1, h2⟩, h3⟩, h4⟩ := h
  refine ⟨?_, by simpa using h2, by simpa using h3, fun y hy => ?_, fun y hy hf => ?_⟩
  · cases hk : scope.kind <;> rw [hk] at h1 <;> first | rfl | cases h1
  · have := List.all_eq_true.mp h4 y hy
    simp only [Bool.and_eq_true] at this
    constructor
    · intro z; rw [z] at this; cases this.1
    · intro z; rw [z] at this; cases this.1
  · have := (Bool.and_eq_true_iff.mp (List.all_eq_true.mp h4 y hy)).2
    rw [hf] at this
    cases hl : sc.names.lookup y.1 with
    | none => rw [hl] at this; cases this
    | some k => rw [hl] at this; cases k <;> first | exact .inl rfl | exact .inr rfl | cases this
end Pd
set_option Elab.async false
set_option linter.all false
set_option maxRecDepth 100000
set_option maxHeartbeats 1000000
namespace Pd
open PySem PySem.Spec PyProof.Rows L2
section
variable {K : PySem.W.Frag} {x : Addr} {as : List Addr} {M1 : Ms} {L1 H1 : Hp}
theorem hid_step (hx : H1 x = none) (o : HO) : Step as L1 H1 as L1 (upd H1 x o) := by
  refine ⟨fun a u _ h => ?_, Ex.refl _, fun _ h _ => h, Pre.refl _, fun _ h => .inl h⟩
  rw [upd_ne (ne_of_none h hx)]; exact h
theorem hid_at (A1 : At K as M1 L1 H1) (hx : H1 x = none) (o : HO) : At K as M1 L1 (upd H1 x o) := by
  refine ⟨fun a u h => ?_, A1.len, A1.nd, fun k a m e1 e2 => ?_, A1.nt⟩
  · rw [upd_ne (ne_of_none (A1.low a u h) hx)]; exact A1.low a u h
  · obtain ⟨h3, u, h4, h5⟩ := A1.mo k a m e1 e2
    exact ⟨h3, u, by rw [upd_ne (ne_of_none h4 hx)]; exact h4, h5.1, h5.2.keep (KeepC.new hx)⟩
theorem list_out {M4 : Ms} {ds : List D} {L3 H3 : Hp} (A1 : At K as M1 L1 H1) (hx : H1 x = none) (s3 : Step (as ++ [x]) L1 (upd H1 x (.lst [])) (as ++ [x]) L3 H3) (A3 : At K (as ++ [x]) (M4 ++ [.lst ds]) L3 H3)
    (hl4 : M4.length = M1.length) (hap : apartA M1.length ds = true) (hapM : apartM M1.length M4 = true) : ∃ L4, Ex L3 L4 ∧ Step as L1 H1 as L4 H3 ∧ At K as M4 L4 H3 ∧ Rp K as L4 (.ref x) (.lst ds) := by
  have xa : x ∉ as := fun z => (A1.held z).2 hx
  have lx : L1 x = none := lowfree A1 hx
  have e0 : ∀ b o, H1 b = some o → (upd H1 x (.lst [])) b = some o := fun b o e => by
    rw [upd_ne (ne_of_none e hx)]
    exact e
  have gx : (as ++ [x])[as.length]? = some x := by rw [List.getElem?_append_right (Nat.le_refl _), Nat.sub_self]; rfl
  have gm : (M4 ++ [MO.lst ds])[as.length]? = some (.lst ds) := by rw [A1.len, ← hl4, List.getElem?_append_right (Nat.le_refl _), Nat.sub_self]; rfl
  obtain ⟨xs, g1, g2⟩ := A3.lst gx gm
  have g3 : RpA K as L3 xs ds := g2.cut (by rw [A1.len]; exact hap)
  have lx3 : L3 x = none := s3.hid x lx (by rw [upd_same]; simp)
  have A4 : At K as M4 (upd L3 x (.lst xs)) H3 := by
    refine ⟨fun b o e => ?_, by rw [hl4]; exact A1.len, A1.nd, fun k a m e1 e2 => ?_, A3.nt.new (fun ps z => by cases z)⟩
    · by_cases hb : b = x
      · subst hb; rw [upd_same] at e; cases e; exact g1
      · rw [upd_ne hb] at e; exact A3.low b o e
    · have hk : k < as.length := (List.getElem?_eq_some_iff.mp e1).1
      obtain ⟨h5, o, h6, h7⟩ := A3.mo k a m (by rw [List.getElem?_append_left hk]; exact e1) (by rw [List.getElem?_append_left (by rw [hl4, ← A1.len]; exact hk)]; exact e2)
      have hax : a ≠ x := fun z => xa (by rw [← z]; exact List.mem_of_getElem? e1)
      exact ⟨by rw [upd_ne hax]; exact h5, o, h6, (h7.1.cut (List.mem_of_getElem? e2) (by rw [A1.len]; exact hapM)).mono (Ex.new lx3) (Pre.refl _), h7.2⟩
  have s4 : Step as L1 H1 as (upd L3 x (.lst xs)) H3 := by
    refine ⟨fun b o hb e => ?_, fun b o e => ?_, fun b e e' => ?_, Pre.refl _, fun _ e => .inl e⟩
    · have hbx : b ≠ x := ne_of_none e hx
      refine s3.up b o (fun z => ?_) (e0 b o e)
      rcases List.mem_append.mp z with z | z
      · exact hb z
      · exact hbx (List.mem_singleton.mp z)
    · rw [upd_ne (fun z => by rw [z, lx] at e; cases e)]; exact s3.k b o e
    · have hbx : b ≠ x := fun z => e' (by rw [z]; exact hx)
      rw [upd_ne hbx]
      refine s3.hid b e ?_
      cases q2 : H1 b with
      | none => exact absurd q2 e'
      | some o => rw [e0 b o q2]; simp
  exact ⟨_, Ex.new lx3, s4, A4, .lst (.inl (.inl upd_same)) (g3.mono (Ex.new lx3) (Pre.refl _))⟩
end
@[simp] def sBuild (i : Nat) (t rest : DS) : DS := fun De ρ M => t { nx := (fun ρ' M' => ∃ M3 ds, M' = M3 ++ [MO.lst ds] ∧ M3.length = M.length ∧ apartM M.length M3 = true ∧ apartA M.length ds = true ∧ (ρ'[i]? = some (some (D.mu M.length))) ∧ rest De ((clean M.length ρ').set i (some (.lst ds))) M3), rt := cutR M.length De.rt, bk := cutE M.length De.bk, ct := cutE M.length De.ct } (ρ.set i (some (.mu M.length))) (M ++ [.lst []])
section
variable {X : Cx} {st : Stmt} {sts : List Stmt} {t s2 : DS} {pos p1 : Pos}
theorem pdss_build {i : Nat} {y : Str} {p' : Pos} (hN : X.N.Nodup) (ht : PDS X st t) (hrest : PDSs X sts s2) (hi : X.N[i]? = some y := by rfl) (hy : Loc X.env.scope y := by first | exact Or.inl rfl | exact Or.inr rfl) (hs : swapsWith (.List [] p1) (some (.Name y p')) pos.line X.env = pure false := by rfl)
    (hf : X.fn y = true ∨ X.env.scope.names.lookup y = some .local := by first | exact .inl rfl | exact .inr rfl | assumption) : PDSs X (.Assign [.Name y p'] (.List [] p1) pos :: st :: sts) (sBuild i t s2) := by
  obtain ⟨u, pt, stt⟩ := ht.ex
  obtain ⟨ur, pr, sr⟩ := hrest.ex
  refine ⟨_, pss_cons (ps_set hN hi hy (pe_lst pa_nil) hs hf) (pss_cons pt pr), ?_⟩
  intro as σ ρ L H M De D hE A h c
  refine ⟨Nat.zero_le _, fun x hx => ?_⟩
  have xa : x ∉ as := fun z => (A.held z).2 hx
  have lx : L x = none := lowfree A hx
  have Ah : At X.K as M L (upd H x (.lst [])) := hid_at A hx _
  have sh : Step as L H as L (upd H x (.lst [])) := hid_step hx _
  have A2 := Ah.add (xs := []) (ds := []) upd_same lx xa .nil
  have gx : (as ++ [x])[M.length]? = some x := by rw [← A.len, List.getElem?_append_right (Nat.le_refl _), Nat.sub_self]; rfl
  have E2 : En X.K (as ++ [x]) L (σ.set i (some (.ref x))) (ρ.set i (some (.mu M.length))) := (hE.mono (Ex.refl _) (pre_app _ _)).set i (.mu gx)
  have fin : ∀ {d : Rho → Ms → Prop} {v : L2.St → Hp → Prop}, EndN X.K as L H d v → EndN X.K (as ++ [x]) L (upd H x (.lst [])) (cutE M.length d) v := by
    intro d v hd σ' ρ' L' H' M' s' A' e' q
    obtain ⟨M3, m', rfl, hl, hap, q⟩ := q
    rw [← A.len] at hap q
    exact hd σ' _ L' H' M3 (sh.cutx Ah hx s') (A'.cut hap) e'.cut q
  refine stt (as ++ [x]) _ _ L (upd H x (.lst [])) _ _ _ E2 A2 h ⟨?_, fun v d L' H' M' s' A' q rv => ?_, fin c.bk, fin c.ct⟩
  · intro σ' ρ' L' H' M' s' A' e' q
    obtain ⟨M3, ds, rfl, hl, hap, hapd, hmu, q⟩ := q
    obtain ⟨L4, x4, s4, A4, r4⟩ := list_out A hx s' A' hl hapd hap
    obtain ⟨v, hv, rv⟩ := e'.at_ i _ hmu
    have ev : v = .ref x := by
      cases rv with
      | mu hk => rw [gx] at hk; cases hk; rfl
    subst ev
    have same : σ'.set i (some (.ref x)) = σ' := by
      apply List.ext_getElem?
      intro j
      rw [List.getElem?_set]
      split
      · rename_i e; subst e
        split
        · exact hv.symm
        · rename_i hlt; exact absurd (List.getElem?_eq_some_iff.mp hv).1 hlt
      · rfl
    have e4 : En X.K as L4 σ' ((clean M.length ρ').set i (some (.lst ds))) := by
      rw [← same, ← A.len]
      exact (e'.cut.mono x4 (Pre.refl _)).set i r4
    exact sr as σ' _ L4 H' M3 De D e4 A4 q (c.step s4 A4)
  · obtain ⟨M3, m', rfl, hl, hap, hd, q⟩ := q
    rw [← A.len] at hap hd
    exact c.rt v d L' H' M3 (sh.cutx Ah hx s') (A'.cut hap) q (rv.cut hd)
@[simp] def dApp (i : Nat) (te : DE) : DE := fun ρ M P => ∃ k, ρ[i]? = some (some (.mu k)) ∧ (∃ ds, M[k]? = some (.lst ds)) ∧ te ρ M fun d M1 => ∃ ds, M1[k]? = some (.lst ds) ∧ ds.length < sizeLine ∧ P .non (M1.set k (.lst (ds ++ [d])))
theorem pd_append (i : Nat) {e : Expr} {te : DE} {x : Str} {ap pos p : Pos} (he : PD X e te) (hN : X.N[i]? = some x := by rfl) (hv : Vis X.env.scope x := by first | exact Or.inl rfl | exact Or.inr (Or.inl rfl) | exact Or.inr (Or.inr rfl)) (hd : (x == ("__debug__" : Str)) = false := by decide)
    (hcd : (x == ("__classdict__" : Str)) = false := by decide) (hab : attributeBase (.Name x p) "append" X.env (eval (.Name x p) X.env) = eval (.Name x p) X.env := by rfl) (hs : starEach [e] X.env = (false, eval e X.env) :: starEach [] X.env := by rfl)
    (hfew : (((backTo pos (starEach [e] X.env)).all fun x => !x.1) && ((backToKw pos (keywordEach [] X.env)).all fun x => x.1.isSome) && decide ([e].length + ([] : List Keyword).length + (if ([] : List Keyword).isEmpty = true then 0 else 1) < 30)) = true := by rfl)
    (hline : (ap.endLine == pos.line) = true := by rfl) : PD X (.Call (.Attribute (.Name x p) "append" ap) [e] [] pos) (dApp i te) := by
  obtain ⟨u, pe, s⟩ := he.ex
  refine ⟨_, pe_bm PySem.F.plainAttrs_list PySem.F.slot_list_append PySem.F.type_list_append mt_append (pv i hN hv hd hcd) (pa_cons pe pa_nil hs) hab hfew hline hs rfl, ?_⟩
  intro as σ ρ L H M P Q hE A h q
  obtain ⟨k, hk, ⟨ds0, h0⟩, h⟩ := h
  obtain ⟨v, hv, rv⟩ := hE.at_ i _ hk
  cases rv with
  | mu ha =>
    obtain ⟨xs0, g1, g2⟩ := A.lst ha h0
    refine ⟨_, hv, .inl ⟨rfl, xs0, .inl (.inl g1)⟩, ?_⟩
    refine s as σ ρ L H M _ _ hE A h fun v d L1 H1 M1 s1 A1 h1 r1 => ?_
    obtain ⟨ds, hm, hz, p⟩ := h1
    obtain ⟨xs, g3, g4⟩ := A1.lst ha hm
    refine ⟨_, xs, v, rfl, rfl, g3, by rw [g4.length]; exact hz, ?_⟩
    exact q .non .non L1 _ _ (s1.trans A1 (Step.put (List.mem_of_getElem? ha))) (A1.put ha (.lst (g4.append (.one r1)))) p .non
end
end Pd
set_option Elab.async false
set_option linter.all false
set_option maxRecDepth 100000
set_option maxHeartbeats 1000000
namespace Pd
open PySem PySem.Spec PyProof.Rows L2
/-- the type of an operand that the class's operator may meet -/
def Opd (K : PySem.W.Frag) (C : Addr) (op : Operator) (t : Value) : Prop := t = .ref C ∨ ∃ (T : String) (fo ro : Option Value), t = .type T ∧ PySem.W.findIn K (.type T) (PySem.dunder op.info.2) = some fo ∧ PySem.W.findIn K (.type T) (PySem.dunderR op.info.2) = some ro ∧ PySem.W.subIn K (.type T) (.ref C) = some false
section
variable {X : Cx} {E : XK} {k : Nat} {C g : Addr} {fd : FuncData} {ps : List Str} {W : DCX} {op : Operator} {rc : Option Value} {pos : Pos} {a b : Expr} {ta tb : DE}
@[simp] def dOpX (K : PySem.W.Frag) (C : Addr) (op : Operator) (W : DCX) (ta tb : DE) : DX := fun ρ M P Xd => ta ρ M fun x M1 => tb ρ M1 fun y M2 => ∃ fs t, x = .ins C fs ∧ DTy K y t ∧ Opd K C op t ∧ W [x, y] M2 P Xd
/-- .. where it does not raise -/
@[simp] def dOpXN (K : PySem.W.Frag) (C : Addr) (op : Operator) (W : DCX) (ta tb : DE) : DE := fun ρ M P => dOpX K C op W ta tb ρ M P xNo
end
end Pd
set_option Elab.async false
set_option linter.all false
set_option maxRecDepth 100000
set_option maxHeartbeats 1000000
namespace Pd
open PySem PySem.Spec PyProof.Rows L2
/-- data whose repr is told, has at most n signs and may be compared; at most k deep -/
structure Sm (n k : Nat) (d : D) : Prop where
  pl : plainR d = true
  sh : (toP d).showable = true
  sz : (reprD d).length ≤ n
  dp : (toP d).depth ≤ k
  ok : PyData.strOk (reprD d) = true
theorem Sm.mono {n n' k k' : Nat} {d : D} (h : Sm n k d) (h1 : n ≤ n') (h2 : k ≤ k') : Sm n' k' d := ⟨h.pl, h.sh, Nat.le_trans h.sz h1, Nat.le_trans h.dp h2, h.ok⟩
theorem Sm.shows {n k : Nat} {d : D} (h : Sm n k d) (h1 : n ≤ sizeLine) (h2 : k ≤ 60) : Shows d := ⟨h.pl, h.sh, Nat.le_trans h.sz h1, Nat.le_trans h.dp h2⟩
/-- .. of at most five signs -/
theorem sm_int5 : ∀ i : Int, i.natAbs ≤ 1001 → Sm 5 0 (.int i) := by
  intro i h
  have key : ∀ n : Fin 1002, (Str.ofString (toString (n.val : Int))).length ≤ 5 ∧ (Str.ofString (toString (-(n.val : Int)))).length ≤ 5 := by decide +kernel
  have hl : i.natAbs.log2 < 1920 := by
    have := Nat.log2_le_self i.natAbs
    omega
  refine ⟨rfl, decide_eq_true hl, ?_, Nat.le_refl _, strOk_of _⟩
  show (Str.ofString (toString i)).length ≤ 5
  have k := key ⟨i.natAbs, by omega⟩
  rcases Int.natAbs_eq i with e | e
  · rw [e]; exact k.1
  · rw [e]; exact k.2
end Pd
set_option Elab.async false
set_option linter.all false
set_option maxRecDepth 100000
set_option maxHeartbeats 1000000
namespace Pd
open PySem PySem.Spec PyProof.Rows L2
@[simp] def oLtT : D2 := fun x y M P => ∃ ns ms : List Int, x = .tup (dI ns) ∧ y = .tup (dI ms) ∧ P (.bl (HT.lexLt ns ms)) M
theorem sr_ltT {K : PySem.W.Frag} : SimR K (rLtT K) oLtT := by
  intro as L H M x y d e P Q A r1 r2 ⟨ns, ms, h1, h2, p⟩ q
  subst h1; subst h2
  cases r1 with
  | tup g1 w1 =>
    cases r2 with
    | tup g2 w2 =>
      have e1 := w1.ints
      have e2 := w2.ints
      subst e1; subst e2
      exact ⟨_, _, ns, ms, rfl, rfl, ex_t A.low g1, ex_t A.low g2, q _ _ L H M .refl A p (.bl _)⟩
end Pd
set_option Elab.async false
set_option linter.all false
set_option maxRecDepth 100000
set_option maxHeartbeats 1000000
namespace Pd
open PySem PySem.Spec PyProof.Rows L2
def rSlS (K : PySem.W.Frag) (x : V) (lo hi : Option Int) (H : Hp) (Q : VK) : Prop := rSlL K x lo hi H Q ∨ rSlA K x lo hi H Q
theorem sl_seq {X : Cx} : SlR X (rSlS X.K) := by
  intro pins s σ H x v vl vu lo hi sl Q I r hs p1 p2 h
  rcases h with h | h
  · exact sl_list pins s σ H x v vl vu lo hi sl Q I r hs p1 p2 h
  · exact sl_tupA pins s σ H x v vl vu lo hi sl Q I r hs p1 p2 h
def likeD : D → List D → D
  | .lst _, xs => .lst xs
  | .tup _, xs => .tup xs
  | d, _ => d
theorem cutD_whole {ds : List D} {l u : Option Int} (h : HT.sIx ds.length 0 l = 0 ∧ HT.sIx ds.length ds.length u = ds.length) : cutD ds l u = ds := by
  unfold cutD
  rw [h.1, h.2]
  simp
@[simp] def dSlS (t : DE) (tl tu : DO) : DE := fun ρ M P => t ρ M fun d M1 => ∃ ds, isSeq d ds ∧ tl ρ M1 fun l M2 => tu ρ M2 fun u M3 => P (likeD d (cutD ds l u)) M3
section
variable {X : Cx} {e : Expr} {lo hi : Option Expr} {t : DE} {tl tu : DO} {p2 pos : Pos}
theorem pd_slS (he : PD X e t) (hl : PDO X lo tl) (hu : PDO X hi tu) : PD X (.Subscript e (.Slice lo hi none p2) pos) (dSlS t tl tu) := by
  obtain ⟨u, p, s⟩ := he.ex
  obtain ⟨ul, pl, sl⟩ := hl.ex
  obtain ⟨uu, pu, su⟩ := hu.ex
  refine ⟨_, pe_slice sl_seq p pl pu, ?_⟩
  intro as σ ρ L H M P Q hE A h q
  refine s as σ ρ L H M _ _ hE A h fun v d L1 H1 M1 s1 A1 h1 r1 => ?_
  obtain ⟨ds, hd, h1⟩ := h1
  refine sl as σ ρ L1 H1 M1 _ _ (hE.mono s1.k s1.pre) A1 h1 fun l L2 H2 M2 s2 A2 h2 => ?_
  have s12 := s1.trans A1 s2
  refine su as σ ρ L2 H2 M2 _ _ (hE.mono s12.k s12.pre) A2 h2 fun w L3 H3 M3 s3 A3 h3 => ?_
  have s23 := s2.trans A2 s3
  rcases hd with rfl | rfl
  · cases r1 with
    | lst hs ra =>
      refine .inl ⟨_, _, rfl, ex_l (s23.k.trans A3.low) hs, fun p hp => ?_⟩
      have lp := lowfree A3 hp
      exact q _ _ _ _ M3 ((s12.trans A2 s3).trans A3 (Step.know A3 hp)) (A3.know hp) h3 (.lst (.inl (.inl upd_same)) ((ra.slice l w).mono (s23.k.trans (Ex.new lp)) (Pre.refl _)))
  · have r1' := r1
    cases r1 with
    | tup hs ra =>
      refine .inr ⟨_, _, rfl, ex_t (s23.k.trans A3.low) hs, fun hw => ?_, fun _ p hp => ?_⟩
      · rw [ra.length] at hw
        have h3' : P (likeD (.tup ds) (cutD ds l w)) M3 := h3
        rw [cutD_whole hw] at h3'
        exact q _ _ _ _ M3 (s12.trans A2 s3) A3 h3' (r1'.mono s23.k (Pre.refl _))
      · have lp := lowfree A3 hp
        exact q _ _ _ _ M3 ((s12.trans A2 s3).trans A3 (Step.know A3 hp)) (A3.know hp) h3 (.tup (.inl (.inl upd_same)) ((ra.slice l w).mono (s23.k.trans (Ex.new lp)) (Pre.refl _)))
end
@[simp] def dFldMu (K : PySem.W.Frag) (t : DE) (f : Str) : DE := fun ρ M P => t ρ M fun x M1 => ∃ j C fs v, x = .mu j ∧ M1[j]? = some (.ins C fs) ∧ Cls K C ∧ NoAttr K C f ∧ fs.lookup f = some v ∧ P v M1
theorem pd_fldMu {X : Cx} {K : PySem.W.Frag} {e : Expr} {t : DE} {pos : Pos} {f : Str} (hK : X.K = K) (he : PD X e t) (hb : attributeBase e f X.env (eval e X.env) = eval e X.env := by rfl) : PD X (.Attribute e f pos) (dFldMu K t f) := by
  subst hK
  obtain ⟨u, p, s⟩ := he.ex
  refine ⟨_, pe_fld p hb, ?_⟩
  intro as σ ρ L H M P Q hE A h q
  refine s as σ ρ L H M _ _ hE A h fun v d L1 H1 M1 s1 A1 h1 r1 => ?_
  obtain ⟨j, C, fs, w, rfl, hm, c, n, hl, p⟩ := h1
  cases r1 with
  | mu hj =>
    obtain ⟨dx, fv, g1, g2⟩ := A1.ins hj hm
    obtain ⟨z, h2, h3⟩ := g2.look hl
    exact ⟨_, C, _, _, z, rfl, g1, c, n, h2, q _ _ L1 H1 M1 s1 A1 p h3⟩
end Pd
set_option Elab.async false
set_option linter.all false
set_option maxRecDepth 100000
set_option maxHeartbeats 1000000
namespace Pd
open PySem PySem.Spec PyProof.Rows L2
@[simp] def iKeyD (t : DE) : DA := fun ρ M P => t ρ M fun d M1 => ∃ ks ds, d = .dic ks ds ∧ P (ks.map keyD) M1
section
variable {X : Cx} {e tg : Expr} {t : DE} {pos : Pos}
/-- an expression that is not come to -/
@[simp] def dNeverT : DT := fun _ _ _ => False
@[simp] def dNever : DE := fun _ _ _ => False
def repS (z : Str) (k : Int) : Str := if k = 1 then z else ⟨(List.replicate k.toNat z.cps).foldl (· ++ ·) #[]⟩
@[simp] def oRepS : D2 := fun x y M P => ∃ (z : Str) (k : Int), x = .str z ∧ y = .int k ∧ 1 ≤ k ∧ k ≤ 1000 ∧ 1 ≤ z.length ∧ z.length ≤ 1000 ∧ P (.str (repS z k)) M
@[simp] def dRevL (t : DE) : DE := fun ρ M P => t ρ M fun d M1 => ∃ ds, d = .lst ds ∧ P (.lst ds.reverse) M1
end
section
variable {K : PySem.W.Frag} {x : Addr} {as : List Addr} {M1 : Ms} {L1 H1 : Hp}
theorem list_outN {M4 : Ms} {ds : List D} {xs0 : List V} {L3 H3 : Hp} (A1 : At K as M1 L1 H1) (hx : H1 x = none) (s3 : Step (as ++ [x]) L1 (upd H1 x (.lst xs0)) (as ++ [x]) L3 H3) (A3 : At K (as ++ [x]) (M4 ++ [.lst ds]) L3 H3)
    (hl4 : M4.length = M1.length) (hap : apartA M1.length ds = true) (hapM : apartM M1.length M4 = true) : ∃ L4, Ex L3 L4 ∧ Step as L1 H1 as L4 H3 ∧ At K as M4 L4 H3 ∧ Rp K as L4 (.ref x) (.lst ds) := by
  have xa : x ∉ as := fun z => (A1.held z).2 hx
  have lx : L1 x = none := lowfree A1 hx
  have e0 : ∀ b o, H1 b = some o → (upd H1 x (.lst xs0)) b = some o := fun b o e => by
    rw [upd_ne (ne_of_none e hx)]
    exact e
  have gx : (as ++ [x])[as.length]? = some x := by rw [List.getElem?_append_right (Nat.le_refl _), Nat.sub_self]; rfl
  have gm : (M4 ++ [MO.lst ds])[as.length]? = some (.lst ds) := by rw [A1.len, ← hl4, List.getElem?_append_right (Nat.le_refl _), Nat.sub_self]; rfl
  obtain ⟨xs, g1, g2⟩ := A3.lst gx gm
  have g3 : RpA K as L3 xs ds := g2.cut (by rw [A1.len]; exact hap)
  have lx3 : L3 x = none := s3.hid x lx (by rw [upd_same]; simp)
  have A4 : At K as M4 (upd L3 x (.lst xs)) H3 := by
    refine ⟨fun b o e => ?_, by rw [hl4]; exact A1.len, A1.nd, fun k a m e1 e2 => ?_, A3.nt.new (fun ps z => by cases z)⟩
    · by_cases hb : b = x
      · subst hb; rw [upd_same] at e; cases e; exact g1
      · rw [upd_ne hb] at e; exact A3.low b o e
    · have hk : k < as.length := (List.getElem?_eq_some_iff.mp e1).1
      obtain ⟨h5, o, h6, h7⟩ := A3.mo k a m (by rw [List.getElem?_append_left hk]; exact e1) (by rw [List.getElem?_append_left (by rw [hl4, ← A1.len]; exact hk)]; exact e2)
      have hax : a ≠ x := fun z => xa (by rw [← z]; exact List.mem_of_getElem? e1)
      exact ⟨by rw [upd_ne hax]; exact h5, o, h6, (h7.1.cut (List.mem_of_getElem? e2) (by rw [A1.len]; exact hapM)).mono (Ex.new lx3) (Pre.refl _), h7.2⟩
  have s4 : Step as L1 H1 as (upd L3 x (.lst xs)) H3 := by
    refine ⟨fun b o hb e => ?_, fun b o e => ?_, fun b e e' => ?_, Pre.refl _, fun _ e => .inl e⟩
    · have hbx : b ≠ x := ne_of_none e hx
      refine s3.up b o (fun z => ?_) (e0 b o e)
      rcases List.mem_append.mp z with z | z
      · exact hb z
      · exact hbx (List.mem_singleton.mp z)
    · rw [upd_ne (fun z => by rw [z, lx] at e; cases e)]; exact s3.k b o e
    · have hbx : b ≠ x := fun z => e' (by rw [z]; exact hx)
      rw [upd_ne hbx]
      refine s3.hid b e ?_
      cases q2 : H1 b with
      | none => exact absurd q2 e'
      | some o => rw [e0 b o q2]; simp
  exact ⟨_, Ex.new lx3, s4, A4, .lst (.inl (.inl upd_same)) (g3.mono (Ex.new lx3) (Pre.refl _))⟩
end
/-- an expression that makes a new list -/
def SimL (K : PySem.W.Frag) (te : TE) (t : DA) : Prop := ∀ as σ ρ L H M P Q, En K as L σ ρ → At K as M L H → t ρ M P →
  (∀ vs ds L' H' M', Step as L H as L' H' → At K as M' L' H' → P ds M' → RpA K as L' vs ds → ∀ p, H' p = none → Q (.ref p) (upd H' p (.lst vs))) → te σ H Q
structure PDL (X : Cx) (e : Expr) (t : DA) : Prop where
  ex : ∃ te, PE X e te ∧ SimL X.K te t
section
variable {X : Cx} {e0 : Expr} {es : List Expr} {st : Stmt} {sts : List Stmt} {t s2 : DS} {pos p1 p : Pos} {te : DE} {tl : DA}
@[simp] def lDisp (tl : DA) : DA := fun ρ M P => tl ρ M fun ds M1 => ds.length ≤ sizeLine ∧ P ds M1
theorem pdl_lst (h : PDA X es tl) : PDL X (.List es pos) (lDisp tl) := by
  obtain ⟨u, pa, s⟩ := h.ex
  refine ⟨_, pe_lst pa, ?_⟩
  intro as σ ρ L H M P Q hE A hh q
  refine s as σ ρ L H M _ _ hE A hh fun vs ds L1 H1 M1 s1 A1 h1 r1 => ⟨by rw [r1.length]; exact h1.1, fun p hp => ?_⟩
  exact q vs ds L1 H1 M1 s1 A1 h1.2 r1 p hp
@[simp] def lList (tl : DA) : DA := fun ρ M P => tl ρ M fun ds M1 => ∃ d xs, ds = [d] ∧ isSeq d xs ∧ P xs M1
@[simp] def sBuildN (i : Nat) (tl : DA) (t rest : DS) : DS := fun De ρ M => tl ρ M fun ds0 M1 => t { nx := (fun ρ' M' => ∃ M3 ds, M' = M3 ++ [MO.lst ds] ∧ M3.length = M1.length ∧ apartM M1.length M3 = true ∧ apartA M1.length ds = true ∧ (ρ'[i]? = some (some (D.mu M1.length))) ∧ rest De ((clean M1.length ρ').set i (some (.lst ds))) M3), rt := cutR M1.length De.rt, bk := cutE M1.length De.bk, ct := cutE M1.length De.ct } (ρ.set i (some (.mu M1.length))) (M1 ++ [.lst ds0])
end
end Pd
set_option Elab.async false
set_option linter.all false
set_option maxRecDepth 100000
set_option maxHeartbeats 3200000
namespace Pd
open PySem PySem.Spec PyProof.Rows L2
/-- an empty set, as it is made -/
abbrev Eset (w : World) : Obj := { cls := .type "set", dict := none, data := .set #[] 0 (.fresh 0 0 (!w.params.followText "set-order")) }
section
variable {P : Program} {w : World} {A : Around} {E : Value → Shared → Prop} {s : Shared}
/-- set(xs) of a list of ints -/
theorem set_of_ints {l : Addr} {its : Array Value} (ns : List Int) {Q : Value → Shared → Prop} (hd : A.handled = none) (L : s.heap.IsList l its) (hi : IntsAre its.toList ns) (hb : ns.length + 1 < scanBound)
    (fin : ∀ (g : Heap) (tk c : Nat), SetR w g s.heap.objs.size (fun j => decide (j ∈ ns)) c → c ≤ ns.length → (∀ b o, s.heap.get? b = some o → g.get? b = some o) → Q (.ref s.heap.objs.size) { s with heap := g, toks := tk }) :
    wpAny (model P w) A (call (.type "set") [.ref l]) Q E s := by
  have hz : its.size = ns.length := by have := IntsAre.length hi; rwa [Array.length_toList] at this
  obtain ⟨cc, tt, mr⟩ := F.called_set.mro
  have md := F.called_set.made
  have sb := F.called_set.sub
  refine wpAny_call (codeAny_of_tree ?_)
  show wpAny _ _ (callAny (.type "set") _) _ _ _
  refine wpAny_pure ⟨Code.quiet_builtin _ (by decide +kernel), codeAny_builtin F.entry_type_call ?_⟩
  rw [Around.under_plain (weight_type_call_type "set" [.ref l] []) rfl]
  have x1 := F.called_set.notType
  have x2 := F.called_set.canCreate
  have x3 := F.typeCall_set_1 (.ref l)
  repeat (any_goals (first | assumption | wp_step))
  refine codeAny_mono (code_set_led1 (.ref l) (E := E) (Q₁ := fun ob s₁ => ob = .ref s.heap.objs.size ∧ s₁ = { s with heap := s.heap.push (Eset w) }) ⟨rfl, rfl⟩) fun r s₁ hr => ?_
  match r, hr with
  | .error e, hr => exact hr
  | .ok (.ret ob), hr =>
    obtain ⟨rfl, rfl⟩ := hr
    have gS : (s.heap.push (Eset w)).get? s.heap.objs.size = some (Eset w) := Heap.get?_push_size _ rfl
    have tS : Shared.TypeIs { s with heap := s.heap.push (Eset w) } (.ref s.heap.objs.size) "set" := ⟨_, gS, rfl⟩
    have y1 := F.called_set.init.lookup
    have y2 := F.called_set.init.bind (.ref s.heap.objs.size)
    repeat (any_goals (first | assumption | wp_step))
    refine codeAny_mono (codeAny_call_builtin (R := wants (fun r s₂ => r = .none ∧ ∃ g tk c, s₂ = { s with heap := g, toks := tk } ∧ SetR w g s.heap.objs.size (fun j => decide (j ∈ ns)) c ∧ c ≤ ns.length ∧ (∀ b o, s.heap.get? b = some o → g.get? b = some o)) E)
      F.called_set.init.plain F.entry_set_init (check_set_init_1 tS ?_)) fun r₂ s₂ hr₂ => ?_
    · obtain ⟨⟨oc, od, dat, sls⟩, ho, hc, n, hdat⟩ := id L
      simp only at hc hdat
      subst hc hdat
      have gl : (s.heap.push (Eset w)).get? l = some { cls := .type "list", dict := od, data := .seq its n, slots := sls } := Heap.get?_push_of_some _ ho
      have z1 := F.sub_list_set
      have z2 := F.sub_list_frozenset
      have z3 : (Value.type "list" == Value.type "dict") = false := by decide
      have L1 : (s.heap.push (Eset w)).IsList l its := ⟨_, gl, rfl, n, rfl⟩
      have lt : l < s.heap.objs.size := Heap.lt_size ho
      have sz : (s.heap.push (Eset w)).objs.size = s.heap.objs.size + 1 := Heap.size_push ..
      unfold Builtin.«set.__init__» noKeywords Builtin.Frozenset.updateFrom
      generalize hq : pyIter = PI
      wp_walk
      subst hq
      refine wpAny_pyIter_list L1 (wpAny_bind (wpAny_runValue ?_))
      have nI : l ≠ (s.heap.push (Eset w)).objs.size := by rw [sz]; exact Nat.ne_of_lt (Nat.lt_succ_of_lt lt)
      have nS : s.heap.objs.size ∉ [(s.heap.push (Eset w)).objs.size, l] := by
        rw [sz]
        simp only [List.mem_cons, List.not_mem_nil, or_false, not_or]
        exact ⟨Nat.ne_of_lt (Nat.lt_succ_self _), Nat.ne_of_gt lt⟩
      have at_ : ∀ (i : Nat) (v : Value), its[i]? = some v → ∃ k t, ns[i]? = some k ∧ v = .int k t := fun i v hv => by
        have hl : i < ns.length := by rw [← hz]; exact (Array.getElem?_eq_some_iff.mp hv).1
        obtain ⟨t, e⟩ := PyProof.Rows.IntsAre.int_at hi i v (by rw [Array.getElem?_toList]; exact hv)
        have e2 : ns[i]? = some (ns.getD i 0) := by rw [List.getD_eq_getElem?_getD, List.getElem?_eq_getElem hl]; rfl
        exact ⟨_, t, e2, e⟩
      refine set_update_ints ((Walks.list (by simp [hd]) _ l nI its).toS) s.heap.objs.size nS ns hz hb at_ (its.size - 0) 0 _ (by omega) (Nat.zero_le _) ⟨⟨_, Heap.get?_push_size _ rfl, rfl, rfl⟩, L1.push _⟩ ⟨0, Nat.le_refl 0, setR_new_at (Heap.get?_push_of_some _ gS)⟩ fun s' c mv hc2 hS2 => ?_
      obtain ⟨g, g2, d2, t2, o2⟩ := s'
      obtain rfl : g2 = s.gens := mv.gens
      obtain rfl : d2 = s.drawn := mv.drawn
      obtain rfl : o2 = s.os := mv.os
      show wpAny _ _ _ _ _ _
      refine wpAny_pure ?_
      show wpAny _ _ (ret Value.none) _ _ _
      rw [hz] at hc2
      refine wpAny_pure ⟨rfl, g, t2, c, rfl, hS2, hc2, fun b o e => ?_⟩
      have hb0 : b < s.heap.objs.size := Heap.lt_size e
      refine mv.heap b o ?_ (Heap.get?_push_of_some _ (Heap.get?_push_of_some _ e))
      rw [sz]
      simp only [List.mem_cons, List.not_mem_nil, or_false, not_or]
      exact ⟨Nat.ne_of_lt hb0, Nat.ne_of_lt (Nat.lt_succ_of_lt hb0)⟩
    · match r₂, hr₂ with
      | .error e, hr₂ => exact hr₂
      | .ok (.ret r), ⟨e1, g, tk, c, e2, hS, hc, hk⟩ =>
        subst e1; subst e2
        repeat (any_goals (first | assumption | wp_step))
        exact fin _ _ _ hS hc hk
      | .ok .next, h => exact h.elim
      | .ok .brk, h => exact h.elim
      | .ok .cont, h => exact h.elim
  | .ok .next, h => exact h.elim
  | .ok .brk, h => exact h.elim
  | .ok .cont, h => exact h.elim
end
section
variable {X : Cx} {e : Expr} {t : DE} {pos pos2 p p2 : Pos}
def rSetI (K : PySem.W.Frag) (w : World) : List V → Hp → VK → Prop := fun xs H Q => ∃ (l : Addr) (ns : List Int), xs = [.ref l] ∧ SqL K H l (ns.map V.int) ∧ ns.length < 64 ∧ ∀ p c, H p = none → c ≤ ns.length → Q (.ref p) (upd H p (SetO w p (fun j => decide (j ∈ ns)) c))
theorem call_setI (hc : X.calm = true) : CallR X (.type "set") (rSetI X.K X.w) := by
  intro pins s σ H xs us Q I r h
  obtain ⟨l, ns, rfl, hl, h64, q⟩ := h
  obtain ⟨u, rfl, rx⟩ := vals1 r
  cases rx
  obtain ⟨its, rv, pl, _⟩ := I.list hl
  have hsc : scanBound = 4096 := by decide
  refine set_of_ints ns (I.ok.hd hc) pl.isList (by rw [List.toList_toArray]; exact ints_of_vals rv) (by omega) fun g tk c hS hc2 hk => ?_
  exact ⟨.ref s.heap.objs.size, _, I.laid (t' := tk) hk (Nat.le_refl _) (setO_new hS), rfl, q _ _ (I.hok.fresh (Nat.le_refl _)) hc2⟩
theorem rp_ints {K : PySem.W.Frag} {as : List Addr} {L : Hp} : ∀ ns : List Int, RpA K as L (ns.map V.int) (dI ns)
  | [] => .nil
  | n :: ns => .cons (.int n) (rp_ints ns)
/-- sorted(set(e)), e a list of ints -/
@[simp] def dSortSet (t : DE) : DE := fun ρ M P => t ρ M fun d M1 => ∃ ns : List Int, d = .lst (dI ns) ∧ ns.length < 64 ∧ ∀ ms : List Int, ms.Pairwise (· < ·) → (∀ k, k ∈ ms ↔ k ∈ ns) → P (.lst (dI ms)) M1
theorem pd_sortSet (hc : X.calm = true) (hg : Gl X "sorted") (hm : X.mg "sorted" = none) (hg2 : Gl X "set") (hm2 : X.mg "set" = none) (h : PD X e t) (hst : starEach [e] X.env = (false, eval e X.env) :: starEach [] X.env := by rfl) (hst2 : starEach [.Call (.Name "set" p2) [e] [] pos2] X.env = (false, eval (.Call (.Name "set" p2) [e] [] pos2) X.env) :: starEach [] X.env := by rfl) :
    PD X (.Call (.Name "sorted" p) [.Call (.Name "set" p2) [e] [] pos2] [] pos) (dSortSet t) := by
  obtain ⟨u, pe, s⟩ := h.ex
  refine ⟨_, pe_callB (cr_sortedSet hc) hg hm (by decide +kernel) (pa_cons (pe_callTy (call_setI hc) hg2 hm2 (by decide +kernel) (pa_cons pe pa_nil hst) (by decide) (by decide) hst (by rfl)) pa_nil hst2) (by decide) (by decide) hst2 (by rfl), ?_⟩
  intro as σ ρ L H M P Q hE A hh q
  refine s as σ ρ L H M _ _ hE A hh fun v d L1 H1 M1 s1 A1 h1 r1 => ?_
  obtain ⟨ns, rfl, h64, p1⟩ := h1
  cases r1 with
  | lst hs ra =>
    have ev := RpA.ints ra
    subst ev
    refine ⟨_, ns, rfl, ex_l A1.low hs, h64, fun a c ha hcl => ?_⟩
    refine ⟨a, _, c, rfl, upd_same, by omega, fun ms b hms hmem hlen hb => ?_⟩
    have s2 := Step.know (o := SetO X.w a (fun j => decide (j ∈ ns)) c) A1 ha
    have A2 := A1.know (o := SetO X.w a (fun j => decide (j ∈ ns)) c) ha (fun ps z => by cases z)
    have lb := lowfree A2 hb
    exact q _ _ _ _ M1 ((s1.trans A1 s2).trans A2 (Step.know A2 hb)) (A2.know hb) (p1 ms hms fun k => by rw [hmem]; simp) (.lst (.inl (.inl upd_same)) (rp_ints ms))
end
@[simp] def sBuildP (i j : Nat) (ta : DE) (t rest : DS) : DS := fun De ρ M => ta ρ M fun d M1 => t { nx := (fun ρ' M' => ∃ M3 ds, M' = M3 ++ [MO.lst ds] ∧ M3.length = M1.length ∧ apartM M1.length M3 = true ∧ apartA M1.length ds = true ∧ (ρ'[j]? = some (some (D.mu M1.length))) ∧ rest De ((clean M1.length ρ').set j (some (.lst ds))) M3), rt := cutR M1.length De.rt, bk := cutE M1.length De.bk, ct := cutE M1.length De.ct } ((ρ.set i (some d)).set j (some (.mu M1.length))) (M1 ++ [.lst []])
end Pd
set_option Elab.async false
set_option linter.all false
set_option maxRecDepth 100000
set_option maxHeartbeats 4000000
namespace Pd
open PySem PySem.Spec PyProof.Rows L2
theorem p29 : (0 : Int) < 2147483629 := by decide
theorem p47 : (0 : Int) < 2147483647 := by decide
theorem z2 : 2 ≤ sizeLine := by decide
/-- the law's source is changeable object number k -/
def SrcAt (k : Nat) (M : Ms) : Prop := ∃ n s : Int, M[k]? = some (.lst [.int n, .int s]) ∧ 0 ≤ s ∧ s < 2147483647
theorem SrcAt.set {k : Nat} {M : Ms} (h : SrcAt k M) {n s : Int} (h0 : 0 ≤ s) (h1 : s < 2147483647) : SrcAt k (M.set k (.lst [.int n, .int s])) := by
  obtain ⟨_, _, e, _⟩ := h
  exact ⟨n, s, List.getElem?_set_self (List.getElem?_eq_some_iff.mp e).1, h0, h1⟩
theorem lc_fmap {g : DG} {tt : DT} {te : DE} {ρ : Rho} {P : D → Ms → Prop} {M : Ms} (f : D → Option D) : ∀ (ds acc : List D), (∀ d ∈ ds, ∀ (R : D → Ms → Prop) (S : Ms → Prop), (∀ y, f d = some y → R y M) → (f d = none → S M) → g d ρ fun ρ' => tt ρ' M fun b M1 => if b = true then te ρ' M1 R else S M1) →
    acc.length + ds.length ≤ sizeLine → P (.lst (acc ++ ds.filterMap f)) M → lcRun g tt te ρ P ds acc M
  | [], acc, _, _, p => by
    show P (.lst acc) M
    simpa using p
  | d :: r, acc, h, hz, p => by
    rw [List.length_cons] at hz
    refine h d List.mem_cons_self (fun y M2 => acc.length < sizeLine ∧ lcRun g tt te ρ P r (acc ++ [y]) M2) (fun M1 => lcRun g tt te ρ P r acc M1) (fun y hy => ⟨by omega, ?_⟩) fun hn => ?_
    · refine lc_fmap f r (acc ++ [y]) (fun d' h' => h d' (List.mem_cons_of_mem _ h')) (by rw [List.length_append, List.length_singleton]; omega) ?_
      rw [List.filterMap_cons, hy] at p
      simpa using p
    · refine lc_fmap f r acc (fun d' h' => h d' (List.mem_cons_of_mem _ h')) (by omega) ?_
      rw [List.filterMap_cons, hn] at p
      exact p
theorem okM_set {k : Nat} {M : Ms} (h : okM M) (a b : Int) : apartM M.length (M.set k (.lst [.int a, .int b])) = true := by
  refine List.all_eq_true.mpr fun mo hmo => ?_
  rcases List.mem_or_eq_of_mem_set hmo with h2 | rfl
  · exact List.all_eq_true.mp h mo h2
  · rfl
/-- the objects as they are, but for the source -/
def Cu (k : Nat) (M M1 : Ms) : Prop := ∃ n s : Int, 0 ≤ s ∧ s < 2147483647 ∧ M1 = M.set k (.lst [.int n, .int s])
section
variable {k j : Nat} {M M1 : Ms} {mo : MO}
theorem Cu.len (c : Cu k M M1) : M1.length = M.length := by obtain ⟨_, _, _, _, rfl⟩ := c; exact List.length_set
theorem Cu.set (c : Cu k M M1) {n s : Int} (h0 : 0 ≤ s) (h1 : s < 2147483647) : Cu k M (M1.set k (.lst [.int n, .int s])) := by
  obtain ⟨_, _, _, _, rfl⟩ := c
  exact ⟨n, s, h0, h1, List.set_set _⟩
theorem Cu.ok (c : Cu k M M1) (h : okM M) : okM M1 := by
  have e := c.len
  obtain ⟨n, s, _, _, rfl⟩ := c
  unfold okM
  rw [e]
  exact okM_set h n s
theorem Cu.get (c : Cu k M M1) (hj : M[j]? = some mo) (h : j ≠ k) : M1[j]? = some mo := by
  obtain ⟨n, s, _, _, rfl⟩ := c
  rw [List.getElem?_set_ne h.symm]; exact hj
theorem SrcAt.lt (h : SrcAt k M) : k < M.length := by obtain ⟨n, s, e, _⟩ := h; exact (List.getElem?_eq_some_iff.mp e).1
theorem get_app (hj : M[j]? = some mo) (x : MO) : (M ++ [x])[j]? = some mo := by rw [List.getElem?_append_left (List.getElem?_eq_some_iff.mp hj).1]; exact hj
theorem clean_cons (k : Nat) (d : D) (ρ : Rho) (h : apart k d = true) : clean k (some d :: ρ) = some d :: clean k ρ := by
  show (if apart k d = true then some d else none) :: clean k ρ = _
  rw [if_pos h]
end
mutual
theorem apart_up {k k' : Nat} (hk : k ≤ k') : ∀ d : D, apart k d = true → apart k' d = true
  | .non, _ => rfl
  | .bl _, _ => rfl
  | .int _, _ => rfl
  | .str _, _ => rfl
  | .ob _, _ => rfl
  | .ty _, _ => rfl
  | .tfz _, _ => rfl
  | .lst ds, h => apartA_up hk ds h
  | .tup ds, h => apartA_up hk ds h
  | .dic _ ds, h => apartA_up hk ds h
  | .dit _ ds, h => apartA_up hk ds h
  | .ins _ fs, h => apartF_up hk fs h
  | .exc _ fs, h => apartF_up hk fs h
  | .mu j, h => decide_eq_true (Nat.lt_of_lt_of_le (of_decide_eq_true h) hk)
theorem apartA_up {k k' : Nat} (hk : k ≤ k') : ∀ ds : List D, apartA k ds = true → apartA k' ds = true
  | [], _ => rfl
  | d :: ds, h => by
    have h' := Bool.and_eq_true_iff.mp h
    show (apart k' d && apartA k' ds) = true
    rw [apart_up hk d h'.1, apartA_up hk ds h'.2]; rfl
theorem apartF_up {k k' : Nat} (hk : k ≤ k') : ∀ fs : List (Str × D), apartF k fs = true → apartF k' fs = true
  | [], _ => rfl
  | (f, d) :: fs, h => by
    have h' := Bool.and_eq_true_iff.mp h
    show (apart k' d && apartF k' fs) = true
    rw [apart_up hk d h'.1, apartF_up hk fs h'.2]; rfl
end
theorem okM_app {M : Ms} {ds : List D} (h : okM M) (hd : apartA M.length ds = true) : okM (M ++ [.lst ds]) := by
  unfold okM
  rw [List.length_append, List.length_singleton]
  refine List.all_eq_true.mpr fun mo hmo => ?_
  rcases List.mem_append.mp hmo with h2 | h2
  · have := List.all_eq_true.mp h mo h2
    cases mo with
    | lst ds => exact apartA_up (Nat.le_succ _) ds this
    | ins C fs => exact apartF_up (Nat.le_succ _) fs this
    | tab P q => rfl
    | dic ks ds => exact apartA_up (Nat.le_succ _) ds this
    | dit ks ds => exact apartA_up (Nat.le_succ _) ds this
  · rw [List.mem_singleton.mp h2]; exact apartA_up (Nat.le_succ _) ds hd
theorem okD_two {a x : Str} (ha : PyData.strOk a = true) (h : PyData.strOk x = true) : okD (.lst [.str a, .str x]) = true := by
  show ((true && (true && true)) && ((PyData.strOk a && (PyData.strOk x && true)) && decide (max 0 (max 0 0) + 1 ≤ 64))) = true
  rw [ha, h]; rfl
theorem okD_22 {a x : Str} (ha : PyData.strOk a = true) (h : PyData.strOk x = true) : okD (.lst [.lst [.str a, .str x], .lst [.str a, .str x]]) = true := by
  show (((true && (true && true)) && ((true && (true && true)) && true)) && (((PyData.strOk a && (PyData.strOk x && true)) && ((PyData.strOk a && (PyData.strOk x && true)) && true)) && decide (max (max 0 (max 0 0) + 1) (max (max 0 (max 0 0) + 1) 0) + 1 ≤ 64))) = true
  rw [ha, h]; rfl
def hdsOf (st : Stmt) : List ExceptHandler := match defBody st with | .Try _ hs _ _ _ :: _ => hs | _ => []
def isI : D → Bool | .int _ => true | _ => false
/-- the built-in type of data -/
def tyN : D → Option String
  | .non => some "NoneType" | .bl _ => some "bool" | .int _ => some "int" | .str _ => some "str" | .lst _ => some "list" | .tup _ => some "tuple" | .dic _ _ => some "dict" | _ => none
theorem dty {K : PySem.W.Frag} {d : D} {t : String} (h : tyN d = some t) : DTy K d (.type t) := by
  cases d <;> simp only [tyN, Option.some.injEq, reduceCtorEq] at h <;> subst h <;> constructor
/-- all_between -/
def btwB (lo hi : Int) : D → Bool
  | .int x => decide (lo ≤ x) && decide (x ≤ hi)
  | _ => false
/-- data that may be compared, at most k deep -/
structure Lay (k : Nat) (d : D) : Prop where
  pl : plain d = true
  la : PyData.canLay0 (toP d) = true
  dp : (toP d).depth ≤ k
theorem Lay.up {k k' : Nat} {d : D} (h : Lay k d) (hk : k ≤ k') : Lay k' d := ⟨h.pl, h.la, Nat.le_trans h.dp hk⟩
theorem at_val {k : D → Ms → Prop} {d d' : D} {M : Ms} (e : d = d') (h : k d' M) : k d M := e ▸ h
end Pd
set_option Elab.async false
set_option linter.all false
set_option maxRecDepth 100000
set_option maxHeartbeats 3200000
namespace Pd
open PySem PySem.Spec PyProof.Rows L2
section
variable {X : Cx} {e o : Expr} {t td te : DE} {pos p : Pos}
def tTIdx (td te : TE) : TE := fun σ H Q => td σ H fun x H1 => ∃ (a : Addr) (ob : Obj) (ns : List Int), x = .ref a ∧ H1 a = some (.frz ob (.tup (ns.map V.int))) ∧ ob.cls = .type "tuple" ∧ ob.dict = none ∧ tCons te tNil σ H1 fun vs H2 => ∃ k : Int, vs = [.int k] ∧ H2 a = some (.frz ob (.tup (ns.map V.int))) ∧ k ∈ ns ∧ Q (.int (ns.idxOf k)) H2
theorem pe_tidx {ap pos : Pos} (hu : X.A.units + 64 < cLine) {to te : TE} (ho : PE X o to) (he : PE X e te) (hab : attributeBase o "index" X.env (eval o X.env) = eval o X.env := by rfl) (hs : starEach [e] X.env = (false, eval e X.env) :: starEach [] X.env := by rfl)
    (hfew : (((backTo pos (starEach [e] X.env)).all fun x => !x.1) && ((backToKw pos (keywordEach [] X.env)).all fun x => x.1.isSome) && decide ([e].length + ([] : List Keyword).length + (if ([] : List Keyword).isEmpty = true then 0 else 1) < 30)) = true := by rfl)
    (hline : (ap.endLine == pos.line) = true := by rfl) : PE X (.Call (.Attribute o "index" ap) [e] [] pos) (tTIdx to te) := by
  refine ⟨fun pins s σ H Q I h => ?_⟩
  refine wpAny_Call_method hab hfew hline PySem.F.plainAttrs_tuple PySem.F.slot_tuple_index PySem.F.type_tuple_index (thn (ho.run pins s σ H _ I h) fun u s1 ⟨x, H1, I1, rx, q⟩ => ?_)
  obtain ⟨a, ob, ns, rfl, ha, hc, hd, q⟩ := q
  obtain rfl : u = Value.ref a := rx
  have hg : s1.heap.get? a = some ob := (I1.hok a _ ha).1
  refine ⟨⟨ob, hg, hc⟩, fun b eb => by cases eb; exact ⟨ob, hg, hd⟩, ?_⟩
  refine callWith_method1 (first := [.ref a]) (thn ((pa_cons he pa_nil hs).run pos pins s1 σ H1 (fun vs H2 => ∃ k : Int, vs = [.int k] ∧ H2 a = some (.frz ob (.tup (ns.map V.int))) ∧ k ∈ ns ∧ Q (.int (ns.idxOf k)) H2) I1 q) fun us s2 ⟨vs, H2, I2, r, k, ek, ha2, hm, q2⟩ => ?_) hs rfl
  subst ek
  obtain ⟨u, rfl, ru⟩ := vals1 r
  obtain ⟨tk, rfl⟩ := ru
  obtain ⟨its, hv, hl, _⟩ := I2.tuple (.inl (.inr ⟨ob, ha2⟩))
  obtain ⟨as, hr⟩ := Dp.readsAll I2 _ _ _ (dp_ints ns) hv
  exact PySem.W.index_tuple_datum (α := Int) hl ⟨as, hr⟩ ⟨_, .int _ _⟩ (by show X.A.units + 1 + 0 < cLine; omega) hm ⟨.int (ns.idxOf k), H2, I2.tok _, ⟨_, rfl⟩, q2⟩
@[simp] def dTIdx (td te : DE) : DE := fun ρ M P => td ρ M fun d M1 => ∃ ns : List Int, d = .tfz ns ∧ te ρ M1 fun y M2 => ∃ k : Int, y = .int k ∧ k ∈ ns ∧ P (.int (ns.idxOf k)) M2
theorem pd_tidx {ap pos : Pos} (hu : X.A.units + 64 < cLine) (ho : PD X o td) (he : PD X e te) (hab : attributeBase o "index" X.env (eval o X.env) = eval o X.env := by rfl) (hs : starEach [e] X.env = (false, eval e X.env) :: starEach [] X.env := by rfl)
    (hfew : (((backTo pos (starEach [e] X.env)).all fun x => !x.1) && ((backToKw pos (keywordEach [] X.env)).all fun x => x.1.isSome) && decide ([e].length + ([] : List Keyword).length + (if ([] : List Keyword).isEmpty = true then 0 else 1) < 30)) = true := by rfl)
    (hline : (ap.endLine == pos.line) = true := by rfl) : PD X (.Call (.Attribute o "index" ap) [e] [] pos) (dTIdx td te) := by
  obtain ⟨uo, po, so⟩ := ho.ex
  obtain ⟨u, pe, s⟩ := he.ex
  refine ⟨_, pe_tidx hu po pe hab hs hfew hline, ?_⟩
  intro as σ ρ L H M P Q hE A h q
  refine so as σ ρ L H M _ _ hE A h fun v d L1 H1 M1 s1 A1 h1 r1 => ?_
  obtain ⟨ns, rfl, h1⟩ := h1
  cases r1 with
  | tfz hf =>
    obtain ⟨ob, hf, hc, hd⟩ := hf
    refine ⟨_, ob, ns, rfl, A1.low _ _ hf, hc, hd, ?_⟩
    refine s as σ ρ L1 H1 M1 _ _ (hE.mono s1.k s1.pre) A1 h1 fun v d L2 H2 M2 s2 A2 h2 r2 => ?_
    obtain ⟨k, rfl, hm, p⟩ := h2
    cases r2
    exact ⟨k, rfl, A2.low _ _ (s2.k _ _ hf), hm, q _ _ L2 H2 M2 (s1.trans A1 s2) A2 p (.int _)⟩
def fgD : D → D | .tfz ns => .tup (dI ns) | d => d
theorem rp_ints' {K : PySem.W.Frag} {as : List Addr} {L : Hp} : ∀ ns : List Int, RpA K as L (ns.map V.int) (dI ns)
  | [] => .nil
  | n :: ns => .cons (.int n) (rp_ints' ns)
theorem Rp.fg {K : PySem.W.Frag} {as : List Addr} {L : Hp} {v : V} {d : D} (r : Rp K as L v d) : Rp K as L v (fgD d) := by
  cases r with
  | tfz h => obtain ⟨o, h, _⟩ := h; exact .tup (.inl (.inr ⟨o, h⟩)) (rp_ints' _)
  | non => exact .non
  | bl b => exact .bl b
  | int i => exact .int i
  | str x => exact .str x
  | lst h r => exact .lst h r
  | tup h r => exact .tup h r
  | ins h r => exact .ins h r
  | mu h => exact .mu h
  | ob a => exact .ob a
  | ty n => exact .ty n
  | exc h1 h2 r => exact .exc h1 h2 r
  | exc0 h => exact .exc0 h
  | dic h l r => exact .dic h l r
  | dit h l r => exact .dit h l r
@[simp] def dFg (t : DE) : DE := fun ρ M P => t ρ M fun d M1 => P (fgD d) M1
theorem pd_fg (h : PD X e t) : PD X e (dFg t) := by
  obtain ⟨u, p, s⟩ := h.ex
  refine ⟨u, p, ?_⟩
  intro as σ ρ L H M P Q hE A h q
  exact s as σ ρ L H M _ _ hE A h fun v d L1 H1 M1 s1 A1 h1 r1 => q v _ L1 H1 M1 s1 A1 h1 r1.fg
def rMkT (K : PySem.W.Frag) : List V → Hp → VK → Prop := fun xs H Q => ∃ p ys, xs = [.ref p] ∧ ((SqL K H p ys ∧ ∀ (l : Addr) (o : Obj), o.cls = .type "tuple" → o.dict = none → H l = none → Q (.ref l) (upd H l (.frz o (.tup ys)))) ∨ (SqT K H p ys ∧ Q (.ref p) H))
theorem call_mkT : CallR X (.type "tuple") (rMkT X.K) := by
  intro pins s σ H xs us Q I r h
  obtain ⟨p, ys, rfl, h⟩ := h
  rcases h with ⟨hl, q⟩ | ⟨ht, q⟩
  · obtain ⟨u, rfl, rx⟩ := vals1 r
    obtain rfl : u = Value.ref p := rx
    obtain ⟨its, hv, pl, hz⟩ := I.list hl
    have hz2 : its.toArray.size ≤ sizeLine := by rw [List.size_toArray, ← hv.length]; exact hz
    refine call_tuple_list pl.isList (fun h' keep => ?_) hz2
    have g0 : s.heap.get? h'.objs.size = none := by
      cases e : s.heap.get? h'.objs.size with
      | none => rfl
      | some o => exact absurd (Heap.lt_size (keep _ _ e)) (Nat.lt_irrefl _)
    have gN : (h'.push { cls := .type "tuple", data := .seq its.toArray }).get? h'.objs.size = some { cls := .type "tuple", data := .seq its.toArray } := Heap.get?_push_size _ rfl
    refine ⟨.ref h'.objs.size, _, I.laidN (t' := s.toks) (a := h'.objs.size) (o := .frz { cls := .type "tuple", data := .seq its.toArray } (.tup ys)) (fun b o e => Heap.get?_push_of_some _ (keep b o e)) g0 (I.hok.gone g0) ⟨gN, hz, its, hv, ⟨_, gN, rfl, _, rfl⟩⟩, rfl, q _ _ rfl rfl (I.hok.gone g0)⟩
  · exact call_tuple_of pins s σ H _ us Q I r ⟨p, ys, rfl, .inr ⟨ht, q⟩⟩
end
end Pd
set_option Elab.async false
set_option linter.all false
set_option maxRecDepth 100000
set_option maxHeartbeats 3200000
namespace Pd
open PySem PySem.Spec PyProof.Rows L2
@[simp] def oMkT : DC := fun xs M P => ∃ (d : D) (ns : List Int), xs = [d] ∧ ((d = .lst (dI ns) ∧ P (.tfz ns) M) ∨ (d = .tup (dI ns) ∧ P d M) ∨ (d = .tfz ns ∧ P d M))
theorem sc_mkT {K : PySem.W.Frag} : SimC K (rMkT K) oMkT := by
  intro as L H M xs ds P Q A r ⟨d, ns, h, hd⟩ q
  subst h
  cases r with
  | cons r1 r2 =>
    cases r2
    rcases hd with ⟨rfl, p⟩ | ⟨rfl, p⟩ | ⟨rfl, p⟩
    · cases r1 with
      | lst hs ra =>
        have ev := RpA.ints ra
        subst ev
        exact ⟨_, _, rfl, .inl ⟨ex_l A.low hs, fun l o hc hd hl => q _ _ _ _ M (Step.know A hl) (A.know hl) p (.tfz ⟨o, upd_same, hc, hd⟩)⟩⟩
    · have r0 := r1
      cases r1 with
      | tup hs ra => exact ⟨_, _, rfl, .inr ⟨ex_t A.low hs, q _ _ L H M .refl A p r0⟩⟩
    · have r0 := r1
      cases r1 with
      | tfz hf =>
        obtain ⟨o, hf, _⟩ := hf
        exact ⟨_, _, rfl, .inr ⟨.inl (.inr ⟨o, A.low _ _ hf⟩), q _ _ L H M .refl A p r0⟩⟩
def encR (b : V × List Int) : PyData := .tuple (b.2.map PyData.int)
def leD (a b : List Int) : Bool := !decide (a < b)
theorem leR_eq : PySem.W.dataLe true encR = fun a b => leD a.2 b.2 := by
  rw [PySem.W.dataLe_eq]
  funext a b
  show (!PySem.W.dataLt (encR a) (encR b)) = _
  have : PySem.W.dataLt (encR a) (encR b) = decide (a.2 < b.2) := by
    unfold encR
    rw [PySem.W.dataLt_tuple]; exact PySem.W.dataLt_ints _ _
  rw [this]; rfl
def rSortRev (K : PySem.W.Frag) : List V → List V → Hp → VK → Prop := fun xs zs H Q => ∃ (l : Addr) (bs : List (V × List Int)), xs = [.ref l] ∧ zs = [.bl true] ∧ SqL K H l (bs.map (·.1)) ∧ (∀ b ∈ bs, Dp K H b.1 (encR b) ∧ b.2 ≠ []) ∧
  ∀ p, H p = none → Q (.ref p) (upd H p (.lst ((bs.mergeSort fun a b => leD a.2 b.2).map (·.1))))
theorem each_vals : ∀ {bs : List (V × List Int)} {us : List Value}, Vals (bs.map (·.1)) us → PySem.W.EachIs (fun u b => RelV b.1 u) us bs
  | [], _, r => by cases r; exact .nil
  | b :: bs, _, .cons r t => .cons r (each_vals t)
theorem vals_each : ∀ {bs : List (V × List Int)} {us : List Value}, PySem.W.EachIs (fun u b => RelV b.1 u) us bs → Vals (bs.map (·.1)) us
  | _, _, .nil => .nil
  | _, _, .cons r t => .cons r (vals_each t)
theorem each_reads {X : Cx} {pins : List (Addr × Obj)} {s : Shared} {σ : L2.St} {H : Hp} (I : Inv X pins σ H s) : ∀ {bs : List (V × List Int)} {us : List Value}, (∀ b ∈ bs, Dp X.K H b.1 (encR b) ∧ b.2 ≠ []) → Vals (bs.map (·.1)) us → PySem.W.EachIs (fun u b => ∃ as, Reads s.heap u (encR b) as) us bs
  | [], _, _, r => by cases r; exact .nil
  | b :: bs, _, h, .cons r t => .cons (Dp.reads I _ _ _ (h b List.mem_cons_self).1 r) (each_reads I (fun c hc => h c (List.mem_cons_of_mem _ hc)) t)
theorem cr_sortRev {X : Cx} (hu : X.A.units + 64 < cLine) : CallRK X (.builtin "sorted") ["reverse"] (rSortRev X.K) := by
  intro pins s σ H xs zs us ws Q I r rz h
  obtain ⟨l, bs, rfl, rfl, hl, hb, q⟩ := h
  obtain ⟨u, rfl, rx⟩ := vals1 r
  obtain rfl : u = Value.ref l := rx
  obtain ⟨w, rfl, rw_⟩ := vals1 rz
  obtain rfl : w = Value.bool true := rw_
  obtain ⟨its, hv, pl, hz⟩ := I.list hl
  refine PySem.W.sorted_rev_data (enc := encR) (R := fun u b => RelV b.1 u) (vs := its) (bs := bs) pl.isList (each_vals hv) (each_reads I hb hv) ?_ ?_ (by rw [List.length_map] at hz; exact hz) (fun b _ => ?_) (fun out hlen ho => ?_)
  · refine PySem.W.AllAlike.of fun b b' => ?_
    exact PySem.W.alike_ints b.2 b'.2
  · refine .inl fun d hd => ?_
    obtain ⟨b, hm, rfl⟩ := List.mem_map.mp hd
    have := (hb b hm).2
    unfold encR
    cases e : b.2 with
    | nil => exact absurd e this
    | cons x r => exact ⟨_, _, rfl⟩
  · have : (encR b).depth = 1 := by unfold encR; show (PyData.depthAll _) + 1 = 1; rw [PySem.W.depth_ints]
    omega
  · rw [leR_eq] at ho
    obtain ⟨e, he⟩ := sortedAll_at s.heap its out.toArray
    have keep : ∀ (b : Addr) (o : Obj), s.heap.get? b = some o → (sortedAll s.heap its out.toArray).get? b = some o := fun b o h => sortedAll_old h
    refine ⟨.ref (s.heap.objs.size + 1), _, I.laid (t' := s.toks) (a := s.heap.objs.size + 1) (o := .lst ((bs.mergeSort fun a b => leD a.2 b.2).map (·.1))) keep (Nat.le_succ _) ⟨?_, out, e, vals_each ho, he⟩, rfl, q _ (I.hok.fresh (Nat.le_succ _))⟩
    rw [List.length_map, List.length_mergeSort]
    rw [List.length_map] at hz; exact hz
theorem rp_zip {K : PySem.W.Frag} {as : List Addr} {L H : Hp} (e : Ex L H) : ∀ {xs : List V} {rows : List (List Int)}, (∀ r ∈ rows, r ≠ []) → RpA K as L xs (rows.map D.tfz) → ∃ bs : List (V × List Int), bs.map (·.1) = xs ∧ bs.map (·.2) = rows ∧ (∀ b ∈ bs, Rp K as L b.1 (.tfz b.2)) ∧ ∀ b ∈ bs, Dp K H b.1 (encR b) ∧ b.2 ≠ []
  | _, [], _, h => by cases h; exact ⟨[], rfl, rfl, (fun _ h => nomatch h), (fun _ h => nomatch h)⟩
  | _, r :: rows, hne, h => by
    cases h with
    | cons r1 rt =>
      rename_i v vs
      obtain ⟨bs, h1, h2, h4, h3⟩ := rp_zip e (fun x hx => hne x (List.mem_cons_of_mem _ hx)) rt
      refine ⟨(v, r) :: bs, by rw [List.map_cons, h1], by rw [List.map_cons, h2], fun b hb => ?_, fun b hb => ?_⟩
      · rcases List.mem_cons.mp hb with rfl | hb
        · exact r1
        · exact h4 b hb
      · rcases List.mem_cons.mp hb with rfl | hb
        · exact ⟨r1.dp e rfl, hne r List.mem_cons_self⟩
        · exact h3 b hb
theorem rp_pairs {K : PySem.W.Frag} {as : List Addr} {L : Hp} : ∀ {bs : List (V × List Int)}, (∀ b ∈ bs, Rp K as L b.1 (.tfz b.2)) → RpA K as L (bs.map (·.1)) ((bs.map (·.2)).map D.tfz)
  | [], _ => .nil
  | b :: bs, h => .cons (h b List.mem_cons_self) (rp_pairs fun c hc => h c (List.mem_cons_of_mem _ hc))
section
variable {X : Cx} {e : Expr} {t : DE} {pos p p2 kp : Pos} {kt : Nat}
@[simp] def dSortRev (t : DE) (tk : DA) : DE := fun ρ M P => t ρ M fun d M1 => ∃ rows : List (List Int), d = .lst (rows.map D.tfz) ∧ (∀ r ∈ rows, r ≠ []) ∧ tk ρ M1 fun zs M2 => zs = [.bl true] ∧ P (.lst ((rows.mergeSort leD).map D.tfz)) M2
theorem pd_sortRev {kws : List Keyword} {tk : DA} (hu : X.A.units + 64 < cLine) (hg : Gl X "sorted") (hm : X.mg "sorted" = none) (h : PD X e t) (hk : PDK X kws tk)
    (h1 : backTo pos (starEach [e] X.env) = (false, eval e X.env) :: backTo pos (starEach [] X.env) := by rfl) (h2 : ((backTo pos (starEach [e] X.env)).any fun x => x.1) = false := by rfl)
    (h3 : ((backToKw pos (keywordEach kws X.env)).all fun x => x.1.isSome) = true := by rfl) (h4 : ((backToKw pos (keywordEach kws X.env)).any fun x => x.1.isNone) = false := by rfl) (h5 : List.filterMap (fun x => x.1) (backToKw pos (keywordEach kws X.env)) = [("reverse" : Str)] := by rfl)
    (hs : starEach [e] X.env = (false, eval e X.env) :: starEach [] X.env := by rfl) :
    PD X (.Call (.Name "sorted" p) [e] kws pos) (dSortRev t tk) := by
  obtain ⟨u, pe, s⟩ := h.ex
  obtain ⟨uk, pk, sk⟩ := hk.ex
  refine ⟨_, pe_callBK (cr_sortRev hu) hg hm (by decide +kernel) (pa_cons pe pa_nil hs) pk (by decide) (by decide) h1 h2 h3 h4 h5, ?_⟩
  intro as σ ρ L H M P Q hE A hh q
  refine s as σ ρ L H M _ _ hE A hh fun v d L1 H1 M1 s1 A1 h1 r1 => ?_
  obtain ⟨rows, rfl, hne, h1⟩ := h1
  cases r1 with
  | lst hs ra =>
    refine sk as σ ρ L1 H1 M1 _ _ (hE.mono s1.k s1.pre) A1 h1 fun vs ds L2 H2 M2 s2 A2 h2 r2 => ?_
    obtain ⟨rfl, p⟩ := h2
    cases r2 with
    | cons rb rn =>
      cases rn
      cases rb
      obtain ⟨bs, e1, e2, e4, e3⟩ := rp_zip (A2.low) hne (ra.mono s2.k s2.pre)
      refine ⟨_, bs, rfl, rfl, ?_, e3, fun a ha => ?_⟩
      · rw [e1]; exact ex_l A2.low (ex_l s2.k hs)
      · refine q _ _ _ _ M2 ((s1.trans A1 s2).trans A2 (Step.know A2 ha)) (A2.know ha) p (.lst (.inl (.inl upd_same)) ?_)
        have e5 : (bs.mergeSort fun a b => leD a.2 b.2).map (·.2) = rows.mergeSort leD := by
          rw [← e2]
          exact List.map_mergeSort (fun _ _ _ _ => rfl)
        rw [← e5]
        exact (rp_pairs fun b hb => e4 b ((List.mem_mergeSort).mp hb)).mono (Ex.new (lowfree A2 ha)) (Pre.refl _)
@[simp] def iRev (t : DE) : DA := fun ρ M P => t ρ M fun d M1 => ∃ ds, d = .lst ds ∧ P ds.reverse M1
theorem walks_rev {K : PySem.W.Frag} {as : List Addr} {L0 : Hp} {a : Addr} {xs : List V} {ds : List D} (h : SqL K L0 a xs) (r : RpA K as L0 xs ds) : Walks K (Itv K a xs.length) as L0 ds.reverse := by
  intro L H M e A
  have g1 : SqL K H a xs := ex_l A.low (ex_l e h)
  have hz := r.length
  refine ⟨fun i hi => ?_, by show xs.length ≤ _; rw [List.length_reverse, hz]; exact Nat.le_refl _⟩
  rw [List.length_reverse] at hi
  have hx : xs.length - 1 - i < xs.length := by omega
  refine ⟨⟨by omega, xs, xs[xs.length - 1 - i], g1, List.getElem?_eq_getElem hx⟩, fun x H' y => ?_⟩
  obtain ⟨rfl, hy⟩ := y
  obtain ⟨d, hd, rd⟩ := r.getV (hy xs g1)
  refine ⟨d, L, ?_, .refl, A, rd.mono e (Pre.refl _)⟩
  rw [List.getElem?_reverse (by omega), ← hz]; exact hd
theorem pdi_rev {tg : Expr} (hg : Gl X "reversed") (hm : X.mg "reversed" = none) (h : PD X e t) (hs : starEach [e] X.env = (false, eval e X.env) :: starEach [] X.env := by rfl) : PDI X tg (.Call (.Name "reversed" p) [e] [] pos) (iRev t) := by
  obtain ⟨u, pe, s⟩ := h.ex
  refine ⟨_, RT.pi_revA hg hm pe hs, ?_⟩
  intro as σ ρ L H M P R hE A hh q
  refine s as σ ρ L H M _ _ hE A hh fun v d L1 H1 M1 s1 A1 h1 r1 => ?_
  obtain ⟨ds, rfl, p⟩ := h1
  cases r1 with
  | lst hs ra => exact ⟨_, _, rfl, .inl ⟨ex_l A1.low hs, q _ _ L1 H1 M1 s1 A1 p (walks_rev hs ra)⟩⟩
end
end Pd
set_option Elab.async false
set_option linter.all false
set_option maxRecDepth 100000
set_option maxHeartbeats 3200000
namespace Pd
open PySem PySem.Spec PyProof.Rows L2
def dcRun (g : DG) (tk tv : DE) (ρ : Rho) (P : D → Ms → Prop) : List D → List Key → List D → Ms → Prop
  | [], ks, acc, M => P (.dic ks acc) M
  | d :: r, ks, acc, M => g d ρ fun ρ' => tk ρ' M fun kd M1 => tv ρ' M1 fun y M2 => ∃ k, kd = keyD k ∧ k ∉ ks ∧ acc.length < sizeLine ∧ dcRun g tk tv ρ P r (ks ++ [k]) (acc ++ [y]) M2
@[simp] def dDc (it : DA) (g : DG) (tk tv : DE) (vs : List Nat) : DE := fun ρ M P => it ρ M fun ds M1 => dcRun g tk tv (wipeR ρ vs) P ds [] [] M1
theorem putK_new {ks : List Key} {xs : List V} {k : Key} {v : V} (hl : ks.length = xs.length) (h : k ∉ ks) : putK (ks.zip xs) k v = (ks ++ [k]).zip (xs ++ [v]) := by
  unfold putK
  rw [if_neg, List.zip_append hl]
  · rfl
  · intro z
    obtain ⟨kv, hm, e⟩ := List.any_eq_true.mp z
    have e := of_decide_eq_true e
    exact h (e ▸ (List.of_mem_zip (a := kv.1) (b := kv.2) hm).1)
theorem keyD_rp {K : PySem.W.Frag} {as : List Addr} {L : Hp} {v : V} {k : Key} (r : Rp K as L v (keyD k)) : v = kV k := by
  cases k with
  | inl i => cases r; rfl
  | inr i => cases r; rfl
theorem sim_dc {K : PySem.W.Frag} {wi : TI} {it : DA} {g' : TG} {g : DG} {us : List Nat} {ut : TT} {uk uv : TE} {tk tv : DE} {vs : List Nat} (hus : ∀ i ∈ us, i ∈ vs) (s : SimI K wi it) (sg : SimG K g' g us) (st : SimT K ut dYes) (sk : SimE K uk tk) (se : SimE K uv tv) :
    SimE K (tFrzK (tDc wi g' ut uk uv vs)) (dDc it g tk tv vs) := by
  intro as σ ρ L H M P Q hE A h q
  refine s as σ ρ L H M _ _ hE A h fun J ds L1 H1 M1 s1 A1 h1 w1 => ?_
  intro D hD
  have base : ∀ {L' H' : Hp} {M' : Ms} {acc : List (Key × V)}, At K as M' L' H' → H' D = some (.dK acc) → L' D = none → D ∉ as → ∀ acc', At K as M' L' (upd H' D (.dK acc')) := by
    intro L' H' M' acc A' hd hl hn acc'
    refine ⟨fun a o h => ?_, A'.len, A'.nd, fun k a m e1 e2 => ?_, A'.nt⟩
    · have e : a ≠ D := fun z => by rw [z, hl] at h; cases h
      rw [upd_ne e]; exact A'.low a o h
    · obtain ⟨h3, o, h4, h5⟩ := A'.mo k a m e1 e2
      have e : a ≠ D := fun z => hn (by rw [← z]; exact List.mem_of_getElem? e1)
      exact ⟨h3, o, by rw [upd_ne e]; exact h4, h5.1, h5.2.keep (KeepC.over hd rfl)⟩
  have dn : D ∉ as := fun z => (A1.held z).2 hD
  have ld : L1 D = none := lowfree A1 hD
  refine ⟨fun i m H' => m = ds.length - i ∧ i ≤ ds.length ∧ ∃ L' M' ks xs acc, Step as L1 H1 as L' H' ∧ At K as M' L' H' ∧ H' D = some (.dK (ks.zip xs)) ∧ L' D = none ∧ ks.length = xs.length ∧ RpA K as L' xs acc ∧ dcRun g tk tv (wipeR ρ vs) P (ds.drop i) ks acc M',
    ⟨ds.length, by simp, Nat.zero_le _, L1, M1, [], [], [], ⟨fun a o _ h => ?_, Ex.refl _, fun _ h _ => h, Pre.refl _, fun _ h => .inl h⟩, ?_, upd_same, ld, rfl, .nil, h1⟩, ?_⟩
  · rw [upd_ne (ne_of_none h hD)]; exact h
  · refine ⟨fun a o h => ?_, A1.len, A1.nd, fun k a m e1 e2 => ?_, A1.nt⟩
    · rw [upd_ne (ne_of_none (A1.low a o h) hD)]; exact A1.low a o h
    · obtain ⟨h3, o, h4, h5⟩ := A1.mo k a m e1 e2
      exact ⟨h3, o, by rw [upd_ne (ne_of_none h4 hD)]; exact h4, h5.1, h5.2.keep (KeepC.new hD)⟩
  rintro i m H' ⟨rfl, hi, L', M', ks, xs, acc, s', A', hd', ld', hkl, ra, hf⟩
  obtain ⟨wg, ws⟩ := w1 L' H' M' s'.k A'
  have upD : ∀ {L2 H2 : Hp} {M2 : Ms}, Step as L1 H1 as L2 H2 → At K as M2 L2 H2 → ∀ acc', Step as L1 H1 as L2 (upd H2 D (.dK acc')) := by
    intro L2 H2 M2 s2 A2 acc'
    exact ⟨fun a o ha h => by rw [upd_ne (ne_of_none h hD)]; exact s2.up a o ha h, s2.k, s2.hid, s2.pre, s2.new⟩
  by_cases hlt : i < ds.length
  · obtain ⟨go, wy⟩ := wg i hlt
    rw [List.drop_eq_getElem_cons hlt] at hf
    refine .inr ⟨go, fun H2 => ∃ L' M' ks xs acc, Step as L1 H1 as L' H2 ∧ At K as M' L' H2 ∧ H2 D = some (.dK (ks.zip xs)) ∧ L' D = none ∧ ks.length = xs.length ∧ RpA K as L' xs acc ∧ dcRun g tk tv (wipeR ρ vs) P (ds.drop (i + 1)) ks acc M', fun H2 q => ⟨ds.length - (i + 1), by omega, rfl, hlt, q⟩, fun x H2 y => ?_⟩
    obtain ⟨d, L2, hd, s2, A2, r2⟩ := wy x H2 y
    rw [List.getElem?_eq_getElem hlt] at hd
    cases hd
    have hE2 : En K as L2 (wipeS σ vs) (wipeR ρ vs) := ((hE.mono (s1.k.trans (s'.k.trans s2.k)) (Pre.refl _)).wipe vs)
    have hd2 : H2 D = some (.dK (ks.zip xs)) := s2.up D _ dn hd'
    have ld2 : L2 D = none := s2.hid D ld' (by rw [hd']; simp)
    refine sg as L2 H2 x _ _ _ M' _ _ hE2 A2 r2 hf fun σ3 ρ3 e3 p3 wp => ⟨?_, ?_⟩
    · have z := wp vs hus
      rw [z, wipe_wipe]
    · refine st as σ3 ρ3 L2 H2 M' (fun b M => b = true ∧ tk ρ3 M _) _ e3 A2 ⟨rfl, p3⟩ fun b L3 H3 M3 s3 A3 h3 => ?_
      obtain ⟨rfl, h3⟩ := h3
      have s13 := (s'.trans A' s2).trans A2 s3
      have hd3 : H3 D = some (.dK (ks.zip xs)) := s3.up D _ dn hd2
      have ld3 : L3 D = none := s3.hid D ld2 (by rw [hd2]; simp)
      rw [if_pos rfl]
      refine sk as σ3 ρ3 L3 H3 M3 _ _ (e3.mono s3.k s3.pre) A3 h3 fun kv kd L4 H4 M4 s4 A4 h4 r4 => ?_
      have hd4 : H4 D = some (.dK (ks.zip xs)) := s4.up D _ dn hd3
      have ld4 : L4 D = none := s4.hid D ld3 (by rw [hd3]; simp)
      have s14 := s13.trans A3 s4
      refine se as σ3 ρ3 L4 H4 M4 _ _ ((e3.mono s3.k s3.pre).mono s4.k s4.pre) A4 h4 fun v z L5 H5 M5 s5 A5 h5 r5 => ?_
      obtain ⟨k, rfl, hk, hz, h5⟩ := h5
      have hd5 : H5 D = some (.dK (ks.zip xs)) := s5.up D _ dn hd4
      have ld5 : L5 D = none := s5.hid D ld4 (by rw [hd4]; simp)
      have s15 := s14.trans A4 s5
      have ra5 := ra.mono (s2.k.trans (s3.k.trans (s4.k.trans s5.k))) (Pre.refl as)
      have ek := keyD_rp r4
      refine ⟨ks.zip xs, k, ek, hd5, by rw [List.length_zip, hkl, Nat.min_self, ra.length]; exact hz, L5, M5, ks ++ [k], xs ++ [v], acc ++ [z], upD s15 A5 _, base A5 hd5 ld5 dn _, ?_, ld5, by rw [List.length_append, List.length_append, hkl]; rfl, ra5.append (.one r5), h5⟩
      rw [upd_same, putK_new hkl hk]
  · have e : i = ds.length := by omega
    subst e
    rw [List.drop_length] at hf
    refine .inl ⟨ws, D, ks.zip xs, rfl, hd', fun o => ?_⟩
    have hD0 : H D = none := by
      cases e : H D with
      | none => rfl
      | some o => have := s1.up D _ dn e; rw [hD] at this; cases this
    exact q _ _ _ _ M' ((s1.trans A1 s').shown hD0 ld') (A'.shown ld' dn (KeepC.over hd' rfl) (fun ps z => by cases z)) hf (.dic (vs := xs) ⟨o, upd_same⟩ hkl (ra.mono (Ex.new ld') (Pre.refl _)))
section
variable {X : Cx}
theorem pd_dc {kx vx tg iter : Expr} {scope : Scope} (own : List (Str × Nat)) {pos : Pos} {it : DA} {g : DG} {us : List Nat} {tk tv : DE} (hc : X.calm = true) (hN : X.N.Nodup) (hi : PDI X tg iter it) (ok : BlkOk X.N X.env.scope scope own)
    (hg : ∀ (s : Shared) (H : Hp) (C : Addr) (cl : List (Str × Addr)) (fp : List Addr), PDG (X.blk s H scope (compEnvC scope cl C X.env) fp) tg g us)
    (hk : ∀ (s : Shared) (H : Hp) (C : Addr) (cl : List (Str × Addr)) (fp : List Addr), PD (X.blk s H scope (compEnvC scope cl C X.env) fp) kx tk)
    (he : ∀ (s : Shared) (H : Hp) (C : Addr) (cl : List (Str × Addr)) (fp : List Addr), PD (X.blk s H scope (compEnvC scope cl C X.env) fp) vx tv) (hu : ∀ i ∈ us, i ∈ own.map (·.2) := by decide) (hs : ∀ x, foldedSetIterable iter X.env x = pure x := by intro _; rfl) :
    PD X (.DictComp kx vx [⟨tg, iter, [], 0⟩] scope pos) (dDc it g tk tv (own.map (·.2))) := by
  obtain ⟨wi, p, s⟩ := hi.ex
  have ht : ∀ (s : Shared) (H : Hp) (C : Addr) (cl : List (Str × Addr)) (fp : List Addr), PDTs (X.blk s H scope (compEnvC scope cl C X.env) fp) [] dYes := fun a b c d e => pdts_nil
  exact ⟨_, pe_frzK (pe_dc hc hN p ok (fun a b c d e => (hg a b c d e).up) (fun a b c d e => (ht a b c d e).up) (fun a b c d e => (hk a b c d e).up) (fun a b c d e => (he a b c d e).up) hs), sim_dc hu s (sim_upG g us) (sim_upT dYes) (sim_upE tk) (sim_upE tv)⟩
def dicGet (ks : List Key) (ds : List D) (k : Key) : Option D := ((ks.zip ds).find? fun kv => decide (kv.1 = k)).map (·.2)
@[simp] def dGet2 (td ty tx : DE) : DE := fun ρ M P => td ρ M fun d M1 => ∃ ks ds, d = .dic ks ds ∧ ty ρ M1 fun y M2 => tx ρ M2 fun z M3 => ∃ k, y = keyD k ∧ P ((dicGet ks ds k).getD z) M3
theorem rp_get {K : PySem.W.Frag} {as : List Addr} {L : Hp} (k : Key) : ∀ {ks : List Key} {vs : List V} {ds : List D}, RpA K as L vs ds → (valV (ks.zip vs) k = none ∧ dicGet ks ds k = none) ∨ ∃ v d, valV (ks.zip vs) k = some v ∧ dicGet ks ds k = some d ∧ Rp K as L v d
  | [], vs, ds, _ => .inl ⟨rfl, rfl⟩
  | k0 :: ks, _, _, .nil => .inl ⟨rfl, rfl⟩
  | k0 :: ks, _, _, .cons (v := v) (d := d) r t => by
    by_cases e : k0 = k
    · refine .inr ⟨v, d, ?_, ?_, r⟩
      · unfold valV; rw [List.zip_cons_cons, List.find?_cons_of_pos (by simpa using e)]; rfl
      · unfold dicGet; rw [List.zip_cons_cons, List.find?_cons_of_pos (by simpa using e)]; rfl
    · rcases rp_get k (ks := ks) t with ⟨h1, h2⟩ | ⟨v', d', h1, h2, h3⟩
      · refine .inl ⟨?_, ?_⟩
        · unfold valV at h1 ⊢; rw [List.zip_cons_cons, List.find?_cons_of_neg (by simpa using e)]; exact h1
        · unfold dicGet at h2 ⊢; rw [List.zip_cons_cons, List.find?_cons_of_neg (by simpa using e)]; exact h2
      · refine .inr ⟨v', d', ?_, ?_, h3⟩
        · unfold valV at h1 ⊢; rw [List.zip_cons_cons, List.find?_cons_of_neg (by simpa using e)]; exact h1
        · unfold dicGet at h2 ⊢; rw [List.zip_cons_cons, List.find?_cons_of_neg (by simpa using e)]; exact h2
theorem pd_dget2 {o e f : Expr} {apos cpos : Pos} {td ty tx : DE} (hu : X.A.units + 64 < cLine) (ho : PD X o td) (he : PD X e ty) (hf : PD X f tx) (h1 : attributeBase o "get" X.env (eval o X.env) = eval o X.env := by rfl)
    (h2 : (((backTo cpos (starEach [e, f] X.env)).all fun x => !x.1) && ((backToKw cpos (keywordEach [] X.env)).all fun x => x.1.isSome) && decide ([e, f].length + ([] : List Keyword).length + (if ([] : List Keyword).isEmpty = true then 0 else 1) < 30)) = true := by rfl)
    (h3 : (apos.endLine == cpos.line) = true := by rfl) (h4 : backTo cpos (starEach [e, f] X.env) = [(false, eval e X.env), (false, eval f X.env)] := by rfl) :
    PD X (.Call (.Attribute o "get" apos) [e, f] [] cpos) (dGet2 td ty tx) := by
  obtain ⟨u1, p1, s1⟩ := ho.ex
  obtain ⟨u2, p2, s2⟩ := he.ex
  obtain ⟨u3, p3, s3⟩ := hf.ex
  refine ⟨_, pe_dget2 (by omega) p1 p2 p3 ⟨h1, h2, h3, h4⟩, ?_⟩
  intro as σ ρ L H M P Q hE A hh q
  refine s1 as σ ρ L H M _ _ hE A hh fun v d L1 H1 M1 st1 A1 h1 r1 => ?_
  obtain ⟨ks, ds, rfl, h1⟩ := h1
  cases r1 with
  | dic hd hl ra =>
    obtain ⟨ob, hd⟩ := hd
    refine ⟨_, rfl, ?_, ?_⟩
    · exact .inl ⟨_, .inr ⟨ob, A1.low _ _ hd⟩⟩
    refine s2 as σ ρ L1 H1 M1 _ _ (hE.mono st1.k st1.pre) A1 h1 fun y dy L2 H2 M2 st2 A2 h2 r2 => ?_
    have st12 := st1.trans A1 st2
    refine s3 as σ ρ L2 H2 M2 _ _ (hE.mono st12.k st12.pre) A2 h2 fun z dz L3 H3 M3 st3 A3 h3 r3 => ?_
    obtain ⟨k, rfl, p⟩ := h3
    have ek := keyD_rp r2
    have ra3 := ra.mono (st2.k.trans st3.k) (st2.pre.trans st3.pre)
    have hd3 : H3 _ = some (.frz ob (.dK (ks.zip _))) := A3.low _ _ (st3.k _ _ (st2.k _ _ hd))
    have st13 := st12.trans A2 st3
    rcases rp_get k (ks := ks) ra3 with ⟨e1, e2⟩ | ⟨v', d', e1, e2, r⟩
    · rw [e2] at p
      exact ⟨none, .inl ⟨_, k, .inr ⟨ob, hd3⟩, ek, e1.symm⟩, q z dz L3 H3 M3 st13 A3 p r3⟩
    · rw [e2] at p
      exact ⟨some v', .inl ⟨_, k, .inr ⟨ob, hd3⟩, ek, e1.symm⟩, q v' d' L3 H3 M3 st13 A3 p r⟩
end
end Pd
set_option Elab.async false
set_option linter.all false
set_option maxRecDepth 100000
set_option maxHeartbeats 3200000
namespace Pd
open PySem PySem.Spec PyProof.Rows L2 PySem.HandSPX
section
variable {X : Cx} {k n : Nat} {C g : Addr} {fd : FuncData} {ps : List Str} {e o : Expr} {es : List Expr} {t : DE} {tl : DA} {pos apos p pos2 : Pos} {m : Str} {pl : Sem Bool}
@[simp] def dMethD (C : Addr) (m : Str) (n : Nat) (W : DC) (t : DE) (tl : DA) : DE := fun ρ M P => t ρ M fun x M1 => ∃ fs, x = .ins C fs ∧ fs.lookup m = none ∧ tl ρ M1 fun ds M2 => ds.length + 1 = n ∧ W (x :: ds) M2 P
theorem pd_methD {W : DC} (he : PD X o t) (c : Cls X.K C) (hm : Meth X.K C m g) (F : FnOk X.prog X.w X.K X.mg X.base CX0 k g fd ps (spD n W X.K)) (hr : Room k X.A) (hb : Binds X.K fd ps []) (ha : PDA X (e :: es) tl)
    (hst : starEach (e :: es) X.env = (false, eval e X.env) :: starEach es X.env := by rfl) (hpl : (backTo pos (starEach es X.env)).any (·.1) = false := by rfl)
    (ht : eval (.Call (.Attribute o m apos) (e :: es) [] pos) X.env = (do
      let ov ← eval o X.env
      standAt apos.atName
      let (f, first) ← holding [ov] (getMethod ov m pl)
      callWith pos f first (backTo pos (starEach (e :: es) X.env)) (backToKw pos (keywordEach [] X.env))) := by rfl) :
    PD X (.Call (.Attribute o m apos) (e :: es) [] pos) (dMethD C m n W t tl) := by
  obtain ⟨u, p, s⟩ := he.ex
  obtain ⟨ua, pa, sa⟩ := ha.ex
  refine ⟨_, pe_meth p c hm F hr hb .nil (pass0 (X := X)) pa hst hpl ht, ?_⟩
  intro as σ ρ L H M P Q hE A h q
  refine s as σ ρ L H M _ _ hE A h fun v d L1 H1 M1 s1 A1 h1 r1 => ?_
  obtain ⟨fs, rfl, hl, h1⟩ := h1
  have r0 := r1
  cases r1 with
  | ins g1 rf =>
    refine ⟨_, _, _, rfl, A1.low _ _ g1, rf.lookN hl, sa as σ ρ L1 H1 M1 _ _ (hE.mono s1.k s1.pre) A1 h1 fun vs ds L2 H2 M2 s2 A2 h2 r2 => ?_⟩
    rw [List.append_nil]
    have s12 := s1.trans A1 s2
    exact sp_of A2 (.cons (r0.mono s2.k s2.pre) r2) (by rw [List.length_cons]; exact h2.1) h2.2 fun v z L3 H3 M3 s3 A3 h3 r3 => q v z L3 H3 M3 (s12.trans A2 s3) A3 h3 r3
@[simp] def dListGM (C : Addr) (m : Str) (W : DCG) (t : DE) : DE := fun ρ M P => t ρ M fun x M1 => ∃ fs, x = .ins C fs ∧ fs.lookup m = none ∧ W [x] M1 (fun out M2 => P (.lst out) M2) xNo
end
section
variable {X : Cx} {K : PySem.W.Frag}
def rNinI (K : PySem.W.Frag) : R2 := fun x y H Q => ∃ d ds, Dp K H x d ∧ Dp K H y (.list ds) ∧ SeqAt.shaped (.list ds) = true ∧ SeqAt.shaped d = true ∧ d.depth ≤ 60 ∧ Q (.bl (!ds.any fun z => PyData.eqv z d)) H
theorem op_ninI (hu : X.A.units + 64 < cLine) : OpR X (compareOp .NotIn) (rNinI X.K) := by
  intro pins s σ H x y v u Q I r1 r2 h
  obtain ⟨d, ds, h1, h2, h4, h3, hd, q⟩ := h
  obtain ⟨bs, rx⟩ := Dp.reads I d x v h1 r1
  obtain ⟨as, ry⟩ := Dp.reads I _ y u h2 r2
  have hc := SeqAt.canLay_of_shaped h4
  exact SeqAt.notIn_list_reads ry rx (by simpa [PyData.canLay0] using hc) (SeqAt.canLay_of_shaped h3) (by omega) ⟨.bl _, H, I, rfl, q⟩
@[simp] def oNinI : D2 := fun x y M P => ∃ ds, y = .lst ds ∧ okD x = true ∧ okD y = true ∧ (toP x).depth ≤ 60 ∧ P (.bl (!ds.any fun z => eqD z x)) M
theorem sr_ninI : SimR K (rNinI K) oNinI := by
  intro as L H M x y d e P Q A r1 r2 ⟨ds, h1, h2, h3, h4, p⟩ q
  subst h1
  have e1 := Bool.and_eq_true_iff.mp h2
  have e2 := Bool.and_eq_true_iff.mp h3
  have d1 := r1.dp A.low e1.1
  have d2 := r2.dp A.low e2.1
  refine ⟨toP d, toPA ds, d1, d2, e2.2, e1.2, h4, ?_⟩
  have : (toPA ds).any (fun z => PyData.eqv z (toP d)) = ds.any fun z => eqD z d := by rw [toPA_map, List.any_map]; rfl
  rw [this]
  exact q _ _ L H M .refl A p (.bl _)
end
section
variable {X : Cx}
def rAnyLI (K : PySem.W.Frag) : List V → Hp → VK → Prop := fun vs H Q => ∃ (a : Addr) (ns : List Int), vs = [V.ref a] ∧ SqL K H a (ns.map V.int) ∧ Q (.bl (ns.any fun n => n != 0)) H
theorem cr_anyLI (hc : X.calm = true) : CallR X (.builtin "any") (rAnyLI X.K) := by
  intro pins s σ H vs us Q I r h
  obtain ⟨a, ns, rfl, hs, q⟩ := h
  obtain ⟨its, rv, pl, _⟩ := I.list hs
  have hl : s.heap.IsList a its.toArray := pl.isList
  rw [Vals.ref1 r]
  have hlt : a < s.heap.objs.size := by obtain ⟨o, e, _⟩ := hl; exact Heap.lt_size e
  have hlen := rv.length
  rw [List.length_map] at hlen
  refine call_any_walk (wpAny_pyIter_list hl ?_)
  refine ⟨_, _, _, _, _, _, fun i => (ns.getD i 0) != 0, rfl, Walks.list (A := X.A.in1) (I.ok.hd hc) _ a (Nat.ne_of_lt hlt) its.toArray, ⟨⟨_, Heap.get?_push_size _ rfl, rfl, rfl⟩, hl.push _⟩, fun i v s' Q' E' hv hq => ?_, fun h' tk hk => ?_⟩
  · have hv' : its[i]? = some v := by simpa using hv
    obtain ⟨n, hn⟩ : ∃ n, ns[i]? = some n := by
      have h1 : i < its.length := (List.getElem?_eq_some_iff.mp hv').1
      exact ⟨ns[i]'(by omega), List.getElem?_eq_getElem (by omega)⟩
    obtain ⟨u, hu, ru⟩ := rv.get (i := i) (x := .int n) (by rw [List.getElem?_map, hn]; rfl)
    rw [hv'] at hu
    cases hu
    obtain ⟨t, rfl⟩ := ru
    have hg : ns.getD i 0 = n := by rw [List.getD_eq_getElem?_getD, hn]; rfl
    simp only [hg] at hq
    exact PyProof.Rows.truthy_int hq
  · refine ⟨.bl _, H, I.kept fun b o eo => hk b o (fun hmem => ?_) (Heap.get?_push_of_some _ eo), ?_, q⟩
    · rcases List.mem_cons.mp hmem with e1 | hmem
      · exact absurd (e1 ▸ Heap.lt_size eo) (Nat.lt_irrefl _)
      · cases hmem
    · show Value.bool _ = Value.bool _
      rw [← any_rangeI, List.size_toArray, ← hlen]
@[simp] def oAnyLI : DC := fun xs M P => ∃ ns : List Int, xs = [.lst (dI ns)] ∧ P (.bl (ns.any fun n => n != 0)) M
theorem sc_anyLI {K : PySem.W.Frag} : SimC K (rAnyLI K) oAnyLI := by
  intro as L H M xs ds P Q A r ⟨ns, h, p⟩ q
  subst h
  cases r with
  | cons r1 r2 =>
    cases r2
    cases r1 with
    | lst hs ra =>
      have ev := RpA.ints ra
      subst ev
      exact ⟨_, ns, rfl, ex_l A.low hs, q _ _ L H M .refl A p (.bl _)⟩
end
end Pd
set_option Elab.async false
set_option linter.all false
set_option maxRecDepth 100000
set_option maxHeartbeats 4000000
namespace Pd
open PySem PySem.Spec PyProof.Rows L2
/-- a list without doubles whose items stand in another one is not longer -/
theorem nd_le {α : Type} [DecidableEq α] : ∀ (l U : List α), l.Nodup → (∀ x ∈ l, x ∈ U) → l.length ≤ U.length
  | [], _, _, _ => Nat.zero_le _
  | x :: l, U, h, hs => by
    have h1 := List.nodup_cons.mp h
    have hx := hs x List.mem_cons_self
    have := nd_le l (U.erase x) h1.2 fun y hy => by
      have hne : y ≠ x := fun e => by rw [e] at hy; exact h1.1 hy
      exact (List.mem_erase_of_ne hne).mpr (hs y (List.mem_cons_of_mem _ hy))
    have hp := List.length_pos_of_mem hx
    rw [List.length_erase_of_mem hx] at this
    rw [List.length_cons]
    omega
def FewOf (U : List (List Int)) (ks : List (Addr × List Int)) : Prop := U.length + 1 < 64 ∧ ∀ q ∈ ks, q.2 ∈ U
theorem FewOf.room {U : List (List Int)} {ks L : List (Addr × List Int)} {i : Nat} (f : FewOf U ks) (g : Got ks i L) (nd : (L.map (·.2)).Nodup) : L.length + 1 < 64 := by
  have h := nd_le _ U nd fun x hx => by
    obtain ⟨q, hq, rfl⟩ := List.mem_map.mp hx
    exact f.2 q (List.mem_of_mem_take (g.sub q hq))
  rw [List.length_map] at h
  have := f.1
  omega
section
variable {P : Program} {w : World} {A : Around} {E : Value → Shared → Prop}
/-- the set at z, when i items are in it -/
def Half (P : Program) (w : World) (z : Addr) (ks : List (Addr × List Int)) (g0 : Heap) (i : Nat) (h : Heap) : Prop :=
  (∀ b o, g0.get? b = some o → h.get? b = some o) ∧ ∃ L es ep t, SetTR P w h z L es ep t ∧ Got ks i L
theorem Half.same {z : Addr} {ks : List (Addr × List Int)} {g0 h h' : Heap} {i : Nat} (H : Half P w z ks g0 i h) (tup : ∀ q ∈ ks, IsT P w g0 q.2 q.1) (hz : ∀ o, h.get? z = some o → h'.get? z = some o) (k : ∀ b o, g0.get? b = some o → h'.get? b = some o) : Half P w z ks g0 i h' := by
  obtain ⟨_, L, es, ep, t, R, g⟩ := H
  exact ⟨k, L, es, ep, t, R.keep hz fun q hq => isT_keep (tup q (List.mem_of_mem_take (g.sub q hq))) k, g⟩
/-- one more -/
theorem Half.add {z : Addr} {ks : List (Addr × List Int)} {U : List (List Int)} {g0 : Heap} {i : Nat} {s : Shared} {q : Addr × List Int} (H : Half P w z ks g0 i s.heap) (few : FewOf U ks) (tup : ∀ q ∈ ks, IsT P w g0 q.2 q.1) (z0 : g0.get? z = none) (hq : ks[i]? = some q) (hu : A.units < cLine) {Q : Bool → Shared → Prop}
    (next : ∀ b h' tk, Heap.SameBut z s.heap h' → s.toks ≤ tk → Half P w z ks g0 (i + 1) h' → Q b { s with heap := h', toks := tk }) : wpAny (model P w) A (setAdd z (.ref q.1)) Q E s := by
  obtain ⟨k, L, es, ep, t, R, g⟩ := H
  have hx : IsT P w s.heap q.2 q.1 := isT_keep (tup q (List.mem_of_getElem? hq)) k
  unfold setAdd
  refine wpAny_holding (wpAny_bind (wpAny_pyHash_tuple hu hx ?_))
  refine add_at (s := { s with toks := s.toks + (q.2.length + 1) }) R hx hu (few.room g R.nd) fun b h' L' es' ep' t' sb R' old new => ?_
  refine next b h' _ sb (Nat.le_add_right _ _) ⟨fun c o e => (sb.2 c fun y => by rw [y, z0] at e; cases e).trans (k c o e), L', es', ep', t', R', ?_⟩
  by_cases c : q.2 ∈ L.map (·.2)
  · rw [old c]; exact g.same hq c
  · exact g.more hq (new c)
end
end Pd
namespace Pd
open PySem PySem.Spec PyProof.Rows L2
end Pd
set_option Elab.async false
set_option linter.all false
set_option maxRecDepth 100000
set_option maxHeartbeats 4000000
namespace Pd
open PySem PySem.Spec PyProof.Rows L2
section
variable {X : Cx} {e : Expr} {t : DE} {pos pos2 p p2 : Pos}
/-- tuples of ints, with their addresses -/
theorem RpA.tups {K : PySem.W.Frag} {as : List Addr} {L : Hp} : ∀ {vs : List V} {rows : List (List Int)}, RpA K as L vs (rows.map tI) → ∃ ks : List (Addr × List Int), vs = ks.map (fun q => V.ref q.1) ∧ ks.map (·.2) = rows ∧ ∀ q ∈ ks, SqT K L q.1 (q.2.map V.int)
  | _, [], .nil => ⟨[], rfl, rfl, fun _ h => nomatch h⟩
  | _, row :: rows, .cons (.tup (a := a) hs r) ra => by
    obtain ⟨ks, rfl, h2, h3⟩ := RpA.tups ra
    have e := RpA.ints r
    subst e
    exact ⟨(a, row) :: ks, rfl, by rw [List.map_cons, h2], fun q hq => by
      rcases List.mem_cons.mp hq with rfl | hq
      · exact hs
      · exact h3 q hq⟩
theorem rp_tups {K : PySem.W.Frag} {as : List Addr} {L : Hp} : ∀ {ks : List (Addr × List Int)}, (∀ q ∈ ks, SqT K L q.1 (q.2.map V.int)) → RpA K as L (ks.map fun q => V.ref q.1) ((ks.map (·.2)).map tI)
  | [], _ => .nil
  | q :: ks, h => .cons (.tup (h q List.mem_cons_self) (rp_ints _)) (rp_tups fun x hx => h x (List.mem_cons_of_mem _ hx))
/-- sorted(set(e)), e a list of tuples of n ints from 0 to B - 1 -/
@[simp] def dSortSetT (t : DE) : DE := fun ρ M P => t ρ M fun d M1 => ∃ (rows U : List (List Int)) (n : Nat) (B : Int), d = .lst (rows.map tI) ∧ 1 ≤ n ∧ (∀ r ∈ rows, r.length = n ∧ TS.Bd B r ∧ r ∈ U) ∧ U.length + 1 < 64 ∧ ∀ ms : List (List Int), ms.Pairwise (· < ·) → (∀ k, k ∈ ms ↔ k ∈ rows) → P (.lst (ms.map tI)) M1
end
end Pd
set_option Elab.async false
set_option linter.all false
set_option maxRecDepth 100000
set_option maxHeartbeats 4000000
namespace Pd
open PySem PySem.Spec PyProof.Rows L2
section
variable {X : Cx} {e o : Expr} {t td te : DE}
@[simp] def dLIdxB (td te : DE) : DE := fun ρ M P => td ρ M fun d M1 => ∃ bs : List Bool, d = .lst (bs.map D.bl) ∧ te ρ M1 fun y M2 => y = .bl true ∧ true ∈ bs ∧ P (.int (bs.idxOf true)) M2
end
theorem toPA_dI : ∀ ns : List Int, toPA (dI ns) = ns.map PyData.int
  | [] => rfl
  | n :: ns => by show PyData.int n :: toPA (dI ns) = _; rw [toPA_dI ns]; rfl
theorem toP_fg (d : D) : toP (fgD d) = toP d := by
  cases d with
  | tfz ns => show PyData.tuple (toPA (dI ns)) = _; rw [toPA_dI]; rfl
  | _ => rfl
theorem any_row (z : List Int) : ∀ rows : List (List Int), ((rows.map tI).any fun r => eqD r (tI z)) = rows.contains z
  | [] => rfl
  | r :: rows => by
    have ih := any_row z rows
    rw [List.map_cons, List.any_cons, ih, List.contains_cons, show eqD (tI r) (tI z) = decide (r = z) from eqD_tup r z]
    congr 1
    rw [Bool.eq_iff_iff]
    simp
    exact ⟨fun h => h.symm, fun h => h.symm⟩
end Pd
set_option Elab.async false
set_option linter.all false
set_option maxRecDepth 100000
set_option maxHeartbeats 3200000
namespace Pd
open PySem PySem.Spec PyProof.Rows L2
/-- x is an instance, known or being made -/
def InsOf (M : Ms) (x : D) (C : Addr) (fs : List (Str × D)) : Prop := x = .ins C fs ∨ ∃ j, x = .mu j ∧ M[j]? = some (.ins C fs)
theorem ins_of {K : PySem.W.Frag} {as : List Addr} {M : Ms} {L H : Hp} {v : V} {d : D} {C : Addr} {gs : List (Str × D)} (A : At K as M L H) (r : Rp K as L v d) (h : InsOf M d C gs) :
    ∃ a dx fs, v = .ref a ∧ H a = some (.ins C dx fs) ∧ RpF K as L fs gs := by
  rcases h with rfl | ⟨j, rfl, hj⟩
  · cases r with
    | ins hs rf => exact ⟨_, _, _, rfl, A.low _ _ hs, rf⟩
  · cases r with
    | mu ha =>
      obtain ⟨dx, fv, g1, g2⟩ := A.ins ha hj
      exact ⟨_, _, _, rfl, g1, g2⟩
@[simp] def dFldA (K : PySem.W.Frag) (t : DE) (f : Str) : DE := fun ρ M P => t ρ M fun x M1 => ∃ C fs v, InsOf M1 x C fs ∧ Cls K C ∧ NoAttr K C f ∧ fs.lookup f = some v ∧ P v M1
theorem pd_fldA {X : Cx} {K : PySem.W.Frag} {e : Expr} {t : DE} {pos : Pos} {f : Str} (hK : X.K = K) (he : PD X e t) (hb : attributeBase e f X.env (eval e X.env) = eval e X.env := by rfl) : PD X (.Attribute e f pos) (dFldA K t f) := by
  subst hK
  obtain ⟨u, p, s⟩ := he.ex
  refine ⟨_, pe_fld p hb, ?_⟩
  intro as σ ρ L H M P Q hE A h q
  refine s as σ ρ L H M _ _ hE A h fun v d L1 H1 M1 s1 A1 h1 r1 => ?_
  obtain ⟨C, fs, w, hi, c, n, hl, p⟩ := h1
  obtain ⟨a, dx, fv, rfl, g1, g2⟩ := ins_of A1 r1 hi
  obtain ⟨z, h2, h3⟩ := g2.look hl
  exact ⟨_, C, _, _, z, rfl, g1, c, n, h2, q _ _ L1 H1 M1 s1 A1 p h3⟩
section
variable {X : Cx} {k n : Nat} {C g : Addr} {fd : FuncData} {ps : List Str} {e o : Expr} {es : List Expr} {t : DE} {tl : DA} {pos apos p pos2 : Pos} {m : Str} {pl : Sem Bool}
/-- o.m(), its one default None -/
@[simp] def dMethA0 (C : Addr) (m : Str) (W : DC) (t : DE) : DE := fun ρ M P => t ρ M fun x M1 => ∃ fs, InsOf M1 x C fs ∧ fs.lookup m = none ∧ W [x, .non] M1 P
theorem pd_methA0 {W : DC} {dv : List Value} (he : PD X o t) (c : Cls X.K C) (hm : Meth X.K C m g) (F : FnOk X.prog X.w X.K X.mg X.base CX0 k g fd ps (spD 2 W X.K)) (hr : Room k X.A) (hb : Binds X.K fd ps dv) (hd : Vals [V.non] dv)
    (ht : eval (.Call (.Attribute o m apos) [] [] pos) X.env = (do
      let ov ← eval o X.env
      standAt apos.atName
      let (f, first) ← holding [ov] (getMethod ov m pl)
      callWith pos f first (backTo pos (starEach [] X.env)) (backToKw pos (keywordEach [] X.env))) := by rfl) :
    PD X (.Call (.Attribute o m apos) [] [] pos) (dMethA0 C m W t) := by
  obtain ⟨u, p, s⟩ := he.ex
  refine ⟨_, pe_meth0 (E := E0) p c hm F hr hb hd (pass0 (X := X)) ht, ?_⟩
  intro as σ ρ L H M P Q hE A h q
  refine s as σ ρ L H M _ _ hE A h fun v d L1 H1 M1 s1 A1 h1 r1 => ?_
  obtain ⟨fs, hi, hl, h1⟩ := h1
  have r0 := r1
  obtain ⟨a, dx, fv, rfl, g1, g2⟩ := ins_of A1 r1 hi
  refine ⟨_, _, _, rfl, g1, g2.lookN hl, ?_⟩
  exact sp_of (E := E0) A1 (.cons r0 (.cons .non .nil)) rfl h1 fun v z L3 H3 M3 s3 A3 h3 r3 => q v z L3 H3 M3 (s1.trans A1 s3) A3 h3 r3
/-- o.m(e, ..) -/
@[simp] def dMethA (C : Addr) (m : Str) (n : Nat) (W : DC) (t : DE) (tl : DA) : DE := fun ρ M P => t ρ M fun x M1 => ∃ fs, InsOf M1 x C fs ∧ fs.lookup m = none ∧ tl ρ M1 fun ds M2 => ds.length + 1 = n ∧ W (x :: ds) M2 P
end
def kI (ns : List Int) : List Key := ns.map Sum.inl
theorem kI_V (ns : List Int) : (kI ns).map kV = ns.map V.int := by
  unfold kI
  rw [List.map_map]
  rfl
theorem get_tuple {X : Cx} {pins : List (Addr × Obj)} {σ : L2.St} {H : Hp} {s : Shared} {a b : Addr} {A : Around} {E : Value → Shared → Prop} {kvs : List (List Key × V)} {ns : List Int} {v : V} {Q : Value → Shared → Prop} (hu : A.units + 1 < cLine) (I : Inv X pins σ H s) (e : Rd H a (.dT kvs)) (eb : SqT X.K H b (ns.map V.int))
    (l : valV kvs (kI ns) = some v) (h : ∀ w' s', Inv X pins σ H s' → RelV v w' → Q w' s') : wpAny (model X.prog X.w) A (getItem (.ref a) (.ref b)) Q E s := by
  obtain ⟨_, _, xs, rel, dd⟩ := dt_rd I.hok e
  obtain ⟨its, rv, ⟨ob, ho, hc, m, hd⟩, _⟩ := I.tuple eb
  have hk : (tupleKind (mixKind X.prog X.w)).is s.heap (kI ns) b := ⟨ob, its.toArray, m, ho, hc, hd, by rw [← kI_V] at rv; simpa using items_are rv⟩
  obtain ⟨w', hw, rw'⟩ := RelO.some_of (v := v) (o := (atKey xs (kI ns)).map (·.2)) (by rw [← l]; exact rel.val _)
  obtain ⟨p, hp, rfl⟩ := Option.map_eq_some_iff.mp hw
  exact wpAny_getItem_heap (tupleKind_room_in1 hu) hk dd hp (h _ _ (I.tok _) rw')
def tGetT (K : PySem.W.Frag) (td ty : TE) : TE := fun σ H Q => td σ H fun x H1 => ty σ H1 fun y H2 => ∃ a b kvs ns v, x = .ref a ∧ y = .ref b ∧ Rd H2 a (.dT kvs) ∧ SqT K H2 b (ns.map V.int) ∧ valV kvs (kI ns) = some v ∧ Q v H2
theorem pe_getT {X : Cx} {o i : Expr} {pos : Pos} {td ty : TE} (hu : X.A.units + 1 < cLine) (ho : PE X o td) (hi : PE X i ty) (hs : NoSl i) : PE X (.Subscript o i pos) (tGetT X.K td ty) := by
  refine ⟨fun pins s σ H Q I h => ?_⟩
  refine subD_of PySem.F.slot_dict_getitem.lookup hs (thn (ho.run pins s σ H _ I h) fun u s1 z1 => ?_)
  obtain ⟨x, H1, I1, rx, q1⟩ := z1
  refine thn (hi.run pins s1 σ H1 _ I1 q1) fun iv s2 z2 => ?_
  obtain ⟨y, H2, I2, ry, a, b, kvs, ns, v, rfl, rfl, e, eb, l, q2⟩ := z2
  obtain rfl : u = Value.ref a := rx
  obtain rfl : iv = Value.ref b := ry
  obtain ⟨_, _, xs, _, dd⟩ := dt_rd I2.hok e
  exact ⟨dd.typeIs, get_tuple hu I2 e eb l fun w' s3 I3 rw' => ⟨v, H2, I3, rw', q2⟩⟩
/-- what the dict holds at a tuple of ints -/
def ditGet (ks : List (List Key)) (ds : List D) (ns : List Int) : Option D := ((ks.zip ds).find? fun kv => decide (kv.1 = kI ns)).map (·.2)
theorem rp_getT {K : PySem.W.Frag} {as : List Addr} {L : Hp} {ns : List Int} {d : D} : ∀ {ks : List (List Key)} {vs : List V} {ds : List D}, RpA K as L vs ds → ditGet ks ds ns = some d → ∃ v, valV (ks.zip vs) (kI ns) = some v ∧ Rp K as L v d
  | [], _, _, _, h => nomatch h
  | _ :: _, _, _, .nil, h => nomatch h
  | k :: ks, _, _, .cons (v := v) (d := d0) r t, h => by
    unfold ditGet at h
    unfold valV
    rw [List.zip_cons_cons] at h ⊢
    by_cases e : k = kI ns
    · rw [List.find?_cons_of_pos (by simpa using e)] at h ⊢
      cases h
      exact ⟨v, rfl, r⟩
    · rw [List.find?_cons_of_neg (by simpa using e)] at h ⊢
      exact rp_getT (ks := ks) t h
@[simp] def dGetT (td ty : DE) : DE := fun ρ M P => td ρ M fun x M1 => ∃ ks ds, x = .dit ks ds ∧ ty ρ M1 fun y M2 => ∃ ns d, fgD y = .tup (dI ns) ∧ ditGet ks ds ns = some d ∧ P d M2
theorem SqT_of {K : PySem.W.Frag} {as : List Addr} {L : Hp} {v : V} {d : D} {ns : List Int} (r : Rp K as L v d) (h : fgD d = .tup (dI ns)) : ∃ b, v = .ref b ∧ SqT K L b (ns.map V.int) := by
  cases d with
  | tup ds =>
    obtain rfl : ds = dI ns := by injection h
    cases r with
    | tup hs ra => rw [← RpA.ints ra]; exact ⟨_, rfl, hs⟩
  | tfz ms =>
    have : ms = ns := by
      have h1 : D.tup (dI ms) = .tup (dI ns) := h
      injection h1 with h2
      have h3 := congrArg (List.map fun x => match x with | D.int i => i | _ => 0) h2
      unfold dI at h3
      rw [List.map_map, List.map_map] at h3
      simpa [Function.comp_def] using h3
    subst this
    cases r with
    | tfz hx => obtain ⟨ob, hx, _, _⟩ := hx; exact ⟨_, rfl, .inl (.inr ⟨ob, hx⟩)⟩
  | _ => cases h
theorem pd_getT {X : Cx} {o i : Expr} {pos : Pos} {td ty : DE} (hu : X.A.units + 1 < cLine) (ho : PD X o td) (hi : PD X i ty) (hs : NoSl i := by intro _ _; rfl) : PD X (.Subscript o i pos) (dGetT td ty) := by
  obtain ⟨u1, p1, s1⟩ := ho.ex
  obtain ⟨u2, p2, s2⟩ := hi.ex
  refine ⟨_, pe_getT hu p1 p2 hs, ?_⟩
  intro as σ ρ L H M P Q hE A h q
  refine s1 as σ ρ L H M _ _ hE A h fun v d L1 H1 M1 st1 A1 h1 r1 => ?_
  obtain ⟨ks, ds, rfl, h1⟩ := h1
  cases r1 with
  | dit hd hl ra =>
    refine s2 as σ ρ L1 H1 M1 _ _ (hE.mono st1.k st1.pre) A1 h1 fun y dy L2 H2 M2 st2 A2 h2 r2 => ?_
    obtain ⟨ns, d, hy, hg, p⟩ := h2
    obtain ⟨b, rfl, hb⟩ := SqT_of r2 hy
    obtain ⟨w, hw, rw'⟩ := rp_getT (ra.mono st2.k st2.pre) hg
    exact ⟨_, b, _, ns, w, rfl, rfl, .inr (let ⟨o, q⟩ := hd; ⟨o, A2.low _ _ (st2.k _ _ q)⟩), ex_t A2.low hb, hw, q w d L2 H2 M2 (st1.trans A1 st2) A2 p rw'⟩
end Pd
set_option Elab.async false
set_option linter.all false
set_option maxRecDepth 100000
set_option maxHeartbeats 3200000
namespace Pd
open PySem PySem.Spec PyProof.Rows L2
section
variable {X : Cx}
/-- a tuple of ints becomes a key of the dict at D -/
theorem set_tuple {pins : List (Addr × Obj)} {σ : L2.St} {H : Hp} {s : Shared} {E : Value → Shared → Prop} {D b : Addr} {kvs : List (List Key × V)} {ns : List Int} {v : V} {r : Value} {Q : Unit → Shared → Prop} (hu : X.A.units < cLine) (I : Inv X pins σ H s)
    (hD : H D = some (.dT kvs)) (hb : H b = some (.tup (ns.map V.int))) (room : kvs.length < sizeLine) (rv : RelV v r) (next : ∀ s', Inv X pins σ (upd H D (.dT (putK kvs (kI ns) v))) s' → Q () s') :
    wpAny (model X.prog X.w) X.A (dictSet D (.ref b) r) Q E s := by
  rw [← kI_V] at hb
  obtain ⟨z, nsys, xs, rel, dd⟩ := dt_of I.hok hD
  have few : xs.length ≤ sizeLine := (Paired.length rel) ▸ z
  have more : (putK kvs (kI ns) v).length ≤ sizeLine := Nat.le_trans (length_putK kvs (kI ns) v) room
  refine wpAny_dictSet_heap (hsz := few) hu (key_of I.hok hb) dd fun h2 now sb => next _ ?_
  obtain ⟨ob, es, ep, h0, c1, c2, c3, _, c5⟩ := now
  refine d_write I (by rw [hD]; trivial) sb ⟨ob, h0⟩ ⟨more, nsys, _, ?_, ob, es, ep, h0, c1, c2, c3, c5⟩
  exact (rel.put (kI ns) hb rv).keeps fun c ys ec => by rw [upd_ne (ne_of ec hD (fun z => nomatch z))]; exact ec
/-- D is the new dict -/
def tDcT (wi : TI) (g : TG) (tk tv : TE) (vs : List Nat) : TE := fun σ H Q => wi σ H fun J H1 => ∀ D, H1 D = none → ∃ W : Nat → Nat → Hp → Prop, (∃ m, W 0 m (upd H1 D (.dT []))) ∧
  ∀ i m H, W i m H → (J.stop i H ∧ Q (.ref D) H) ∨ (J.go i H ∧ ∃ Nx : Hp → Prop, (∀ H', Nx H' → ∃ m', m' < m ∧ W (i + 1) m' H') ∧
    ∀ x H', J.yld i H x H' → g x (wipe σ vs) H' fun σ2 H2 => wipe σ2 vs = wipe σ vs ∧ tk σ2 H2 fun y H4 => tv σ2 H4 fun z H5 =>
      ∃ b kvs ns, y = .ref b ∧ H5 b = some (.tup (ns.map V.int)) ∧ H5 D = some (.dT kvs) ∧ kvs.length < sizeLine ∧ Nx (upd H5 D (.dT (putK kvs (kI ns) z))))
theorem pe_dcT {kx vx tg iter : Expr} {scope : Scope} {own : List (Str × Nat)} {pos : Pos} {wi : TI} {g : TG} {tk tv : TE} (calm : X.calm = true) (hu : X.A.units < cLine) (nd : X.N.Nodup) (hi : PI X tg iter wi) (ok : BlkOk X.N X.env.scope scope own)
    (gP : ∀ s H C cl fp, PG (X.blk s H scope (compEnvC scope cl C X.env) fp) tg g)
    (kP : ∀ s H C cl fp, PE (X.blk s H scope (compEnvC scope cl C X.env) fp) kx tk)
    (vP : ∀ s H C cl fp, PE (X.blk s H scope (compEnvC scope cl C X.env) fp) vx tv) (fold : ∀ x, foldedSetIterable iter X.env x = pure x) :
    PE X (.DictComp kx vx [⟨tg, iter, [], 0⟩] scope pos) (tDcT wi g tk tv (own.map (·.2))) := by
  refine ⟨fun pins s0 σ H0 Q I0 start => ?_⟩
  rw [arm_eval_DictComp]
  have free : ∀ y ∈ scope.names, y.2 = .free → ∃ c, X.env.cells.lookup y.1 = some c := fun y hy e =>
    (ok.free y hy e).elim (fun k => I0.ok.has _ (.inl k)) fun k => I0.ok.has _ (.inr k)
  refine wpAny_comprehension_free rfl fold (closure_ok free) ok.kind (fun y hy e => by rw [ok.uniq y hy, e]) ?_
  refine thn (hi.run pins s0 σ H0 _ I0 start) fun xv s1 hx => thn hx fun itv s2 got => ?_
  obtain ⟨it, fp, tn, J, H2, rfl, I2, T, run0, f2, q⟩ := got
  refine wpAny_newObj_type (newEnv_comp ?_)
  generalize hD : s2.heap.objs.size = D
  have none2 : H2 D = none := I2.hok.fresh (Nat.le_of_eq hD)
  obtain ⟨W, ⟨m0, w0⟩, turn⟩ := q D none2
  generalize e3 : ({ s2 with heap := s2.heap.push { cls := .type "dict", data := .dict #[] } } : Shared) = s3
  have h3 : s3.heap = s2.heap.push { cls := .type "dict", data := .dict #[] } := by rw [← e3]
  have I3 : Inv X pins σ (upd H2 D (.dT [])) s3 := by
    rw [← e3]
    refine I2.laid (t' := s2.toks) (fun _ _ e => Heap.get?_push_of_some _ e) (Nat.le_of_eq hD) ?_
    rw [← hD]; exact dt_empty s2.heap I2.big
  have f3 : ∀ b ∈ fp, FpOk X pins (upd H2 D (.dT [])) b ∧ b < s3.heap.objs.size := fun b hb => by
    obtain ⟨o, e, _⟩ := T.obj _ _ run0 b hb
    have lt := Heap.lt_size e
    refine ⟨⟨?_, (f2 b hb).2⟩, by rw [h3, Heap.size_push]; exact Nat.lt_succ_of_lt lt⟩
    rw [upd_ne (by rw [← hD]; exact Nat.ne_of_lt lt)]; exact (f2 b hb).1
  have run3 : tn 0 s3.heap := T.keep _ _ _ run0 fun b _ o e => by rw [h3]; exact Heap.get?_push_of_some _ e
  have I4 := block_start I3 ok nd f3
  have pg := gP s3 (upd H2 D (.dT [])) s3.heap.objs.size (cellsFrom (s3.heap.objs.size + 1) scope.names (cloFrom X.env.cells scope.names [])) fp
  have pk := kP s3 (upd H2 D (.dT [])) s3.heap.objs.size (cellsFrom (s3.heap.objs.size + 1) scope.names (cloFrom X.env.cells scope.names [])) fp
  have pv := vP s3 (upd H2 D (.dT [])) s3.heap.objs.size (cellsFrom (s3.heap.objs.size + 1) scope.names (cloFrom X.env.cells scope.names [])) fp
  have hid : ∀ b ∈ fp, (upd H2 D (.dT [])) b = none := fun b hb => (f3 b hb).1.1
  show codeAny _ _ (.compStart (.DictComp kx vx [⟨tg, iter, [], 0⟩] scope pos) 0 (.ref it) (.ref D) (compEnvC scope (cellsFrom (s3.heap.objs.size + 1) scope.names (cloFrom X.env.cells scope.names [])) s3.heap.objs.size X.env)) _
    { s3 with heap := pushCells (s3.heap.push { cls := .type "dict", data := .dict #[] }) scope.names }
  generalize hce : compEnvC scope (cellsFrom (s3.heap.objs.size + 1) scope.names (cloFrom X.env.cells scope.names [])) s3.heap.objs.size X.env = ce at I4 pg pk pv ⊢
  have loc : ce.locals = s3.heap.objs.size := by rw [← hce]; rfl
  generalize e5 : upd H2 D (.dT []) = H3 at I3 I4 pg pk pv w0 hid f3
  generalize e4 : ({ s3 with heap := pushCells (s3.heap.push { cls := .type "dict", data := .dict #[] }) scope.names } : Shared) = s4 at I4 ⊢
  have run4 : tn 0 s4.heap := T.keep _ _ _ run3 fun b _ o e => by rw [← e4]; exact pushCells_keeps _ _ _ _ (Heap.get?_push_of_some _ e)
  have stay : ∀ {σ' : L2.St} {H' : Hp} {s' : Shared}, Inv (X.blk s3 H3 scope ce fp) [] σ' H' s' → (∀ b ∈ fp, H' b = none) → ∀ b ∈ fp, FpOk (X.blk s3 H3 scope ce fp) [] H' b := fun I' hn b hb =>
    ⟨hn b hb, (I'.ok.exf b hb).1, I'.ok.exfs b hb, .inl hb, fun x c e => (I'.ok.exf b hb).2 x c e, fun p hp => absurd (show p ∈ ([] : List (Addr × Obj)) ++ [] from hp) (by simp)⟩
  have loop : codeAny (model X.prog X.w) X.A (.compLoop (.DictComp kx vx [⟨tg, iter, [], 0⟩] scope pos) 0 (.ref it) (.ref D) ce)
      (compPost (model X.prog X.w) X.A X.xe none (EP X pins σ Q) (.ref D) s3.heap.objs.size) s4 := by
    refine compLoop_anyD (fun n s' => ∃ i H', Inv (X.blk s3 H3 scope ce fp) [] (wipe σ (own.map (·.2))) H' s' ∧ tn i s'.heap ∧ (∀ b ∈ fp, H' b = none) ∧ W i n H') ?_ m0 ⟨0, H3, I4, run4, hid, w0⟩
    rintro n s5 ⟨i, H5, I5, run5, hid5, w5⟩
    rcases turn i n H5 w5 with ⟨stop, out⟩ | ⟨go, Nx, less, step⟩
    · refine thnF (T.done (X.blk s3 H3 scope ce fp) rfl rfl rfl calm i [] s5 _ H5 (fun _ _ => False) I5 (stay I5 hid5) run5 stop) fun r s6 back => ?_
      obtain ⟨rfl, I6⟩ := back
      have gone : H5 s3.heap.objs.size = none := loc ▸ (show H5 ce.locals = none from I6.free)
      obtain ⟨m, hm, _⟩ := I6.loc
      have hm : s6.heap.Ns ce.locals m := hm
      rw [loc] at hm
      have I7 : Inv X pins σ H5 s6 := I3.call' (ch := fp) I6.os I6.base I6.hok I6.bare fun b hb => by
        obtain ⟨_, k1, k2, k3, k4, k5⟩ := (f3 b hb).1
        exact ⟨k3, k1, k4, k5⟩
      obtain ⟨k0, k1, _, k3, k4, k5⟩ := I3.fpOk (Nat.le_refl _) gone
      exact ⟨m, hm, fun h2 sb => ⟨.ref D, H5, I7.turned (t' := s6.toks) (fun b o hb e => (sb.2 b hb).trans e) k0 k1 k3 k4 k5, rfl, out⟩⟩
    · refine thnF (T.item (X.blk s3 H3 scope ce fp) rfl rfl rfl calm i [] s5 _ H5 (fun _ _ => False) I5 (stay I5 hid5) run5 go) fun r s6 there => ?_
      obtain ⟨u, rfl, let6⟩ := there
      refine thnF let6 fun _ s7 more => ?_
      obtain ⟨x, H7, I7, r7, y7, run7, hid7⟩ := more
      have I7p := I7.pinned (stay I7 hid7) (T.obj _ _ run7)
      refine thnF (pg.run _ s7 _ H7 x u _ I7p r7 (step x H7 y7)) fun _ s8 set8 => ?_
      obtain ⟨σ8, H8, I8, wiped, q8⟩ := set8
      refine thnF ((pts_nil (X := X.blk s3 H3 scope ce fp)).run _ s8 σ8 H8 (fun b H' => b = true ∧ tk σ8 H' _) I8 ⟨rfl, q8⟩) fun b s9 all9 => ?_
      obtain ⟨H9, I9, rfl, q9⟩ := all9
      refine thnF (pk.run _ s9 σ8 H9 _ I9 q9) fun z s10 key => ?_
      obtain ⟨yk, H10, I10, r10, q10⟩ := key
      refine thnF (pv.run _ s10 σ8 H10 _ I10 q10) fun z2 s11 val => ?_
      obtain ⟨yv, H11, I11, r11, kb, kvs, ns, rfl, hkb, hD11, room, nx⟩ := val
      obtain rfl : z = Value.ref kb := r10
      refine set_tuple (X := X.blk s3 H3 scope ce fp) hu I11 hD11 hkb room r11 fun s12 I12 => ?_
      obtain ⟨m2, lt, w2⟩ := less _ nx
      have pin : ∀ b ∈ fp, ∀ o, s7.heap.get? b = some o → s12.heap.get? b = some o ∧ _ := fun b hb o e =>
        let z := I12.pin (b, o) (List.mem_append_right _ (List.mem_append_right _ (mem_pinsAt hb e)))
        ⟨z.1, z.2.1⟩
      have same : (wipe σ (own.map (·.2))).length = σ8.length := by rw [← wiped, wipe_length]
      refine ⟨m2, lt, i + 1, _, (I12.unpinned (pins := [])).weak same (fun j v e => ?_), T.keep _ _ _ run7 fun b hb o e => (pin b hb o e).1, fun b hb => ?_, w2⟩
      · rw [← wiped] at e; exact (wipe_some e).1
      · obtain ⟨o, e, _⟩ := T.obj _ _ run7 b hb
        exact (pin b hb o e).2
  exact codeAny_compStart_dict loop (T.self X.A 0 _ _ _ run4 loop)
end
end Pd
set_option Elab.async false
set_option linter.all false
set_option maxRecDepth 100000
set_option maxHeartbeats 3200000
namespace Pd
open PySem PySem.Spec PyProof.Rows L2
def dcRunT (g : DG) (tl : DA) (tv : DE) (ρ : Rho) (P : D → Ms → Prop) : List D → List (List Key) → List D → Ms → Prop
  | [], ks, acc, M => P (.dit ks acc) M
  | d :: r, ks, acc, M => g d ρ fun ρ' => tl ρ' M fun kds M1 => ∃ ns : List Int, kds = dI ns ∧ ns.length ≤ sizeLine ∧ kI ns ∉ ks ∧ acc.length < sizeLine ∧ tv ρ' M1 fun y M2 => dcRunT g tl tv ρ P r (ks ++ [kI ns]) (acc ++ [y]) M2
@[simp] def dDcT (it : DA) (g : DG) (tl : DA) (tv : DE) (vs : List Nat) : DE := fun ρ M P => it ρ M fun ds M1 => dcRunT g tl tv (wipeR ρ vs) P ds [] [] M1
theorem putT_new {ks : List (List Key)} {xs : List V} {k : List Key} {v : V} (hl : ks.length = xs.length) (h : k ∉ ks) : putK (ks.zip xs) k v = (ks ++ [k]).zip (xs ++ [v]) := by
  unfold putK
  rw [if_neg, List.zip_append hl]
  · rfl
  · intro z
    obtain ⟨kv, hm, e⟩ := List.any_eq_true.mp z
    have e := of_decide_eq_true e
    exact h (e ▸ (List.of_mem_zip (a := kv.1) (b := kv.2) hm).1)
def tFrzT (te : TE) : TE := fun σ H Q => te σ H fun v H1 => ∃ d kvs, v = .ref d ∧ H1 d = some (.dT kvs) ∧ ∀ o, Q v (upd H1 d (.frz o (.dT kvs)))
theorem pe_frzT {X : Cx} {e : Expr} {te : TE} (h : PE X e te) : PE X e (tFrzT te) := by
  refine ⟨fun pins s σ H Q I hw => ?_⟩
  refine thn (h.run pins s σ H _ I hw) fun v s1 ⟨x, H1, I1, rx, d, kvs, ex, hd, q⟩ => ?_
  subst ex
  obtain ⟨od, I2⟩ := I1.lock hd trivial
  exact ⟨_, _, I2, rx, q od⟩
theorem sim_dcT {K : PySem.W.Frag} {wi : TI} {it : DA} {g' : TG} {g : DG} {us : List Nat} {uk : TA} {tl : DA} {uv : TE} {tv : DE} {vs : List Nat} (hus : ∀ i ∈ us, i ∈ vs) (s : SimI K wi it) (sg : SimG K g' g us) (sk : SimA K uk tl) (se : SimE K uv tv) :
    SimE K (tFrzT (tDcT wi g' (tTup uk) uv vs)) (dDcT it g tl tv vs) := by
  intro as σ ρ L H M P Q hE A h q
  refine s as σ ρ L H M _ _ hE A h fun J ds L1 H1 M1 s1 A1 h1 w1 => ?_
  intro D hD
  have base : ∀ {L' H' : Hp} {M' : Ms} {acc : List (List Key × V)}, At K as M' L' H' → H' D = some (.dT acc) → L' D = none → D ∉ as → ∀ acc', At K as M' L' (upd H' D (.dT acc')) := by
    intro L' H' M' acc A' hd hl hn acc'
    refine ⟨fun a o h => ?_, A'.len, A'.nd, fun k a m e1 e2 => ?_, A'.nt⟩
    · have e : a ≠ D := fun z => by rw [z, hl] at h; cases h
      rw [upd_ne e]; exact A'.low a o h
    · obtain ⟨h3, o, h4, h5⟩ := A'.mo k a m e1 e2
      have e : a ≠ D := fun z => hn (by rw [← z]; exact List.mem_of_getElem? e1)
      exact ⟨h3, o, by rw [upd_ne e]; exact h4, h5.1, h5.2.keep (KeepC.over hd rfl)⟩
  have dn : D ∉ as := fun z => (A1.held z).2 hD
  have ld : L1 D = none := lowfree A1 hD
  refine ⟨fun i m H' => m = ds.length - i ∧ i ≤ ds.length ∧ ∃ L' M' ks xs acc, Step as L1 H1 as L' H' ∧ At K as M' L' H' ∧ H' D = some (.dT (ks.zip xs)) ∧ L' D = none ∧ ks.length = xs.length ∧ RpA K as L' xs acc ∧ dcRunT g tl tv (wipeR ρ vs) P (ds.drop i) ks acc M',
    ⟨ds.length, by simp, Nat.zero_le _, L1, M1, [], [], [], ⟨fun a o _ h => ?_, Ex.refl _, fun _ h _ => h, Pre.refl _, fun _ h => .inl h⟩, ?_, upd_same, ld, rfl, .nil, h1⟩, ?_⟩
  · rw [upd_ne (ne_of_none h hD)]; exact h
  · refine ⟨fun a o h => ?_, A1.len, A1.nd, fun k a m e1 e2 => ?_, A1.nt⟩
    · rw [upd_ne (ne_of_none (A1.low a o h) hD)]; exact A1.low a o h
    · obtain ⟨h3, o, h4, h5⟩ := A1.mo k a m e1 e2
      exact ⟨h3, o, by rw [upd_ne (ne_of_none h4 hD)]; exact h4, h5.1, h5.2.keep (KeepC.new hD)⟩
  rintro i m H' ⟨rfl, hi, L', M', ks, xs, acc, s', A', hd', ld', hkl, ra, hf⟩
  obtain ⟨wg, ws⟩ := w1 L' H' M' s'.k A'
  have upD : ∀ {L2 H2 : Hp} {M2 : Ms}, Step as L1 H1 as L2 H2 → At K as M2 L2 H2 → ∀ acc', Step as L1 H1 as L2 (upd H2 D (.dT acc')) := by
    intro L2 H2 M2 s2 A2 acc'
    exact ⟨fun a o ha h => by rw [upd_ne (ne_of_none h hD)]; exact s2.up a o ha h, s2.k, s2.hid, s2.pre, s2.new⟩
  by_cases hlt : i < ds.length
  · obtain ⟨go, wy⟩ := wg i hlt
    rw [List.drop_eq_getElem_cons hlt] at hf
    refine .inr ⟨go, fun H2 => ∃ L' M' ks xs acc, Step as L1 H1 as L' H2 ∧ At K as M' L' H2 ∧ H2 D = some (.dT (ks.zip xs)) ∧ L' D = none ∧ ks.length = xs.length ∧ RpA K as L' xs acc ∧ dcRunT g tl tv (wipeR ρ vs) P (ds.drop (i + 1)) ks acc M', fun H2 q => ⟨ds.length - (i + 1), by omega, rfl, hlt, q⟩, fun x H2 y => ?_⟩
    obtain ⟨d, L2, hd, s2, A2, r2⟩ := wy x H2 y
    rw [List.getElem?_eq_getElem hlt] at hd
    cases hd
    have hE2 : En K as L2 (wipeS σ vs) (wipeR ρ vs) := ((hE.mono (s1.k.trans (s'.k.trans s2.k)) (Pre.refl _)).wipe vs)
    have hd2 : H2 D = some (.dT (ks.zip xs)) := s2.up D _ dn hd'
    have ld2 : L2 D = none := s2.hid D ld' (by rw [hd']; simp)
    refine sg as L2 H2 x _ _ _ M' _ _ hE2 A2 r2 hf fun σ3 ρ3 e3 p3 wp => ⟨?_, ?_⟩
    · have z := wp vs hus
      rw [z, wipe_wipe]
    · have s12 := s'.trans A' s2
      refine sk as σ3 ρ3 L2 H2 M' _ _ e3 A2 p3 fun kvs kds L4 H4 M4 s4 A4 h4 r4 => ?_
      obtain ⟨ns, rfl, hnz, hk, hz, h4⟩ := h4
      have ev := RpA.ints r4
      subst ev
      refine ⟨by rw [List.length_map]; exact hnz, fun b hb => ?_⟩
      have A4' := A4.know (o := .tup (ns.map V.int)) hb
      have s4' := Step.know (o := .tup (ns.map V.int)) A4 hb
      have hd4 : (upd H4 b (.tup (ns.map V.int))) D = some (.dT (ks.zip xs)) := s4'.up D _ dn (s4.up D _ dn hd2)
      have ld4 : (upd L4 b (.tup (ns.map V.int))) D = none := s4'.hid D (s4.hid D ld2 (by rw [hd2]; simp)) (by rw [s4.up D _ dn hd2]; simp)
      have s14 := (s12.trans A2 s4).trans A4 s4'
      have s44 := s4.trans A4 s4'
      refine se as σ3 ρ3 _ _ M4 _ _ (e3.mono s44.k s44.pre) A4' h4 fun v z L5 H5 M5 s5 A5 h5 r5 => ?_
      have hd5 : H5 D = some (.dT (ks.zip xs)) := s5.up D _ dn hd4
      have ld5 : L5 D = none := s5.hid D ld4 (by rw [hd4]; simp)
      have hb5 : H5 b = some (.tup (ns.map V.int)) := A5.low b _ (s5.k b _ upd_same)
      have s15 := s14.trans A4' s5
      have ra5 := ra.mono (s2.k.trans (s44.k.trans s5.k)) (Pre.refl as)
      refine ⟨b, ks.zip xs, ns, rfl, hb5, hd5, by rw [List.length_zip, hkl, Nat.min_self, ra.length]; exact hz, L5, M5, ks ++ [kI ns], xs ++ [v], acc ++ [z], upD (s'.trans A' (s2.trans A2 (s44.trans A4' s5))) A5 _, base A5 hd5 ld5 dn _, ?_, ld5, by rw [List.length_append, List.length_append, hkl]; rfl, ra5.append (.one r5), h5⟩
      rw [upd_same, putT_new hkl hk]
  · have e : i = ds.length := by omega
    subst e
    rw [List.drop_length] at hf
    refine .inl ⟨ws, ?_⟩
    have hD0 : H D = none := by
      cases e : H D with
      | none => rfl
      | some o => have := s1.up D _ dn e; rw [hD] at this; cases this
    refine ⟨D, ks.zip xs, rfl, hd', fun o => ?_⟩
    exact q _ _ _ _ M' ((s1.trans A1 s').shown hD0 ld') (A'.shown ld' dn (KeepC.over hd' rfl) (fun ps z => by cases z)) hf (.dit (vs := xs) ⟨o, upd_same⟩ hkl (ra.mono (Ex.new ld') (Pre.refl _)))
def upA (K : PySem.W.Frag) (t : DA) : TA := fun σ H Q => ∃ as ρ L M P, En K as L σ ρ ∧ At K as M L H ∧ t ρ M P ∧ ∀ vs ds L' H' M', Step as L H as L' H' → At K as M' L' H' → P ds M' → RpA K as L' vs ds → Q vs H'
theorem sim_upA {K : PySem.W.Frag} (t : DA) : SimA K (upA K t) t := fun as σ ρ L H M P Q hE A h q => ⟨as, ρ, L, M, P, hE, A, h, q⟩
theorem PDA.up {X : Cx} {es : List Expr} {t : DA} (h : PDA X es t) : PA X es (upA X.K t) := by
  obtain ⟨u, p, s⟩ := h.ex
  refine ⟨fun pos pins s1 σ H Q I hq => ?_⟩
  obtain ⟨as, ρ, L, M, P, hE, A, h1, q⟩ := hq
  exact p.run pos pins s1 σ H _ I (s as σ ρ L H M P _ hE A h1 q)
section
variable {X : Cx}
theorem pd_dcT {es : List Expr} {vx tg iter : Expr} {x1} {p1 : Pos} {scope : Scope} (own : List (Str × Nat)) {pos : Pos} {it : DA} {g : DG} {us : List Nat} {tl : DA} {tv : DE} (hc : X.calm = true) (hu : X.A.units < cLine) (hN : X.N.Nodup) (hi : PDI X tg iter it) (ok : BlkOk X.N X.env.scope scope own)
    (hg : ∀ (s : Shared) (H : Hp) (C : Addr) (cl : List (Str × Addr)) (fp : List Addr), PDG (X.blk s H scope (compEnvC scope cl C X.env) fp) tg g us)
    (hk : ∀ (s : Shared) (H : Hp) (C : Addr) (cl : List (Str × Addr)) (fp : List Addr), PDA (X.blk s H scope (compEnvC scope cl C X.env) fp) es tl)
    (he : ∀ (s : Shared) (H : Hp) (C : Addr) (cl : List (Str × Addr)) (fp : List Addr), PD (X.blk s H scope (compEnvC scope cl C X.env) fp) vx tv) (hus : ∀ i ∈ us, i ∈ own.map (·.2) := by decide) (hs : ∀ x, foldedSetIterable iter X.env x = pure x := by intro _; rfl) :
    PD X (.DictComp (.Tuple es x1 p1) vx [⟨tg, iter, [], 0⟩] scope pos) (dDcT it g tl tv (own.map (·.2))) := by
  obtain ⟨wi, p, s⟩ := hi.ex
  exact ⟨_, pe_frzT (pe_dcT hc hu hN p ok (fun a b c d e => (hg a b c d e).up) (fun a b c d e => pe_tup (hk a b c d e).up) (fun a b c d e => (he a b c d e).up) hs), sim_dcT hus s (sim_upG g us) (sim_upA tl) (sim_upE tv)⟩
end
end Pd
set_option Elab.async false
set_option linter.all false
set_option maxRecDepth 100000
set_option maxHeartbeats 3200000
namespace Pd
open PySem PySem.Spec PyProof.Rows L2
def rOr (r1 r2 : R2) : R2 := fun x y H Q => r1 x y H Q ∨ r2 x y H Q
@[simp] def oOr (o1 o2 : D2) : D2 := fun x y M P => o1 x y M P ∨ o2 x y M P
theorem op_or2 {X : Cx} {f : Value → Value → Sem Value} {r1 r2 : R2} (h1 : OpR X f r1) (h2 : OpR X f r2) : OpR X f (rOr r1 r2) := fun pins s σ H x y v u Q I rx ry h =>
  h.elim (h1 pins s σ H x y v u Q I rx ry) (h2 pins s σ H x y v u Q I rx ry)
theorem sr_or2 {K : PySem.W.Frag} {r1 r2 : R2} {o1 o2 : D2} (h1 : SimR K r1 o1) (h2 : SimR K r2 o2) : SimR K (rOr r1 r2) (oOr o1 o2) := fun as L H M x y d e P Q A a b h q =>
  h.elim (fun h => .inl (h1 as L H M x y d e P Q A a b h q)) fun h => .inr (h2 as L H M x y d e P Q A a b h q)
@[simp] def dTupR (t : DE) : DE := fun ρ M P => t ρ M fun x M1 => ∃ n : Nat, x = .int n ∧ n ≤ 1000 ∧ P (.tup (dI ((List.range n).map fun (i : Nat) => (i : Int)))) M1
def rMaxT (K : PySem.W.Frag) : List V → Hp → VK → Prop := fun vs H Q => ∃ (a : Addr) (n : Int) (ns : List Int), vs = [V.ref a] ∧ SqT K H a ((n :: ns).map V.int) ∧ Q (.int (PySem.W.maxOf n ns)) H
theorem cr_maxT {X : Cx} (hc : X.calm = true) (hu : X.A.units + 64 < cLine) : CallR X (.builtin "max") (rMaxT X.K) := by
  intro pins s σ H vs us Q I r h
  obtain ⟨a, n, ns, rfl, hs, q⟩ := h
  obtain ⟨its, rv, hl, _⟩ := I.tuple hs
  rw [Vals.ref1 r]
  obtain ⟨as, hr⟩ := Dp.readsAll I _ _ _ (dp_ints (n :: ns)) rv
  refine PySem.W.max_tuple_datum (α := Int) (x := n) (xs := ns) (I.ok.hd hc) hl ⟨as, hr⟩ (by show X.A.units + 1 + 0 < cLine; omega) fun i v h' tk hi hv hk => ?_
  obtain ⟨bs, rd⟩ := hv
  obtain ⟨t, rfl⟩ : ∃ t, v = Value.int (PySem.W.maxOf n ns) t := by
    generalize hm : PySem.W.maxOf n ns = m at rd
    have rd' : Reads h' v (.int m) bs := rd
    cases rd'
    exact ⟨_, rfl⟩
  exact ⟨.int _, H, I.kept hk, ⟨_, rfl⟩, q⟩
theorem maxOf_cons : ∀ (n : Int) (ns : List Int), PySem.W.maxOf n ns = ns.foldl (fun a y => if a < y then y else a) n := fun n ns => by
  unfold PySem.W.maxOf
  congr 1
  funext a y
  show (if decide (a < y) = true then y else a) = _
  simp only [decide_eq_true_eq]
theorem max_fold : ∀ (ns : List Int) (n : Int), n ≤ ns.foldl (fun a y => if a < y then y else a) n ∧ (∀ y ∈ ns, y ≤ ns.foldl (fun a y => if a < y then y else a) n) ∧ (ns.foldl (fun a y => if a < y then y else a) n = n ∨ ns.foldl (fun a y => if a < y then y else a) n ∈ ns)
  | [], n => ⟨Int.le_refl _, fun _ h => (nomatch h), .inl rfl⟩
  | a :: ns, n => by
    rw [List.foldl_cons]
    have ih := max_fold ns (if n < a then a else n)
    by_cases c : n < a
    · rw [if_pos c] at ih ⊢
      refine ⟨by omega, fun y hy => ?_, .inr ?_⟩
      · rcases List.mem_cons.mp hy with rfl | hy
        · exact ih.1
        · exact ih.2.1 y hy
      · rcases ih.2.2 with e | e
        · rw [e]; exact List.mem_cons_self
        · exact List.mem_cons_of_mem _ e
    · rw [if_neg c] at ih ⊢
      refine ⟨ih.1, fun y hy => ?_, ?_⟩
      · rcases List.mem_cons.mp hy with rfl | hy
        · have := ih.1; omega
        · exact ih.2.1 y hy
      · rcases ih.2.2 with e | e
        · exact .inl e
        · exact .inr (List.mem_cons_of_mem _ e)
/-- max of a list or a tuple of ints, not empty -/
@[simp] def oMaxS : DC := fun xs M P => ∃ (d : D) (ns : List Int), xs = [d] ∧ isSeq d (dI ns) ∧ ns ≠ [] ∧ ∀ m, m ∈ ns → (∀ y ∈ ns, y ≤ m) → P (.int m) M
def rMaxS (K : PySem.W.Frag) : List V → Hp → VK → Prop := fun vs H Q => rMax K vs H Q ∨ rMaxT K vs H Q
theorem cr_maxS {X : Cx} (hc : X.calm = true) (hu : X.A.units + 64 < cLine) : CallR X (.builtin "max") (rMaxS X.K) := fun pins s σ H xs us Q I r h => h.elim (cr_max hc pins s σ H xs us Q I r) (cr_maxT hc hu pins s σ H xs us Q I r)
theorem sc_maxS {K : PySem.W.Frag} : SimC K (rMaxS K) oMaxS := by
  intro as L H M xs ds P Q A r h q
  obtain ⟨d, ns, rfl, hd, hne, p⟩ := h
  cases r with
  | cons r1 r2 =>
    cases r2
    rcases hd with rfl | rfl
    · cases r1 with
      | lst hs ra =>
        have ev := RpA.ints ra
        subst ev
        exact .inl ⟨_, ns, rfl, ex_l A.low hs, List.length_pos_iff.mpr hne, fun m h1 h2 => q _ _ L H M .refl A (p m h1 h2) (.int _)⟩
    · cases r1 with
      | tup hs ra =>
        have ev := RpA.ints ra
        subst ev
        cases ns with
        | nil => exact absurd rfl hne
        | cons n ns =>
          refine .inr ⟨_, n, ns, rfl, ex_t A.low hs, q _ _ L H M .refl A (p _ ?_ ?_) (.int _)⟩
          · rw [maxOf_cons]
            rcases (max_fold ns n).2.2 with e | e
            · rw [e]; exact List.mem_cons_self
            · exact List.mem_cons_of_mem _ e
          · intro y hy
            rw [maxOf_cons]
            rcases List.mem_cons.mp hy with rfl | hy
            · exact (max_fold ns y).1
            · exact (max_fold ns n).2.1 y hy
end Pd
namespace Spc
abbrev Rw := List Int
def mn (p : Int) (row other : Rw) (t : Int) : Rw := List.zipWith (fun a b => (a - t * b) % p) row other
def at_ (l : Rw) (i : Nat) : Int := l.getD i 0
def ld (l : Rw) : Nat := l.idxOf 1
def rmd (p : Int) : List Rw → Rw → Rw
  | [], row => row
  | l :: R, row => rmd p R (mn p row l (at_ row (ld l)))
def nz (row : Rw) : Bool := row.any fun n => n != 0
def fst1 (row : Rw) : Int := (row.filter fun n => n != 0).headD 0
def rngL (p : Int) : List Int := (List.range p.toNat).map fun (k : Nat) => (k : Int)
def inv1 (p : Int) (f : Int) : Int := ((rngL p).filter fun k => k * f % p == 1).headD 0
def led (p : Int) (row : Rw) : Rw := row.map fun a => a * inv1 p (fst1 row) % p
/-- a > b, as Python compares tuples -/
def gtR : Rw → Rw → Bool
  | [], _ => false
  | _ :: _, [] => true
  | a :: x, b :: y => if a = b then gtR x y else decide (b < a)
def insD (x : Rw) : List Rw → List Rw
  | [] => [x]
  | y :: l => if gtR y x then y :: insD x l else x :: y :: l
def srtD : List Rw → List Rw
  | [] => []
  | x :: l => insD x (srtD l)
def step (p : Int) (R : List Rw) (y : Rw) : List Rw :=
  if nz (rmd p R y) then srtD (led p (rmd p R y) :: R.map fun o => rmd p [led p (rmd p R y)] o) else R
def red (p : Int) (rows : List Rw) : List Rw := rows.foldl (step p) []
def forced (R : List Rw) (p : Int) (free : Nat) (i : Nat) : Int := match R.find? fun r => ld r == i with | some r => -(at_ r free) % p | none => 0
def zrow (p : Int) (n : Nat) (R : List Rw) (free : Nat) : Rw := (List.range n).map fun i => if i = free then 1 else forced R p free i
def zrows (p : Int) (n : Nat) (R : List Rw) : List Rw := red p (((List.range n).filter fun i => !((R.map ld).contains i)).map (zrow p n R))
def zero (n : Nat) : Rw := List.replicate n 0
def given (p : Int) (n : Nat) (R : List Rw) : List Rw := R.foldl (fun rows l => rows.flatMap fun row => (rngL p).map fun t => mn p row l (-t)) [zero n]
def dot (x y : Rw) (p : Int) : Int := (List.zipWith (fun a b => a * b) x y).sum % p
def allD (p : Int) : Nat → List Rw
  | 0 => [[]]
  | n + 1 => (allD p n).flatMap fun d => (rngL p).map fun v => d ++ [v]
def blind (p : Int) (n : Nat) (R : List Rw) (item : Rw) : Option Rw := (zrows p n R).reverse.find? fun d => dot item d p != 0
/-- what is asked of the spaces of one form -/
def zs (p : Int) (n : Nat) (R : List Rw) : List Rw := given p n (zrows p n R)
def good (p : Int) (n : Nat) (SP : List (List Rw)) (R : List Rw) : Bool :=
  (allD p n).all fun y => SP.contains (step p R y) && (zs p n (step p R y) == (zs p n R).filter fun d => dot y d p == 0) && (blind p n R y == ((zs p n R).find? fun d => dot y d p != 0)) && ((!nz (rmd p R y)) == ((zs p n R).find? fun d => dot y d p != 0).isNone)
def shpB (p : Int) (n : Nat) (SP : List (List Rw)) : Bool :=
  SP.contains [] && (zs p n [] == allD p n) && SP.all (fun R => decide (R.length ≤ 4) && decide ((R.map ld).Nodup) && R.all fun l => decide (l.length = n) && l.contains 1 && l.all fun x => decide (0 ≤ x) && decide (x < p)) && (rngL p).all fun f => f == 0 || (rngL p).any fun k => k * f % p == 1
end Spc
namespace Spc
set_option maxRecDepth 100000
def SP21 : List (List Rw) := [[], [[1]]]
theorem shp21 : shpB 2 1 SP21 = true := by decide +kernel
theorem good21 : (SP21.all fun R => good 2 1 SP21 R) = true := by decide +kernel
def SP22 : List (List Rw) := [[], [[0, 1]], [[1, 0]], [[1, 1]], [[1, 0], [0, 1]]]
theorem shp22 : shpB 2 2 SP22 = true := by decide +kernel
theorem good22 : (SP22.all fun R => good 2 2 SP22 R) = true := by decide +kernel
def SP32 : List (List Rw) := [[], [[0, 1]], [[1, 0]], [[1, 1]], [[1, 2]], [[1, 0], [0, 1]]]
theorem shp32 : shpB 3 2 SP32 = true := by decide +kernel
theorem good32 : (SP32.all fun R => good 3 2 SP32 R) = true := by decide +kernel
end Spc
namespace Spc
set_option maxRecDepth 100000
end Spc
set_option Elab.async false
set_option linter.all false
set_option maxRecDepth 100000
set_option maxHeartbeats 3200000
namespace Pd
open PySem PySem.Spec PyProof.Rows L2
theorem okM_apI {M : Ms} {C : Addr} (h : okM M) : okM (M ++ [.ins C []]) := by
  unfold okM
  rw [List.length_append, List.length_singleton]
  refine List.all_eq_true.mpr fun mo hmo => ?_
  rcases List.mem_append.mp hmo with h2 | h2
  · have := List.all_eq_true.mp h mo h2
    cases mo with
    | lst ds => exact apartA_up (Nat.le_succ _) ds this
    | ins C fs => exact apartF_up (Nat.le_succ _) fs this
    | tab P q => rfl
    | dic ks ds => exact apartA_up (Nat.le_succ _) ds this
    | dit ks ds => exact apartA_up (Nat.le_succ _) ds this
  · rw [List.mem_singleton.mp h2]; rfl
theorem dcT_map {g : DG} {tl : DA} {tv : DE} {ρ : Rho} {P : D → Ms → Prop} {M : Ms} (fk : D → List Int) (fv : D → D) : ∀ (ds : List D) (ks : List (List Key)) (acc : List D),
    (∀ d ∈ ds, ∀ (ks : List (List Key)) (acc : List D) (k : List (List Key) → List D → Ms → Prop), kI (fk d) ∉ ks → acc.length < sizeLine → k (ks ++ [kI (fk d)]) (acc ++ [fv d]) M →
      g d ρ fun ρ' => tl ρ' M fun kds M1 => ∃ ns : List Int, kds = dI ns ∧ ns.length ≤ sizeLine ∧ kI ns ∉ ks ∧ acc.length < sizeLine ∧ tv ρ' M1 fun y M2 => k (ks ++ [kI ns]) (acc ++ [y]) M2) →
    (ks ++ ds.map fun d => kI (fk d)).Nodup → acc.length + ds.length ≤ sizeLine → P (.dit (ks ++ ds.map fun d => kI (fk d)) (acc ++ ds.map fv)) M → dcRunT g tl tv ρ P ds ks acc M
  | [], ks, acc, _, _, _, p => by
    show P (.dit ks acc) M
    simpa using p
  | d :: r, ks, acc, h, hn, hz, p => by
    rw [List.length_cons] at hz
    refine h d List.mem_cons_self ks acc (fun ks' acc' M' => dcRunT g tl tv ρ P r ks' acc' M') ?_ (by omega) ?_
    · intro hm
      rw [List.map_cons] at hn
      exact (List.nodup_append.mp hn).2.2 _ hm _ List.mem_cons_self rfl
    · refine dcT_map fk fv r _ _ (fun e he => h e (List.mem_cons_of_mem _ he)) ?_ (by rw [List.length_append, List.length_singleton]; omega) ?_
      · rw [List.append_assoc]; exact hn
      · rw [List.append_assoc, List.append_assoc]; exact p
section
variable {X : Cx} {pos : Pos}
theorem pd_isi2K {K : PySem.W.Frag} {e : Expr} {n1 n2 : Str} {T1 T2 : String} {p p1 p2 tp : Pos} {k : Nat} {te : DE} (hK : X.K = K) (hg : Gl X "isinstance") (hm : X.mg "isinstance" = none) (he : PD X e te) (g1 : Gl X n1) (m1 : X.mg n1 = none) (v1 : bootBuiltins n1 = some (.type T1)) (g2 : Gl X n2) (m2 : X.mg n2 = none) (v2 : bootBuiltins n2 = some (.type T2))
    (d1 : n1 ≠ "__name__" := by decide) (d2 : n2 ≠ "__name__" := by decide) (e1 : (n1 == ("__debug__" : Str)) = false := by decide) (e2 : (n2 == ("__debug__" : Str)) = false := by decide)
    (hs1 : starEach [e, .Tuple [.Name n1 p1, .Name n2 p2] k tp] X.env = (false, eval e X.env) :: starEach [.Tuple [.Name n1 p1, .Name n2 p2] k tp] X.env := by rfl) (hs2 : starEach [.Tuple [.Name n1 p1, .Name n2 p2] k tp] X.env = (false, eval (.Tuple [.Name n1 p1, .Name n2 p2] k tp) X.env) :: starEach [] X.env := by rfl)
    (hs3 : starEach [.Name n1 p1, .Name n2 p2] X.env = (false, eval (.Name n1 p1) X.env) :: starEach [.Name n2 p2] X.env := by rfl) (hs4 : starEach [.Name n2 p2] X.env = (false, eval (.Name n2 p2) X.env) :: starEach [] X.env := by rfl)
    (hpl : (backTo pos (starEach [.Tuple [.Name n1 p1, .Name n2 p2] k tp] X.env)).any (·.1) = false := by rfl) :
    PD X (.Call (.Name "isinstance" p) [e, .Tuple [.Name n1 p1, .Name n2 p2] k tp] [] pos) (dIsi2 K te T1 T2) := by
  subst hK
  exact pd_isi2 hg hm he g1 m1 v1 g2 m2 v2 d1 d2 e1 e2 hs1 hs2 hs3 hs4 hpl
end
end Pd
set_option Elab.async false
set_option linter.all false
set_option maxRecDepth 100000
set_option maxHeartbeats 2000000
namespace Pd
open PySem PySem.Spec PyProof.Rows L2
end Pd
set_option Elab.async false
set_option linter.all false
set_option maxRecDepth 100000
set_option maxHeartbeats 2000000
namespace Pd
open PySem PySem.Spec PyProof.Rows L2
end Pd
set_option Elab.async false
set_option linter.all false
set_option maxRecDepth 100000
set_option maxHeartbeats 2000000
namespace Pd
open PySem PySem.Spec PyProof.Rows L2
end Pd
set_option Elab.async false
set_option linter.all false
set_option maxRecDepth 100000
set_option maxHeartbeats 3000000
namespace Pd
open PySem PySem.Spec PyProof.Rows L2
end Pd
set_option Elab.async false
set_option linter.all false
set_option maxRecDepth 100000
set_option maxHeartbeats 3000000
namespace Pd
open PySem PySem.Spec PyProof.Rows L2
theorem At.free {K : PySem.W.Frag} {as : List Addr} {M : Ms} {L H : Hp} {p : Addr} (A : At K as M L H) (hp : H p = none) : L p = none ∧ p ∉ as := by
  refine ⟨?_, fun z => (A.held z).2 hp⟩
  cases e : L p with
  | none => rfl
  | some o => rw [A.low p o e] at hp; cases hp
@[simp] def oListOwn (C : Addr) (f : Str) (WL : DC) : DC := fun xs M P => ∃ gs ds, xs = [.ins C gs] ∧ gs.lookup f = some (.tup ds) ∧ WL xs M fun z M' => ∃ i : Int, z = .int i ∧ (0 ≤ i ∧ i < 16777216) ∧ P (.lst ds) M'
end Pd
set_option Elab.async false
set_option linter.all false
set_option maxRecDepth 100000
namespace Pd
open PySem PySem.Spec PyProof.Rows L2
end Pd
set_option Elab.async false
set_option linter.all false
set_option maxRecDepth 100000
set_option maxHeartbeats 1000000
namespace Pd
open PySem PySem.Spec PyProof.Rows L2
end Pd
set_option Elab.async false
set_option linter.all false
set_option maxRecDepth 100000
set_option maxHeartbeats 1000000
namespace Pd
open PySem PySem.Spec PyProof.Rows L2
end Pd
set_option Elab.async false
set_option linter.all false
set_option maxRecDepth 100000
set_option maxHeartbeats 1000000
namespace Pd
open PySem PySem.Spec PyProof.Rows L2
def TupsIn (H : Hp) (ts xs : List V) : Prop := ∀ (j : Nat) (t : V), ts[j]? = some t → ∃ T x, t = .ref T ∧ H T = some (.tup [x]) ∧ xs[j]? = some x
theorem TupsIn.up {H H' : Hp} {ts xs : List V} (h : TupsIn H ts xs) (k : ∀ c xs, H c = some (.tup xs) → H' c = some (.tup xs)) : TupsIn H' ts xs := fun j t e =>
  let ⟨T, x, h1, h2, h3⟩ := h j t e
  ⟨T, x, h1, k _ _ h2, h3⟩
end Pd
set_option Elab.async false
set_option linter.all false
set_option maxRecDepth 100000
set_option maxHeartbeats 1000000
namespace Pd
open PySem PySem.Spec PyProof.Rows L2
section
variable {X : Cx} {e : Expr} {pos p pos2 p2 p3 : Pos}
@[simp] def dZipS (t : DE) : DE := fun ρ M P => t ρ M fun d M1 => ∃ cols : List D, d = .lst cols ∧ ((∃ xs, cols = [.lst xs] ∧ P (.lst (xs.map fun x => .tup [x])) M1) ∨ ∃ xs ys, cols = [.lst xs, .lst ys] ∧ P (.lst (pairs xs ys)) M1)
end
end Pd
set_option Elab.async false
set_option linter.all false
set_option maxRecDepth 100000
set_option maxHeartbeats 1000000
namespace Pd
open PySem PySem.Spec PyProof.Rows L2
end Pd
set_option Elab.async false
set_option linter.all false
set_option maxRecDepth 100000
set_option maxHeartbeats 3200000
namespace Pd
open PySem PySem.Spec PyProof.Rows L2
def dcRunI (g : DG) (tk tv : DE) (ρ : Rho) (ks : List (List Key)) (P : D → Ms → Prop) : List D → List D → Ms → Prop
  | [], acc, M => P (.dit ks acc) M
  | d :: r, acc, M => ∀ q : Addr, g (.tup [.ob q, d]) ρ fun ρ' => tk ρ' M fun kd M1 => kd = .ob q ∧ tv ρ' M1 fun y M2 => dcRunI g tk tv ρ ks P r (acc ++ [y]) M2
@[simp] def dDcI (td : DE) (g : DG) (tk tv : DE) (vs : List Nat) : DE := fun ρ M P => td ρ M fun d M1 => ∃ (nss : List (List Int)) (ds : List D), d = .dit (nss.map kI) ds ∧ nss.length = ds.length ∧ (nss.map kI).Nodup ∧ ds.length ≤ sizeLine ∧ dcRunI g tk tv (wipeR ρ vs) (nss.map kI) P ds [] M1
end Pd
set_option Elab.async false
set_option linter.all false
set_option maxRecDepth 100000
set_option maxHeartbeats 1000000
namespace Pd
open PySem PySem.Spec PyProof.Rows L2
end Pd
set_option Elab.async false
set_option linter.all false
set_option maxRecDepth 100000
set_option maxHeartbeats 1000000
namespace Pd
open PySem PySem.Spec PyProof.Rows L2
def NumsIn (H : Hp) (ts xs : List V) : Prop := ∀ (j : Nat) (t : V), ts[j]? = some t → ∃ T x, t = .ref T ∧ H T = some (.tup [.int (j : Nat), x]) ∧ xs[j]? = some x
theorem NumsIn.up {H H' : Hp} {ts xs : List V} (h : NumsIn H ts xs) (k : ∀ c xs, H c = some (.tup xs) → H' c = some (.tup xs)) : NumsIn H' ts xs := fun j t e =>
  let ⟨T, x, h1, h2, h3⟩ := h j t e
  ⟨T, x, h1, k _ _ h2, h3⟩
end Pd
set_option Elab.async false
set_option linter.all false
set_option maxRecDepth 100000
set_option maxHeartbeats 1000000
namespace Pd
open PySem PySem.Spec PyProof.Rows L2
section
variable {X : Cx} {e : Expr} {pos p pos2 p2 : Pos} {tl : DA}
@[simp] def dEnL (tl : DA) : DE := fun ρ M P => tl ρ M fun ds M1 => ∃ d xs, ds = [d] ∧ isSeq d xs ∧ P (.lst (numd 0 xs)) M1
end
end Pd
set_option Elab.async false
set_option linter.all false
set_option maxRecDepth 100000
set_option maxHeartbeats 1000000
namespace Pd
open PySem PySem.Spec PyProof.Rows L2
section
variable {X : Cx} {e o a : Expr} {es : List Expr} {t td te : DE} {tl : DA} {p pos p2 pos2 : Pos}
@[simp] def dLIdxI (td te : DE) : DE := fun ρ M P => td ρ M fun d M1 => ∃ ns : List Int, d = .lst (dI ns) ∧ te ρ M1 fun y M2 => ∃ k : Int, y = .int k ∧ k ∈ ns ∧ P (.int (ns.idxOf k)) M2
@[simp] def oMinL : DC := fun xs M P => ∃ ns : List Int, xs = [.lst (dI ns)] ∧ 0 < ns.length ∧ ∀ m, m ∈ ns → (∀ y, y ∈ ns → m ≤ y) → P (.int m) M
@[simp] def dLstR (t : DE) : DE := fun ρ M P => t ρ M fun x M1 => ∃ n : Nat, x = .int n ∧ n ≤ 1000 ∧ P (.lst (dI ((List.range n).map fun (i : Nat) => (i : Int)))) M1
/-- f(e, ..), the last parameter's default is () -/
@[simp] def dCallT (n : Nat) (W : DC) (tl : DA) : DE := fun ρ M P => tl ρ M fun ds M1 => ds.length + 1 = n ∧ W (ds ++ [.tup []]) M1 P
end
end Pd
set_option Elab.async false
set_option linter.all false
set_option maxRecDepth 100000
set_option maxHeartbeats 1000000
namespace Pd
open PySem PySem.W PySem.Calls PySem.Spec PyProof.Rows SeqAt
section
variable {prog : Program} {w : World} {A : Around} {E : Value → Shared → Prop} {s : Shared}
theorem call_tupleLt {Q : Value → Shared → Prop} {l b : Addr} {items items2 : Array Value} {e r : Nat → Bool} (hl : s.heap.IsTuple l items) (hb : s.heap.IsTuple b items2)
    (he : ∀ j (h1 : j < items.size) (h2 : j < items2.size), EqAt A.in1 s items[j] items2[j] (e j)) (hr : ∀ j (h1 : j < items.size) (h2 : j < items2.size), e j = false → RcLt A.in1 s items[j] items2[j] (r j))
    (h : Q (.bool (firstLt e r (decide (items.size < items2.size)) (List.range (min items.size items2.size)))) s) : wpAny (model prog w) A (call (.builtin "tuple.__lt__") [.ref l, .ref b]) Q E s := by
  obtain ⟨⟨cls, dd, data, sl⟩, ho, hc, n, hd⟩ := id hl
  obtain ⟨⟨cls2, dd2, data2, sl2⟩, ho2, hc2, n2, hd2⟩ := id hb
  simp only at hc hd hc2 hd2
  subst hc hd hc2 hd2
  exact call_meets F.slot_tuple_lt ⟨_, ho, rfl⟩ F.entry_tuple_lt (F.args_tuple_lt_2 _ _) (tuple_ltAt l b items items2 n n2 dd dd2 sl sl2 e r) ⟨ho, ho2, he, hr, h⟩
theorem oneLt_tup {xs ys : List PyData} {a b : Value} {as bs : List Addr} {Q : Bool → Shared → Prop} (ra : Reads s.heap a (.tuple xs) as) (rb : Reads s.heap b (.tuple ys) bs) (h : alike (.tuple xs) (.tuple ys) = true)
    (hu : A.units + min (PyData.tuple xs).depth (PyData.tuple ys).depth < cLine) (hq : Q (dataLt (.tuple xs) (.tuple ys)) s) : wpAny (model prog w) A (oneLt' true a b) Q E s := by
  have hal : alikeAll xs ys = true := by simpa [alike] using h
  cases ra with
  | @tuple l o vs n _ as₁ h1 h2 h3 h4 =>
    cases rb with
    | @tuple l' o' vs' n' _ bs₁ k1 k2 k3 k4 =>
      have n1 : vs.size = xs.length := by simpa using ReadsAll.length _ _ _ h4
      have n2 : vs'.size = ys.length := by simpa using ReadsAll.length _ _ _ k4
      rw [dataLt_tuple, ← firstLt_toks xs ys hal, ← n1, ← n2] at hq
      rw [oneLt'_eq]
      simp only [if_true]
      refine wpAny_bind (wpAny_cRoomFor (room_here hu) ?_)
      refine wpAny_bind (wpAny_callSpecialIfBound?_slot (T := "tuple") ⟨_, h1, h2⟩ F.slot_tuple_lt (call_tupleLt (e := pairEq xs ys) (r := fun j => dataLt (xs.getD j .none) (ys.getD j .none)) ⟨_, h1, h2, _, h3⟩ ⟨_, k1, k2, _, k3⟩ (fun j j1 j2 => ?_) (fun j j1 j2 hj => ?_) ?_))
      · have := eqAt_alikeAll xs ys A.in1 s vs.toList vs'.toList _ _ h4 k4 hal (room_in hu) j (by simpa using j1) (by simpa using j2)
        simpa using this
      · have := rcLt_alikeAll xs ys A.in1 s vs.toList vs'.toList _ _ h4 k4 hal (room_in hu) j (by simpa using j1) (by simpa using j2) hj
        simpa using this
      · exact wpAny_truthy_bool hq
end
end Pd
set_option Elab.async false
set_option linter.all false
set_option maxRecDepth 100000
set_option maxHeartbeats 1000000
namespace Pd
open PySem PySem.W PySem.Calls PySem.Spec PyProof.Rows SeqAt
section
variable {prog : Program} {w : World} {A : Around} {E : Value → Shared → Prop} {s : Shared}
theorem tupE_firsts : ∀ (vs : List Value) (ds : List (List PyData)) {Q : List (Option Value) → Shared → Prop}, EachIs (fun v d => ∃ as, Reads s.heap v (.tuple d) as) vs ds →
    (∀ fs : List (Option Value), fs.length = vs.length → (ds[0]? = some [] → fs[0]? = some none) → Q fs s) → wpAny (model prog w) A (vs.mapM firstOfTuple') Q E s
  | [], [], _, _, h => by rw [List.mapM_nil]; exact wpAny_pure (h [] rfl fun z => nomatch z)
  | [], _ :: _, _, t, _ => nomatch t
  | _ :: _, [], _, t, _ => nomatch t
  | v :: vs, d :: ds, Q, t, h => by
    cases t with
    | cons hd t =>
      obtain ⟨as, r⟩ := hd
      cases r with
      | @tuple l o xs n _ _ h1 h2 h3 h4 =>
        rw [List.mapM_cons]
        refine wpAny_bind ?_
        rw [kas_first_eq]
        refine wpAny_bind (Looks.here (show Looks (model prog w) s.heap (typeOf (.ref l)) o.cls from (Looks.ld h1).andThen .now) ?_)
        rw [h2, if_neg (by first | decide | simp)]
        refine wpAny_bind (listItems_at h1 h3 (wpAny_pure ?_))
        refine wpAny_bind (tupE_firsts vs ds t fun fs hl _ => wpAny_pure (h (xs[0]? :: fs) (by rw [List.length_cons, List.length_cons, hl]) fun z => ?_))
        have hd0 : d = [] := by simpa using z
        subst hd0
        have hn := ReadsAll.length _ _ _ h4
        have : xs = #[] := by
          have h5 : xs.toList = [] := by simpa using hn
          simpa using h5
        rw [this]; rfl
theorem tupE_kind {vs : List Value} {ds : List (List PyData)} {Q : SortKind → Shared → Prop} (e : EachIs (fun v d => ∃ as, Reads s.heap v (.tuple d) as) vs ds) (h2 : 2 ≤ vs.length) (h0 : ds[0]? = some []) (h : Q oneType' s) : wpAny (model prog w) A (keyKind' vs.toArray) Q E s := by
  rw [keyKind'_eq, List.mapM_toArray, map_eq_pure_bind]
  refine wpAny_bind (wpAny_bind (tupE_firsts vs ds e fun fs hl hf => wpAny_pure ?_))
  have hf0 := hf h0
  have n1 : ¬ ((fs.toArray.all fun x => x.isSome) = true) := by
    cases fs with
    | nil => cases hf0
    | cons a fs => cases hf0; simp
  rw [if_neg n1]
  have n2 : ¬ (((fs.toArray[0]?).bind id).isSome = true) := by
    rw [List.getElem?_toArray, hf0]; decide
  rw [if_neg n2]
  obtain ⟨v₁, v₂, rest, rfl⟩ : ∃ v₁ v₂ rest, vs = v₁ :: v₂ :: rest := by
    match vs, h2 with
    | [], h2 => simp at h2
    | [_], h2 => simp at h2
    | v₁ :: v₂ :: rest, _ => exact ⟨v₁, v₂, rest, rfl⟩
  have hT : ∀ v ∈ v₁ :: v₂ :: rest, Looks (model prog w) s.heap (typeOf v) (.type "tuple") := fun v hv => by
    obtain ⟨d, _, as, r⟩ := e.left v hv
    exact looks_reads r
  rw [oneTypeOnly'_eq, List.mapM_toArray, map_eq_pure_bind]
  refine wpAny_bind (wpAny_bind (wpAny_bind (kas_mapM (r := Value.type "tuple") _ (fun v hv Q' hq => (hT v hv).here hq) (wpAny_pure ?_))))
  have hall : ((List.map (fun _ => Value.type "tuple") (v₁ :: v₂ :: rest)).toArray.all fun x => x == Value.type "tuple") = true := by
    simp only [List.all_toArray, List.all_map, List.all_eq_true]
    intro _ _
    exact beq_self_eq_true _
  have hq0 : (List.map (fun _ => Value.type "tuple") (v₁ :: v₂ :: rest)).toArray[0]? = some (Value.type "tuple") := by simp
  rw [hq0]
  simp only [hall, if_true]
  exact wpAny_pure (wpAny_pure h)
/-- tuples of data, the first of them empty, can be sorted -/
theorem SortsAt.dataE {vs : List Value} {ds : List (List PyData)} (e : EachIs (fun v d => ∃ as, Reads s.heap v (.tuple d) as) vs ds) (hal : AllAlike (ds.map PyData.tuple)) (h0 : ds[0]? = some []) (hu : ∀ d, d ∈ ds → A.units + (PyData.tuple d).depth < cLine) :
    SortsAt prog w A s (dataKind s.heap (ds.map PyData.tuple)) vs := by
  refine ⟨fun v hv => ?_, oneType', ?_, fun h2 E Q hq => tupE_kind e h2 h0 hq⟩
  · obtain ⟨d, hd, as, r⟩ := e.left v hv
    exact ⟨_, dataKind_some hal (List.mem_map_of_mem hd) r⟩
  · intro E x y a b Q ha hb hq
    obtain ⟨d, as, hd, ra, rfl⟩ := dataKind_inv ha
    obtain ⟨d', as', hd', rb, rfl⟩ := dataKind_inv hb
    obtain ⟨xs, hxs, rfl⟩ := List.mem_map.mp hd
    obtain ⟨ys, hys, rfl⟩ := List.mem_map.mp hd'
    rw [keyLt'_oneType]
    exact oneLt_tup ra rb (hal _ hd _ hd') (Nat.lt_of_le_of_lt (Nat.add_le_add_left (Nat.min_le_left _ _) _) (hu _ hxs)) hq
end
end Pd
set_option Elab.async false
set_option linter.all false
set_option maxRecDepth 100000
set_option maxHeartbeats 1000000
namespace Pd
open PySem PySem.Spec PyProof.Rows L2
def tupP (ns : List Int) : PyData := .tuple (ns.map PyData.int)
theorem reads_ints {h : Heap} : ∀ {us : List Value} {ns : List Int}, Vals (ns.map V.int) us → ReadsAll h us (ns.map PyData.int) []
  | [], [], _ => .nil
  | [], _ :: _, h => nomatch h
  | _ :: _, [], h => nomatch h
  | u :: us, n :: ns, h => by
    cases h with
    | cons h1 t =>
      obtain ⟨t1, rfl⟩ := (show ∃ t, u = Value.int n t from h1)
      exact .cons (as := []) (bs := []) (.int n t1) (reads_ints t)
theorem alike_ints : ∀ xs ys : List Int, PySem.W.alikeAll (xs.map PyData.int) (ys.map PyData.int) = true
  | [], [] => by simp [PySem.W.alikeAll]
  | [], _ :: _ => by simp [PySem.W.alikeAll]
  | _ :: _, [] => by simp [PySem.W.alikeAll]
  | x :: xs, y :: ys => by
    have := alike_ints xs ys
    simp [PySem.W.alikeAll, PySem.W.alike, this]
section
variable {X : Cx}
def rSortE (K : PySem.W.Frag) : List V → Hp → VK → Prop := fun vs H Q => ∃ (a : Addr) (ks : List (Addr × List Int)), vs = [V.ref a] ∧ SqL K H a (ks.map fun q => V.ref q.1) ∧ (∀ q ∈ ks, SqT K H q.1 (q.2.map V.int)) ∧ (ks[0]?).map (·.2) = some [] ∧
  ∀ p, H p = none → Q (.ref p) (upd H p (.lst ((ks.mergeSort (PySem.W.dataLe false fun q => tupP q.2)).map fun q => V.ref q.1)))
theorem cr_sortedE (hc : X.calm = true) (hu : X.A.units + 64 < cLine) : CallR X (.builtin "sorted") (rSortE X.K) := by
  intro pins s σ H vs us Q I r h
  obtain ⟨a, ks, rfl, ha, hk, h0, q⟩ := h
  obtain ⟨its, rv, hl, hz⟩ := I.list ha
  rw [Vals.ref1 r]
  have er : its = ks.map fun q => Value.ref q.1 := refs_of_vals rv
  subst er
  have hrd : ∀ q ∈ ks, ∀ h' : Heap, (∀ b o, s.heap.get? b = some o → h'.get? b = some o) → ∃ as, Reads h' (.ref q.1) (tupP q.2) as := fun q hq h' up => by
    obtain ⟨its, rv, ⟨o, ho, hcl, n, hd⟩, _⟩ := I.tuple (hk q hq)
    exact ⟨[], .tuple (up _ _ ho) hcl hd (by simpa using reads_ints rv)⟩
  have hall : PySem.W.AllAlike ((ks.map fun q => q.2.map PyData.int).map PyData.tuple) := fun d hd d' hd' => by
    obtain ⟨_, hx, rfl⟩ := List.mem_map.mp hd
    obtain ⟨q1, _, rfl⟩ := List.mem_map.mp hx
    obtain ⟨_, hy, rfl⟩ := List.mem_map.mp hd'
    obtain ⟨q2, _, rfl⟩ := List.mem_map.mp hy
    simpa [PySem.W.alike] using alike_ints q1.2 q2.2
  have hE : ∀ h' : Heap, (∀ b o, s.heap.get? b = some o → h'.get? b = some o) → PySem.W.EachIs (fun v d => ∃ as, Reads h' v (.tuple d) as) (ks.map fun q => Value.ref q.1) (ks.map fun q => q.2.map PyData.int) := fun h' up => by
    have : ∀ L : List (Addr × List Int), (∀ q ∈ L, q ∈ ks) → PySem.W.EachIs (fun v d => ∃ as, Reads h' v (.tuple d) as) (L.map fun q => Value.ref q.1) (L.map fun q => q.2.map PyData.int) := fun L => by
      induction L with
      | nil => intro _; exact .nil
      | cons q L ih => intro hL; exact .cons (hrd q (hL q List.mem_cons_self) h' up) (ih fun x hx => hL x (List.mem_cons_of_mem _ hx))
    exact this ks fun _ h => h
  have h0' : (ks.map fun q => q.2.map PyData.int)[0]? = some [] := by
    rw [List.getElem?_map]
    cases hk0 : ks[0]? with
    | none => rw [hk0] at h0; cases h0
    | some q0 =>
      rw [hk0] at h0
      have e : q0.2 = [] := by simpa using h0
      show some (q0.2.map PyData.int) = some []
      rw [e]; rfl
  have dpt : ∀ ns : List Int, PyData.depthAll (ns.map PyData.int) ≤ 1 := fun ns => by
    induction ns with
    | nil => exact Nat.zero_le _
    | cons n ns ih =>
      show max (PyData.depth (.int n)) (PyData.depthAll (ns.map PyData.int)) ≤ 1
      exact Nat.max_le.mpr ⟨Nat.zero_le _, ih⟩
  have hkm : (ks.map fun q => q.2.map PyData.int).map PyData.tuple = ks.map fun q => tupP q.2 := by rw [List.map_map]; rfl
  have hb : ∀ d ∈ (ks.map fun q => q.2.map PyData.int), X.A.in1.in1.units + (PyData.tuple d).depth < cLine := fun d hd => by
    obtain ⟨q1, _, rfl⟩ := List.mem_map.mp hd
    have h1 : (PyData.tuple (q1.2.map PyData.int)).depth ≤ 2 := Nat.succ_le_succ (dpt q1.2)
    show X.A.units + 2 + _ < cLine
    omega
  have S := SortsAt.dataE (prog := X.prog) (w := X.w) (A := X.A.in1.in1) (s := { s with heap := PySem.W.sortingHeap (PySem.W.copyHeap s.heap (ks.map fun q => Value.ref q.1)) (s.heap.objs.size + 1) (ks.map fun q => Value.ref q.1) }) (hE _ fun b o => PySem.W.sorting_copy_old) hall h0' hb
  have hz' : (ks.map fun q => Value.ref q.1).length ≤ sizeLine := by rw [List.length_map] at hz ⊢; exact hz
  refine PySem.W.sorted_vals hl.isList S hz' ?_
  have hEt : ∀ h' : Heap, (∀ b o, s.heap.get? b = some o → h'.get? b = some o) → PySem.W.EachIs (fun v k => ∃ as, Reads h' v k as) (ks.map fun q => Value.ref q.1) (ks.map fun q => tupP q.2) := fun h' up => by
    have : ∀ L : List (Addr × List Int), (∀ q ∈ L, q ∈ ks) → PySem.W.EachIs (fun v k => ∃ as, Reads h' v k as) (L.map fun q => Value.ref q.1) (L.map fun q => tupP q.2) := fun L => by
      induction L with
      | nil => intro _; exact .nil
      | cons q L ih => intro hL; exact .cons (hrd q (hL q List.mem_cons_self) h' up) (ih fun x hx => hL x (List.mem_cons_of_mem _ hx))
    exact this ks fun _ h => h
  have hR : PySem.W.EachIs (fun v q => v = Value.ref q.1) (ks.map fun q => Value.ref q.1) ks := by
    have : ∀ L : List (Addr × List Int), PySem.W.EachIs (fun v q => v = Value.ref q.1) (L.map fun q => Value.ref q.1) L := fun L => by
      induction L with
      | nil => exact .nil
      | cons q L ih => exact .cons rfl ih
    exact this ks
  have hO := PySem.W.keyedOut_each (rev := false) (R := fun v q => v = Value.ref q.1) (bs := ks) (fun q => tupP q.2) ⟨PySem.W.sortingHeap (PySem.W.copyHeap s.heap (ks.map fun q => Value.ref q.1)) (s.heap.objs.size + 1) (ks.map fun q => Value.ref q.1), (ks.map fun q => Value.ref q.1), by rw [← hkm]; exact hall, rfl, hEt _ fun b o => PySem.W.sorting_copy_old⟩ hR
  rw [← hkm] at hO
  generalize PySem.W.sortVals _ false _ _ = out at hO ⊢
  have ho : out = (ks.mergeSort (PySem.W.dataLe false fun q => tupP q.2)).map fun q => Value.ref q.1 := by
    have : ∀ (L : List Value) (M : List (Addr × List Int)), PySem.W.EachIs (fun v q => v = Value.ref q.1) L M → L = M.map fun q => Value.ref q.1 := fun L M h => by
      induction h with
      | nil => rfl
      | cons h _ ih => rw [List.map_cons, ← ih, h]
    exact this _ _ hO
  subst ho
  obtain ⟨e, he⟩ := sortedAll_at s.heap (ks.map fun q => Value.ref q.1) ((ks.mergeSort (PySem.W.dataLe false fun q => tupP q.2)).map fun q => Value.ref q.1).toArray
  have hn : H (s.heap.objs.size + 1) = none := I.hok.fresh (Nat.le_succ _)
  have hlen : ((ks.mergeSort (PySem.W.dataLe false fun q => tupP q.2)).map fun q => V.ref q.1).length ≤ sizeLine := by
    rw [List.length_map, List.length_mergeSort]
    rw [List.length_map] at hz'; exact hz'
  have hv : Vals ((ks.mergeSort (PySem.W.dataLe false fun q => tupP q.2)).map fun q => V.ref q.1) ((ks.mergeSort (PySem.W.dataLe false fun q => tupP q.2)).map fun q => Value.ref q.1) := vals_of_refs _
  have k : ∀ b o, s.heap.get? b = some o → (sortedAll s.heap (ks.map fun q => Value.ref q.1) ((ks.mergeSort (PySem.W.dataLe false fun q => tupP q.2)).map fun q => Value.ref q.1).toArray).get? b = some o := fun b o e => sortedAll_old e
  have J := I.laid (t' := s.toks) k (Nat.le_succ _) (o := .lst ((ks.mergeSort (PySem.W.dataLe false fun q => tupP q.2)).map fun q => V.ref q.1)) ⟨hlen, _, e, hv, he⟩
  exact ⟨.ref (s.heap.objs.size + 1), _, J, rfl, q _ hn⟩
end
end Pd
set_option Elab.async false
set_option linter.all false
set_option maxRecDepth 100000
set_option maxHeartbeats 1000000
namespace Pd
open PySem PySem.Spec PyProof.Rows L2
section
variable {X : Cx}
theorem run_sortedLen (hu : X.A.units + 64 < cLine) {pins : List (Addr × Obj)} {s : Shared} {σ : L2.St} {H : Hp} {a : Addr} {ks : List (Addr × List Int)} {Q : VK} (I : Inv X pins σ H s)
    (ha : SqL X.K H a (ks.map fun q => V.ref q.1)) (hk : ∀ q ∈ ks, SqT X.K H q.1 (q.2.map V.int))
    (q : ∀ p, H p = none → Q (.ref p) (upd H p (.lst ((ks.mergeSort (PySem.W.dataLe false fun q => .int q.2.length)).map fun q => V.ref q.1)))) :
    wpAny (model X.prog X.w) X.A (call (.builtin "sorted") [.ref a] [(Str.ofString "key", .builtin "len")]) (EP X pins σ Q) X.xe s := by
  obtain ⟨its, rv, hl, hz⟩ := I.list ha
  have er : its = ks.map fun q => Value.ref q.1 := refs_of_vals rv
  subst er
  have hR : PySem.W.EachIs (fun v q => v = Value.ref q.1) (ks.map fun q => Value.ref q.1) ks := by
    have : ∀ L : List (Addr × List Int), PySem.W.EachIs (fun v q => v = Value.ref q.1) (L.map fun q => Value.ref q.1) L := fun L => by
      induction L with
      | nil => exact .nil
      | cons q L ih => exact .cons rfl ih
    exact this ks
  have hz' : ks.length ≤ sizeLine := by rw [List.length_map] at hz; exact hz
  refine PySem.W.sorted_key_data (b := false) (R := fun v q => v = Value.ref q.1) (bs := ks) (fun q => .int q.2.length) hl.isList hR (PySem.W.AllAlike.of fun _ _ => by simp [PySem.W.alike]) (PySem.W.Sortable.others fun _ => ⟨(fun h => nomatch h), (fun _ h => nomatch h)⟩) hz' (fun x _ => ?_) (ksk_s1 _ _) (fun _ => ksk_l1 _ _) (fun _ => ksk_t4 _ _) (fun v x hv hx h tk up => ?_) fun out c h' tk up hf hD hlo eo => ?_
  · show X.A.units + 2 + 0 < cLine
    omega
  · subst hv
    obtain ⟨its, rv, ⟨o, ho, hcl, n, hd⟩, hzt⟩ := I.tuple (hk x hx)
    have hle : its.length = x.2.length := by have := Paired.length rv; simpa using this.symm
    refine len_tuple (items := its.toArray) ⟨o, up _ _ ho, hcl, n, hd⟩ ?_ ?_
    · rw [List.size_toArray, hle]
      rw [List.length_map] at hzt
      rw [sizeLine_eq] at hzt
      omega
    · rw [List.size_toArray, hle]
      exact ⟨h, tk + 1 + 1, rfl, fun _ _ e => e, .int _ _⟩
  · have ho : out = (ks.mergeSort (PySem.W.dataLe false fun q => .int q.2.length)).map fun q => Value.ref q.1 := by
      have : ∀ (L : List Value) (M : List (Addr × List Int)), PySem.W.EachIs (fun v q => v = Value.ref q.1) L M → L = M.map fun q => Value.ref q.1 := fun L M h => by
        induction h with
        | nil => rfl
        | cons h _ ih => rw [List.map_cons, ← ih, h]
      exact this _ _ eo
    subst ho
    have hn : H (s.heap.objs.size + 1) = none := I.hok.fresh (Nat.le_succ _)
    have hlen : ((ks.mergeSort (PySem.W.dataLe false fun q => .int q.2.length)).map fun q => V.ref q.1).length ≤ sizeLine := by
      rw [List.length_map, List.length_mergeSort]; exact hz'
    have hv : Vals ((ks.mergeSort (PySem.W.dataLe false fun q => .int q.2.length)).map fun q => V.ref q.1) ((ks.mergeSort (PySem.W.dataLe false fun q => .int q.2.length)).map fun q => Value.ref q.1) := vals_of_refs _
    have J := I.laid (t' := tk) up (Nat.le_succ _) (o := .lst ((ks.mergeSort (PySem.W.dataLe false fun q => .int q.2.length)).map fun q => V.ref q.1)) ⟨hlen, _, c, hv, hD⟩
    exact ⟨.ref (s.heap.objs.size + 1), _, J, rfl, q _ hn⟩
def rSortLen (K : PySem.W.Frag) : List V → Hp → VK → Prop := fun vs H Q => ∃ (a : Addr) (ks : List (Addr × List Int)), vs = [V.ref a] ∧ SqL K H a (ks.map fun q => V.ref q.1) ∧ (∀ q ∈ ks, SqT K H q.1 (q.2.map V.int)) ∧
  ∀ p, H p = none → Q (.ref p) (upd H p (.lst ((ks.mergeSort (PySem.W.dataLe false fun q => .int q.2.length)).map fun q => V.ref q.1)))
/-- sorted(e, key=len) -/
theorem pe_sortedLen (hu : X.A.units + 64 < cLine) {e : Expr} {t : TA} {p p2 p3 pos : Pos} {ks kn kl : Str} (hg : Gl X ks) (hm : X.mg ks = none) (hv : bootBuiltins ks = some (.builtin "sorted")) (hg2 : Gl X kl) (hm2 : X.mg kl = none) (hv2 : bootBuiltins kl = some (.builtin "len")) (ha : PA X [e] t)
    (hk : kn = Str.ofString "key" := by rfl) (hn : ks ≠ "__name__" := by decide) (hdb : (ks == ("__debug__" : Str)) = false := by decide) (hn2 : kl ≠ "__name__" := by decide) (hdb2 : (kl == ("__debug__" : Str)) = false := by decide)
    (he : backTo pos (starEach [e] X.env) = (false, eval e X.env) :: backTo pos (starEach [] X.env) := by rfl) (hpl : (backTo pos (starEach [e] X.env)).any (·.1) = false := by rfl) :
    PE X (.Call (.Name ks p) [e] [⟨some kn, .Name kl p2, p3⟩] pos) (fun σ H Q => t σ H fun vs H1 => rSortLen X.K vs H1 Q) := by
  subst hk
  refine ⟨fun pins s σ H Q I h => ?_⟩
  refine wpAny_Call_Name_kw (ld_blt I hg hm hv ?_ hn hdb)
  refine callWith_kw (thn (ha.run pos pins s σ H _ I h) fun us s1 ⟨vs, H1, I1, r1, q1⟩ => ?_) he hpl rfl rfl
  refine kwAll_cons (ld_blt I1 hg2 hm2 hv2 ?_ hn2 hdb2)
  refine kwAll_nil ?_
  obtain ⟨a, ks, rfl, h1, h2, h3⟩ := q1
  rw [Vals.ref1 r1]
  exact run_sortedLen hu I1 h1 h2 h3
end
end Pd
set_option Elab.async false
set_option linter.all false
set_option maxRecDepth 100000
set_option maxHeartbeats 1000000
namespace Pd
open PySem PySem.Spec PyProof.Rows L2
section
variable {K : PySem.W.Frag}
theorem map_sort2 {f : List Int → PyData} (ks : List (Addr × List Int)) : (ks.mergeSort (PySem.W.dataLe false fun q => f q.2)).map (·.2) = (ks.map (·.2)).mergeSort (PySem.W.dataLe false f) :=
  List.map_mergeSort fun _ _ _ _ => rfl
/-- sorted(xs), xs a list of tuples of ints that begins with () -/
@[simp] def oSortE : DC := fun ds M P => ∃ rows : List (List Int), ds = [.lst (rows.map tI)] ∧ rows[0]? = some [] ∧ P (.lst ((rows.mergeSort (PySem.W.dataLe false tupP)).map tI)) M
theorem sc_sortE : SimC K (rSortE K) oSortE := by
  intro as L H M xs ds P Q A r h q
  obtain ⟨rows, rfl, h0, p1⟩ := h
  cases r with
  | cons r1 r2 =>
    cases r2
    cases r1 with
    | lst hs ra =>
      obtain ⟨ks, rfl, rfl, hk⟩ := RpA.tups ra
      refine ⟨_, ks, rfl, ex_l A.low hs, fun x hx => ex_t A.low (hk x hx), ?_, fun p hp => ?_⟩
      · rw [List.getElem?_map] at h0; exact h0
      have lb := lowfree A hp
      rw [← map_sort2] at p1
      refine q _ _ _ _ M (Step.know A hp) (A.know hp) p1 (.lst (.inl (.inl upd_same)) ?_)
      exact rp_tups fun x hx => ex_t (Ex.new lb) (hk x (List.mem_mergeSort.mp hx))
/-- sorted(xs, key=len), xs a list of tuples of ints -/
@[simp] def oSortLen : DC := fun ds M P => ∃ rows : List (List Int), ds = [.lst (rows.map tI)] ∧ P (.lst ((rows.mergeSort (PySem.W.dataLe false fun r => .int r.length)).map tI)) M
theorem sc_sortLen : SimC K (rSortLen K) oSortLen := by
  intro as L H M xs ds P Q A r h q
  obtain ⟨rows, rfl, p1⟩ := h
  cases r with
  | cons r1 r2 =>
    cases r2
    cases r1 with
    | lst hs ra =>
      obtain ⟨ks, rfl, rfl, hk⟩ := RpA.tups ra
      refine ⟨_, ks, rfl, ex_l A.low hs, fun x hx => ex_t A.low (hk x hx), fun p hp => ?_⟩
      have lb := lowfree A hp
      rw [← map_sort2] at p1
      refine q _ _ _ _ M (Step.know A hp) (A.know hp) p1 (.lst (.inl (.inl upd_same)) ?_)
      exact rp_tups fun x hx => ex_t (Ex.new lb) (hk x (List.mem_mergeSort.mp hx))
end
section
variable {X : Cx} {e : Expr} {tl : DA} {p p2 p3 pos : Pos}
theorem pd_sortedE {x : Str} (hc : X.calm = true) (hu : X.A.units + 64 < cLine) (hg : Gl X x) (hm : X.mg x = none) (hv : bootBuiltins x = some (.builtin "sorted")) (ha : PDA X [e] tl) (hn : x ≠ "__name__" := by decide)
    (hdb : (x == ("__debug__" : Str)) = false := by decide) (he : starEach [e] X.env = (false, eval e X.env) :: starEach [] X.env := by rfl) : PD X (.Call (.Name x p) [e] [] pos) (dCB oSortE tl) :=
  pd_callB (cr_sortedE hc hu) sc_sortE hg hm hv ha hn hdb he (by rfl)
theorem pd_sortedLen {ks kn kl : Str} (hu : X.A.units + 64 < cLine) (hg : Gl X ks) (hm : X.mg ks = none) (hv : bootBuiltins ks = some (.builtin "sorted")) (hg2 : Gl X kl) (hm2 : X.mg kl = none) (hv2 : bootBuiltins kl = some (.builtin "len")) (ha : PDA X [e] tl)
    (hk : kn = Str.ofString "key" := by rfl) (hn : ks ≠ "__name__" := by decide) (hdb : (ks == ("__debug__" : Str)) = false := by decide) (hn2 : kl ≠ "__name__" := by decide) (hdb2 : (kl == ("__debug__" : Str)) = false := by decide)
    (he : backTo pos (starEach [e] X.env) = (false, eval e X.env) :: backTo pos (starEach [] X.env) := by rfl) (hpl : (backTo pos (starEach [e] X.env)).any (·.1) = false := by rfl) :
    PD X (.Call (.Name ks p) [e] [⟨some kn, .Name kl p2, p3⟩] pos) (dCB oSortLen tl) := by
  obtain ⟨u, pa, s⟩ := ha.ex
  exact ⟨_, pe_sortedLen hu hg hm hv hg2 hm2 hv2 pa hk hn hdb hn2 hdb2 he hpl, sim_cb (r := rSortLen X.K) sc_sortLen s⟩
end
end Pd
set_option Elab.async false
set_option linter.all false
set_option maxRecDepth 100000
set_option maxHeartbeats 1000000
namespace Pd
open PySem PySem.Spec PyProof.Rows L2
@[simp] def sKeep (i : Nat) (tl : DA) (t : DS) : DS := fun De ρ M => tl ρ M fun ds0 M1 => t { nx := cutE M1.length De.nx, rt := cutR M1.length De.rt, bk := cutE M1.length De.bk, ct := cutE M1.length De.ct } (ρ.set i (some (.mu M1.length))) (M1 ++ [.lst ds0])
/-- tuple(x), x a list that is known or changeable -/
@[simp] def oTupleM : DC := fun xs M P => ∃ d ds, xs = [d] ∧ (isSeq d ds ∨ ∃ k, d = .mu k ∧ M[k]? = some (.lst ds)) ∧ P (.tup ds) M
def forRunX (g : DG) (body : SX) (De : DEnds) (Xd : XD) : List D → Rho → Ms → Prop
  | [], ρ, M => De.nx ρ M
  | d :: r, ρ, M => g d ρ fun ρ' => body { De with nx := fun ρ2 M2 => forRunX g body De Xd r ρ2 M2, ct := fun ρ2 M2 => forRunX g body De Xd r ρ2 M2, bk := De.nx } Xd ρ' M
@[simp] def zFor (it : DA) (g : DG) (body : SX) : SX := fun D Xd ρ M => it ρ M fun ds M1 => forRunX g body D Xd ds ρ M1
theorem rp_zipP {K : PySem.W.Frag} {as : List Addr} {L : Hp} : ∀ {xs : List V} {rows : List D}, RpA K as L xs rows → ∃ bs : List (V × D), bs.map (·.1) = xs ∧ bs.map (·.2) = rows ∧ ∀ b ∈ bs, Rp K as L b.1 b.2
  | _, [], h => by cases h; exact ⟨[], rfl, rfl, (fun _ h => nomatch h)⟩
  | _, r :: rows, h => by
    cases h with
    | cons r1 rt =>
      rename_i v vs
      obtain ⟨bs, h1, h2, h4⟩ := rp_zipP rt
      refine ⟨(v, r) :: bs, by rw [List.map_cons, h1], by rw [List.map_cons, h2], fun b hb => ?_⟩
      rcases List.mem_cons.mp hb with rfl | hb
      · exact r1
      · exact h4 b hb
/-- rows that can be sorted -/
structure SortOk (rows : List D) : Prop where
  pl : ∀ d ∈ rows, plain d = true
  al : PySem.W.AllAlike (rows.map toP)
  so : PySem.W.Sortable (rows.map toP)
  dp : ∀ d ∈ rows, (toP d).depth ≤ 60
def sortD (rows : List D) : List D := rows.mergeSort (PySem.W.dataLe false toP)
@[simp] def oSortD : DC := fun ds M P => ∃ rows : List D, ds = [.lst rows] ∧ SortOk rows ∧ P (.lst (sortD rows)) M
end Pd
set_option Elab.async false
set_option linter.all false
set_option maxRecDepth 100000
set_option maxHeartbeats 2000000
namespace Pd
open PySem PySem.Spec PyProof.Rows L2 PySem.HandSPX
abbrev DH := List (Str × D) → DE
abbrev DHA := List (Str × D) → DA
/-- the fields of what was caught stand at dx -/
structure Caught (K : PySem.W.Frag) (as : List Addr) (L : Hp) (dx : Addr) (gs : List (Str × D)) : Prop where
  ex : ∃ fs, L dx = some (.xd fs) ∧ RpF K as L fs gs
theorem Caught.mono {K : PySem.W.Frag} {as : List Addr} {L L' : Hp} {dx : Addr} {gs : List (Str × D)} (e : Ex L L') (c : Caught K as L dx gs) : Caught K as L' dx gs :=
  let ⟨fs, h1, h2⟩ := c.ex; ⟨fs, e _ _ h1, h2.mono e (Pre.refl _)⟩
section
variable {X : Cx} {C : Addr} {i : Nat} {e : Expr} {es : List Expr} {t : DH} {tl : DHA} {pos p : Pos}
@[simp] def hOf (t : DE) : DH := fun _ => t
@[simp] def hFld (f : Str) : DH := fun gs ρ M P => ∃ y, gs.lookup f = some y ∧ P y M
@[simp] def hNil : DHA := fun _ _ M P => P [] M
@[simp] def hCons (ta : DH) (tl : DHA) : DHA := fun gs ρ M P => ta gs ρ M fun x M1 => tl gs ρ M1 fun xs M2 => P (x :: xs) M2
@[simp] def hTup (tl : DHA) : DH := fun gs ρ M P => tl gs ρ M fun ds M1 => ds.length ≤ sizeLine ∧ P (.tup ds) M1
@[simp] def hLst (tl : DHA) : DH := fun gs ρ M P => tl gs ρ M fun ds M1 => ds.length ≤ sizeLine ∧ P (.lst ds) M1
end
/-- which clause takes it, and what it returns -/
def PickR (K : PySem.W.Frag) (n : Nat) (rt : D → Ms → Prop) : List (Addr × Nat × DH) → Addr → List (Str × D) → Ms → Prop
  | [], _, _, _ => False
  | (C', i, t) :: r, C, gs, M => ∃ b, PySem.W.exmOne K (.ref C) (.ref C') = some b ∧ (b = true → C = C' ∧ t gs (List.replicate n none) M rt) ∧ (b = false → PickR K n rt r C gs M)
theorem Takes.mono {X : Cx} {W W' : WX} (tk : Takes X W) (h : ∀ cls d σ H, W' cls d σ H → W cls d σ H) : Takes X W' := fun u s' ⟨a, B, sI, pins, σ, H, cls, d, e, I, nb, up, sky, na, os, ag, w⟩ =>
  tk u s' ⟨a, B, sI, pins, σ, H, cls, d, e, I, nb, up, sky, na, os, ag, h _ _ _ _ w⟩
@[simp] def sTry (K : PySem.W.Frag) (n : Nat) (l : List (Addr × Nat × DH)) (t : SX) : DS := fun De ρ M => t De (fun C gs M' => PickR K n De.rt l C gs M') ρ M
end Pd
set_option Elab.async false
set_option linter.all false
set_option maxRecDepth 100000
set_option maxHeartbeats 1000000
namespace Pd
open PySem PySem.Spec PyProof.Rows L2
section
variable {X : Cx} {E : XK} {a e : Expr} {ta : DE} {tx : DX} {pos : Pos}
@[simp] def xTup2 (ta : DE) (tx : DX) : DX := fun ρ M P Xd => ta ρ M fun x M1 => tx ρ M1 (fun y M2 => P (.tup [x, y]) M2) Xd
end
end Pd
set_option Elab.async false
set_option linter.all false
set_option maxRecDepth 100000
set_option maxHeartbeats 2000000
namespace Pd
open PySem PySem.Spec PyProof.Rows L2
section
variable {X : Cx}
@[simp] def iOwnD (C : Addr) (f : Str) (t : DE) : DA := fun ρ M P => t ρ M fun d M1 => ∃ gs ds, d = .ins C gs ∧ gs.lookup f = some (.tup ds) ∧ P ds M1
end
end Pd
set_option Elab.async false
set_option linter.all false
set_option maxRecDepth 100000
set_option maxHeartbeats 2000000
namespace Pd
open PySem PySem.Spec PyProof.Rows L2
abbrev DAM := Rho → Ms → ((Ms → Prop) → List D → Ms → Prop) → Prop
def WalksM (K : PySem.W.Frag) (J : It) (as : List Addr) (L0 : Hp) (Φ : Ms → Prop) (ds : List D) : Prop := ∀ L H M, Ex L0 L → At K as M L H → Φ M →
  (∀ i, i < ds.length → J.go i H ∧ ∀ x H', J.yld i H x H' → ∃ d L', ds[i]? = some d ∧ Step as L H as L' H' ∧ At K as M L' H' ∧ Rp K as L' x d) ∧ J.stop ds.length H
def SimIM (K : PySem.W.Frag) (wi : TI) (t : DAM) : Prop := ∀ as σ ρ L H M P R, En K as L σ ρ → At K as M L H → t ρ M P →
  (∀ J Φ ds L' H' M', Step as L H as L' H' → At K as M' L' H' → P Φ ds M' → Φ M' → WalksM K J as L' Φ ds → R J H') → wi σ H R
structure PDIM (X : Cx) (tg iter : Expr) (t : DAM) : Prop where
  ex : ∃ wi, PI X tg iter wi ∧ SimIM X.K wi t
def lcRunM (Φ : Ms → Prop) (g : DG) (tt : DT) (te : DE) (ρ : Rho) (P : D → Ms → Prop) : List D → List D → Ms → Prop
  | [], acc, M => P (.lst acc) M
  | d :: r, acc, M => g d ρ fun ρ' => tt ρ' M fun b M1 => if b = true then te ρ' M1 fun y M2 => acc.length < sizeLine ∧ Φ M2 ∧ lcRunM Φ g tt te ρ P r (acc ++ [y]) M2 else Φ M1 ∧ lcRunM Φ g tt te ρ P r acc M1
@[simp] def dLcM (it : DAM) (g : DG) (tt : DT) (te : DE) (vs : List Nat) : DE := fun ρ M P => it ρ M fun Φ ds M1 => lcRunM Φ g tt te (wipeR ρ vs) P ds [] M1
theorem lcM_map {Φ : Ms → Prop} {g : DG} {te : DE} {ρ : Rho} {P : D → Ms → Prop} {M : Ms} (f : D → D) (hΦ : Φ M) : ∀ (ds acc : List D), (∀ d ∈ ds, ∀ R : D → Ms → Prop, R (f d) M → g d ρ fun ρ' => te ρ' M R) → acc.length + ds.length ≤ sizeLine → P (.lst (acc ++ ds.map f)) M → lcRunM Φ g dYes te ρ P ds acc M
  | [], acc, _, _, p => by
    show P (.lst acc) M
    simpa using p
  | d :: r, acc, h, hl, p => by
    rw [List.length_cons] at hl
    exact h d List.mem_cons_self _ ⟨by omega, hΦ, lcM_map f hΦ r (acc ++ [f d]) (fun e he => h e (List.mem_cons_of_mem _ he)) (by rw [List.length_append, List.length_singleton]; omega) (by simpa using p)⟩
theorem sim_lcM {K : PySem.W.Frag} {wi : TI} {it : DAM} {g' : TG} {g : DG} {us : List Nat} {ut : TT} {tt : DT} {ue : TE} {te : DE} {vs : List Nat} (hus : ∀ i ∈ us, i ∈ vs) (s : SimIM K wi it) (sg : SimG K g' g us) (st : SimT K ut tt) (se : SimE K ue te) :
    SimE K (tLc wi g' ut ue vs) (dLcM it g tt te vs) := by
  intro as σ ρ L H M P Q hE A h q
  refine s as σ ρ L H M _ _ hE A h fun J Φ ds L1 H1 M1 s1 A1 h1 hΦ w1 => ?_
  intro D hD
  -- D stays hidden while it grows
  have base : ∀ {L' H' : Hp} {M' : Ms} {acc : List V}, At K as M' L' H' → H' D = some (.lst acc) → L' D = none → D ∉ as → ∀ acc', At K as M' L' (upd H' D (.lst acc')) := by
    intro L' H' M' acc A' hd hl hn acc'
    refine ⟨fun a o h => ?_, A'.len, A'.nd, fun k a m e1 e2 => ?_, A'.nt⟩
    · have e : a ≠ D := fun z => by rw [z, hl] at h; cases h
      rw [upd_ne e]; exact A'.low a o h
    · obtain ⟨h3, o, h4, h5⟩ := A'.mo k a m e1 e2
      have e : a ≠ D := fun z => hn (by rw [← z]; exact List.mem_of_getElem? e1)
      exact ⟨h3, o, by rw [upd_ne e]; exact h4, h5.1, h5.2.keep (KeepC.over hd rfl)⟩
  have dn : D ∉ as := fun z => (A1.held z).2 hD
  have ld : L1 D = none := lowfree A1 hD
  refine ⟨fun i m H' => m = ds.length - i ∧ i ≤ ds.length ∧ ∃ L' M' xs acc, Step as L1 H1 as L' H' ∧ At K as M' L' H' ∧ H' D = some (.lst xs) ∧ L' D = none ∧ RpA K as L' xs acc ∧ Φ M' ∧ lcRunM Φ g tt te (wipeR ρ vs) P (ds.drop i) acc M',
    ⟨ds.length, by simp, Nat.zero_le _, L1, M1, [], [], ⟨fun a o _ h => ?_, Ex.refl _, fun _ h _ => h, Pre.refl _, fun _ h => .inl h⟩, ?_, upd_same, ld, .nil, hΦ, h1⟩, ?_⟩
  · rw [upd_ne (ne_of_none h hD)]; exact h
  · refine ⟨fun a o h => ?_, A1.len, A1.nd, fun k a m e1 e2 => ?_, A1.nt⟩
    · rw [upd_ne (ne_of_none (A1.low a o h) hD)]; exact A1.low a o h
    · obtain ⟨h3, o, h4, h5⟩ := A1.mo k a m e1 e2
      exact ⟨h3, o, by rw [upd_ne (ne_of_none h4 hD)]; exact h4, h5.1, h5.2.keep (KeepC.new hD)⟩
  rintro i m H' ⟨rfl, hi, L', M', xs, acc, s', A', hd', ld', ra, hΦ', hf⟩
  obtain ⟨wg, ws⟩ := w1 L' H' M' s'.k A' hΦ'
  have upD : ∀ {L2 H2 : Hp} {M2 : Ms}, Step as L1 H1 as L2 H2 → At K as M2 L2 H2 → ∀ acc', Step as L1 H1 as L2 (upd H2 D (.lst acc')) := by
    intro L2 H2 M2 s2 A2 acc'
    exact ⟨fun a o ha h => by rw [upd_ne (ne_of_none h hD)]; exact s2.up a o ha h, s2.k, s2.hid, s2.pre, s2.new⟩
  by_cases hlt : i < ds.length
  · obtain ⟨go, wy⟩ := wg i hlt
    rw [List.drop_eq_getElem_cons hlt] at hf
    refine .inr ⟨go, fun H2 => ∃ L' M' xs acc, Step as L1 H1 as L' H2 ∧ At K as M' L' H2 ∧ H2 D = some (.lst xs) ∧ L' D = none ∧ RpA K as L' xs acc ∧ Φ M' ∧ lcRunM Φ g tt te (wipeR ρ vs) P (ds.drop (i + 1)) acc M', fun H2 q => ⟨ds.length - (i + 1), by omega, rfl, hlt, q⟩, fun x H2 y => ?_⟩
    obtain ⟨d, L2, hd, s2, A2, r2⟩ := wy x H2 y
    rw [List.getElem?_eq_getElem hlt] at hd
    cases hd
    have hE2 : En K as L2 (wipeS σ vs) (wipeR ρ vs) := ((hE.mono (s1.k.trans (s'.k.trans s2.k)) (Pre.refl _)).wipe vs)
    have hd2 : H2 D = some (.lst xs) := s2.up D _ dn hd'
    have ld2 : L2 D = none := s2.hid D ld' (by rw [hd']; simp)
    refine sg as L2 H2 x _ _ _ M' _ _ hE2 A2 r2 hf fun σ3 ρ3 e3 p3 wp => ⟨?_, ?_⟩
    · have z := wp vs hus
      rw [z, wipe_wipe]
    · refine st as σ3 ρ3 L2 H2 M' _ _ e3 A2 p3 fun b L3 H3 M3 s3 A3 h3 => ?_
      have s13 := (s'.trans A' s2).trans A2 s3
      have hd3 : H3 D = some (.lst xs) := s3.up D _ dn hd2
      have ld3 : L3 D = none := s3.hid D ld2 (by rw [hd2]; simp)
      cases b with
      | false =>
        rw [if_neg Bool.false_ne_true] at h3 ⊢
        exact ⟨L3, M3, xs, acc, s13, A3, hd3, ld3, ra.mono (s2.k.trans s3.k) (Pre.refl _), h3.1, h3.2⟩
      | true =>
        rw [if_pos rfl] at h3 ⊢
        refine se as σ3 ρ3 L3 H3 M3 _ _ (e3.mono s3.k s3.pre) A3 h3 fun v z L4 H4 M4 s4 A4 h4 r4 => ?_
        have hd4 : H4 D = some (.lst xs) := s4.up D _ dn hd3
        have ld4 : L4 D = none := s4.hid D ld3 (by rw [hd3]; simp)
        have s14 := s13.trans A3 s4
        have ra4 := ra.mono (s2.k.trans (s3.k.trans s4.k)) (Pre.refl as)
        refine ⟨xs, hd4, by rw [ra4.length]; exact h4.1, L4, M4, xs ++ [v], acc ++ [z], upD s14 A4 _, base A4 hd4 ld4 dn _, upd_same, ld4, ra4.append (.one r4), h4.2.1, h4.2.2⟩
  · have e : i = ds.length := by omega
    subst e
    rw [List.drop_length] at hf
    -- the list is known for good
    refine .inl ⟨ws, q _ _ (upd L' D (.lst xs)) H' M' (s1.trans A1 ⟨s'.up, s'.k.trans (Ex.new ld'), fun a h h' => ?_, Pre.refl _, fun _ h => .inl h⟩) ⟨fun a o h => ?_, A'.len, A'.nd, fun k a m e1 e2 => ?_, A'.nt.new (fun ps z => by cases z)⟩ hf (.lst (.inl (.inl upd_same)) (ra.mono (Ex.new ld') (Pre.refl _)))⟩
    · have e : a ≠ D := fun z => h' (by rw [z]; exact hD)
      rw [upd_ne e]; exact s'.hid a h h'
    · by_cases e : a = D
      · subst e; rw [upd_same] at h; rw [hd']; exact h
      · rw [upd_ne e] at h; exact A'.low a o h
    · obtain ⟨h3, o, h4, h5⟩ := A'.mo k a m e1 e2
      have e : a ≠ D := fun z => dn (by rw [← z]; exact List.mem_of_getElem? e1)
      exact ⟨by rw [upd_ne e]; exact h3, o, h4, h5.1.mono (Ex.new ld') (Pre.refl _), h5.2⟩
section
variable {X : Cx}
theorem pd_lcM {elt tg iter : Expr} {ifs : List Expr} {scope : Scope} (own : List (Str × Nat)) {pos : Pos} {it : DAM} {g : DG} {us : List Nat} {tt : DT} {te : DE} (hc : X.calm = true) (hN : X.N.Nodup) (hi : PDIM X tg iter it) (ok : BlkOk X.N X.env.scope scope own)
    (hg : ∀ (s : Shared) (H : Hp) (C : Addr) (cl : List (Str × Addr)) (fp : List Addr), PDG (X.blk s H scope (compEnvC scope cl C X.env) fp) tg g us) (ht : ∀ (s : Shared) (H : Hp) (C : Addr) (cl : List (Str × Addr)) (fp : List Addr), PDTs (X.blk s H scope (compEnvC scope cl C X.env) fp) ifs tt)
    (he : ∀ (s : Shared) (H : Hp) (C : Addr) (cl : List (Str × Addr)) (fp : List Addr), PD (X.blk s H scope (compEnvC scope cl C X.env) fp) elt te) (hu : ∀ i ∈ us, i ∈ own.map (·.2) := by decide) (hs : ∀ x, foldedSetIterable iter X.env x = pure x := by intro _; rfl) :
    PD X (.ListComp elt [⟨tg, iter, ifs, 0⟩] scope pos) (dLcM it g tt te (own.map (·.2))) := by
  obtain ⟨wi, p, s⟩ := hi.ex
  exact ⟨_, pe_lc hc hN p ok (fun a b c d e => (hg a b c d e).up) (fun a b c d e => (ht a b c d e).up) (fun a b c d e => (he a b c d e).up) hs, sim_lcM hu s (sim_upG g us) (sim_upT tt) (sim_upE te)⟩
@[simp] def iMu (i : Nat) : DAM := fun ρ M P => ∃ (k : Nat) (ds : List D), ρ[i]? = some (some (.mu k)) ∧ M[k]? = some (.lst ds) ∧ P (fun M => M[k]? = some (.lst ds)) ds M
theorem pdi_mu (i : Nat) {x : Str} {tg : Expr} {pos : Pos} (hN : X.N[i]? = some x := by rfl) (hv : Vis X.env.scope x := by first | exact Or.inl rfl | exact Or.inr (Or.inl rfl) | exact Or.inr (Or.inr rfl)) (hd : (x == ("__debug__" : Str)) = false := by decide)
    (hcd : (x == ("__classdict__" : Str)) = false := by decide) : PDIM X tg (.Name x pos) (iMu i) := by
  refine ⟨_, pi_list (pv i hN hv hd hcd), ?_⟩
  intro as σ ρ L H M P R hE A h q
  obtain ⟨k, ds, hk, hm, p⟩ := h
  obtain ⟨v, hv, rv⟩ := hE.at_ i _ hk
  cases rv with
  | mu ha =>
    rename_i a
    obtain ⟨xs, g1, g2⟩ := A.lst ha hm
    refine ⟨_, hv, a, rfl, ⟨xs, .inl (.inl g1)⟩, q _ _ ds L H M .refl A p hm fun L' H' M' e A' hm' => ?_⟩
    obtain ⟨ys, g3, g4⟩ := A'.lst ha hm'
    have h1 : SqL X.K H' a ys := .inl (.inl g3)
    refine ⟨fun i hi => ⟨?_, fun x H2 y => ?_⟩, ys, h1, by rw [g4.length]; exact Nat.le_refl _⟩
    · have hx : i < ys.length := by rw [g4.length]; exact hi
      exact ⟨ys, ys[i], h1, List.getElem?_eq_getElem hx⟩
    · obtain ⟨rfl, hy⟩ := y
      obtain ⟨d, hd, rd⟩ := g4.getV (hy ys h1)
      exact ⟨d, L', hd, .refl, A', rd⟩
end
def rNinS (K : PySem.W.Frag) : R2 := fun x y H Q => ∃ d ds, Dp K H x d ∧ (Dp K H y (.list ds) ∧ SeqAt.shaped (.list ds) = true ∨ Dp K H y (.tuple ds) ∧ SeqAt.shaped (.tuple ds) = true) ∧ SeqAt.shaped d = true ∧ d.depth ≤ 60 ∧ Q (.bl (!ds.any fun z => PyData.eqv z d)) H
theorem op_ninS {X : Cx} (hu : X.A.units + 64 < cLine) : OpR X (compareOp .NotIn) (rNinS X.K) := by
  intro pins s σ H x y v u Q I r1 r2 h
  obtain ⟨d, ds, h1, h2, h3, hd, q⟩ := h
  obtain ⟨bs, rx⟩ := Dp.reads I d x v h1 r1
  rcases h2 with ⟨h2, h4⟩ | ⟨h2, h4⟩
  · obtain ⟨as, ry⟩ := Dp.reads I _ y u h2 r2
    have hc := SeqAt.canLay_of_shaped h4
    refine SeqAt.notIn_list_reads ry rx (by simpa [PyData.canLay0] using hc) (SeqAt.canLay_of_shaped h3) (by omega) ⟨.bl _, H, I, rfl, q⟩
  · obtain ⟨as, ry⟩ := Dp.reads I _ y u h2 r2
    have hc := SeqAt.canLay_of_shaped h4
    refine SeqAt.notIn_tuple_reads ry rx (by simpa [PyData.canLay0] using hc) (SeqAt.canLay_of_shaped h3) (by omega) ⟨.bl _, H, I, rfl, q⟩
@[simp] def oNinS : D2 := fun x y M P => ∃ ds, isSeq y ds ∧ okD x = true ∧ okD y = true ∧ (toP x).depth ≤ 60 ∧ P (.bl (!ds.any fun z => eqD z x)) M
theorem sr_ninS {K : PySem.W.Frag} : SimR K (rNinS K) oNinS := by
  intro as L H M x y d e P Q A r1 r2 ⟨ds, h1, h2, h3, h4, p⟩ q
  have e1 := Bool.and_eq_true_iff.mp h2
  have e2 := Bool.and_eq_true_iff.mp h3
  have d1 := r1.dp A.low e1.1
  have d2 := r2.dp A.low e2.1
  have : (toPA ds).any (fun z => PyData.eqv z (toP d)) = ds.any fun z => eqD z d := by rw [toPA_map, List.any_map]; rfl
  rcases h1 with rfl | rfl
  · refine ⟨toP d, toPA ds, d1, .inl ⟨d2, e2.2⟩, e1.2, h4, ?_⟩
    rw [this]
    exact q _ _ L H M .refl A p (.bl _)
  · refine ⟨toP d, toPA ds, d1, .inr ⟨d2, e2.2⟩, e1.2, h4, ?_⟩
    rw [this]
    exact q _ _ L H M .refl A p (.bl _)
end Pd
set_option Elab.async false
set_option linter.all false
set_option maxRecDepth 100000
set_option maxHeartbeats 1000000
namespace Pd
open PySem PySem.Spec PyProof.Rows L2 PySem.HandSPX
mutual
def noL : PyData → Bool
  | .list _ => false
  | .dict _ => false
  | .tuple xs => noLA xs
  | _ => true
def noLA : List PyData → Bool
  | [] => true
  | x :: xs => noL x && noLA xs
end
section
variable {P : Program} {w : World} {K : PySem.W.Frag} {mg : Str → Option Value} {base : Heap} {A : Around} {outer : List Env} {s : Shared} {H : Hp}
def dlen : D → Nat
  | .tup ds => ds.length
  | _ => 0
/-- what the lambda tells of a row -/
def keyL (d : D) : PyData := .tuple [.int (dlen d), toP d]
structure KeyOk (rows : List D) : Prop where
  tup : ∀ d ∈ rows, ∃ ds, d = .tup ds
  pl : ∀ d ∈ rows, plain d = true
  no : ∀ d ∈ rows, noL (toP d) = true
  al : PySem.W.AllAlike (rows.map keyL)
  dp : ∀ d ∈ rows, (toP d).depth ≤ 60
def sortK (rows : List D) : List D := rows.mergeSort (PySem.W.dataLe false keyL)
end
@[simp] def dSortK (P : Addr) (lq : Str) (tl : DA) : DE := fun ρ M Q => tl ρ M fun ds M1 => (∃ j : Nat, M1[j]? = some (MO.tab P lq)) ∧ ∃ rows : List D, ds = [.lst rows] ∧ KeyOk rows ∧ Q (.lst (sortK rows)) M1
end Pd
set_option Elab.async false
set_option linter.all false
set_option maxRecDepth 100000
set_option maxHeartbeats 1000000
namespace Pd
open PySem PySem.Spec PyProof.Rows L2
@[simp] def oLenM : DC := fun xs M P => ∃ (k : Nat) (es : List D), xs = [.mu k] ∧ M[k]? = some (.lst es) ∧ P (.int es.length) M
end Pd
set_option Elab.async false
set_option linter.all false
set_option maxRecDepth 100000
set_option maxHeartbeats 1000000
namespace Pd
open PySem PySem.Spec PyProof.Rows L2
theorem At.dic {K : PySem.W.Frag} {as : List Addr} {M : Ms} {L H : Hp} {k : Nat} {a : Addr} {ks : List Key} {ds : List D} (A : At K as M L H) (h : as[k]? = some a) (hm : M[k]? = some (.dic ks ds)) : ∃ vs, H a = some (.dK (ks.zip vs)) ∧ ks.length = vs.length ∧ RpA K as L vs ds := by
  obtain ⟨_, o, h1, h2, _⟩ := A.mo k a _ h hm
  cases h2 with
  | dic l r => exact ⟨_, h1, l, r⟩
/-- what d[k] = v makes of a dict -/
def hasK (ks : List Key) (k : Key) : Bool := ks.any fun j => decide (j = k)
def putM (ks : List Key) (ds : List D) (k : Key) (v : D) : MO := if hasK ks k = true then .dic ks (List.zipWith (fun j x => if j = k then v else x) ks ds) else .dic (ks ++ [k]) (ds ++ [v])
@[simp] def sBuildD (i : Nat) (t rest : DS) : DS := fun De ρ M => t { nx := (fun ρ' M' => ∃ M3 ks ds, M' = M3 ++ [MO.dic ks ds] ∧ M3.length = M.length ∧ apartM M.length M3 = true ∧ apartA M.length ds = true ∧ (ρ'[i]? = some (some (D.mu M.length))) ∧ rest De ((clean M.length ρ').set i (some (.dic ks ds))) M3), rt := cutR M.length De.rt, bk := cutE M.length De.bk, ct := cutE M.length De.ct } (ρ.set i (some (.mu M.length))) (M ++ [.dic [] []])
@[simp] def sSetD (to ti te : DE) : DS := fun De ρ M => te ρ M fun v M1 => to ρ M1 fun x M2 => ti ρ M2 fun y M3 => ∃ (k : Nat) (ks : List Key) (ds : List D) (j : Key), x = .mu k ∧ y = keyD j ∧ M3[k]? = some (.dic ks ds) ∧ ks.length < sizeLine ∧ De.nx ρ (M3.set k (putM ks ds j v))
@[simp] def dGetM (td ty tx : DE) : DE := fun ρ M P => td ρ M fun d M1 => ∃ k : Nat, d = .mu k ∧ (∃ ks ds, M1[k]? = some (.dic ks ds)) ∧ ty ρ M1 fun y M2 => tx ρ M2 fun z M3 => ∃ ks ds j, M3[k]? = some (.dic ks ds) ∧ y = keyD j ∧ P ((dicGet ks ds j).getD z) M3
end Pd
set_option Elab.async false
set_option linter.all false
set_option maxRecDepth 100000
set_option maxHeartbeats 2000000
namespace Pd
open PySem PySem.Spec PyProof.Rows L2
@[simp] def oTupOwn (C : Addr) (f : Str) (WL : DC) : DC := fun xs M P => ∃ gs ds, xs = [.ins C gs] ∧ gs.lookup f = some (.tup ds) ∧ WL xs M fun z M' => ∃ i : Int, z = .int i ∧ (0 ≤ i ∧ i < 16777216) ∧ P (.tup ds) M'
end Pd
set_option Elab.async false
set_option linter.all false
set_option maxRecDepth 100000
set_option maxHeartbeats 1000000
namespace Pd
open PySem PySem.Spec PyProof.Rows L2
@[simp] def dGetK (td ty : DE) : DE := fun ρ M P => td ρ M fun d M1 => ∃ ks ds, d = .dic ks ds ∧ ty ρ M1 fun y M2 => ∃ j v, y = keyD j ∧ dicGet ks ds j = some v ∧ P v M2
end Pd
set_option Elab.async false
set_option linter.all false
set_option maxRecDepth 100000
set_option maxHeartbeats 1000000
namespace Pd
open PySem PySem.Spec PyProof.Rows L2
@[simp] def sKeepR (i : Nat) (tl : DA) (t : DS) : DS := fun De ρ M => tl ρ M fun ds0 M1 => t { nx := cutE M1.length De.nx, rt := (fun d M' => ∃ M3 ds, M' = M3 ++ [MO.lst ds] ∧ M3.length = M1.length ∧ apartM M1.length M3 = true ∧ apartA M1.length ds = true ∧ d = .mu M1.length ∧ De.rt (.lst ds) M3), bk := cutE M1.length De.bk, ct := cutE M1.length De.ct } (ρ.set i (some (.mu M1.length))) (M1 ++ [.lst ds0])
section
variable {X : Cx} {e0 : Expr} {sts : List Stmt} {t : DS} {tl : DA} {pos : Pos}
theorem pdss_keepR {i : Nat} {y : Str} {p' : Pos} (hN : X.N.Nodup) (h0 : PDL X e0 tl) (ht : PDSs X sts t) (hi : X.N[i]? = some y := by rfl) (hy : Loc X.env.scope y := by first | exact Or.inl rfl | exact Or.inr rfl) (hs : swapsWith e0 (some (.Name y p')) pos.line X.env = pure false := by rfl)
    (hf : X.fn y = true ∨ X.env.scope.names.lookup y = some .local := by first | exact .inl rfl | exact .inr rfl | assumption) : PDSs X (.Assign [.Name y p'] e0 pos :: sts) (sKeepR i tl t) := by
  obtain ⟨u0, p0, s0⟩ := h0.ex
  obtain ⟨u, pt, stt⟩ := ht.ex
  refine ⟨_, pss_cons (ps_set hN hi hy p0 hs hf) pt, ?_⟩
  intro as σ ρ L0 H0 M0 De D hE0 A0 h c0
  refine s0 as σ ρ L0 H0 M0 _ _ hE0 A0 h fun vs ds0 L H M st0 A h r0 x hx => ?_
  have hE := hE0.mono st0.k st0.pre
  have c := c0.step st0 A
  have xa : x ∉ as := fun z => (A.held z).2 hx
  have lx : L x = none := lowfree A hx
  have Ah : At X.K as M L (upd H x (.lst vs)) := hid_at A hx _
  have sh : Step as L H as L (upd H x (.lst vs)) := hid_step hx _
  have A2 := Ah.add (xs := vs) (ds := ds0) upd_same lx xa r0
  have gx : (as ++ [x])[M.length]? = some x := by rw [← A.len, List.getElem?_append_right (Nat.le_refl _), Nat.sub_self]; rfl
  have E2 : En X.K (as ++ [x]) L (σ.set i (some (.ref x))) (ρ.set i (some (.mu M.length))) := (hE.mono (Ex.refl _) (pre_app _ _)).set i (.mu gx)
  have fin : ∀ {d : Rho → Ms → Prop} {v : L2.St → Hp → Prop}, EndN X.K as L H d v → EndN X.K (as ++ [x]) L (upd H x (.lst vs)) (cutE M.length d) v := by
    intro d v hd σ' ρ' L' H' M' s' A' e' q
    obtain ⟨M3, m', rfl, hl, hap, q⟩ := q
    rw [← A.len] at hap q
    exact hd σ' _ L' H' M3 (sh.cutx Ah hx s') (A'.cut hap) e'.cut q
  refine stt (as ++ [x]) _ _ L (upd H x (.lst vs)) _ _ _ E2 A2 h ⟨fin c.nx, fun v d L' H' M' s' A' q rv => ?_, fin c.bk, fin c.ct⟩
  obtain ⟨M3, ds, rfl, hl, hap, hapd, rfl, q⟩ := q
  obtain ⟨L4, x4, s4, A4, r4⟩ := list_outN A hx s' A' hl hapd hap
  have ev : v = .ref x := by
    cases rv with
    | mu hk => rw [gx] at hk; cases hk; rfl
  subst ev
  exact c.rt _ _ L4 H' M3 s4 A4 q r4
end
end Pd
set_option Elab.async false
set_option linter.all false
set_option maxRecDepth 100000
set_option maxHeartbeats 1000000
namespace Pd
open PySem PySem.Spec PyProof PyProof.Rows L2
@[simp] def oRepLL : D2 := fun x y M P => ∃ (ds : List D) (k : Int), x = .lst ds ∧ y = .int k ∧ -(2 ^ 63) ≤ k ∧ k < 2 ^ 63 ∧ ds.length * k.toNat ≤ sizeLine ∧ P (.lst (List.replicate k.toNat ds).flatten) M
end Pd
set_option Elab.async false
set_option linter.all false
set_option maxRecDepth 100000
set_option maxHeartbeats 1000000
namespace Pd
open PySem PySem.Spec PyProof PyProof.Rows L2
section
variable {X : Cx} {pos : Pos}
@[simp] def gTuL (n : Nat) (t : DGs) : DG := fun d ρ P => ∃ ds, d = .lst ds ∧ ds.length = n ∧ t ds ρ P
end
end Pd
set_option Elab.async false
set_option linter.all false
set_option maxRecDepth 100000
set_option maxHeartbeats 1000000
namespace Pd
open PySem PySem.Spec PyProof.Rows L2
theorem RpA.eraseIdx {K : PySem.W.Frag} {as : List Addr} {L : Hp} : ∀ {xs : List V} {ds : List D} (i : Nat), RpA K as L xs ds → RpA K as L (xs.eraseIdx i) (ds.eraseIdx i)
  | _, _, _, .nil => .nil
  | _, _, 0, .cons _ t => t
  | _, _, i + 1, .cons r t => .cons r (RpA.eraseIdx i t)
@[simp] def dPopA (i : Nat) (te : DE) : DE := fun ρ M P => ∃ k, ρ[i]? = some (some (.mu k)) ∧ (∃ ds, M[k]? = some (.lst ds)) ∧ te ρ M fun d M1 => ∃ (ds : List D) (n : Nat) (y : D), d = .int n ∧ M1[k]? = some (.lst ds) ∧ (n : Int) < 2 ^ 63 ∧ ds[n]? = some y ∧ P y (M1.set k (.lst (ds.eraseIdx n)))
@[simp] def lLstR (t : DE) : DA := fun ρ M P => t ρ M fun x M1 => ∃ n : Nat, x = .int n ∧ n ≤ 1000 ∧ P (dI ((List.range n).map fun (i : Nat) => (i : Int))) M1
@[simp] def sBuild2 (i j : Nat) (tl : DA) (t rest : DS) : DS := fun De ρ M => tl ρ M fun ds0 M1 => t { nx := (fun ρ' M' => ∃ M4 ds, M' = M4 ++ [MO.lst ds] ∧ M4.length = (M1 ++ [MO.lst ds0]).length ∧ apartM (M1 ++ [MO.lst ds0]).length M4 = true ∧ apartA (M1 ++ [MO.lst ds0]).length ds = true ∧ (ρ'[j]? = some (some (D.mu (M1 ++ [MO.lst ds0]).length))) ∧ cutE M1.length (rest De) ((clean (M1 ++ [MO.lst ds0]).length ρ').set j (some (.lst ds))) M4), rt := cutR (M1 ++ [MO.lst ds0]).length (cutR M1.length De.rt), bk := cutE (M1 ++ [MO.lst ds0]).length (cutE M1.length De.bk), ct := cutE (M1 ++ [MO.lst ds0]).length (cutE M1.length De.ct) } ((ρ.set i (some (.mu M1.length))).set j (some (.mu (M1 ++ [MO.lst ds0]).length))) (M1 ++ [.lst ds0] ++ [.lst []])
end Pd
set_option Elab.async false
set_option linter.all false
namespace Pd
open PySem PySem.Spec PyProof.Rows L2
end Pd
set_option Elab.async false
set_option linter.all false
namespace Pd
open PySem PySem.Spec PyProof.Rows L2
end Pd
set_option Elab.async false
set_option linter.all false
namespace Pd
open PySem PySem.Spec PyProof.Rows L2
@[simp] def oNeM : D2 := fun x y M P => ∃ k ds, x = .mu k ∧ M[k]? = some (.lst ds) ∧ okD (.lst ds) = true ∧ okD y = true ∧ P (.bl (!eqD (.lst ds) y)) M
@[simp] def oEqM : D2 := fun x y M P => ∃ k ds, x = .mu k ∧ M[k]? = some (.lst ds) ∧ okD (.lst ds) = true ∧ okD y = true ∧ P (.bl (eqD (.lst ds) y)) M
end Pd
set_option Elab.async false
set_option linter.all false
set_option maxRecDepth 100000
set_option maxHeartbeats 1000000
namespace Pd
open PySem PySem.Spec PyProof.Rows L2
section
variable {X : Cx} {e : Expr} {te : TE} {t : DE}
@[simp] def dRevT (t : DE) : DE := fun ρ M P => t ρ M fun d M1 => ∃ ds, d = .tup ds ∧ P (.tup ds.reverse) M1
end
@[simp] def oNotB : D2 := fun x y M P => ∃ a b, x = .bl a ∧ y = .bl b ∧ P (.bl (a != b)) M
end Pd
set_option Elab.async false
set_option linter.all false
set_option maxRecDepth 100000
set_option maxHeartbeats 3200000
namespace Pd
open PySem PySem.Spec PyProof.Rows L2
theorem minD_fold : ∀ (xs : List PyData) (x : PyData), PySem.W.minD x xs ∈ x :: xs ∧ ∀ z ∈ x :: xs, PySem.W.dataLt z (PySem.W.minD x xs) = false
  | [], x => ⟨List.mem_cons_self, fun z hz => by rw [List.mem_singleton.mp hz]; exact PyProof.Rows.lex_irrefl (O := PyProof.Rows.itemOrd) _⟩
  | y :: r, x => by
    have e : PySem.W.minD x (y :: r) = PySem.W.minD (if PySem.W.dataLt y x = true then y else x) r := rfl
    have ih := minD_fold r (if PySem.W.dataLt y x = true then y else x)
    rw [e]
    by_cases c : PySem.W.dataLt y x = true
    · rw [if_pos c] at ih ⊢
      refine ⟨List.mem_cons_of_mem _ ih.1, fun z hz => ?_⟩
      rcases List.mem_cons.mp hz with rfl | hz
      · cases h : PySem.W.dataLt z (PySem.W.minD y r) with
        | false => rfl
        | true =>
          have := PyProof.Rows.lex_trans (O := PyProof.Rows.itemOrd) _ _ _ c h
          rw [show PyProof.Rows.lexLt PyProof.Rows.itemOrd (PySem.W.keyToks y) (PySem.W.keyToks (PySem.W.minD y r)) = false from ih.2 y List.mem_cons_self] at this
          cases this
      · exact ih.2 z hz
    · have c' : PySem.W.dataLt y x = false := by simpa using c
      rw [if_neg c] at ih ⊢
      refine ⟨?_, fun z hz => ?_⟩
      · rcases List.mem_cons.mp ih.1 with h | h
        · rw [h]; exact List.mem_cons_self
        · exact List.mem_cons_of_mem _ (List.mem_cons_of_mem _ h)
      rcases List.mem_cons.mp hz with rfl | hz
      · exact ih.2 z List.mem_cons_self
      · rcases List.mem_cons.mp hz with rfl | hz
        · cases h : PySem.W.dataLt z (PySem.W.minD x r) with
          | false => rfl
          | true =>
            rcases PyProof.Rows.lex_negTrans (O := PyProof.Rows.itemOrd) _ (PySem.W.keyToks x) _ h with h1 | h1
            · rw [show PyProof.Rows.lexLt PyProof.Rows.itemOrd (PySem.W.keyToks z) (PySem.W.keyToks x) = false from c'] at h1; cases h1
            · rw [show PyProof.Rows.lexLt PyProof.Rows.itemOrd (PySem.W.keyToks x) (PySem.W.keyToks (PySem.W.minD x r)) = false from ih.2 x List.mem_cons_self] at h1; cases h1
        · exact ih.2 z (List.mem_cons_of_mem _ hz)
theorem vals_at : ∀ {vs : List V} {us : List Value}, Vals vs us → ∀ (i : Nat) (u : Value), us[i]? = some u → ∃ v, vs[i]? = some v ∧ RelV v u
  | _, _, .nil, i, u, h => by simp at h
  | _, _, .cons r t, 0, u, h => ⟨_, rfl, by rw [← Option.some.inj (show some _ = some u from h)]; exact r⟩
  | _, _, .cons r t, i + 1, u, h => vals_at t i u (by simpa using h)
def rMinD (K : PySem.W.Frag) : List V → Hp → VK → Prop := fun xs H Q => ∃ (l : Addr) (b0 : V × D) (bs : List (V × D)), xs = [.ref l] ∧ SqL K H l ((b0 :: bs).map (·.1)) ∧ DpAll K H ((b0 :: bs).map (·.1)) ((b0 :: bs).map fun b => toP b.2) ∧ PySem.W.AlikeAll ((b0 :: bs).map fun b => toP b.2) ∧ PyData.depthAll ((b0 :: bs).map fun b => toP b.2) ≤ 60 ∧
  ∀ b ∈ b0 :: bs, (∀ c ∈ b0 :: bs, PySem.W.dataLt (toP c.2) (toP b.2) = false) → Q b.1 H
theorem cr_minD {X : Cx} (hc : X.calm = true) (hu : X.A.units + 64 < cLine) : CallR X (.builtin "min") (rMinD X.K) := by
  intro pins s σ H vs us Q I r h
  obtain ⟨l, b0, bs, rfl, hs, hd, hal, hdp, q⟩ := h
  obtain ⟨its, rv, hl, _⟩ := I.list hs
  rw [Vals.ref1 r]
  obtain ⟨as, hr⟩ := Dp.readsAll I _ _ _ hd rv
  refine PySem.W.min_list_data (x := toP b0.2) (xs := bs.map fun b : V × D => toP b.2) (I.ok.hd hc) hl.isList (show ReadsAll s.heap its.toArray.toList (toP b0.2 :: bs.map fun b => toP b.2) as from hr) hal (by show X.A.units + 1 + PyData.depthAll ((b0 :: bs).map fun b => toP b.2) < cLine; omega) fun i v h' tk cs hi hv hk => ?_
  have hi' : its[i]? = some v := by simpa using hi
  obtain ⟨as1, r1, hlt, m1, _⟩ := PySem.W.readsAll_at hr i v hi'
  have hlt' : i < (b0 :: bs).length := by rwa [List.length_map] at hlt
  have e1 : ((b0 :: bs).map fun b => toP b.2).getD i .none = toP (b0 :: bs)[i].2 := by
    rw [List.getD_eq_getElem?_getD, List.getElem?_map, List.getElem?_eq_getElem hlt']; rfl
  rw [e1] at r1 m1
  obtain ⟨g1, g2⟩ := minD_fold (bs.map fun b => toP b.2) (toP b0.2)
  have e2 : toP (b0 :: bs)[i].2 = PySem.W.minD (toP b0.2) (bs.map fun b => toP b.2) := PySem.W.alike_unique _ _ v _ _ (hal.1 _ m1 _ g1) (PySem.W.reads_keeps hk r1) hv
  obtain ⟨vv, h1, h2⟩ := vals_at rv i v hi'
  rw [List.getElem?_map, List.getElem?_eq_getElem hlt'] at h1
  have h3 : vv = (b0 :: bs)[i].1 := (Option.some.inj h1).symm
  subst h3
  exact ⟨_, H, I.kept (t' := tk) hk, h2, q _ (List.getElem_mem hlt') fun c hc' => by rw [e2]; exact g2 _ (List.mem_map_of_mem (f := fun b : V × D => toP b.2) hc')⟩
/-- min of plain data that can be compared: one of the least -/
structure MinOk (rows : List D) : Prop where
  ne : rows ≠ []
  pl : plainA rows = true
  al : PySem.W.AlikeAll (toPA rows)
  dp : PyData.depthAll (toPA rows) ≤ 60
@[simp] def oMinD : DC := fun ds M P => ∃ rows : List D, ds = [.lst rows] ∧ MinOk rows ∧ ∀ d ∈ rows, (∀ c ∈ rows, PySem.W.dataLt (toP c) (toP d) = false) → P d M
theorem sc_minD {K : PySem.W.Frag} : SimC K (rMinD K) oMinD := by
  intro as L H M xs ds P Q A r h q
  obtain ⟨rows, rfl, ok, p1⟩ := h
  cases r with
  | cons r1 r2 =>
    cases r2
    cases r1 with
    | lst hs ra =>
      have hd := RpA.dp' A.low _ _ ra ok.pl
      obtain ⟨bs, rfl, e2, hk⟩ := rp_zipP ra
      have em : toPA rows = bs.map fun b => toP b.2 := by rw [toPA_map, ← e2, List.map_map]; rfl
      have hin : ∀ b ∈ bs, b.2 ∈ rows := fun b hb => by rw [← e2]; exact List.mem_map_of_mem hb
      have hal := ok.al
      have hdp := ok.dp
      rw [em] at hd hal hdp
      cases bs with
      | nil => exact absurd e2.symm ok.ne
      | cons b0 bs =>
        refine ⟨_, b0, bs, rfl, ex_l A.low hs, hd, hal, hdp, fun b hb hmin => ?_⟩
        refine q _ _ L H M .refl A (p1 b.2 (hin b hb) fun c hc => ?_) (hk b hb)
        rw [← e2] at hc
        obtain ⟨c', h1, rfl⟩ := List.mem_map.mp hc
        exact hmin c' h1
end Pd
set_option Elab.async false
set_option linter.all false
set_option maxRecDepth 100000
set_option maxHeartbeats 3200000
namespace Pd
open PySem PySem.Spec PyProof.Rows L2
section
variable {X : Cx} {e o : Expr} {t td te : DE} {pos p : Pos}
def tTCnt (td te : TE) : TE := fun σ H Q => td σ H fun x H1 => ∃ (a : Addr) (ob : Obj) (ns : List Int), x = .ref a ∧ H1 a = some (.frz ob (.tup (ns.map V.int))) ∧ ob.cls = .type "tuple" ∧ ob.dict = none ∧ tCons te tNil σ H1 fun vs H2 => ∃ k : Int, vs = [.int k] ∧ H2 a = some (.frz ob (.tup (ns.map V.int))) ∧ Q (.int ((ns.countP fun y => decide (y = k) : Nat))) H2
theorem pe_tcnt {ap pos : Pos} (hu : X.A.units + 64 < cLine) {to te : TE} (ho : PE X o to) (he : PE X e te) (hab : attributeBase o "count" X.env (eval o X.env) = eval o X.env := by rfl) (hs : starEach [e] X.env = (false, eval e X.env) :: starEach [] X.env := by rfl)
    (hfew : (((backTo pos (starEach [e] X.env)).all fun x => !x.1) && ((backToKw pos (keywordEach [] X.env)).all fun x => x.1.isSome) && decide ([e].length + ([] : List Keyword).length + (if ([] : List Keyword).isEmpty = true then 0 else 1) < 30)) = true := by rfl)
    (hline : (ap.endLine == pos.line) = true := by rfl) : PE X (.Call (.Attribute o "count" ap) [e] [] pos) (tTCnt to te) := by
  refine ⟨fun pins s σ H Q I h => ?_⟩
  refine wpAny_Call_method hab hfew hline PySem.F.plainAttrs_tuple PySem.F.slot_tuple_count PySem.F.type_tuple_count (thn (ho.run pins s σ H _ I h) fun u s1 ⟨x, H1, I1, rx, q⟩ => ?_)
  obtain ⟨a, ob, ns, rfl, ha, hc, hd, q⟩ := q
  obtain rfl : u = Value.ref a := rx
  have hg : s1.heap.get? a = some ob := (I1.hok a _ ha).1
  refine ⟨⟨ob, hg, hc⟩, fun b eb => by cases eb; exact ⟨ob, hg, hd⟩, ?_⟩
  refine callWith_method1 (first := [.ref a]) (thn ((pa_cons he pa_nil hs).run pos pins s1 σ H1 (fun vs H2 => ∃ k : Int, vs = [.int k] ∧ H2 a = some (.frz ob (.tup (ns.map V.int))) ∧ Q (.int ((ns.countP fun y => decide (y = k) : Nat))) H2) I1 q) fun us s2 ⟨vs, H2, I2, r, k, ek, ha2, q2⟩ => ?_) hs rfl
  subst ek
  obtain ⟨u, rfl, ru⟩ := vals1 r
  obtain ⟨tk, rfl⟩ := ru
  obtain ⟨its, hv, hl, _⟩ := I2.tuple (.inl (.inr ⟨ob, ha2⟩))
  obtain ⟨as, hr⟩ := Dp.readsAll I2 _ _ _ (dp_ints ns) hv
  exact PySem.W.count_tuple_datum (α := Int) hl ⟨as, hr⟩ ⟨_, .int _ _⟩ (by show X.A.units + 1 + 0 < cLine; omega) ⟨.int ((ns.countP fun y => decide (y = k) : Nat)), H2, I2.tok _, ⟨_, rfl⟩, q2⟩
@[simp] def dTCnt (td te : DE) : DE := fun ρ M P => td ρ M fun d M1 => ∃ ns : List Int, d = .tfz ns ∧ te ρ M1 fun y M2 => ∃ k : Int, y = .int k ∧ P (.int ((ns.countP fun y => decide (y = k) : Nat))) M2
theorem pd_tcnt {ap pos : Pos} (hu : X.A.units + 64 < cLine) (ho : PD X o td) (he : PD X e te) (hab : attributeBase o "count" X.env (eval o X.env) = eval o X.env := by rfl) (hs : starEach [e] X.env = (false, eval e X.env) :: starEach [] X.env := by rfl)
    (hfew : (((backTo pos (starEach [e] X.env)).all fun x => !x.1) && ((backToKw pos (keywordEach [] X.env)).all fun x => x.1.isSome) && decide ([e].length + ([] : List Keyword).length + (if ([] : List Keyword).isEmpty = true then 0 else 1) < 30)) = true := by rfl)
    (hline : (ap.endLine == pos.line) = true := by rfl) : PD X (.Call (.Attribute o "count" ap) [e] [] pos) (dTCnt td te) := by
  obtain ⟨uo, po, so⟩ := ho.ex
  obtain ⟨u, pe, s⟩ := he.ex
  refine ⟨_, pe_tcnt hu po pe hab hs hfew hline, ?_⟩
  intro as σ ρ L H M P Q hE A h q
  refine so as σ ρ L H M _ _ hE A h fun v d L1 H1 M1 s1 A1 h1 r1 => ?_
  obtain ⟨ns, rfl, h1⟩ := h1
  cases r1 with
  | tfz hf =>
    obtain ⟨ob, hf, hc, hd⟩ := hf
    refine ⟨_, ob, ns, rfl, A1.low _ _ hf, hc, hd, ?_⟩
    refine s as σ ρ L1 H1 M1 _ _ (hE.mono s1.k s1.pre) A1 h1 fun v d L2 H2 M2 s2 A2 h2 r2 => ?_
    obtain ⟨k, rfl, p⟩ := h2
    cases r2
    exact ⟨k, rfl, A2.low _ _ (s2.k _ _ hf), q _ _ L2 H2 M2 (s1.trans A1 s2) A2 p (.int _)⟩
end
section
variable {X : Cx} {es : List Expr} {tl : DA} {pos : Pos}
def tTupF (t : TA) : TE := fun σ H Q => t σ H fun xs H1 => xs.length ≤ sizeLine ∧ ∀ (p : Addr) (o : Obj), o.cls = .type "tuple" → o.dict = none → H1 p = none → Q (.ref p) (upd H1 p (.frz o (.tup xs)))
theorem pe_tupF {t : TA} {x1} (h : PA X es t) : PE X (.Tuple es x1 pos) (tTupF t) := by
  refine ⟨fun pins s σ H Q I hq => ?_⟩
  refine wpAny_Tuple_spliced (thn (h.run pos pins s σ H _ I hq) fun us s1 ⟨xs, H1, I1, r, z, q⟩ => ⟨by rw [← r.length]; exact z, ?_⟩)
  have g0 : s1.heap.get? s1.heap.objs.size = none := by
    cases e : s1.heap.get? s1.heap.objs.size with
    | none => rfl
    | some o => exact absurd (Heap.lt_size e) (Nat.lt_irrefl _)
  have hf : H1 s1.heap.objs.size = none := I1.hok.fresh (Nat.le_refl _)
  refine ⟨.ref s1.heap.objs.size, _, I1.laidN (t' := s1.toks) (a := s1.heap.objs.size) (o := .frz { cls := .type "tuple", data := .seq us.toArray } (.tup xs)) (fun b u e => Heap.get?_push_of_some _ e) g0 hf ⟨Heap.get?_push_size _ rfl, z, us, r, ⟨_, Heap.get?_push_size _ rfl, rfl, _, rfl⟩⟩, rfl, q _ _ rfl rfl hf⟩
@[simp] def dTupF (tl : DA) : DE := fun ρ M P => tl ρ M fun ds M1 => ∃ ns : List Int, ds = dI ns ∧ ds.length ≤ sizeLine ∧ P (.tfz ns) M1
theorem pd_tupF {x1} (h : PDA X es tl) : PD X (.Tuple es x1 pos) (dTupF tl) := by
  obtain ⟨u, p, s⟩ := h.ex
  refine ⟨_, pe_tupF p, ?_⟩
  intro as σ ρ L H M P Q hE A h q
  refine s as σ ρ L H M _ _ hE A h fun vs ds L1 H1 M1 s1 A1 h1 r1 => ?_
  obtain ⟨ns, rfl, hz, h1⟩ := h1
  have ev := r1.ints
  subst ev
  refine ⟨by rw [r1.length]; exact hz, fun p o hc hd hp => ?_⟩
  exact q _ _ _ _ M1 (s1.trans A1 (Step.know A1 hp)) (A1.know hp) h1 (.tfz ⟨o, upd_same, hc, hd⟩)
end
end Pd
set_option Elab.async false
set_option linter.all false
set_option maxRecDepth 100000
set_option maxHeartbeats 3200000
namespace Pd
open PySem PySem.Spec PyProof.Rows L2
@[simp] def oCatF : D2 := fun x y M P => ∃ a b : List Int, x = .tfz a ∧ y = .tfz b ∧ a.length + b.length ≤ sizeLine ∧ P (.tfz (a ++ b)) M
end Pd
set_option Elab.async false
set_option linter.all false
set_option maxRecDepth 100000
set_option maxHeartbeats 2000000
namespace Pd
open PySem PySem.Spec PyProof.Rows L2 PySem.HandSPX
/-- which clause takes it, and what is told then -/
def PickCR (K : PySem.W.Frag) : List (Addr × Str × Str × Bool) → Addr → List (Str × D) → Str × D → Prop
  | [], _, _, _ => False
  | (C', word, fld, raw) :: r, C, gs, out => ∃ b, PySem.W.exmOne K (.ref C) (.ref C') = some b ∧ (b = true → C = C' ∧ ∃ y, gs.lookup fld = some y ∧ (raw = false → Shows y ∧ out = (word, .str (reprD y))) ∧ (raw = true → out = (word, y))) ∧ (b = false → PickCR K r C gs out)
inductive SaidHsR (K : PySem.W.Frag) (mg : Str → Option Value) (sg : Scope) : List ExceptHandler → List (Addr × Str × Str × Bool) → Prop
  | nil : SaidHsR K mg sg [] []
  | cons {x fld word : Str} {C : Addr} {np hp p1 p2 p3 p4 p5 p6 p7 : Pos} {j} {hds : List ExceptHandler} {l : List (Addr × Str × Str × Bool)} (hx : sg.names.lookup x = some .globalImplicit) (hdx : (x == ("__debug__" : Str)) = false) (hm : mg x = some (.ref C)) (T : XfC K C)
      (hno : PySem.W.findIn K (.ref C) fld = some none) (r : SaidHsR K mg sg hds l) :
      SaidHsR K mg sg (.ExceptHandler (some (.Name x np)) (some "e") [.Return (some (.List [.Constant (.str word) j p1, .Call (.Name "repr" p2) [.Attribute (.Name "e" p3) fld p4] [] p5] p6)) p7] hp :: hds) ((C, word, fld, false) :: l)
  | raw {x fld word : Str} {C : Addr} {np hp p1 p3 p4 p6 p7 : Pos} {j} {hds : List ExceptHandler} {l : List (Addr × Str × Str × Bool)} (hx : sg.names.lookup x = some .globalImplicit) (hdx : (x == ("__debug__" : Str)) = false) (hm : mg x = some (.ref C)) (T : XfC K C)
      (hno : PySem.W.findIn K (.ref C) fld = some none) (r : SaidHsR K mg sg hds l) :
      SaidHsR K mg sg (.ExceptHandler (some (.Name x np)) (some "e") [.Return (some (.List [.Constant (.str word) j p1, .Attribute (.Name "e" p3) fld p4] p6)) p7] hp :: hds) ((C, word, fld, true) :: l)
/-- the reading of a clause's suite -/
def tSaidR (K : PySem.W.Frag) (C : Addr) (word fld : Str) : TH := fun a cls d => tRet (tLst (tCons (tC (.str word)) (tCons (tCB (rReprD K) (tCons (tXf a cls d C fld (tVar 1)) tNil)) tNil)))
def tSaidR' (K : PySem.W.Frag) (C : Addr) (word fld : Str) : TH := fun a cls d => tRet (tLst (tCons (tC (.str word)) (tCons (tXf a cls d C fld (tVar 1)) tNil)))
def saidLR (K : PySem.W.Frag) (cl : List (Addr × Str × Str × Bool)) : List (Value × Nat × TH) := cl.map fun p => (.ref p.1, 1, if p.2.2.2 = true then tSaidR' K p.1 p.2.1 p.2.2.1 else tSaidR K p.1 p.2.1 p.2.2.1)
theorem SaidHsR.clauses {X : Cx} {sg : Scope} {a : Str} (hN : X.N = [a, "e"]) (hsc : X.env.scope = sg) (he : sg.names.lookup ("e" : Str) = some .local) (hrp : sg.names.lookup ("repr" : Str) = some .globalImplicit) (mrp : X.mg "repr" = none) (hgu : X.A.guards = some []) (hu : X.A.units + 64 < cLine) :
    ∀ {hds : List ExceptHandler} {cl : List (Addr × Str × Str × Bool)}, SaidHsR X.K X.mg sg hds cl → Clauses X hds (saidLR X.K cl)
  | _, _, .nil => .nil
  | _, _, .cons (x := x) (fld := fld) (word := word) (C := C) hx hdx hm T hno r => by
    have ke : X.env.kindOf "e" = some .local := by show X.env.scope.names.lookup ("e" : Str) = _; rw [hsc]; exact he
    have kr : X.env.kindOf "repr" = some .globalImplicit := by show X.env.scope.names.lookup ("repr" : Str) = _; rw [hsc]; exact hrp
    refine .cons (by rw [hN]; rfl) ke ⟨by show X.env.scope.names.lookup x = _; rw [hsc]; exact hx, hdx, .inl hm⟩ (fun b oe cls d pn hz hf => ?_) (SaidHsR.clauses hN hsc he hrp mrp hgu hu r)
    have pe : ∀ pp : Pos, PE (X.suite b ((b, oe) :: pn)) (.Name ("e" : Str) pp) (tVar 1) := fun pp => pv 1 (by show X.N[1]? = _; rw [hN]; rfl) (.inl ke)
    exact pss_one (ps_ret (pe_lst (pa_cons pe_str (pa_cons (pe_callB (call_repr (X := X.suite b ((b, oe) :: pn)) hgu hu) kr mrp (by decide +kernel) (pa_cons (pe_xf (pn := pn) T hno hz hf (pe _)) pa_nil)) pa_nil))))
  | _, _, .raw (x := x) (fld := fld) (word := word) (C := C) hx hdx hm T hno r => by
    have ke : X.env.kindOf "e" = some .local := by show X.env.scope.names.lookup ("e" : Str) = _; rw [hsc]; exact he
    refine .cons (by rw [hN]; rfl) ke ⟨by show X.env.scope.names.lookup x = _; rw [hsc]; exact hx, hdx, .inl hm⟩ (fun b oe cls d pn hz hf => ?_) (SaidHsR.clauses hN hsc he hrp mrp hgu hu r)
    have pe : ∀ pp : Pos, PE (X.suite b ((b, oe) :: pn)) (.Name ("e" : Str) pp) (tVar 1) := fun pp => pv 1 (by show X.N[1]? = _; rw [hN]; rfl) (.inl ke)
    exact pss_one (ps_ret (pe_lst (pa_cons pe_str (pa_cons (pe_xf (pn := pn) T hno hz hf (pe _)) pa_nil))))
section
variable {K : PySem.W.Frag}
/-- what the clauses wish, from what is known of the exception -/
theorem pick_wishR {cl : List (Addr × Str × Str × Bool)} {as : List Addr} {M : Ms} {L H : Hp} {C dx : Addr} {gs : List (Str × D)} {fs : List (Str × V)} {out : Str × D} {D : Ends} {σ : L2.St} (A : At K as M L H) (hd : L dx = some (.xd fs)) (rf : RpF K as L fs gs) (hl : 1 < σ.length)
    (h : PickCR K cl C gs out) (q : ∀ p v, H p = none → Rp K as L v out.2 → D.rt (.ref p) (upd H p (.lst [.str out.1, v]))) : wAsM K (fun _ _ _ _ => False) D (saidLR K cl) (.ref C) (some dx) σ H := by
  induction cl with
  | nil => exact h.elim
  | cons p cl ih =>
    obtain ⟨C', word, fld, raw⟩ := p
    obtain ⟨b, hb, h1, h0⟩ := h
    refine ⟨b, hb, fun z a ha => ?_, fun z => ih (h0 z)⟩
    obtain ⟨rfl, y, hy, hf, ht⟩ := h1 z
    obtain ⟨v, hv, rv⟩ := rf.look hy
    cases raw with
    | false =>
      obtain ⟨sw, rfl⟩ := hf rfl
      exact ⟨_, List.getElem?_set_self hl, rfl, rfl, dx, fs, v, rfl, A.low _ _ hd, hv, v, y, as, L, rfl, A.low, rv, sw, by show 2 ≤ sizeLine; decide, fun p hp => q p _ hp (.str _)⟩
    | true =>
      obtain rfl := ht rfl
      exact ⟨_, List.getElem?_set_self hl, rfl, rfl, dx, fs, v, rfl, A.low _ _ hd, hv, by show 2 ≤ sizeLine; decide, fun p hp => q p _ hp rv⟩
end
@[simp] def dSaidR (K : PySem.W.Frag) (P : Addr) (lq : Str) (cl : List (Addr × Str × Str × Bool)) (dn : Str) (tb : DX) : DE := fun ρ M Pp => (∃ j : Nat, M[j]? = some (MO.tab P lq)) ∧
  tb ρ M (fun _ M1 => Pp (.lst [.str dn]) M1) (fun C gs M1 => ∃ out : Str × D, PickCR K cl C gs out ∧ Pp (.lst [.str out.1, out.2]) M1)
section
variable {X : Cx}
theorem pd_saidR {x a dn : Str} {g c P : Addr} {k : Nat} {st : Stmt} {fd : FuncData} {cl : List (Addr × Str × Str × Bool)} {h0 : ExceptHandler} {hds : List ExceptHandler} {params : Arguments} {body : Expr} {scope : Scope} {tb : DX} {p lpos pos p1 p2 p3 p4 p5 p6 p7 : Pos} {j0}
    (hgu : X.A.guards = some []) (Fg : Fun X.K x x st g fd) (Sg : FnScope [a, "e"] [a] (defScope st)) (hb : Binds X.K fd [a] []) (hst : defBody st = [.Try [.Expr (.Call (.Name a p1) [] [] p2) p3] (h0 :: hds) [] [] p4, .Return (some (.List [.Constant (.str dn) j0 p5] p6)) p7])
    (hs : SaidHsR X.K X.mg (defScope st) (h0 :: hds) cl) (hg : Gl X x) (hm : X.mg x = some (.ref g)) (mrp : X.mg "repr" = none) (TB : LamX.TabB X.base X.mg c P) (code : X.env.code = .ref c) (hr : Room (k + 2) X.A) (Ls : LamX.LamS X.env.scope scope) (hdef : defaultsOf params X.env = ([], []))
    (hbind : ∀ (q : Str) (cl : List (Str × Addr)) (pm cv ctv : Value), bindArgs (PySem.W.kla_fn "<lambda>" q params body scope cl pm cv ctv) ⟨[], []⟩ = pure [])
    (hva : (defScope st).names.lookup a = some .local := by rfl) (he : (defScope st).names.lookup ("e" : Str) = some .local := by rfl) (hrp : (defScope st).names.lookup ("repr" : Str) = some .globalImplicit := by rfl)
    (hbody : ∀ (A : Around) (outer : List Env) (s : Shared) (H : Hp) (E : XK) (f c' : Addr), Room k (A.deeper (LamX.lamEnv X scope s.heap.objs.size f c')) → PDX (LamX.lamCx X A outer s H E scope f c') E body tb)
    (hdb : (x == ("__debug__" : Str)) = false := by decide) (hda : (a == ("__debug__" : Str)) = false := by decide) (hca : (a == ("__classdict__" : Str)) = false := by decide) :
    PD X (.Call (.Name x p) [.Lambda params body scope lpos] [] pos) (dSaidR X.K P (X.env.qual ++ "<lambda>") cl dn tb) := by
  refine ⟨upE X.K _, ⟨fun pins s σ H Q I h => ?_⟩, sim_upE _⟩
  obtain ⟨as, ρ, L, M, Pp, hE, A0, ⟨⟨j, hj⟩, ht⟩, q⟩ := h
  obtain ⟨oc, od, kV, doc, pm, an, cdv, ct, osl, rfl, lk, hcd⟩ := Fg.ex
  refine wpAny_Call_Name_kw (ld_glob I hg hm ?_ hdb)
  refine PySem.W.callWith_K (h₀ := X.base) I.ok.mod.kin Fg.kp ?_ (by rfl) (by rfl)
  show wpAny _ _ (spliced ((false, eval (.Lambda params body scope lpos) X.env) :: backTo pos (starEach [] X.env))) _ _ s
  refine Calls.spliced_cons (lam_at I A0 TB code hj hdef (Ls.has I.ok) fun f c' pm' ctv L1 H1 s1 I1 st1 A1 hf hfn hfr hco => ?_)
  refine Calls.spliced_nil ⟨I1.kIn, ?_⟩
  have hE1 := hE.mono st1.k st1.pre
  -- what the lambda's exceptions wish
  have run : codeAny (model X.prog X.w) X.A (.call (.ref g) ⟨[.ref f], []⟩) (CR C8.CX0 X.stack X.prog X.w H1 s1 Q C8.E0) s1 := by
    refine LamX.run_ofS (CX := C8.CX0) (N := [a, "e"]) (ps := [a]) (us := [.ref f]) (vs := [.ref f]) (Q := Q) (E := C8.E0) lk hcd Sg hr I1.env0 (hb s1 [.ref f] I1.kIn rfl) (.cons rfl .nil) rfl fun hr2 => ?_
    rw [hst]
    have hN1 : (L2.start [a, "e"] [V.ref f]) = [some (V.ref f), none] := rfl
    refine ⟨_, pss_cons (ps_try_asM (X := cxOf C8.CX0 X.prog X.w X.K X.mg X.base [a, "e"] x (defScope st) g cdv X.A X.stack s1 H1 C8.E0)
        (tb := fun W D τ G => τ = [some (V.ref f), none] ∧ ∃ Ech : XK, (∀ cls d τ' G', τ'.length = 2 → Ech cls d G' → W cls d τ' G') ∧ G c' = some (LamX.CodeO c' (X.env.qual ++ "<lambda>")) ∧ upEX X.K Ech tb σ G fun _ G' => D.nx [some (V.ref f), none] G')
        rfl rfl Sg.nd LamX.takes0 (fun W pn xe tk _ => ?_) (SaidHsR.clauses (X := cxOf C8.CX0 X.prog X.w X.K X.mg X.base [a, "e"] x (defScope st) g cdv X.A X.stack s1 H1 C8.E0) (a := a) (sg := defScope st) rfl rfl he hrp mrp (show (X.A.deeper _).guards = some [] from hgu) hr2.units hs)) (pss_one (ps_ret (pe_lst (pa_cons pe_str pa_nil)))), ?_⟩
    · refine ⟨fun pins2 s2 τ G D I2 h2 => ?_⟩
      obtain ⟨eτ, Ech, hW, hc2, h3⟩ := h2
      have act := LamX.pe_act (p1 := p1) (p2 := p2) (i := 0) I1 Ls hf hfn hfr (hbind _ _ _ _ _) (Takes.len tk) (fun cls d τ' G' z l => hW cls d τ' G' l z) hr2 (fun A outer s H hr3 => show PE (LamX.lamCx X A outer s H Ech scope f c') body (upEX X.K Ech tb) from (hbody A outer s H Ech f c' hr3).up) rfl (.inl hva) hda hca
      have ex := pss_one (ps_expr (pos := p3) act)
      refine ex.run pins2 s2 τ G D I2 ⟨by rw [eτ]; rfl, hc2, ?_⟩
      rw [eτ]
      exact h3
    · refine ⟨rfl, fun cls d G' => ∃ C gs dx fs L' M', cls = .ref C ∧ d = some dx ∧ Step as L1 H1 as L' G' ∧ At X.K as M' L' G' ∧ (∃ out : Str × D, PickCR X.K cl C gs out ∧ Pp (.lst [.str out.1, out.2]) M') ∧ L' dx = some (.xd fs) ∧ RpF X.K as L' fs gs, fun cls d τ' G' l z => ?_, hco, as, ρ, L1, M, _, _, hE1, A1, ht, fun v dd L' G' M' s2 A2 pp rr => ?_, fun C gs dx fs L' G' M' s2 A2 x2 e2 r2 => ⟨C, gs, dx, fs, L', M', rfl, rfl, s2, A2, x2, e2, r2⟩⟩
      · obtain ⟨C, gs, dx, fs, L', M', rfl, rfl, s2, A2, ⟨out, hp, pp⟩, e2, r2⟩ := z
        refine pick_wishR A2 e2 r2 (by rw [l]; decide) hp fun pa vv hpa rv => ?_
        have lp := lowfree A2 hpa
        exact q _ _ _ _ M' ((st1.trans A1 s2).trans A2 (Step.know A2 hpa)) (A2.know hpa) pp (.lst (.inl (.inl upd_same)) (.cons (.str _) (.cons (rv.mono (Step.know (o := .lst [.str out.1, vv]) A2 hpa).k (Step.know (o := .lst [.str out.1, vv]) A2 hpa).pre) .nil)))
      · refine ⟨by show 1 ≤ sizeLine; decide, fun pa hpa => ?_⟩
        exact q _ _ _ _ M' ((st1.trans A1 s2).trans A2 (Step.know A2 hpa)) (A2.know hpa) pp (.lst (.inl (.inl upd_same)) (.cons (.str _) .nil))
  refine wpAny_call (codeAny_mono run fun r s' hq => ?_)
  match r, hq with
  | .error _, z => exact (show False from z).elim
  | .ok .next, z => exact (show False from z).elim
  | .ok .brk, z => exact (show False from z).elim
  | .ok .cont, z => exact (show False from z).elim
  | .ok (.ret u), z => exact I1.after z
end
end Pd
set_option Elab.async false
set_option linter.all false
set_option maxRecDepth 100000
set_option maxHeartbeats 2000000
namespace Pd
open PySem PySem.Spec PyProof.Rows L2 PySem.HandSPX
@[simp] def tNeverT : DT := fun _ _ _ => False
@[simp] def tNeverE : DE := fun _ _ _ => False
theorem pdw_never {X : Cx} {e : Expr} : PDW X e tNeverT := ⟨fun _ _ _ => False, ⟨fun _ _ _ _ _ _ _ h => h.elim⟩, fun _ _ _ _ _ _ _ _ _ _ h _ => h.elim⟩
end Pd
set_option Elab.async false
set_option linter.all false
set_option maxRecDepth 100000
set_option maxHeartbeats 1000000
namespace Pd
open PySem PySem.W
theorem dataLe_tupI : dataLe false tupP = fun p q : List Int => decide (p ≤ q) := by
  have h : dataLe false tupP = dataLe false (fun b : List Int => .list (b.map .int)) := by
    rw [dataLe_eq, dataLe_eq]
    funext p q
    show (!dataLt (.tuple _) (.tuple _)) = (!dataLt (.list _) (.list _))
    rw [dataLt_tuple, dataLt_list]
  rw [h, dataLe_rows (fun b => b)]
theorem dataLe_lenI : dataLe false (fun r : List Int => .int r.length) = fun p q => decide (p.length ≤ q.length) := by
  rw [dataLe_int (fun r : List Int => (r.length : Int))]
  funext p q
  exact decide_eq_decide.mpr Int.ofNat_le
/-- fewer first, then ascending -/
def grpLe (p q : List Int) : Bool := decide (p.length < q.length ∨ (p.length = q.length ∧ p ≤ q))
theorem grp_total : TotalLe grpLe where
  trans a b c h1 h2 := by
    simp only [grpLe, decide_eq_true_eq] at *
    rcases h1 with h1 | ⟨h1, k1⟩ <;> rcases h2 with h2 | ⟨h2, k2⟩
    · exact .inl (by omega)
    · exact .inl (by omega)
    · exact .inl (by omega)
    · exact .inr ⟨by omega, List.le_trans k1 k2⟩
  total a b := by
    simp only [grpLe, decide_eq_true_eq]
    rcases Nat.lt_trichotomy a.length b.length with h | h | h
    · exact .inl (.inl h)
    · rcases List.le_total a b with k | k
      · exact .inl (.inr ⟨h, k⟩)
      · exact .inr (.inr ⟨h.symm, k⟩)
    · exact .inr (.inl h)
theorem len_total : TotalLe (fun p q : List Int => decide (p.length ≤ q.length)) where
  trans a b c h1 h2 := by simp only [decide_eq_true_eq] at *; omega
  total a b := by simp only [decide_eq_true_eq]; omega
theorem lex_total : TotalLe (fun p q : List Int => decide (p ≤ q)) where
  trans a b c h1 h2 := by simp only [decide_eq_true_eq] at *; exact List.le_trans h1 h2
  total a b := by simp only [decide_eq_true_eq]; exact List.le_total a b
theorem sort_groups (L : List (List Int)) : (L.mergeSort (dataLe false tupP)).mergeSort (dataLe false fun r => .int r.length) = L.mergeSort grpLe := by
  rw [dataLe_tupI, dataLe_lenI]
  refine (sort_unique len_total ?_ fun c => ?_).symm
  · refine (sort_pairwise grp_total L).imp fun {a b} h => ?_
    simp only [grpLe, decide_eq_true_eq] at *
    omega
  · refine List.Perm.eq_of_pairwise (le := fun a b : List Int => a ≤ b) (fun a b _ _ h1 h2 => List.le_antisymm h1 h2) ?_ ?_ ?_
    · refine List.Pairwise.imp_of_mem (fun {a b} ha hb h => ?_) ((sort_pairwise grp_total L).filter _)
      have h1 := (List.mem_filter.mp ha).2
      have h2 := (List.mem_filter.mp hb).2
      simp only [sameRank, grpLe, decide_eq_true_eq, Bool.and_eq_true] at h1 h2 h
      rcases h with h | h
      · omega
      · exact h.2
    · exact ((sort_pairwise lex_total L).filter _).imp fun {a b} h => of_decide_eq_true h
    · exact ((List.mergeSort_perm L _).trans (List.mergeSort_perm L _).symm).filter _
end Pd
set_option Elab.async false
set_option linter.all false
set_option maxRecDepth 100000
set_option maxHeartbeats 1000000
namespace Pd
open PySem PySem.W
def grpsUnd : Nat → List (List Int)
  | 0 => [[]]
  | n + 1 => grpsUnd n ++ (grpsUnd n).map (· ++ [(n : Int)])
def AscBelow (n : Nat) (g : List Int) : Prop := g.Pairwise (· < ·) ∧ ∀ x ∈ g, 0 ≤ x ∧ x < n
theorem grps_first : ∀ n, (grpsUnd n)[0]? = some []
  | 0 => rfl
  | n + 1 => by
    have h := grps_first n
    have hl : 0 < (grpsUnd n).length := by
      rcases Nat.eq_zero_or_pos (grpsUnd n).length with z | z
      · rw [List.getElem?_eq_none (by omega)] at h; cases h
      · exact z
    show (grpsUnd n ++ _)[0]? = _
    rw [List.getElem?_append_left hl]
    exact h
theorem asc_mono {n : Nat} {g : List Int} (h : AscBelow n g) : AscBelow (n + 1) g := ⟨h.1, fun x hx => ⟨(h.2 x hx).1, by have := (h.2 x hx).2; omega⟩⟩
theorem grps_mem : ∀ {n : Nat} {g : List Int}, g ∈ grpsUnd n ↔ AscBelow n g
  | 0, g => by
    show g ∈ [[]] ↔ _
    rw [List.mem_singleton]
    refine ⟨fun h => by subst h; exact ⟨.nil, fun x hx => nomatch hx⟩, fun h => ?_⟩
    cases g with
    | nil => rfl
    | cons x g => have := h.2 x List.mem_cons_self; omega
  | n + 1, g => by
    show g ∈ grpsUnd n ++ (grpsUnd n).map _ ↔ _
    rw [List.mem_append, List.mem_map]
    constructor
    · rintro (h | ⟨g, h, rfl⟩)
      · exact asc_mono (grps_mem.mp h)
      · have k := grps_mem.mp h
        refine ⟨List.pairwise_append.mpr ⟨k.1, List.pairwise_singleton _ _, fun x hx y hy => ?_⟩, fun x hx => ?_⟩
        · rw [List.mem_singleton] at hy; subst hy; exact (k.2 x hx).2
        · rcases List.mem_append.mp hx with hx | hx
          · exact (asc_mono k).2 x hx
          · rw [List.mem_singleton] at hx; subst hx; omega
    · intro h
      rcases List.eq_nil_or_concat g with rfl | ⟨i, x, rfl⟩
      · exact .inl (grps_mem.mpr ⟨.nil, fun x hx => nomatch hx⟩)
      · rw [List.concat_eq_append] at h ⊢
        have hp := List.pairwise_append.mp h.1
        have hx := h.2 x (by simp)
        by_cases e : x = n
        · subst e
          exact .inr ⟨i, grps_mem.mpr ⟨hp.1, fun y hy => ⟨(h.2 y (by simp [hy])).1, hp.2.2 y hy _ (by simp)⟩⟩, rfl⟩
        · refine .inl (grps_mem.mpr ⟨h.1, fun y hy => ⟨(h.2 y hy).1, ?_⟩⟩)
          rcases List.mem_append.mp hy with hy | hy
          · have := hp.2.2 y hy x (by simp); omega
          · rw [List.mem_singleton] at hy; subst hy; omega
end Pd
namespace Spc
open Pd
theorem gtR_eq : ∀ x y : Rw, gtR x y = decide (y < x)
  | [], y => by
    have : ¬ (y < ([] : List Int)) := List.not_lt_nil y
    simp [gtR, this]
  | a :: x, [] => by
    have : ([] : List Int) < a :: x := List.nil_lt_cons a x
    simp [gtR, this]
  | a :: x, b :: y => by
    have ih := gtR_eq x y
    have e : (b :: y < a :: x) ↔ b < a ∨ b = a ∧ y < x := List.cons_lt_cons_iff
    unfold gtR
    by_cases h : a = b
    · subst h
      rw [if_pos rfl, ih]
      simp [e]
    · rw [if_neg h]
      have h' : ¬ b = a := fun z => h z.symm
      simp [e, h']
theorem leD_total (a b : Rw) : (leD a b || leD b a) = true := by
  unfold leD
  by_cases h : a < b
  · have : ¬ b < a := List.lt_asymm h
    simp [this]
  · simp [h]
theorem leD_trans (a b c : Rw) (h1 : leD a b = true) (h2 : leD b c = true) : leD a c = true := by
  unfold leD at *
  simp at *
  exact List.le_trans h2 h1
theorem leD_anti (a b : Rw) (h1 : leD a b = true) (h2 : leD b a = true) : a = b := by
  unfold leD at *
  simp at *
  exact List.le_antisymm h2 h1
theorem insD_perm (x : Rw) : ∀ l, (insD x l).Perm (x :: l)
  | [] => List.Perm.refl _
  | y :: l => by
    unfold insD
    split
    · exact ((insD_perm x l).cons y).trans (List.Perm.swap x y l)
    · exact List.Perm.refl _
theorem srtD_perm : ∀ l, (srtD l).Perm l
  | [] => List.Perm.refl _
  | x :: l => (insD_perm x _).trans ((srtD_perm l).cons x)
theorem insD_sorted (x : Rw) : ∀ l, l.Pairwise (fun a b => leD a b = true) → (insD x l).Pairwise fun a b => leD a b = true
  | [], _ => List.pairwise_singleton _ _
  | y :: l, h => by
    obtain ⟨h1, h2⟩ := List.pairwise_cons.mp h
    unfold insD
    by_cases e : gtR y x = true
    · rw [if_pos e]
      have hyx : leD y x = true := by
        rw [gtR_eq] at e
        have := of_decide_eq_true e
        unfold leD
        have h3 : ¬ y < x := List.lt_asymm this
        simp [h3]
      refine List.pairwise_cons.mpr ⟨fun z hz => ?_, insD_sorted x l h2⟩
      rcases List.mem_cons.mp ((insD_perm x l).mem_iff.mp hz) with rfl | hz
      · exact hyx
      · exact h1 z hz
    · rw [if_neg e]
      have hxy : leD x y = true := by
        rw [gtR_eq] at e
        unfold leD
        simpa using e
      exact List.pairwise_cons.mpr ⟨fun z hz => by
        rcases List.mem_cons.mp hz with rfl | hz
        · exact hxy
        · exact leD_trans _ _ _ hxy (h1 z hz), h⟩
theorem srtD_sorted : ∀ l, (srtD l).Pairwise fun a b => leD a b = true
  | [] => List.Pairwise.nil
  | x :: l => insD_sorted x _ (srtD_sorted l)
theorem sort_eq (l : List Rw) : l.mergeSort leD = srtD l :=
  List.Perm.eq_of_pairwise (fun a b _ _ => leD_anti a b) (List.pairwise_mergeSort leD_trans leD_total l) (srtD_sorted l) ((List.mergeSort_perm l leD).trans (srtD_perm l).symm)
theorem mem_allD {p : Int} (hp : 0 ≤ p) : ∀ {n : Nat} {y : Rw}, y.length = n → (∀ x ∈ y, 0 ≤ x ∧ x < p) → y ∈ allD p n
  | 0, y, hl, _ => by rw [List.length_eq_zero_iff.mp hl]; exact List.mem_singleton.mpr rfl
  | n + 1, y, hl, h => by
    have hne : y ≠ [] := fun z => by rw [z] at hl; cases hl
    have e := List.dropLast_concat_getLast hne
    rw [← e]
    refine List.mem_flatMap.mpr ⟨y.dropLast, mem_allD hp (by rw [List.length_dropLast, hl]; rfl) (fun x hx => h x ((List.dropLast_sublist y).subset hx)), List.mem_map.mpr ⟨y.getLast hne, ?_, rfl⟩⟩
    have := h _ (List.getLast_mem hne)
    refine List.mem_map.mpr ⟨(y.getLast hne).toNat, List.mem_range.mpr (by omega), by omega⟩
theorem allD_mem {p : Int} : ∀ {n : Nat} {y : Rw}, y ∈ allD p n → y.length = n ∧ ∀ x ∈ y, 0 ≤ x ∧ x < p
  | 0, y, h => by rw [List.mem_singleton.mp h]; exact ⟨rfl, fun _ z => nomatch z⟩
  | n + 1, y, h => by
    obtain ⟨d, hd, hy⟩ := List.mem_flatMap.mp h
    obtain ⟨v, hv, rfl⟩ := List.mem_map.mp hy
    obtain ⟨k, hk, rfl⟩ := List.mem_map.mp hv
    obtain ⟨h1, h2⟩ := allD_mem hd
    refine ⟨by rw [List.length_append, h1]; rfl, fun x hx => ?_⟩
    rcases List.mem_append.mp hx with hx | hx
    · exact h2 x hx
    · rw [List.mem_singleton.mp hx]; have := List.mem_range.mp hk; omega
end Spc
set_option Elab.async false
set_option linter.all false
namespace Spc
def InP (p : Int) (r : Rw) : Prop := ∀ x ∈ r, 0 ≤ x ∧ x < p
theorem at_lt {r : Rw} {i : Nat} (h : i < r.length) : at_ r i = r[i] := by
  unfold at_; rw [List.getD_eq_getElem?_getD, List.getElem?_eq_getElem h]; rfl
theorem at_ge {r : Rw} {i : Nat} (h : r.length ≤ i) : at_ r i = 0 := by
  unfold at_; rw [List.getD_eq_getElem?_getD, List.getElem?_eq_none h]; rfl
theorem InP.at {p : Int} {r : Rw} (h : InP p r) (hp : 0 < p) (i : Nat) : 0 ≤ at_ r i ∧ at_ r i < p := by
  by_cases c : i < r.length
  · rw [at_lt c]; exact h _ (List.getElem_mem c)
  · rw [at_ge (by omega)]; exact ⟨Int.le_refl _, hp⟩
theorem mn_len {p t : Int} {a b : Rw} (h : a.length = b.length) : (mn p a b t).length = a.length := by
  unfold mn; rw [List.length_zipWith]; omega
theorem at_mn {p t : Int} {a b : Rw} (h : a.length = b.length) (i : Nat) : at_ (mn p a b t) i = (at_ a i - t * at_ b i) % p := by
  by_cases c : i < a.length
  · have c2 : i < b.length := by omega
    have c3 : i < (mn p a b t).length := by rw [mn_len h]; exact c
    rw [at_lt c3, at_lt c, at_lt c2]
    exact List.getElem_zipWith
  · rw [at_ge (by rw [mn_len h]; omega), at_ge (by omega), at_ge (by omega)]
    simp
theorem mn_in {p t : Int} {a b : Rw} (hp : 0 < p) : InP p (mn p a b t) := by
  intro x hx
  unfold mn at hx
  obtain ⟨i, hi, rfl⟩ := List.mem_iff_getElem.mp hx
  rw [List.getElem_zipWith]
  exact ⟨Int.emod_nonneg _ (by omega), Int.emod_lt_of_pos _ hp⟩
/-- what leads, and where -/
structure Led (W : Nat) (p : Int) (r : Rw) (k : Nat) : Prop where
  len : r.length = W
  inp : InP p r
  lt : k < W
  one : at_ r k = 1
  zer : ∀ j, j < k → at_ r j = 0
theorem Led.ld {W : Nat} {p : Int} {r : Rw} {k : Nat} (h : Led W p r k) : Spc.ld r = k := by
  have hk : k < r.length := by rw [h.len]; exact h.lt
  have h1 : r[k] = 1 := by rw [← at_lt hk]; exact h.one
  unfold Spc.ld
  have hm : (1 : Int) ∈ r := by rw [← h1]; exact List.getElem_mem hk
  have hi : r.idxOf 1 < r.length := List.idxOf_lt_length_iff.mpr hm
  have h2 : r[r.idxOf 1] = 1 := List.getElem_idxOf hi
  rcases Nat.lt_trichotomy (r.idxOf 1) k with c | c | c
  · have := h.zer _ c
    rw [at_lt hi, h2] at this
    omega
  · exact c
  · exact absurd h1 (List.not_of_lt_findIdx (p := (· == 1)) c |> fun z => by simpa using z)
structure Rref (W : Nat) (p : Int) (R : List Rw) : Prop where
  led : ∀ r ∈ R, Led W p r (Spc.ld r)
  pw : R.Pairwise fun r s => at_ s (Spc.ld r) = 0 ∧ at_ r (Spc.ld s) = 0
theorem rmd_len {W : Nat} {p : Int} : ∀ {R : List Rw} {y : Rw}, (∀ r ∈ R, r.length = W) → y.length = W → (rmd p R y).length = W
  | [], _, _, h => h
  | l :: R, y, hR, h => rmd_len (R := R) (fun r hr => hR r (List.mem_cons_of_mem _ hr)) (by rw [mn_len (by rw [h, hR l List.mem_cons_self]), h])
theorem rmd_in {p : Int} (hp : 0 < p) : ∀ {R : List Rw} {y : Rw}, InP p y → InP p (rmd p R y)
  | [], _, h => h
  | l :: R, y, _ => rmd_in hp (R := R) (mn_in hp)
/-- a place where all rows are 0 stays -/
theorem rmd_stay {W : Nat} {p : Int} (hp : 0 < p) {i : Nat} : ∀ {R : List Rw} {y : Rw}, (∀ r ∈ R, r.length = W ∧ at_ r i = 0) → y.length = W → InP p y → at_ (rmd p R y) i = at_ y i
  | [], _, _, _, _ => rfl
  | l :: R, y, hR, h, hi => by
    obtain ⟨h1, h2⟩ := hR l List.mem_cons_self
    show at_ (rmd p R (mn p y l _)) i = _
    rw [rmd_stay hp (R := R) (fun r hr => hR r (List.mem_cons_of_mem _ hr)) (by rw [mn_len (by rw [h, h1]), h]) (mn_in hp), at_mn (by rw [h, h1]), h2, Int.mul_zero, Int.sub_zero]
    have := hi.at hp i
    exact Int.emod_eq_of_lt this.1 this.2
theorem rmd_zero {W : Nat} {p : Int} (hp : 0 < p) : ∀ {R : List Rw} {y : Rw}, Rref W p R → y.length = W → ∀ r ∈ R, at_ (rmd p R y) (Spc.ld r) = 0
  | [], _, _, _, r, hr => by cases hr
  | l :: R, y, hR, h, r, hr => by
    obtain ⟨p1, p2⟩ := List.pairwise_cons.mp hR.pw
    have hl := hR.led l List.mem_cons_self
    have hlen : (mn p y l (at_ y (Spc.ld l))).length = W := by rw [mn_len (by rw [h, hl.len]), h]
    have hR2 : Rref W p R := ⟨fun s hs => hR.led s (List.mem_cons_of_mem _ hs), p2⟩
    show at_ (rmd p R (mn p y l (at_ y (Spc.ld l)))) (Spc.ld r) = 0
    rcases List.mem_cons.mp hr with rfl | hr
    · rw [rmd_stay hp (R := R) (fun s hs => ⟨(hR2.led s hs).len, (p1 s hs).1⟩) hlen (mn_in hp), at_mn (by rw [h, hl.len]), hl.one, Int.mul_one, Int.sub_self]
      simp
    · exact rmd_zero hp hR2 hlen r hr
/-- the first place that is not 0 -/
theorem first {r : Rw} : nz r = true → ∃ k, k < r.length ∧ at_ r k = fst1 r ∧ fst1 r ≠ 0 ∧ ∀ j, j < k → at_ r j = 0 := by
  induction r with
  | nil => intro h; cases h
  | cons a r ih =>
    intro h
    by_cases c : a = 0
    · subst c
      have h2 : nz r = true := h
      obtain ⟨k, h3, h4, h5, h6⟩ := ih h2
      have e : fst1 (0 :: r) = fst1 r := rfl
      refine ⟨k + 1, Nat.succ_lt_succ h3, ?_, ?_, fun j hj => ?_⟩
      · rw [e]; exact h4
      · rw [e]; exact h5
      · cases j with
        | zero => rfl
        | succ j => exact h6 j (by omega)
    · have e : fst1 (a :: r) = a := by
        unfold fst1
        rw [List.filter_cons_of_pos (by simpa using c)]; rfl
      exact ⟨0, Nat.succ_pos _, by rw [e]; rfl, by rw [e]; exact c, fun j hj => by cases hj⟩
def Invs (p : Int) : Prop := ∀ f : Int, 0 < f → f < p → ∃ k ∈ rngL p, k * f % p = 1
theorem inv_ok {p f : Int} (hI : Invs p) (h0 : 0 < f) (h1 : f < p) : f * inv1 p f % p = 1 ∧ 0 ≤ inv1 p f := by
  obtain ⟨k, hk, e⟩ := hI f h0 h1
  unfold inv1
  cases hc : (rngL p).filter fun k => k * f % p == 1 with
  | nil =>
    have : k ∈ (rngL p).filter fun k => k * f % p == 1 := List.mem_filter.mpr ⟨hk, by simpa using e⟩
    rw [hc] at this
    cases this
  | cons a l =>
    have : a ∈ (rngL p).filter fun k => k * f % p == 1 := by rw [hc]; exact List.mem_cons_self
    obtain ⟨h2, h3⟩ := List.mem_filter.mp this
    refine ⟨by show f * a % p = 1; rw [Int.mul_comm]; simpa using h3, ?_⟩
    obtain ⟨j, _, rfl⟩ := List.mem_map.mp h2
    exact Int.natCast_nonneg j
theorem led_len {p : Int} {r : Rw} : (Spc.led p r).length = r.length := by unfold Spc.led; rw [List.length_map]
theorem at_led {p : Int} {r : Rw} (i : Nat) : at_ (Spc.led p r) i = at_ r i * inv1 p (fst1 r) % p := by
  by_cases c : i < r.length
  · rw [at_lt (by rw [led_len]; exact c), at_lt c]
    unfold Spc.led
    rw [List.getElem_map]
  · rw [at_ge (by rw [led_len]; omega), at_ge (by omega)]
    simp
theorem led_led {W : Nat} {p : Int} {r : Rw} (hp : 0 < p) (hI : Invs p) (hl : r.length = W) (hi : InP p r) (h : nz r = true) : ∃ k, Led W p (Spc.led p r) k := by
  obtain ⟨k, h1, h2, h3, h4⟩ := first h
  have hb := hi.at hp k
  rw [h2] at hb
  refine ⟨k, by rw [led_len, hl], fun x hx => ?_, by omega, ?_, fun j hj => ?_⟩
  · unfold Spc.led at hx
    obtain ⟨a, _, rfl⟩ := List.mem_map.mp hx
    exact ⟨Int.emod_nonneg _ (by omega), Int.emod_lt_of_pos _ hp⟩
  · rw [at_led, h2]
    exact (inv_ok hI (by omega) hb.2).1
  · rw [at_led, h4 j hj, Int.zero_mul]
    simp
/-- one of the others, made 0 where the new row leads -/
theorem other_led {W : Nat} {p : Int} {l o : Rw} {k : Nat} (hp : 2 ≤ p) (hl : Led W p l k) (ho : Led W p o (Spc.ld o)) (h0 : at_ l (Spc.ld o) = 0) : Led W p (rmd p [l] o) (Spc.ld o) := by
  have e : rmd p [l] o = mn p o l (at_ o (Spc.ld l)) := rfl
  have hlk := hl.ld
  have hlen : o.length = l.length := by rw [ho.len, hl.len]
  rw [e]
  refine ⟨by rw [mn_len hlen, ho.len], mn_in (by omega), ho.lt, ?_, fun j hj => ?_⟩
  · rw [at_mn hlen, ho.one, h0, Int.mul_zero, Int.sub_zero]
    exact Int.emod_eq_of_lt (by decide) (by omega)
  · rw [at_mn hlen, ho.zer j hj, hlk]
    by_cases c : k < Spc.ld o
    · rw [ho.zer k c]; simp
    · have : j < k := by
        rcases Nat.lt_or_ge j k with h | h
        · exact h
        · omega
      rw [hl.zer j this]; simp
theorem Rref.perm {W : Nat} {p : Int} {R S : List Rw} (h : Rref W p R) (hp : S.Perm R) : Rref W p S :=
  ⟨fun r hr => h.led r (hp.mem_iff.mp hr), (hp.pairwise_iff (fun ⟨a, b⟩ => ⟨b, a⟩)).mpr h.pw⟩
theorem rref_step {W : Nat} {p : Int} {R : List Rw} {y : Rw} (hp : 2 ≤ p) (hI : Invs p) (h : Rref W p R) (hy : y.length = W) (hi : InP p y) : Rref W p (step p R y) := by
  unfold step
  by_cases c : nz (rmd p R y) = true
  · rw [if_pos c]
    have hz := rmd_zero (by omega) h hy
    have hlen := rmd_len (p := p) (R := R) (fun r hr => (h.led r hr).len) hy
    have hin := rmd_in (R := R) (y := y) (by omega : 0 < p) hi
    obtain ⟨k, hk⟩ := led_led (by omega) hI hlen hin c
    have hk0 : ∀ r ∈ R, at_ (Spc.led p (rmd p R y)) (Spc.ld r) = 0 := fun r hr => by rw [at_led, hz r hr, Int.zero_mul]; simp
    generalize Spc.led p (rmd p R y) = l at hk hk0 ⊢
    refine Rref.perm ?_ (srtD_perm _)
    have hlk := hk.ld
    have hol : ∀ o ∈ R, Led W p (rmd p [l] o) (Spc.ld o) := fun o ho => other_led hp hk (h.led o ho) (hk0 o ho)
    have hold : ∀ o ∈ R, Spc.ld (rmd p [l] o) = Spc.ld o := fun o ho => (hol o ho).ld
    have hat : ∀ o ∈ R, ∀ i, at_ (rmd p [l] o) i = (at_ o i - at_ o k * at_ l i) % p := fun o ho i => by
      show at_ (mn p o l (at_ o (Spc.ld l))) i = _
      rw [at_mn (by rw [(h.led o ho).len, hk.len]), hlk]
    refine ⟨fun r hr => ?_, List.pairwise_cons.mpr ⟨fun s hs => ?_, ?_⟩⟩
    · rcases List.mem_cons.mp hr with rfl | hr
      · rw [hlk]; exact hk
      · obtain ⟨o, ho, rfl⟩ := List.mem_map.mp hr
        rw [hold o ho]; exact hol o ho
    · obtain ⟨o, ho, rfl⟩ := List.mem_map.mp hs
      rw [hold o ho, hlk]
      refine ⟨?_, hk0 o ho⟩
      rw [hat o ho, hk.one, Int.mul_one, Int.sub_self]; simp
    · rw [List.pairwise_map]
      refine h.pw.imp_of_mem fun {a b} ha hb hab => ?_
      rw [hold a ha, hold b hb, hat b hb, hat a ha, hab.1, hab.2, hk0 a ha, hk0 b hb]
      simp
  · rw [if_neg c]; exact h
end Spc
set_option Elab.async false
set_option linter.all false
namespace Spc
/-- what the marks of a row give at a place -/
def comb (S : List Rw) (n : Nat) (r : Rw) (i : Nat) : Int := ((List.range S.length).map fun j => at_ r (n + j) * at_ (S.getD j []) i).sum
def off (S : List Rw) (n : Nat) (r : Rw) (i : Nat) : Int := at_ r i - comb S n r i
/-- the marks tell what the row is made of -/
def Lin (S : List Rw) (n : Nat) (p : Int) (r : Rw) : Prop := ∀ i, i < n → p ∣ off S n r i
end Spc
set_option Elab.async false
set_option linter.all false
namespace Spc
theorem sum_one (F : Nat → Int) (n k : Nat) (hk : k < n) (h : ∀ i, i < n → i ≠ k → F i = 0) : ((List.range n).map F).sum = F k := by
  induction n with
  | zero => omega
  | succ n ih =>
    rw [List.range_succ, List.map_append, List.sum_append, List.map_singleton, List.sum_singleton]
    by_cases e : k = n
    · subst e
      have : ∀ m, m ≤ k → ((List.range m).map F).sum = 0 := fun m => by
        induction m with
        | zero => intro _; rfl
        | succ m im =>
          intro hm
          rw [List.range_succ, List.map_append, List.sum_append, List.map_singleton, List.sum_singleton, im (by omega), h m (by omega) (by omega)]; rfl
      rw [this k (Nat.le_refl _)]; omega
    · rw [ih (by omega) fun i hi hne => h i (by omega) hne, h n (by omega) (fun z => e z.symm)]; omega
end Spc
set_option Elab.async false
set_option linter.all false
namespace Spc
open Pd
theorem InP.take {p : Int} {r : Rw} (h : InP p r) (n : Nat) : InP p (r.take n) := fun x hx => h x (List.mem_of_mem_take hx)
def proj (n : Nat) (R : List Rw) : List Rw := (R.filter fun r => nz (r.take n)).map (List.take n)
end Spc
set_option Elab.async false
set_option linter.all false
namespace Spc
open Pd
/-- what holds of the rows while they are reduced -/
structure Wide (S : List Rw) (W n : Nat) (p : Int) (R N : List Rw) : Prop where
  rref : Rref W p R
  proj : proj n R = N
  lin : ∀ r ∈ R, r.length = W ∧ Lin S n p r
  srt : N.Pairwise fun a b => leD a b = true
theorem Wide.one {S : List Rw} {W n : Nat} {p : Int} {R N : List Rw} (h : Wide S W n p R N) (hN : ∀ l ∈ N, (1 : Int) ∈ l) : ∀ r ∈ R, nz (r.take n) = true → (1 : Int) ∈ r.take n := fun r hr c =>
  hN _ (by rw [← h.proj]; exact List.mem_map.mpr ⟨r, List.mem_filter.mpr ⟨hr, c⟩, rfl⟩)
end Spc
set_option Elab.async false
set_option linter.all false
namespace Spc
end Spc
set_option Elab.async false
set_option linter.all false
set_option maxRecDepth 100000
set_option maxHeartbeats 4000000
namespace K36
open PySem PySem.Spec PyProof.Rows L2 Pd
section
variable {P : Program} {w : World} {K : PySem.W.Frag} {mg : Str → Option Value} {base : Heap}
/-- a def that has defaults -/
theorem pd_fnD {x qual : Str} {st : Stmt} {dvs : List V} {kws : List (Str × V)} {f : Addr} {fd : FuncData} {N ps : List Str} {k : Nat} {W : DC} (F : FunD K x qual (defArgs st) (defBody st) (defScope st) dvs kws f fd) (S : FnScope N ps (defScope st))
    (hbody : ∀ (cdv : Value) (A : Around) (outer : List Env) (s : Shared) (H : Hp) (E : XK), Room k (A.deeper (envOfC qual (defScope st) s.heap.objs.size f cdv)) →
      ∃ t, PDSs (cxOf CX0 P w K mg base N qual (defScope st) f cdv A outer s H E).nox (defBody st) t ∧ ∀ ds M Q, ds.length = ps.length → W ds M Q → t { nx := fun _ M' => Q .non M', rt := Q } (startD N ds) M) :
    FnOk P w K mg base CX0 (k + 1) f fd ps (spD ps.length W K) := by
  refine F.ok S (fun vs H Q E h => h.1) (fun cdv A outer s H vs Q E hr h => ?_)
  obtain ⟨hl, as, M, L, ds, P', r, A0, hw, q⟩ := h
  obtain ⟨t, ht, hb⟩ := hbody cdv A outer s H E hr
  obtain ⟨ts, pt, st'⟩ := ht.ex
  refine ⟨ts, pt.nox, st' as (L2.start N vs) (startD N ds) L H M _ _ (en_start r) A0 (hb ds M P' (by rw [← r.length]; exact hl) hw) ⟨?_, ?_, ?_, ?_⟩⟩
  · exact fun σ' ρ' L' H' M' s1 A1 _ p => q .non .non L' H' M' s1 A1 p .non
  · exact fun v d L' H' M' s1 A1 p r => q v d L' H' M' s1 A1 p r
  · exact fun _ _ _ _ _ _ _ _ p => p.elim
  · exact fun _ _ _ _ _ _ _ _ p => p.elim
end
theorem funD_mk {K : PySem.W.Frag} {x qual : Str} {st : Stmt} {f T E : Addr} {oc : Value} {od an : Option Addr} {osl : Array (Option Value)} {kV doc pm cdv ct c : Value} {dd : Option Addr} {n : Nat} {sl : Array (Option Value)}
    (hl : K.lookup f = some ⟨oc, od, .func (PySem.W.fnOf x qual (defArgs st) (defBody st) (defScope st) (.ref T) kV doc pm an cdv ct), osl⟩) (hc : PySem.W.codeIn K cdv qual = true) (hk : PySem.W.keepIn K (.ref f) = true) (hT : K.lookup T = some ⟨c, dd, .seq #[.ref E] n, sl⟩) :
    FunD K x qual (defArgs st) (defBody st) (defScope st) [V.ref E] [] f (PySem.W.fnOf x qual (defArgs st) (defBody st) (defScope st) (.ref T) kV doc pm an cdv ct) :=
  ⟨⟨oc, od, .ref T, kV, doc, pm, an, cdv, ct, osl, rfl, hl, hc, .inr ⟨by simp, T, _, [.ref E], n, rfl, hT, rfl, .cons rfl .nil⟩, .inl rfl⟩, hk⟩
theorem binds_all {K : PySem.W.Frag} {x qual : Str} {params : Arguments} {body : List Stmt} {scope : Scope} {v : V} {kws : List (Str × V)} {f : Addr} {fd : FuncData} {ps : List Str} (F : FunD K x qual params body scope [v] kws f fd) (n : Nat) (hn : n = ps.length)
    (h : ∀ (T : Addr) (kV doc pm : Value) (an : Option Addr) (cdv ct : Value) (us its : List Value), us.length = n → its.length = [v].length → ∃ k, bindArgs (PySem.W.fnOf x qual params body scope (.ref T) kV doc pm an cdv ct) { pos := us } = seqItems? (.ref T) >>= k ∧ k (some its.toArray) = pure (ps.zip (us ++ its.drop 1))) : Binds K fd ps [] := by
  obtain ⟨ds, h1, h2⟩ := F.binds1 n 1 (by simp) (by simpa using hn) h
  cases h1
  exact h2
theorem funD_mkN {K : PySem.W.Frag} {x qual : Str} {st : Stmt} {f T : Addr} {oc : Value} {od an : Option Addr} {osl : Array (Option Value)} {kV doc pm cdv ct c : Value} {dd : Option Addr} {n : Nat} {sl : Array (Option Value)}
    (hl : K.lookup f = some ⟨oc, od, .func (PySem.W.fnOf x qual (defArgs st) (defBody st) (defScope st) (.ref T) kV doc pm an cdv ct), osl⟩) (hc : PySem.W.codeIn K cdv qual = true) (hk : PySem.W.keepIn K (.ref f) = true) (hT : K.lookup T = some ⟨c, dd, .seq #[.none] n, sl⟩) :
    FunD K x qual (defArgs st) (defBody st) (defScope st) [V.non] [] f (PySem.W.fnOf x qual (defArgs st) (defBody st) (defScope st) (.ref T) kV doc pm an cdv ct) :=
  ⟨⟨oc, od, .ref T, kV, doc, pm, an, cdv, ct, osl, rfl, hl, hc, .inr ⟨by simp, T, _, [.none], n, rfl, hT, rfl, .cons rfl .nil⟩, .inl rfl⟩, hk⟩
def topS (i : Nat) : Stmt := PySem.Challenge.pw_leastreads_k36_errors_of_placings.main.body.getD i (.Pass ⟨0, 0, 0, 0⟩)
abbrev s_is_integer : Stmt := topS 4
theorem sc_is_integer : FnScope ["value"] ["value"] (defScope s_is_integer) := ⟨rfl, rfl, rfl, by decide +kernel, rfl, by decide +kernel, by decide +kernel⟩
abbrev s_is_between : Stmt := topS 5
theorem sc_is_between : FnScope ["value", "low", "high"] ["value", "low", "high"] (defScope s_is_between) := ⟨rfl, rfl, rfl, by decide +kernel, rfl, by decide +kernel, by decide +kernel⟩
abbrev s_has_items : Stmt := topS 6
theorem sc_has_items : FnScope ["value", "least", "most"] ["value", "least", "most"] (defScope s_has_items) := ⟨rfl, rfl, rfl, by decide +kernel, rfl, by decide +kernel, by decide +kernel⟩
abbrev s_all_between : Stmt := topS 7
theorem sc_all_between : FnScope ["items", "low", "high", "item"] ["items", "low", "high"] (defScope s_all_between) := ⟨rfl, rfl, rfl, by decide +kernel, rfl, by decide +kernel, by decide +kernel⟩
abbrev s_is_ascending : Stmt := topS 8
theorem sc_is_ascending : FnScope ["items", "one", "other"] ["items"] (defScope s_is_ascending) := ⟨rfl, rfl, rfl, by decide +kernel, rfl, by decide +kernel, by decide +kernel⟩
abbrev s_are_pieces : Stmt := topS 9
theorem sc_are_pieces : FnScope ["value", "many"] ["value", "many"] (defScope s_are_pieces) := ⟨rfl, rfl, rfl, by decide +kernel, rfl, by decide +kernel, by decide +kernel⟩
abbrev s_is_spot : Stmt := topS 10
theorem sc_is_spot : FnScope ["value", "spots"] ["value", "spots"] (defScope s_is_spot) := ⟨rfl, rfl, rfl, by decide +kernel, rfl, by decide +kernel, by decide +kernel⟩
abbrev s_are_spots : Stmt := topS 11
theorem sc_are_spots : FnScope ["value", "spots", "item"] ["value", "spots"] (defScope s_are_spots) := ⟨rfl, rfl, rfl, by decide +kernel, rfl, by decide +kernel, by decide +kernel⟩
abbrev s_spots_of_parts : Stmt := topS 12
theorem sc_spots_of_parts : FnScope ["pieces", "there", "piece", "parts", "part"] ["pieces"] (defScope s_spots_of_parts) := ⟨rfl, rfl, rfl, by decide +kernel, rfl, by decide +kernel, by decide +kernel⟩
abbrev s_power : Stmt := topS 13
theorem sc_power : FnScope ["number", "times", "result", "_"] ["number", "times"] (defScope s_power) := ⟨rfl, rfl, rfl, by decide +kernel, rfl, by decide +kernel, by decide +kernel⟩
abbrev s_all_tuples : Stmt := topS 14
theorem sc_all_tuples : FnScope ["limit", "many", "rows", "_", "row", "value"] ["limit", "many"] (defScope s_all_tuples) := ⟨rfl, rfl, rfl, by decide +kernel, rfl, by decide +kernel, by decide +kernel⟩
abbrev s_all_groups : Stmt := topS 15
theorem sc_all_groups : FnScope ["many", "groups", "index", "group"] ["many"] (defScope s_all_groups) := ⟨rfl, rfl, rfl, by decide +kernel, rfl, by decide +kernel, by decide +kernel⟩
abbrev s_InvalidNumber_init : Stmt := inClass (topS 27) 0
theorem sc_InvalidNumber_init : FnScope ["self", "value"] ["self", "value"] (defScope s_InvalidNumber_init) := ⟨rfl, rfl, rfl, by decide +kernel, rfl, by decide +kernel, by decide +kernel⟩
abbrev s_LimitExceeded_init : Stmt := inClass (topS 28) 0
theorem sc_LimitExceeded_init : FnScope ["self", "limit"] ["self", "limit"] (defScope s_LimitExceeded_init) := ⟨rfl, rfl, rfl, by decide +kernel, rfl, by decide +kernel, by decide +kernel⟩
abbrev s_Lost_init : Stmt := inClass (topS 29) 0
theorem sc_Lost_init : FnScope ["self", "blind"] ["self", "blind"] (defScope s_Lost_init) := ⟨rfl, rfl, rfl, by decide +kernel, rfl, by decide +kernel, by decide +kernel⟩
abbrev s_is_prime : Stmt := topS 32
theorem sc_is_prime : FnScope ["value"] ["value"] (defScope s_is_prime) := ⟨rfl, rfl, rfl, by decide +kernel, rfl, by decide +kernel, by decide +kernel⟩
abbrev s_is_size : Stmt := topS 33
theorem sc_is_size : FnScope ["prime", "value"] ["prime", "value"] (defScope s_is_size) := ⟨rfl, rfl, rfl, by decide +kernel, rfl, by decide +kernel, by decide +kernel⟩
abbrev s_is_data : Stmt := topS 34
theorem sc_is_data : FnScope ["prime", "size", "value"] ["prime", "size", "value"] (defScope s_is_data) := ⟨rfl, rfl, rfl, by decide +kernel, rfl, by decide +kernel, by decide +kernel⟩
abbrev s_expect_prime_and_size : Stmt := topS 35
theorem sc_expect_prime_and_size : FnScope ["prime", "size"] ["prime", "size"] (defScope s_expect_prime_and_size) := ⟨rfl, rfl, rfl, by decide +kernel, rfl, by decide +kernel, by decide +kernel⟩
abbrev s_is_sum : Stmt := topS 36
theorem sc_is_sum : FnScope ["prime", "size", "value"] ["prime", "size", "value"] (defScope s_is_sum) := ⟨rfl, rfl, rfl, by decide +kernel, rfl, by decide +kernel, by decide +kernel⟩
abbrev s_Sum_init : Stmt := inClass (topS 37) 0
theorem sc_Sum_init : FnScope ["self", "prime", "factors"] ["self", "prime", "factors"] (defScope s_Sum_init) := ⟨rfl, rfl, rfl, by decide +kernel, rfl, by decide +kernel, by decide +kernel⟩
abbrev s_Sum_unit : Stmt := inClass (topS 37) 1
theorem sc_Sum_unit : FnScope ["prime", "size", "index", "place"] ["prime", "size", "index"] (defScope s_Sum_unit) := ⟨rfl, rfl, rfl, by decide +kernel, rfl, by decide +kernel, by decide +kernel⟩
abbrev s_Sum_prime : Stmt := inClass (topS 37) 2
theorem sc_Sum_prime : FnScope ["self"] ["self"] (defScope s_Sum_prime) := ⟨rfl, rfl, rfl, by decide +kernel, rfl, by decide +kernel, by decide +kernel⟩
abbrev s_Sum_factors : Stmt := inClass (topS 37) 3
theorem sc_Sum_factors : FnScope ["self"] ["self"] (defScope s_Sum_factors) := ⟨rfl, rfl, rfl, by decide +kernel, rfl, by decide +kernel, by decide +kernel⟩
abbrev s_Sum_size : Stmt := inClass (topS 37) 4
theorem sc_Sum_size : FnScope ["self"] ["self"] (defScope s_Sum_size) := ⟨rfl, rfl, rfl, by decide +kernel, rfl, by decide +kernel, by decide +kernel⟩
abbrev s_Sum_call : Stmt := inClass (topS 37) 6
theorem sc_Sum_call : FnScope ["self", "data", "factor", "value"] ["self", "data"] (defScope s_Sum_call) := ⟨rfl, rfl, rfl, by decide +kernel, rfl, by decide +kernel, by decide +kernel⟩
abbrev s_minus : Stmt := topS 39
theorem sc_minus : FnScope ["prime", "row", "other", "times", "one", "two"] ["prime", "row", "other", "times"] (defScope s_minus) := ⟨rfl, rfl, rfl, by decide +kernel, rfl, by decide +kernel, by decide +kernel⟩
abbrev s_remainder : Stmt := topS 40
theorem sc_remainder : FnScope ["prime", "reduced", "row", "lead"] ["prime", "reduced", "row"] (defScope s_remainder) := ⟨rfl, rfl, rfl, by decide +kernel, rfl, by decide +kernel, by decide +kernel⟩
abbrev s_led_by_one : Stmt := topS 41
theorem sc_led_by_one : FnScope ["prime", "row", "first", "times", "factor", "number"] ["prime", "row"] (defScope s_led_by_one) := ⟨rfl, rfl, rfl, by decide +kernel, rfl, by decide +kernel, by decide +kernel⟩
abbrev s_reduced_rows : Stmt := topS 42
theorem sc_reduced_rows : FnScope ["prime", "rows", "reduced", "row", "rest", "lead", "others", "other"] ["prime", "rows"] (defScope s_reduced_rows) := ⟨rfl, rfl, rfl, by decide +kernel, rfl, by decide +kernel, by decide +kernel⟩
abbrev s_zero_row : Stmt := topS 43
theorem sc_zero_row : FnScope ["prime", "size", "reduced", "free", "forced", "row", "place"] ["prime", "size", "reduced", "free"] (defScope s_zero_row) := ⟨rfl, rfl, rfl, by decide +kernel, rfl, by decide +kernel, by decide +kernel⟩
abbrev s_zero_rows : Stmt := topS 44
theorem sc_zero_rows : FnScope ["prime", "size", "reduced", "leads", "rows", "row", "place"] ["prime", "size", "reduced"] (defScope s_zero_rows) := ⟨rfl, rfl, rfl, by decide +kernel, rfl, by decide +kernel, by decide +kernel⟩
abbrev s_blind_for : Stmt := topS 46
theorem sc_blind_for : FnScope ["space", "items", "rows", "leads", "data", "item"] ["space", "items"] (defScope s_blind_for) := ⟨rfl, rfl, rfl, by decide +kernel, rfl, by decide +kernel, by decide +kernel⟩
abbrev s_Space_init : Stmt := inClass (topS 47) 0
theorem sc_Space_init : FnScope ["self", "prime", "size", "sums", "item", "row"] ["self", "prime", "size", "sums"] (defScope s_Space_init) := ⟨rfl, rfl, rfl, by decide +kernel, rfl, by decide +kernel, by decide +kernel⟩
abbrev s_Space_prime : Stmt := inClass (topS 47) 1
theorem sc_Space_prime : FnScope ["self"] ["self"] (defScope s_Space_prime) := ⟨rfl, rfl, rfl, by decide +kernel, rfl, by decide +kernel, by decide +kernel⟩
abbrev s_Space_size : Stmt := inClass (topS 47) 2
theorem sc_Space_size : FnScope ["self"] ["self"] (defScope s_Space_size) := ⟨rfl, rfl, rfl, by decide +kernel, rfl, by decide +kernel, by decide +kernel⟩
abbrev s_Space_reduced_sums : Stmt := inClass (topS 47) 3
theorem sc_Space_reduced_sums : FnScope ["self"] ["self"] (defScope s_Space_reduced_sums) := ⟨rfl, rfl, rfl, by decide +kernel, rfl, by decide +kernel, by decide +kernel⟩
abbrev s_Space_is_whole : Stmt := inClass (topS 47) 4
theorem sc_Space_is_whole : FnScope ["self"] ["self"] (defScope s_Space_is_whole) := ⟨rfl, rfl, rfl, by decide +kernel, rfl, by decide +kernel, by decide +kernel⟩
abbrev s_are_wishes : Stmt := topS 51
theorem sc_are_wishes : FnScope ["table", "value", "item"] ["table", "value"] (defScope s_are_wishes) := ⟨rfl, rfl, rfl, by decide +kernel, rfl, by decide +kernel, by decide +kernel⟩
abbrev s_least_losses : Stmt := topS 52
theorem sc_least_losses : FnScope ["table", "wishes", "losses", "found", "group", "gone", "left", "data", "piece", "smaller", "_", "item"] ["table", "wishes", "losses"] (defScope s_least_losses) := ⟨rfl, rfl, rfl, by decide +kernel, rfl, by decide +kernel, by decide +kernel⟩
abbrev s_fatal : Stmt := topS 53
theorem sc_fatal : FnScope ["table", "wishes", "group"] ["table", "wishes"] (defScope s_fatal) := ⟨rfl, rfl, rfl, by decide +kernel, rfl, by decide +kernel, by decide +kernel⟩
abbrev s_units_of : Stmt := topS 54
theorem sc_units_of : FnScope ["table", "index"] ["table"] (defScope s_units_of) := ⟨rfl, rfl, rfl, by decide +kernel, rfl, by decide +kernel, by decide +kernel⟩
abbrev s_Placing_init : Stmt := inClass (topS 58) 0
theorem sc_Placing_init : FnScope ["self", "machines", "where", "machine"] ["self", "machines", "where"] (defScope s_Placing_init) := ⟨rfl, rfl, rfl, by decide +kernel, rfl, by decide +kernel, by decide +kernel⟩
abbrev s_machines_of : Stmt := topS 59
theorem sc_machines_of : FnScope ["where", "pieces", "piece"] ["where", "pieces"] (defScope s_machines_of) := ⟨rfl, rfl, rfl, by decide +kernel, rfl, by decide +kernel, by decide +kernel⟩
abbrev s_weakest : Stmt := topS 60
theorem sc_weakest : FnScope ["bars", "where", "places", "pieces", "_", "machines", "bar"] ["bars", "where"] (defScope s_weakest) := ⟨rfl, rfl, rfl, by decide +kernel, rfl, by decide +kernel, by decide +kernel⟩
abbrev s_expect_counts : Stmt := topS 61
theorem sc_expect_counts : FnScope ["machines", "limit"] ["machines", "limit"] (defScope s_expect_counts) := ⟨rfl, rfl, rfl, by decide +kernel, rfl, by decide +kernel, by decide +kernel⟩
abbrev s_expect_room : Stmt := topS 62
theorem sc_expect_room : FnScope ["table", "machines", "limit"] ["table", "machines", "limit"] (defScope s_expect_room) := ⟨rfl, rfl, rfl, by decide +kernel, rfl, by decide +kernel, by decide +kernel⟩
abbrev s_roomy_placings : Stmt := topS 63
theorem sc_roomy_placings : FnScope ["table", "machines", "limit", "rows", "where", "machine"] ["table", "machines", "limit"] (defScope s_roomy_placings) := ⟨rfl, rfl, rfl, by decide +kernel, rfl, by decide +kernel, by decide +kernel⟩
abbrev s_best_placing : Stmt := topS 64
theorem sc_best_placing : FnScope ["table", "machines", "limit", "bars", "rows", "most", "first", "chosen", "where", "weak", "_", "pieces"] ["table", "machines", "limit"] (defScope s_best_placing) := ⟨rfl, rfl, rfl, by decide +kernel, rfl, by decide +kernel, by decide +kernel⟩
abbrev s_expect_pieces : Stmt := topS 71
theorem sc_expect_pieces : FnScope ["prime", "size", "pieces", "piece", "parts", "part", "factors"] ["prime", "size", "pieces"] (defScope s_expect_pieces) := ⟨rfl, rfl, rfl, by decide +kernel, rfl, by decide +kernel, by decide +kernel⟩
abbrev s_Table_init : Stmt := inClass (topS 72) 0
theorem sc_Table_init : FnScope ["self", "prime", "size", "pieces", "parts", "piece", "part", "factors"] ["self", "prime", "size", "pieces"] (defScope s_Table_init) := ⟨rfl, rfl, rfl, by decide +kernel, rfl, by decide +kernel, by decide +kernel⟩
abbrev s_Table_prime : Stmt := inClass (topS 72) 1
theorem sc_Table_prime : FnScope ["self"] ["self"] (defScope s_Table_prime) := ⟨rfl, rfl, rfl, by decide +kernel, rfl, by decide +kernel, by decide +kernel⟩
abbrev s_Table_size : Stmt := inClass (topS 72) 2
theorem sc_Table_size : FnScope ["self"] ["self"] (defScope s_Table_size) := ⟨rfl, rfl, rfl, by decide +kernel, rfl, by decide +kernel, by decide +kernel⟩
abbrev s_Table_pieces : Stmt := inClass (topS 72) 3
abbrev s_Table_is_whole : Stmt := inClass (topS 72) 4
theorem sc_Table_is_whole : FnScope ["self"] ["self"] (defScope s_Table_is_whole) := ⟨rfl, rfl, rfl, by decide +kernel, rfl, by decide +kernel, by decide +kernel⟩
abbrev s_Table_len : Stmt := inClass (topS 72) 5
theorem sc_Table_len : FnScope ["self"] ["self"] (defScope s_Table_len) := ⟨rfl, rfl, rfl, by decide +kernel, rfl, by decide +kernel, by decide +kernel⟩
abbrev s_Table_space : Stmt := inClass (topS 72) 11
theorem sc_Table_space : FnScope ["self", "spots", "spot"] ["self", "spots"] (defScope s_Table_space) := ⟨rfl, rfl, rfl, by decide +kernel, rfl, by decide +kernel, by decide +kernel⟩
abbrev s_Table_spots_of : Stmt := inClass (topS 72) 12
theorem sc_Table_spots_of : FnScope ["self", "pieces", "piece", "part"] ["self", "pieces"] (defScope s_Table_spots_of) := ⟨rfl, rfl, rfl, by decide +kernel, rfl, by decide +kernel, by decide +kernel⟩
abbrev s_is_barred : Stmt := topS 76
theorem sc_is_barred : FnScope ["table", "machines", "limit", "survival", "value", "groups", "where", "item", "pieces", "_"] ["table", "machines", "limit", "survival", "value"] (defScope s_is_barred) := ⟨rfl, rfl, rfl, by decide +kernel, rfl, by decide +kernel, by decide +kernel⟩
abbrev s_law_source : Stmt := topS 78
theorem sc_law_source : FnScope ["_law_script", "_law_turn", "_law_cell", "_law_number", "_law_seed"] ["_law_script", "_law_turn"] (defScope s_law_source) := ⟨rfl, rfl, rfl, by decide +kernel, rfl, by decide +kernel, by decide +kernel⟩
abbrev s_law_draw : Stmt := topS 79
theorem sc_law_draw : FnScope ["_law_source_here", "_law_amount", "_law_digit"] ["_law_source_here", "_law_amount"] (defScope s_law_draw) := ⟨rfl, rfl, rfl, by decide +kernel, rfl, by decide +kernel, by decide +kernel⟩
abbrev s_law_said : Stmt := topS 81
theorem sc_law_said : FnScope ["_law_call", "e"] ["_law_call"] (defScope s_law_said) := ⟨rfl, rfl, rfl, by decide +kernel, rfl, by decide +kernel, by decide +kernel⟩
abbrev s_law_doors : Stmt := topS 82
theorem sc_law_doors : FnScope ["_law_table", "_law_machines", "_law_limit", "_law_told"] ["_law_table", "_law_machines", "_law_limit"] (defScope s_law_doors) := ⟨rfl, rfl, rfl, by decide +kernel, rfl, by decide +kernel, by decide +kernel⟩
abbrev s_law : Stmt := topS 83
theorem sc_law : FnScope ["_law_script", "_law_great", "_law_turn", "_law_table", "_law_lacking", "_law_source_here", "_law_odd", "_law_told", "_law_machines", "_law_limit", "_law_one"] ["_law_script"] (defScope s_law) := ⟨rfl, rfl, rfl, by decide +kernel, rfl, by decide +kernel, by decide +kernel⟩
/-- the primes, each with its greatest size -/
def gsz (p : Int) : Option Int := if p = 2 then some 6 else if p = 3 then some 6 else if p = 5 then some 5 else if p = 7 then some 4 else none
structure Tx (P : Program) (w : World) (K : PySem.W.Frag) (mg : Str → Option Value) where
  a_is_integer : Addr
  f_is_integer : FuncData
  F_is_integer : Fun K "is_integer" "is_integer" s_is_integer a_is_integer f_is_integer
  b_is_integer : Binds K f_is_integer ["value"] []
  g_is_integer : mg "is_integer" = some (.ref a_is_integer)
  a_is_between : Addr
  f_is_between : FuncData
  F_is_between : Fun K "is_between" "is_between" s_is_between a_is_between f_is_between
  b_is_between : Binds K f_is_between ["value", "low", "high"] []
  g_is_between : mg "is_between" = some (.ref a_is_between)
  a_has_items : Addr
  f_has_items : FuncData
  F_has_items : Fun K "has_items" "has_items" s_has_items a_has_items f_has_items
  b_has_items : Binds K f_has_items ["value", "least", "most"] []
  g_has_items : mg "has_items" = some (.ref a_has_items)
  a_all_between : Addr
  f_all_between : FuncData
  F_all_between : Fun K "all_between" "all_between" s_all_between a_all_between f_all_between
  b_all_between : Binds K f_all_between ["items", "low", "high"] []
  g_all_between : mg "all_between" = some (.ref a_all_between)
  a_is_ascending : Addr
  f_is_ascending : FuncData
  F_is_ascending : Fun K "is_ascending" "is_ascending" s_is_ascending a_is_ascending f_is_ascending
  b_is_ascending : Binds K f_is_ascending ["items"] []
  g_is_ascending : mg "is_ascending" = some (.ref a_is_ascending)
  a_are_pieces : Addr
  f_are_pieces : FuncData
  F_are_pieces : Fun K "are_pieces" "are_pieces" s_are_pieces a_are_pieces f_are_pieces
  b_are_pieces : Binds K f_are_pieces ["value", "many"] []
  g_are_pieces : mg "are_pieces" = some (.ref a_are_pieces)
  a_is_spot : Addr
  f_is_spot : FuncData
  F_is_spot : Fun K "is_spot" "is_spot" s_is_spot a_is_spot f_is_spot
  b_is_spot : Binds K f_is_spot ["value", "spots"] []
  g_is_spot : mg "is_spot" = some (.ref a_is_spot)
  a_are_spots : Addr
  f_are_spots : FuncData
  F_are_spots : Fun K "are_spots" "are_spots" s_are_spots a_are_spots f_are_spots
  b_are_spots : Binds K f_are_spots ["value", "spots"] []
  g_are_spots : mg "are_spots" = some (.ref a_are_spots)
  a_spots_of_parts : Addr
  f_spots_of_parts : FuncData
  F_spots_of_parts : Fun K "spots_of_parts" "spots_of_parts" s_spots_of_parts a_spots_of_parts f_spots_of_parts
  b_spots_of_parts : Binds K f_spots_of_parts ["pieces"] []
  g_spots_of_parts : mg "spots_of_parts" = some (.ref a_spots_of_parts)
  a_power : Addr
  f_power : FuncData
  F_power : Fun K "power" "power" s_power a_power f_power
  b_power : Binds K f_power ["number", "times"] []
  g_power : mg "power" = some (.ref a_power)
  a_all_tuples : Addr
  f_all_tuples : FuncData
  F_all_tuples : Fun K "all_tuples" "all_tuples" s_all_tuples a_all_tuples f_all_tuples
  b_all_tuples : Binds K f_all_tuples ["limit", "many"] []
  g_all_tuples : mg "all_tuples" = some (.ref a_all_tuples)
  a_all_groups : Addr
  f_all_groups : FuncData
  F_all_groups : Fun K "all_groups" "all_groups" s_all_groups a_all_groups f_all_groups
  b_all_groups : Binds K f_all_groups ["many"] []
  g_all_groups : mg "all_groups" = some (.ref a_all_groups)
  a_InvalidNumber_init : Addr
  f_InvalidNumber_init : FuncData
  F_InvalidNumber_init : Fun K "__init__" "InvalidNumber.__init__" s_InvalidNumber_init a_InvalidNumber_init f_InvalidNumber_init
  b_InvalidNumber_init : Binds K f_InvalidNumber_init ["self", "value"] []
  a_LimitExceeded_init : Addr
  f_LimitExceeded_init : FuncData
  F_LimitExceeded_init : Fun K "__init__" "LimitExceeded.__init__" s_LimitExceeded_init a_LimitExceeded_init f_LimitExceeded_init
  b_LimitExceeded_init : Binds K f_LimitExceeded_init ["self", "limit"] []
  a_Lost_init : Addr
  f_Lost_init : FuncData
  F_Lost_init : Fun K "__init__" "Lost.__init__" s_Lost_init a_Lost_init f_Lost_init
  b_Lost_init : Binds K f_Lost_init ["self", "blind"] []
  a_is_prime : Addr
  f_is_prime : FuncData
  F_is_prime : Fun K "is_prime" "is_prime" s_is_prime a_is_prime f_is_prime
  b_is_prime : Binds K f_is_prime ["value"] []
  g_is_prime : mg "is_prime" = some (.ref a_is_prime)
  a_is_size : Addr
  f_is_size : FuncData
  F_is_size : Fun K "is_size" "is_size" s_is_size a_is_size f_is_size
  b_is_size : Binds K f_is_size ["prime", "value"] []
  g_is_size : mg "is_size" = some (.ref a_is_size)
  a_is_data : Addr
  f_is_data : FuncData
  F_is_data : Fun K "is_data" "is_data" s_is_data a_is_data f_is_data
  b_is_data : Binds K f_is_data ["prime", "size", "value"] []
  g_is_data : mg "is_data" = some (.ref a_is_data)
  a_expect_prime_and_size : Addr
  f_expect_prime_and_size : FuncData
  F_expect_prime_and_size : Fun K "expect_prime_and_size" "expect_prime_and_size" s_expect_prime_and_size a_expect_prime_and_size f_expect_prime_and_size
  b_expect_prime_and_size : Binds K f_expect_prime_and_size ["prime", "size"] []
  g_expect_prime_and_size : mg "expect_prime_and_size" = some (.ref a_expect_prime_and_size)
  a_is_sum : Addr
  f_is_sum : FuncData
  F_is_sum : Fun K "is_sum" "is_sum" s_is_sum a_is_sum f_is_sum
  b_is_sum : Binds K f_is_sum ["prime", "size", "value"] []
  g_is_sum : mg "is_sum" = some (.ref a_is_sum)
  a_Sum_init : Addr
  f_Sum_init : FuncData
  F_Sum_init : Fun K "__init__" "Sum.__init__" s_Sum_init a_Sum_init f_Sum_init
  b_Sum_init : Binds K f_Sum_init ["self", "prime", "factors"] []
  a_Sum_unit : Addr
  f_Sum_unit : FuncData
  F_Sum_unit : Fun K "unit" "Sum.unit" s_Sum_unit a_Sum_unit f_Sum_unit
  b_Sum_unit : Binds K f_Sum_unit ["prime", "size", "index"] []
  a_Sum_prime : Addr
  f_Sum_prime : FuncData
  F_Sum_prime : Fun K "prime" "Sum.prime" s_Sum_prime a_Sum_prime f_Sum_prime
  b_Sum_prime : Binds K f_Sum_prime ["self"] []
  a_Sum_factors : Addr
  f_Sum_factors : FuncData
  F_Sum_factors : Fun K "factors" "Sum.factors" s_Sum_factors a_Sum_factors f_Sum_factors
  b_Sum_factors : Binds K f_Sum_factors ["self"] []
  a_Sum_size : Addr
  f_Sum_size : FuncData
  F_Sum_size : Fun K "size" "Sum.size" s_Sum_size a_Sum_size f_Sum_size
  b_Sum_size : Binds K f_Sum_size ["self"] []
  a_Sum_call : Addr
  f_Sum_call : FuncData
  F_Sum_call : Fun K "__call__" "Sum.__call__" s_Sum_call a_Sum_call f_Sum_call
  b_Sum_call : Binds K f_Sum_call ["self", "data"] []
  a_minus : Addr
  f_minus : FuncData
  F_minus : Fun K "minus" "minus" s_minus a_minus f_minus
  b_minus : Binds K f_minus ["prime", "row", "other", "times"] []
  g_minus : mg "minus" = some (.ref a_minus)
  a_remainder : Addr
  f_remainder : FuncData
  F_remainder : Fun K "remainder" "remainder" s_remainder a_remainder f_remainder
  b_remainder : Binds K f_remainder ["prime", "reduced", "row"] []
  g_remainder : mg "remainder" = some (.ref a_remainder)
  a_led_by_one : Addr
  f_led_by_one : FuncData
  F_led_by_one : Fun K "led_by_one" "led_by_one" s_led_by_one a_led_by_one f_led_by_one
  b_led_by_one : Binds K f_led_by_one ["prime", "row"] []
  g_led_by_one : mg "led_by_one" = some (.ref a_led_by_one)
  a_reduced_rows : Addr
  f_reduced_rows : FuncData
  F_reduced_rows : Fun K "reduced_rows" "reduced_rows" s_reduced_rows a_reduced_rows f_reduced_rows
  b_reduced_rows : Binds K f_reduced_rows ["prime", "rows"] []
  g_reduced_rows : mg "reduced_rows" = some (.ref a_reduced_rows)
  a_zero_row : Addr
  f_zero_row : FuncData
  F_zero_row : Fun K "zero_row" "zero_row" s_zero_row a_zero_row f_zero_row
  b_zero_row : Binds K f_zero_row ["prime", "size", "reduced", "free"] []
  g_zero_row : mg "zero_row" = some (.ref a_zero_row)
  a_zero_rows : Addr
  f_zero_rows : FuncData
  F_zero_rows : Fun K "zero_rows" "zero_rows" s_zero_rows a_zero_rows f_zero_rows
  b_zero_rows : Binds K f_zero_rows ["prime", "size", "reduced"] []
  g_zero_rows : mg "zero_rows" = some (.ref a_zero_rows)
  a_blind_for : Addr
  f_blind_for : FuncData
  F_blind_for : Fun K "blind_for" "blind_for" s_blind_for a_blind_for f_blind_for
  b_blind_for : Binds K f_blind_for ["space", "items"] []
  g_blind_for : mg "blind_for" = some (.ref a_blind_for)
  dE_Space_init : Addr
  a_Space_init : Addr
  f_Space_init : FuncData
  F_Space_init : FunD K "__init__" "Space.__init__" (defArgs s_Space_init) (defBody s_Space_init) (defScope s_Space_init) [V.ref dE_Space_init] [] a_Space_init f_Space_init
  b_Space_init : Binds K f_Space_init ["self", "prime", "size", "sums"] []
  a_Space_prime : Addr
  f_Space_prime : FuncData
  F_Space_prime : Fun K "prime" "Space.prime" s_Space_prime a_Space_prime f_Space_prime
  b_Space_prime : Binds K f_Space_prime ["self"] []
  a_Space_size : Addr
  f_Space_size : FuncData
  F_Space_size : Fun K "size" "Space.size" s_Space_size a_Space_size f_Space_size
  b_Space_size : Binds K f_Space_size ["self"] []
  a_Space_reduced_sums : Addr
  f_Space_reduced_sums : FuncData
  F_Space_reduced_sums : Fun K "reduced_sums" "Space.reduced_sums" s_Space_reduced_sums a_Space_reduced_sums f_Space_reduced_sums
  b_Space_reduced_sums : Binds K f_Space_reduced_sums ["self"] []
  a_Space_is_whole : Addr
  f_Space_is_whole : FuncData
  F_Space_is_whole : Fun K "is_whole" "Space.is_whole" s_Space_is_whole a_Space_is_whole f_Space_is_whole
  b_Space_is_whole : Binds K f_Space_is_whole ["self"] []
  a_are_wishes : Addr
  f_are_wishes : FuncData
  F_are_wishes : Fun K "are_wishes" "are_wishes" s_are_wishes a_are_wishes f_are_wishes
  b_are_wishes : Binds K f_are_wishes ["table", "value"] []
  g_are_wishes : mg "are_wishes" = some (.ref a_are_wishes)
  a_least_losses : Addr
  f_least_losses : FuncData
  F_least_losses : Fun K "least_losses" "least_losses" s_least_losses a_least_losses f_least_losses
  b_least_losses : Binds K f_least_losses ["table", "wishes", "losses"] []
  g_least_losses : mg "least_losses" = some (.ref a_least_losses)
  a_fatal : Addr
  f_fatal : FuncData
  F_fatal : Fun K "fatal" "fatal" s_fatal a_fatal f_fatal
  b_fatal : Binds K f_fatal ["table", "wishes"] []
  g_fatal : mg "fatal" = some (.ref a_fatal)
  a_units_of : Addr
  f_units_of : FuncData
  F_units_of : Fun K "units_of" "units_of" s_units_of a_units_of f_units_of
  b_units_of : Binds K f_units_of ["table"] []
  g_units_of : mg "units_of" = some (.ref a_units_of)
  a_Placing_init : Addr
  f_Placing_init : FuncData
  F_Placing_init : Fun K "__init__" "Placing.__init__" s_Placing_init a_Placing_init f_Placing_init
  b_Placing_init : Binds K f_Placing_init ["self", "machines", "where"] []
  a_machines_of : Addr
  f_machines_of : FuncData
  F_machines_of : Fun K "machines_of" "machines_of" s_machines_of a_machines_of f_machines_of
  b_machines_of : Binds K f_machines_of ["where", "pieces"] []
  g_machines_of : mg "machines_of" = some (.ref a_machines_of)
  a_weakest : Addr
  f_weakest : FuncData
  F_weakest : Fun K "weakest" "weakest" s_weakest a_weakest f_weakest
  b_weakest : Binds K f_weakest ["bars", "where"] []
  g_weakest : mg "weakest" = some (.ref a_weakest)
  a_expect_counts : Addr
  f_expect_counts : FuncData
  F_expect_counts : Fun K "expect_counts" "expect_counts" s_expect_counts a_expect_counts f_expect_counts
  b_expect_counts : Binds K f_expect_counts ["machines", "limit"] []
  g_expect_counts : mg "expect_counts" = some (.ref a_expect_counts)
  a_expect_room : Addr
  f_expect_room : FuncData
  F_expect_room : Fun K "expect_room" "expect_room" s_expect_room a_expect_room f_expect_room
  b_expect_room : Binds K f_expect_room ["table", "machines", "limit"] []
  g_expect_room : mg "expect_room" = some (.ref a_expect_room)
  a_roomy_placings : Addr
  f_roomy_placings : FuncData
  F_roomy_placings : Fun K "roomy_placings" "roomy_placings" s_roomy_placings a_roomy_placings f_roomy_placings
  b_roomy_placings : Binds K f_roomy_placings ["table", "machines", "limit"] []
  g_roomy_placings : mg "roomy_placings" = some (.ref a_roomy_placings)
  a_best_placing : Addr
  f_best_placing : FuncData
  F_best_placing : Fun K "best_placing" "best_placing" s_best_placing a_best_placing f_best_placing
  b_best_placing : Binds K f_best_placing ["table", "machines", "limit"] []
  g_best_placing : mg "best_placing" = some (.ref a_best_placing)
  a_expect_pieces : Addr
  f_expect_pieces : FuncData
  F_expect_pieces : Fun K "expect_pieces" "expect_pieces" s_expect_pieces a_expect_pieces f_expect_pieces
  b_expect_pieces : Binds K f_expect_pieces ["prime", "size", "pieces"] []
  g_expect_pieces : mg "expect_pieces" = some (.ref a_expect_pieces)
  a_Table_init : Addr
  f_Table_init : FuncData
  F_Table_init : Fun K "__init__" "Table.__init__" s_Table_init a_Table_init f_Table_init
  b_Table_init : Binds K f_Table_init ["self", "prime", "size", "pieces"] []
  a_Table_prime : Addr
  f_Table_prime : FuncData
  F_Table_prime : Fun K "prime" "Table.prime" s_Table_prime a_Table_prime f_Table_prime
  b_Table_prime : Binds K f_Table_prime ["self"] []
  a_Table_size : Addr
  f_Table_size : FuncData
  F_Table_size : Fun K "size" "Table.size" s_Table_size a_Table_size f_Table_size
  b_Table_size : Binds K f_Table_size ["self"] []
  a_Table_pieces : Addr
  f_Table_pieces : FuncData
  F_Table_pieces : Fun K "pieces" "Table.pieces" s_Table_pieces a_Table_pieces f_Table_pieces
  b_Table_pieces : Binds K f_Table_pieces ["self"] []
  a_Table_is_whole : Addr
  f_Table_is_whole : FuncData
  F_Table_is_whole : Fun K "is_whole" "Table.is_whole" s_Table_is_whole a_Table_is_whole f_Table_is_whole
  b_Table_is_whole : Binds K f_Table_is_whole ["self"] []
  a_Table_len : Addr
  f_Table_len : FuncData
  F_Table_len : Fun K "__len__" "Table.__len__" s_Table_len a_Table_len f_Table_len
  b_Table_len : Binds K f_Table_len ["self"] []
  a_Table_space : Addr
  f_Table_space : FuncData
  F_Table_space : FunD K "space" "Table.space" (defArgs s_Table_space) (defBody s_Table_space) (defScope s_Table_space) [V.non] [] a_Table_space f_Table_space
  b_Table_space : Binds K f_Table_space ["self", "spots"] []
  a_Table_spots_of : Addr
  f_Table_spots_of : FuncData
  F_Table_spots_of : Fun K "spots_of" "Table.spots_of" s_Table_spots_of a_Table_spots_of f_Table_spots_of
  b_Table_spots_of : Binds K f_Table_spots_of ["self", "pieces"] []
  a_is_barred : Addr
  f_is_barred : FuncData
  F_is_barred : Fun K "is_barred" "is_barred" s_is_barred a_is_barred f_is_barred
  b_is_barred : Binds K f_is_barred ["table", "machines", "limit", "survival", "value"] []
  g_is_barred : mg "is_barred" = some (.ref a_is_barred)
  a_law_source : Addr
  f_law_source : FuncData
  F_law_source : Fun K "_law_source" "_law_source" s_law_source a_law_source f_law_source
  b_law_source : Binds K f_law_source ["_law_script", "_law_turn"] []
  g_law_source : mg "_law_source" = some (.ref a_law_source)
  a_law_draw : Addr
  f_law_draw : FuncData
  F_law_draw : Fun K "_law_draw" "_law_draw" s_law_draw a_law_draw f_law_draw
  b_law_draw : Binds K f_law_draw ["_law_source_here", "_law_amount"] []
  g_law_draw : mg "_law_draw" = some (.ref a_law_draw)
  a_law_said : Addr
  f_law_said : FuncData
  F_law_said : Fun K "_law_said" "_law_said" s_law_said a_law_said f_law_said
  b_law_said : Binds K f_law_said ["_law_call"] []
  g_law_said : mg "_law_said" = some (.ref a_law_said)
  a_law_doors : Addr
  f_law_doors : FuncData
  F_law_doors : Fun K "_law_doors" "_law_doors" s_law_doors a_law_doors f_law_doors
  b_law_doors : Binds K f_law_doors ["_law_table", "_law_machines", "_law_limit"] []
  g_law_doors : mg "_law_doors" = some (.ref a_law_doors)
  a_law : Addr
  f_law : FuncData
  F_law : Fun K "law" "law" s_law a_law f_law
  b_law : Binds K f_law ["_law_script"] []
  g_law : mg "law" = some (.ref a_law)
  a_InvalidNumber : Addr
  g_InvalidNumber : mg "InvalidNumber" = some (.ref a_InvalidNumber)
  a_LimitExceeded : Addr
  g_LimitExceeded : mg "LimitExceeded" = some (.ref a_LimitExceeded)
  a_Lost : Addr
  g_Lost : mg "Lost" = some (.ref a_Lost)
  a_Sum : Addr
  g_Sum : mg "Sum" = some (.ref a_Sum)
  a_Space : Addr
  g_Space : mg "Space" = some (.ref a_Space)
  a_Table : Addr
  g_Table : mg "Table" = some (.ref a_Table)
  a_Placing : Addr
  g_Placing : mg "Placing" = some (.ref a_Placing)
  n_isinstance : mg "isinstance" = none
  n_repr : mg "repr" = none
  n_str : mg "str" = none
  n_int : mg "int" = none
  n_bool : mg "bool" = none
  n_list : mg "list" = none
  n_tuple : mg "tuple" = none
  n_len : mg "len" = none
  n_all : mg "all" = none
  n_any : mg "any" = none
  n_sum : mg "sum" = none
  n_zip : mg "zip" = none
  n_max : mg "max" = none
  n_min : mg "min" = none
  n_range : mg "range" = none
  n_sorted : mg "sorted" = none
  n_enumerate : mg "enumerate" = none
  n_reversed : mg "reversed" = none
  n_iter : mg "iter" = none
  n_set : mg "set" = none
  c_Sum : ClsI K a_Sum
  m_Sum : Mk K a_Sum a_Sum_init
  call_Sum : StX.CallO K a_Sum a_Sum_call
  c_Space : ClsI K a_Space
  m_Space : Mk K a_Space a_Space_init
  nf_Sum : PySem.W.notFirst K a_Sum (.ref a_Sum) = true
  kt_Sum : PySem.W.kitOne K (.ref a_Sum) (.ref a_Sum) = some true
  c_Table : ClsI K a_Table
  m_Table : Mk K a_Table a_Table_init
  me_space : Meth K a_Table "space" a_Table_space
  ln_Table : PySem.W.findIn K (.ref a_Table) "__len__" = some (some (.ref a_Table_len))
  lf_Table : PySem.W.isFn K (.ref a_Table_len) = true
  me_spots_of : Meth K a_Table "spots_of" a_Table_spots_of
  kt_Placing : PySem.W.kitOne K (.ref a_Placing) (.ref a_Placing) = some true
  c_Placing : ClsI K a_Placing
  m_Placing : Mk K a_Placing a_Placing_init
  mc : Value
  q_unit : Addr
  sm_unit : SMet K a_Sum mc "unit" q_unit a_Sum_unit
  dv_Table_space : List Value
  bd_Table_space : Binds K f_Table_space ["self", "spots"] dv_Table_space
  bv_Table_space : Vals [V.non] dv_Table_space
  a_GS : Addr
  g_GS : mg "GREATEST_SIZES" = some (.ref a_GS)
  d_GS : IntD K P w a_GS gsz
  kt_NoneType : PySem.W.kitOne K (.type "NoneType") (.ref a_Sum) = some false
  kt_int : PySem.W.kitOne K (.type "int") (.ref a_Sum) = some false
  kt_str : PySem.W.kitOne K (.type "str") (.ref a_Sum) = some false
  kt_tuple : PySem.W.kitOne K (.type "tuple") (.ref a_Sum) = some false
  kt_list : PySem.W.kitOne K (.type "list") (.ref a_Sum) = some false
  x_InvalidNumber : OexT K "Exception.__new__" [.type "Exception", .type "BaseException", .type "object"] a_InvalidNumber
  i_InvalidNumber : PySem.W.findIn K (.ref a_InvalidNumber) "__init__" = some (some (.ref a_InvalidNumber_init))
  t_InvalidNumber : PySem.W.typeIn K (.ref a_InvalidNumber_init) = some (.type "function")
  h_InvalidNumber : PySem.W.findIn K (.ref a_InvalidNumber) "value" = some none
  x_LimitExceeded : OexT K "Exception.__new__" [.type "Exception", .type "BaseException", .type "object"] a_LimitExceeded
  i_LimitExceeded : PySem.W.findIn K (.ref a_LimitExceeded) "__init__" = some (some (.ref a_LimitExceeded_init))
  t_LimitExceeded : PySem.W.typeIn K (.ref a_LimitExceeded_init) = some (.type "function")
  h_LimitExceeded : PySem.W.findIn K (.ref a_LimitExceeded) "limit" = some none
  x_Lost : OexT K "Exception.__new__" [.type "Exception", .type "BaseException", .type "object"] a_Lost
  i_Lost : PySem.W.findIn K (.ref a_Lost) "__init__" = some (some (.ref a_Lost_init))
  t_Lost : PySem.W.typeIn K (.ref a_Lost_init) = some (.type "function")
  h_Lost : PySem.W.findIn K (.ref a_Lost) "blind" = some none
  y_InvalidNumber : XfC K a_InvalidNumber
  z_InvalidNumber : PySem.W.findIn K (.ref a_InvalidNumber) "value" = some none
  e_InvalidNumber_InvalidNumber : PySem.W.exmOne K (.ref a_InvalidNumber) (.ref a_InvalidNumber) = some true
  e_InvalidNumber_LimitExceeded : PySem.W.exmOne K (.ref a_InvalidNumber) (.ref a_LimitExceeded) = some false
  e_InvalidNumber_Lost : PySem.W.exmOne K (.ref a_InvalidNumber) (.ref a_Lost) = some false
  y_LimitExceeded : XfC K a_LimitExceeded
  z_LimitExceeded : PySem.W.findIn K (.ref a_LimitExceeded) "limit" = some none
  e_LimitExceeded_InvalidNumber : PySem.W.exmOne K (.ref a_LimitExceeded) (.ref a_InvalidNumber) = some false
  e_LimitExceeded_LimitExceeded : PySem.W.exmOne K (.ref a_LimitExceeded) (.ref a_LimitExceeded) = some true
  e_LimitExceeded_Lost : PySem.W.exmOne K (.ref a_LimitExceeded) (.ref a_Lost) = some false
  y_Lost : XfC K a_Lost
  z_Lost : PySem.W.findIn K (.ref a_Lost) "blind" = some none
  e_Lost_InvalidNumber : PySem.W.exmOne K (.ref a_Lost) (.ref a_InvalidNumber) = some false
  e_Lost_LimitExceeded : PySem.W.exmOne K (.ref a_Lost) (.ref a_LimitExceeded) = some false
  e_Lost_Lost : PySem.W.exmOne K (.ref a_Lost) (.ref a_Lost) = some true
  cl1 : Addr
  P1 : Addr
  hcl1 : f_law_doors.code = .ref cl1
  cl2 : Addr
  P2 : Addr
  hcl2 : f_law.code = .ref cl2
  nb_prime : NoAttr K a_Table "_prime"
  nb_size : NoAttr K a_Table "_size"
  nb_pieces : NoAttr K a_Table "_pieces"
  nb_spots : NoAttr K a_Table "_spots"
  nb_sums : NoAttr K a_Table "_sums"
  nb_whole : NoAttr K a_Table "_whole"
  t_MOST_WISHES : Tok
  g_MOST_WISHES : mg "MOST_WISHES" = some (.int 10 t_MOST_WISHES)
  t_MOST_PIECES : Tok
  g_MOST_PIECES : mg "MOST_PIECES" = some (.int 6 t_MOST_PIECES)
  t_MOST_PARTS : Tok
  g_MOST_PARTS : mg "MOST_PARTS" = some (.int 3 t_MOST_PARTS)
  t_MOST_PARTS_IN_ALL : Tok
  g_MOST_PARTS_IN_ALL : mg "MOST_PARTS_IN_ALL" = some (.int 10 t_MOST_PARTS_IN_ALL)
  t_MOST_MACHINES : Tok
  g_MOST_MACHINES : mg "MOST_MACHINES" = some (.int 6 t_MOST_MACHINES)
  t_MOST_PLACINGS : Tok
  g_MOST_PLACINGS : mg "MOST_PLACINGS" = some (.int 4096 t_MOST_PLACINGS)
  np_machines : NoAttr K a_Placing "_machines"
  np_where : NoAttr K a_Placing "_where"
  na_prime : NoAttr K a_Sum "_prime"
  na_factors : NoAttr K a_Sum "_factors"
  ns_prime : NoAttr K a_Space "_prime"
  ns_size : NoAttr K a_Space "_size"
  ns_rows : NoAttr K a_Space "_rows"
  ns_reduced : NoAttr K a_Space "_reduced"
  q_Sum_prime : Addr
  pp_Sum_prime : PropOf K a_Sum "prime" q_Sum_prime a_Sum_prime
  q_Sum_factors : Addr
  pp_Sum_factors : PropOf K a_Sum "factors" q_Sum_factors a_Sum_factors
  q_Sum_size : Addr
  pp_Sum_size : PropOf K a_Sum "size" q_Sum_size a_Sum_size
  q_Space_prime : Addr
  pp_Space_prime : PropOf K a_Space "prime" q_Space_prime a_Space_prime
  q_Space_size : Addr
  pp_Space_size : PropOf K a_Space "size" q_Space_size a_Space_size
  q_Space_reduced_sums : Addr
  pp_Space_reduced_sums : PropOf K a_Space "reduced_sums" q_Space_reduced_sums a_Space_reduced_sums
  q_Space_is_whole : Addr
  pp_Space_is_whole : PropOf K a_Space "is_whole" q_Space_is_whole a_Space_is_whole
  q_Table_prime : Addr
  pp_Table_prime : PropOf K a_Table "prime" q_Table_prime a_Table_prime
  q_Table_size : Addr
  pp_Table_size : PropOf K a_Table "size" q_Table_size a_Table_size
  q_Table_pieces : Addr
  pp_Table_pieces : PropOf K a_Table "pieces" q_Table_pieces a_Table_pieces
  q_Table_is_whole : Addr
  pp_Table_is_whole : PropOf K a_Table "is_whole" q_Table_is_whole a_Table_is_whole
theorem gsz_pos {p g : Int} (h : gsz p = some g) : 2 ≤ p ∧ p ≤ 7 ∧ g ≤ 6 := by
  unfold gsz at h
  split at h
  · cases h; omega
  split at h
  · cases h; omega
  split at h
  · cases h; omega
  split at h
  · cases h; omega
  · cases h
/-- factors of a sum; data -/
def In (p : Int) (xs : List Int) : Prop := ∀ x ∈ xs, 0 ≤ x ∧ x < p
def SumOk (p : Int) (fs : List Int) : Prop := ∃ g, gsz p = some g ∧ 1 ≤ (fs.length : Int) ∧ (fs.length : Int) ≤ g ∧ In p fs
def dSum (C : Addr) (p : Int) (f : D) : D := .ins C [("_prime", .int p), ("_factors", f)]
/-- a tuple of these ints, in either form -/
def Fs (f : D) (fs : List Int) : Prop := fgD f = .tup (dI fs)
theorem In.all {p : Int} {xs : List Int} (h : In p xs) : (xs.all fun x => decide (0 ≤ x) && decide (x ≤ p - 1)) = true := by
  rw [List.all_eq_true]
  intro x hx
  have := h x hx
  simp only [Bool.and_eq_true, decide_eq_true_eq]
  omega
end K36
set_option Elab.async false
set_option linter.all false
set_option maxRecDepth 100000
set_option maxHeartbeats 4000000
namespace K36
open PySem PySem.Spec PyProof.Rows L2 Pd
section
variable {P : Program} {w : World} {K : PySem.W.Frag} {mg : Str → Option Value} {base : Heap}
def W_is_integer : DC := fun ds M Q => ∃ d t, ds = [d] ∧ tyN d = some t ∧ Q (.bl (isI d)) M
theorem ok_is_integer (T : Tx P w K mg) : FnOk P w K mg base CX0 1 T.a_is_integer T.f_is_integer ["value"] (spD 1 W_is_integer K) := by
  refine pd_fn T.F_is_integer sc_is_integer (fun cdv A outer s H E hr => ⟨_, (pdss_one (pds_ret (pd_and (pd_callB call_isi sc_isi (by rfl) T.n_isinstance (by decide +kernel) (pda_cons (pd_name 0) (pda_cons (pd_bltn (v := .ty "int") (d := .ty "int") (by rfl) T.n_int (by decide +kernel) rfl (fun _ _ => .ty _)) pda_nil))) (pd_one (pd_not (pd_callB call_isi sc_isi (by rfl) T.n_isinstance (by decide +kernel) (pda_cons (pd_name 0) (pda_cons (pd_bltn (v := .ty "bool") (d := .ty "bool") (by rfl) T.n_bool (by decide +kernel) rfl (fun _ _ => .ty _)) pda_nil)))))))), fun ds M Q hl h => ?_⟩)
  obtain ⟨d, t, rfl, ht, q⟩ := h
  refine ⟨d, rfl, ?_⟩
  have hd := dty (K := K) ht
  cases d <;> simp only [tyN, Option.some.injEq, reduceCtorEq] at ht <;> subst ht
  case int i =>
    refine ⟨_, _, _, _, _, true, rfl, hd, .ty "int", kit_ty (by decide +kernel), _, rfl, ?_⟩
    refine ⟨_, rfl, _, _, _, _, _, false, rfl, hd, .ty "bool", kit_ty (by decide +kernel), _, rfl, q⟩
  case bl b =>
    refine ⟨_, _, _, _, _, true, rfl, hd, .ty "int", kit_ty (by decide +kernel), _, rfl, ?_⟩
    refine ⟨_, rfl, _, _, _, _, _, true, rfl, hd, .ty "bool", kit_ty (by decide +kernel), _, rfl, q⟩
  all_goals
    refine ⟨_, _, _, _, _, false, rfl, hd, .ty "int", kit_ty (by decide +kernel), _, rfl, q⟩
def W_is_between : DC := fun ds M Q => ∃ d t lo hi, ds = [d, .int lo, .int hi] ∧ tyN d = some t ∧ (∀ i, d = .int i → Q (.bl (decide (lo ≤ i) && decide (i ≤ hi))) M) ∧ (isI d = false → Q (.bl false) M)
theorem ok_is_between (T : Tx P w K mg) : FnOk P w K mg base CX0 2 T.a_is_between T.f_is_between ["value", "low", "high"] (spD 3 W_is_between K) := by
  refine pd_fn T.F_is_between sc_is_between (fun cdv A outer s H E hr => ⟨_, (pdss_one (pds_ret (pd_and (pd_call (ok_is_integer T) (hr.mono (by decide)) (by rfl) T.g_is_integer T.F_is_integer.kp T.b_is_integer (pda_cons (pd_name 0) pda_nil)) (pd_one (pd_chain op_le sr_I0b op_le sr_I0b (pd_name 1) (pd_name 0) (pd_name 2)))))), fun ds M Q hl h => ?_⟩)
  obtain ⟨d, t, lo, hi, rfl, ht, q1, q2⟩ := h
  refine ⟨d, rfl, rfl, d, t, rfl, ht, _, rfl, ?_⟩
  cases e : isI d with
  | false => exact q2 e
  | true =>
    cases d <;> simp only [isI, reduceCtorEq] at e
    rename_i i
    refine ⟨_, rfl, _, rfl, _, _, rfl, rfl, _, rfl, ?_⟩
    have q := q1 i rfl
    by_cases h1 : lo ≤ i
    · rw [decide_eq_true h1] at q ⊢
      exact ⟨_, rfl, _, _, rfl, rfl, q⟩
    · rw [decide_eq_false h1] at q ⊢
      exact q
def W_has_items : DC := fun ds M Q => ∃ d xs lo hi, ds = [d, .int lo, .int hi] ∧ isSeq d xs ∧ Q (.bl (decide (lo ≤ (xs.length : Int)) && decide ((xs.length : Int) ≤ hi))) M
theorem ok_has_items (T : Tx P w K mg) : FnOk P w K mg base CX0 1 T.a_has_items T.f_has_items ["value", "least", "most"] (spD 3 W_has_items K) := by
  refine pd_fn T.F_has_items sc_has_items (fun cdv A outer s H E hr => ⟨_, (pdss_one (pds_ret (pd_and (pd_isi2 (T1 := "list") (T2 := "tuple") (by rfl) T.n_isinstance (pd_name 0) (by rfl) T.n_list (by decide +kernel) (by rfl) T.n_tuple (by decide +kernel)) (pd_one (pd_chain op_le sr_I0b op_le sr_I0b (pd_name 1) (pd_callB call_len_seq sc_len (by rfl) T.n_len (by decide +kernel) (pda_cons (pd_name 0) pda_nil)) (pd_name 2)))))), fun ds M Q hl h => ?_⟩)
  obtain ⟨d, xs, lo, hi, rfl, hs, q⟩ := h
  obtain ⟨t, h1, h2⟩ : ∃ t, DTy K d (.type t) ∧ PySem.W.kitAny K (.type t) [.type "list", .type "tuple"] = some true := by
    rcases hs with rfl | rfl
    · exact ⟨"list", .lst _, rfl⟩
    · exact ⟨"tuple", .tup _, rfl⟩
  refine ⟨d, rfl, .type t, true, h1, h2, true, rfl, ?_⟩
  refine ⟨_, rfl, d, rfl, xs, ?_, _, _, rfl, rfl, _, rfl, ?_⟩
  · rcases hs with rfl | rfl
    · exact .inl rfl
    · exact .inr rfl
  · by_cases h1 : lo ≤ (xs.length : Int)
    · rw [decide_eq_true h1] at q ⊢
      exact ⟨_, rfl, _, _, rfl, rfl, q⟩
    · rw [decide_eq_false h1] at q ⊢
      exact q
end
end K36
set_option Elab.async false
set_option linter.all false
set_option maxRecDepth 100000
set_option maxHeartbeats 4000000
namespace K36
open PySem PySem.Spec PyProof.Rows L2 Pd
section
variable {P : Program} {w : World} {K : PySem.W.Frag} {mg : Str → Option Value} {base : Heap}
def W_all_between : DC := fun ds M Q => ∃ d xs lo hi, ds = [d, .int lo, .int hi] ∧ isSeq d (dI xs) ∧ xs.length ≤ sizeLine ∧ Q (.bl (xs.all fun x => decide (lo ≤ x) && decide (x ≤ hi))) M
theorem ok_all_between (T : Tx P w K mg) : FnOk P w K mg base CX0 3 T.a_all_between T.f_all_between ["items", "low", "high"] (spD 3 W_all_between K) := by
  refine pd_fn T.F_all_between sc_all_between (fun cdv A outer s H E hr => ⟨_, (pdss_one (pds_ret (pd_callB (cr_all rfl) sc_all (by rfl) T.n_all (by decide +kernel) (pda_cons (pd_lc [("item", 3)] rfl sc_all_between.nd (pdi_seq (pd_name 0)) (blkOk_by (N := ["items", "low", "high", "item"]) (sc := defScope s_all_between) (by decide +kernel)) (fun _ _ _ _ _ => (pdg_name 3 sc_all_between.nd)) (fun _ _ _ _ _ => pdts_nil) (fun _ _ _ _ _ => (pd_call (ok_is_between T) (hr.mono (by decide)) (by rfl) T.g_is_between T.F_is_between.kp T.b_is_between (pda_cons (pd_name 3) (pda_cons (pd_name 1) (pda_cons (pd_name 2) pda_nil)))))) pda_nil)))), fun ds M Q hl h => ?_⟩)
  obtain ⟨d, xs, lo, hi, rfl, hs, hz, q⟩ := h
  refine ⟨d, rfl, dI xs, hs, lc_map (fun d => match d with | .int x => .bl (decide (lo ≤ x) && decide (x ≤ hi)) | d => d) _ _ (fun d hd R hR => ?_) (by simpa using hz) ?_⟩
  · obtain ⟨x, hx, rfl⟩ := List.mem_map.mp hd
    refine ⟨.int x, rfl, .int lo, rfl, .int hi, rfl, rfl, .int x, "int", lo, hi, rfl, rfl, fun i e => ?_, fun e => ?_⟩
    · cases e; exact hR
    · cases e
  · refine ⟨xs.map fun x => decide (lo ≤ x) && decide (x ≤ hi), ?_, ?_⟩
    · rw [List.nil_append, List.map_map, List.map_map]
      rfl
    · rw [List.all_map]
      exact q
def W_is_prime : DC := fun ds M Q => ∃ p, ds = [.int p] ∧ Q (.bl (gsz p).isSome) M
theorem ok_is_prime (T : Tx P w K mg) : FnOk P w K mg base CX0 2 T.a_is_prime T.f_is_prime ["value"] (spD 1 W_is_prime K) := by
  refine pd_fn T.F_is_prime sc_is_prime (fun cdv A outer s H E hr => ⟨_, (pdss_one (pds_ret (pd_and (pd_call (ok_is_integer T) (hr.mono (by decide)) (by rfl) T.g_is_integer T.F_is_integer.kp T.b_is_integer (pda_cons (pd_name 0) pda_nil)) (pd_one (pd_cmp (op_in_id T.d_GS) sr_inD (pd_name 0) (pd_glob (v := .ref T.a_GS) (d := .ob T.a_GS) (by rfl) T.g_GS rfl (fun _ _ => .ob _)) (by rfl)))))), fun ds M Q hl h => ?_⟩)
  obtain ⟨p, rfl, q⟩ := h
  exact ⟨.int p, rfl, rfl, .int p, "int", rfl, rfl, true, rfl, .int p, rfl, p, rfl, rfl, q⟩
def W_is_size : DC := fun ds M Q => ∃ p g n, ds = [.int p, .int n] ∧ gsz p = some g ∧ Q (.bl (decide (1 ≤ n) && decide (n ≤ g))) M
theorem ok_is_size (T : Tx P w K mg) : FnOk P w K mg base CX0 3 T.a_is_size T.f_is_size ["prime", "value"] (spD 2 W_is_size K) := by
  refine pd_fn T.F_is_size sc_is_size (fun cdv A outer s H E hr => ⟨_, (pdss_one (pds_ret (pd_and (pd_call (ok_is_prime T) (hr.mono (by decide)) (by rfl) T.g_is_prime T.F_is_prime.kp T.b_is_prime (pda_cons (pd_name 0) pda_nil)) (pd_one (pd_call (ok_is_between T) (hr.mono (by decide)) (by rfl) T.g_is_between T.F_is_between.kp T.b_is_between (pda_cons (pd_name 1) (pda_cons pd_int (pda_cons (pd_ix (ix_id T.d_GS) sr_ixD (pd_glob (v := .ref T.a_GS) (d := .ob T.a_GS) (by rfl) T.g_GS rfl (fun _ _ => .ob _)) (pd_name 0)) pda_nil)))))))), fun ds M Q hl h => ?_⟩)
  obtain ⟨p, g, n, rfl, hg, q⟩ := h
  refine ⟨.int p, rfl, rfl, p, rfl, true, by rw [hg]; rfl, .int n, rfl, .int p, rfl, p, g, rfl, rfl, hg, rfl, .int n, "int", 1, g, rfl, rfl, fun i e => ?_, fun e => ?_⟩
  · cases e; exact q
  · cases e
theorem small {p : Int} {fs : List Int} (h : SumOk p fs) : fs.length ≤ 6 := by
  obtain ⟨g, h1, h2, h3, _⟩ := h
  have := gsz_pos h1
  omega
theorem small' {p : Int} {fs : List Int} (h : SumOk p fs) : fs.length ≤ sizeLine := Nat.le_trans (small h) (by decide)
def W_is_data : DC := fun ds M Q => ∃ p n d xs, ds = [.int p, .int n, d] ∧ SumOk p xs ∧ isSeq d (dI xs) ∧ n = (xs.length : Int) ∧ Q (.bl true) M
theorem ok_is_data (T : Tx P w K mg) : FnOk P w K mg base CX0 4 T.a_is_data T.f_is_data ["prime", "size", "value"] (spD 3 W_is_data K) := by
  refine pd_fn T.F_is_data sc_is_data (fun cdv A outer s H E hr => ⟨_, (pdss_one (pds_ret (pd_and (pd_call (ok_is_size T) (hr.mono (by decide)) (by rfl) T.g_is_size T.F_is_size.kp T.b_is_size (pda_cons (pd_name 0) (pda_cons (pd_name 1) pda_nil))) (pd_and (pd_call (ok_has_items T) (hr.mono (by decide)) (by rfl) T.g_has_items T.F_has_items.kp T.b_has_items (pda_cons (pd_name 2) (pda_cons (pd_name 1) (pda_cons (pd_name 1) pda_nil)))) (pd_one (pd_call (ok_all_between T) (hr.mono (by decide)) (by rfl) T.g_all_between T.F_all_between.kp T.b_all_between (pda_cons (pd_name 2) (pda_cons pd_int (pda_cons (pd_op op_sub sr_I0i (pd_name 0) pd_int) pda_nil))))))))), fun ds M Q hl h => ?_⟩)
  obtain ⟨p, n, d, xs, rfl, hx, hs, rfl, q⟩ := h
  obtain ⟨g, h1, h2, h3, h4⟩ := id hx
  refine ⟨.int p, rfl, .int _, rfl, rfl, p, g, _, rfl, h1, true, by rw [decide_eq_true h2, decide_eq_true h3]; rfl, ?_⟩
  refine ⟨d, rfl, .int _, rfl, .int _, rfl, rfl, d, _, _, _, rfl, hs, true, by rw [List.length_map, decide_eq_true (Int.le_refl _)]; rfl, ?_⟩
  refine ⟨d, rfl, .int p, rfl, p, 1, rfl, rfl, rfl, d, xs, 0, p - 1, rfl, hs, small' hx, ?_⟩
  rw [h4.all]
  exact q
def W_expect : DC := fun ds M Q => ∃ p g n, ds = [.int p, .int n] ∧ gsz p = some g ∧ 1 ≤ n ∧ n ≤ g ∧ Q .non M
theorem ok_expect_prime_and_size (T : Tx P w K mg) : FnOk P w K mg base CX0 4 T.a_expect_prime_and_size T.f_expect_prime_and_size ["prime", "size"] (spD 2 W_expect K) := by
  refine pd_fn T.F_expect_prime_and_size sc_expect_prime_and_size (fun cdv A outer s H E hr => ⟨_, (pdss_cons (pds_if (pdt_not (pdt_val (pd_call (ok_is_prime T) (hr.mono (by decide)) (by rfl) T.g_is_prime T.F_is_prime.kp T.b_is_prime (pda_cons (pd_name 0) pda_nil)))) (pdss_one pds_never) pdss_nil)
      (pdss_one (pds_if (pdt_not (pdt_val (pd_call (ok_is_size T) (hr.mono (by decide)) (by rfl) T.g_is_size T.F_is_size.kp T.b_is_size (pda_cons (pd_name 0) (pda_cons (pd_name 1) pda_nil))))) (pdss_one pds_never) pdss_nil))), fun ds M Q hl h => ?_⟩)
  obtain ⟨p, g, n, rfl, hg, h1, h2, q⟩ := h
  refine ⟨.int p, rfl, rfl, p, rfl, true, by rw [hg]; rfl, ?_⟩
  refine ⟨.int p, rfl, .int n, rfl, rfl, p, g, n, rfl, hg, true, by rw [decide_eq_true h1, decide_eq_true h2]; rfl, ?_⟩
  exact q
theorem dty_sum (T : Tx P w K mg) (p : Int) (f : D) : DTy K (dSum T.a_Sum p f) (.ref T.a_Sum) := .ins T.c_Sum
def W_prime (C : Addr) : DC := fun ds M Q => ∃ p f, ds = [dSum C p f] ∧ Q (.int p) M
theorem ok_Sum_prime (T : Tx P w K mg) : FnOk P w K mg base CX0 1 T.a_Sum_prime T.f_Sum_prime ["self"] (spD 1 (W_prime T.a_Sum) K) := by
  refine pd_fn T.F_Sum_prime sc_Sum_prime (fun cdv A outer s H E hr => ⟨_, (pdss_one (pds_ret (pd_fldK (K := K) rfl (pd_name 0)))), fun ds M Q hl h => ?_⟩)
  obtain ⟨p, fs, rfl, q⟩ := h
  exact ⟨_, rfl, _, _, _, rfl, T.c_Sum.cl, T.na_prime, rfl, q⟩
def W_factors (C : Addr) : DC := fun ds M Q => ∃ p f, ds = [dSum C p f] ∧ Q f M
theorem ok_Sum_factors (T : Tx P w K mg) : FnOk P w K mg base CX0 1 T.a_Sum_factors T.f_Sum_factors ["self"] (spD 1 (W_factors T.a_Sum) K) := by
  refine pd_fn T.F_Sum_factors sc_Sum_factors (fun cdv A outer s H E hr => ⟨_, (pdss_one (pds_ret (pd_fldK (K := K) rfl (pd_name 0)))), fun ds M Q hl h => ?_⟩)
  obtain ⟨p, fs, rfl, q⟩ := h
  exact ⟨_, rfl, _, _, _, rfl, T.c_Sum.cl, T.na_factors, rfl, q⟩
def W_size (C : Addr) : DC := fun ds M Q => ∃ p f fs, ds = [dSum C p f] ∧ Fs f fs ∧ Q (.int fs.length) M
theorem ok_Sum_size (T : Tx P w K mg) : FnOk P w K mg base CX0 1 T.a_Sum_size T.f_Sum_size ["self"] (spD 1 (W_size T.a_Sum) K) := by
  refine pd_fn T.F_Sum_size sc_Sum_size (fun cdv A outer s H E hr => ⟨_, (pdss_one (pds_ret (pd_callB call_len_seq sc_len (by rfl) T.n_len (by decide +kernel) (pda_cons (pd_fg (pd_fldK (K := K) rfl (pd_name 0))) pda_nil)))), fun ds M Q hl h => ?_⟩)
  obtain ⟨p, f, fs, rfl, hf, q⟩ := h
  refine ⟨_, rfl, _, _, _, rfl, T.c_Sum.cl, T.na_factors, rfl, dI fs, .inr (by rw [show fgD f = _ from hf]), ?_⟩
  rw [List.length_map]
  exact q
def W_is_sum (K : PySem.W.Frag) (C : Addr) : DC := fun ds M Q => ∃ (p n : Int) (d : D), ds = [.int p, .int n, d] ∧ ((∃ p' f fs, d = dSum C p' f ∧ Fs f fs ∧ Q (.bl (decide (p' = p) && decide ((fs.length : Int) = n))) M) ∨ ∃ t, DTy K d t ∧ PySem.W.kitOne K t (.ref C) = some false ∧ Q (.bl false) M)
theorem ok_is_sum (T : Tx P w K mg) : FnOk P w K mg base CX0 3 T.a_is_sum T.f_is_sum ["prime", "size", "value"] (spD 3 (W_is_sum K T.a_Sum) K) := by
  refine pd_fn T.F_is_sum sc_is_sum (fun cdv A outer s H E hr => ⟨_, (pdss_one (pds_ret (pd_and (pd_callB call_isi sc_isi (by rfl) T.n_isinstance (by decide +kernel) (pda_cons (pd_name 2) (pda_cons (pd_glob (v := .ref T.a_Sum) (d := .ob T.a_Sum) (by rfl) T.g_Sum rfl (fun _ _ => .ob _)) pda_nil))) (pd_and (pd_cmp (op_eqD hr.units) sr_eq (pd_prop (pd_name 2) T.c_Sum.cl T.pp_Sum_prime (ok_Sum_prime T) (hr.mono (by decide)) T.b_Sum_prime) (pd_name 0) (nomark _)) (pd_one (pd_cmp (op_eqD hr.units) sr_eq (pd_prop (pd_name 2) T.c_Sum.cl T.pp_Sum_size (ok_Sum_size T) (hr.mono (by decide)) T.b_Sum_size) (pd_name 1) (nomark _))))))), fun ds M Q hl h => ?_⟩)
  obtain ⟨p, n, d, rfl, ⟨p', f, fs, rfl, hf, q⟩ | ⟨t, ht, hk, q⟩⟩ := h
  · refine ⟨_, rfl, _, _, _, _, _, true, rfl, dty_sum T p' f, .ob T.a_Sum, T.kt_Sum, true, rfl, ?_⟩
    refine ⟨_, rfl, _, rfl, _, _, rfl, .int p, rfl, rfl, rfl, decide (p' = p), by rw [eqD_int], ?_⟩
    by_cases e : p' = p
    · rw [decide_eq_true e] at q ⊢
      refine ⟨_, rfl, _, rfl, _, _, fs, rfl, hf, .int _, rfl, rfl, rfl, ?_⟩
      rw [eqD_int]
      exact q
    · rw [decide_eq_false e] at q ⊢
      exact q
  · refine ⟨d, rfl, _, _, _, _, _, false, rfl, ht, .ob T.a_Sum, hk, false, rfl, q⟩
def W_init (C : Addr) : DC := fun ds M Q => ∃ j p d fs, ds = [.mu j, .int p, d] ∧ M[j]? = some (.ins C []) ∧ SumOk p fs ∧
  ((d = .lst (dI fs) ∧ Q .non (M.set j (.ins C [("_prime", .int p), ("_factors", .tfz fs)]))) ∨ (d = .tup (dI fs) ∧ Q .non (M.set j (.ins C [("_prime", .int p), ("_factors", .tup (dI fs))]))) ∨ (d = .tfz fs ∧ Q .non (M.set j (.ins C [("_prime", .int p), ("_factors", .tfz fs)]))))
theorem ok_Sum_init (T : Tx P w K mg) : FnOk P w K mg base CX0 4 T.a_Sum_init T.f_Sum_init ["self", "prime", "factors"] (spD 3 (W_init T.a_Sum) K) := by
  refine pd_fn T.F_Sum_init sc_Sum_init (fun cdv A outer s H E hr => ⟨_, (pdss_cons (pds_if (pdt_not (pdt_val (pd_call (ok_is_prime T) (hr.mono (by decide)) (by rfl) T.g_is_prime T.F_is_prime.kp T.b_is_prime (pda_cons (pd_name 1) pda_nil)))) (pdss_one pds_never) pdss_nil)
      (pdss_cons (pds_if (pdt_w (pdw_or (pdt_not (pdt_val (pd_call (ok_has_items T) (hr.mono (by decide)) (by rfl) T.g_has_items T.F_has_items.kp T.b_has_items (pda_cons (pd_fg (pd_name 2)) (pda_cons pd_int (pda_cons (pd_ix (ix_id T.d_GS) sr_ixD (pd_glob (v := .ref T.a_GS) (d := .ob T.a_GS) (by rfl) T.g_GS rfl (fun _ _ => .ob _)) (pd_name 1)) pda_nil)))))) (pdw_or1 (pdt_not (pdt_val (pd_call (ok_all_between T) (hr.mono (by decide)) (by rfl) T.g_all_between T.F_all_between.kp T.b_all_between (pda_cons (pd_fg (pd_name 2)) (pda_cons pd_int (pda_cons (pd_op op_sub sr_I0i (pd_name 1) pd_int) pda_nil))))))))) (pdss_one pds_never) pdss_nil)
      (pdss_cons (pds_fldM (pd_name 1) (pd_name 0))
      (pdss_one (pds_fldM (pd_callTy call_mkT sc_mkT (by rfl) T.n_tuple (by decide +kernel) (pda_cons (pd_name 2) pda_nil)) (pd_name 0)))))), fun ds M Q hl h => ?_⟩)
  obtain ⟨j, p, d, fs, rfl, hm, hx, q⟩ := h
  obtain ⟨g, h1, h2, h3, h4⟩ := id hx
  have hj : j < M.length := (List.getElem?_eq_some_iff.mp hm).1
  have hs : isSeq (fgD d) (dI fs) := by
    rcases q with ⟨rfl, _⟩ | ⟨rfl, _⟩ | ⟨rfl, _⟩
    · exact .inl rfl
    · exact .inr rfl
    · exact .inr rfl
  refine ⟨.int p, rfl, rfl, p, rfl, true, by rw [h1]; rfl, ?_⟩
  refine ⟨d, rfl, .int p, rfl, p, g, rfl, rfl, h1, rfl, fgD d, _, _, _, rfl, hs, true, by rw [List.length_map, decide_eq_true h2, decide_eq_true h3]; rfl, ?_⟩
  refine ⟨d, rfl, .int p, rfl, p, 1, rfl, rfl, rfl, fgD d, fs, 0, p - 1, rfl, hs, small' hx, true, by rw [h4.all], ?_⟩
  refine ⟨.int p, rfl, .mu j, rfl, j, T.a_Sum, [], rfl, hm, T.c_Sum.cl, T.na_prime, by decide, ?_⟩
  refine ⟨d, rfl, d, fs, rfl, ?_⟩
  have g1 : (M.set j (.ins T.a_Sum [("_prime", .int p)]))[j]? = some (.ins T.a_Sum [("_prime", .int p)]) := by rw [List.getElem?_set_self hj]
  rcases q with ⟨rfl, q⟩ | ⟨rfl, q⟩ | ⟨rfl, q⟩
  · refine .inl ⟨rfl, .mu j, rfl, j, T.a_Sum, [("_prime", .int p)], rfl, g1, T.c_Sum.cl, T.na_factors, (by show 1 < 1000; decide), ?_⟩
    show Q .non _
    rw [List.set_set]; exact q
  · refine .inr (.inl ⟨rfl, .mu j, rfl, j, T.a_Sum, [("_prime", .int p)], rfl, g1, T.c_Sum.cl, T.na_factors, (by show 1 < 1000; decide), ?_⟩)
    show Q .non _
    rw [List.set_set]; exact q
  · refine .inr (.inr ⟨rfl, .mu j, rfl, j, T.a_Sum, [("_prime", .int p)], rfl, g1, T.c_Sum.cl, T.na_factors, (by show 1 < 1000; decide), ?_⟩)
    show Q .non _
    rw [List.set_set]; exact q
theorem make_sum {C : Addr} {p : Int} {fs : List Int} {d f : D} {M : Ms} {P : D → Ms → Prop} (hok : SumOk p fs) (hd : (d = .lst (dI fs) ∧ f = .tfz fs) ∨ (d = .tup (dI fs) ∧ f = .tup (dI fs)) ∨ (d = .tfz fs ∧ f = .tfz fs)) (hM : okM M) (q : P (dSum C p f) M) :
    ([.int p, d] : List D).length + 1 = 3 ∧ W_init C (.mu M.length :: [.int p, d]) (M ++ [.ins C []]) fun d M2 => ∃ M3 fs, d = .non ∧ M2 = M3 ++ [.ins C fs] ∧ M3.length = M.length ∧ apartF M.length fs = true ∧ apartM M.length M3 = true ∧ P (.ins C fs) M3 := by
  have hap : apartF M.length [("_prime", .int p), ("_factors", f)] = true := by
    show (true && (apart M.length f && true)) = true
    have : apart M.length f = true := by
      rcases hd with ⟨_, rfl⟩ | ⟨_, rfl⟩ | ⟨_, rfl⟩
      · rfl
      · exact apartA_ints _ _
      · rfl
    rw [this]; rfl
  refine ⟨rfl, _, p, d, fs, rfl, get_last _ _, hok, ?_⟩
  rcases hd with ⟨h1, rfl⟩ | ⟨h1, rfl⟩ | ⟨h1, rfl⟩
  · exact .inl ⟨h1, M, _, rfl, set_last _ _ _, rfl, hap, hM, q⟩
  · exact .inr (.inl ⟨h1, M, _, rfl, set_last _ _ _, rfl, hap, hM, q⟩)
  · exact .inr (.inr ⟨h1, M, _, rfl, set_last _ _ _, rfl, hap, hM, q⟩)
end
end K36
set_option Elab.async false
set_option linter.all false
set_option maxRecDepth 100000
set_option maxHeartbeats 4000000
namespace K36
open PySem PySem.Spec PyProof.Rows L2 Pd
def vsum (fs xs : List Int) : Int := (List.zipWith (fun a b => a * b) fs xs).sum
theorem pairs_mem : ∀ (fs xs : List Int) (d : D), d ∈ pairs (dI fs) (dI xs) → ∃ a b, a ∈ fs ∧ b ∈ xs ∧ d = .tup [.int a, .int b]
  | a :: fs, b :: xs, d, h => by
    rcases List.mem_cons.mp h with rfl | h
    · exact ⟨a, b, List.mem_cons_self, List.mem_cons_self, rfl⟩
    · obtain ⟨a', b', h1, h2, h3⟩ := pairs_mem fs xs d h
      exact ⟨a', b', List.mem_cons_of_mem _ h1, List.mem_cons_of_mem _ h2, h3⟩
  | [], xs, d, h => by cases xs <;> cases h
  | _ :: _, [], d, h => by cases h
def on2 (f : Int → Int → Int) : D → D := fun d => match d with | .tup [.int a, .int b] => .int (f a b) | d => d
theorem pairs_map (f : Int → Int → Int) : ∀ fs xs : List Int, (pairs (dI fs) (dI xs)).map (on2 f) = dI (List.zipWith f fs xs)
  | a :: fs, b :: xs => by
    show D.int (f a b) :: (pairs (dI fs) (dI xs)).map (on2 f) = _
    rw [pairs_map f fs xs]
    rfl
  | [], [] => rfl
  | [], _ :: _ => rfl
  | _ :: _, [] => rfl
theorem pairs_size (fs xs : List Int) : (pairs (dI fs) (dI xs)).length ≤ fs.length := by
  rw [Pd.pairs_len, List.length_map]
  exact Nat.min_le_left _ _
theorem SumOk.pos {p : Int} {fs : List Int} (h : SumOk p fs) : 0 < p ∧ p ≤ 7 := by
  obtain ⟨g, h1, _⟩ := h
  have := gsz_pos h1
  omega
theorem SumOk.mem {p : Int} {fs : List Int} (h : SumOk p fs) {a : Int} (ha : a ∈ fs) : 0 ≤ a ∧ a < 7 := by
  have h1 := h.pos
  obtain ⟨g, _, _, _, h4⟩ := h
  have := h4 a ha
  omega
section
variable {P : Program} {w : World} {K : PySem.W.Frag} {mg : Str → Option Value} {base : Heap}
def W_call (C : Addr) : DC := fun ds M Q => ∃ p f fs d xs, ds = [dSum C p f, d] ∧ Fs f fs ∧ SumOk p fs ∧ SumOk p xs ∧ isSeq d (dI xs) ∧ xs.length = fs.length ∧ Q (.int (vsum fs xs % p)) M
theorem ok_Sum_call (T : Tx P w K mg) : FnOk P w K mg base CX0 5 T.a_Sum_call T.f_Sum_call ["self", "data"] (spD 2 (W_call T.a_Sum) K) := by
  refine pd_fn T.F_Sum_call sc_Sum_call (fun cdv A outer s H E hr => ⟨_, (pdss_cons (pds_if (pdt_not (pdt_val (pd_call (ok_is_data T) (hr.mono (by decide)) (by rfl) T.g_is_data T.F_is_data.kp T.b_is_data (pda_cons (pd_fldK (K := K) rfl (pd_name 0)) (pda_cons (pd_callB call_len_seq sc_len (by rfl) T.n_len (by decide +kernel) (pda_cons (pd_fg (pd_fldK (K := K) rfl (pd_name 0))) pda_nil)) (pda_cons (pd_name 1) pda_nil)))))) (pdss_one pds_never) pdss_nil)
      (pdss_one (pds_ret (pd_op op_mod sr_I (pd_callB (cr_sum rfl) sc_sum (by rfl) T.n_sum (by decide +kernel) (pda_cons (pd_lc [("factor", 2), ("value", 3)] rfl sc_Sum_call.nd (pdi_zip (by rfl) T.n_zip (pda_cons (pd_fg (pd_fldK (K := K) rfl (pd_name 0))) (pda_cons (pd_name 1) pda_nil))) (blkOk_by (N := ["self", "data", "factor", "value"]) (sc := defScope s_Sum_call) (by decide +kernel)) (fun _ _ _ _ _ => (pdg_tup (n := 2) rfl (pdgs_cons (pdg_name 2 sc_Sum_call.nd) (pdgs_cons (pdg_name 3 sc_Sum_call.nd) pdgs_nil)))) (fun _ _ _ _ _ => pdts_nil) (fun _ _ _ _ _ => (pd_op op_mul sr_I (pd_name 2) (pd_name 3)))) pda_nil)) (pd_fldK (K := K) rfl (pd_name 0)))))), fun ds M Q hl h => ?_⟩)
  obtain ⟨p, f, fs, d, xs, rfl, hf, h1, h2, hs, hl', q⟩ := h
  have hf' : fgD f = .tup (dI fs) := hf
  refine ⟨_, rfl, _, _, _, rfl, T.c_Sum.cl, T.na_prime, rfl, _, rfl, _, _, _, rfl, T.c_Sum.cl, T.na_factors, rfl, dI fs, .inr (by rw [hf']), d, rfl, rfl, p, _, d, xs, rfl, h2, hs, by rw [List.length_map, hl'], true, rfl, ?_⟩
  refine ⟨_, rfl, _, _, _, rfl, T.c_Sum.cl, T.na_factors, rfl, d, rfl, fgD f, d, dI fs, dI xs, rfl, .inr hf', hs, ?_⟩
  refine lc_map (on2 fun a b => a * b) _ _ (fun e he R hR => ?_) (Nat.le_trans (by simpa using pairs_size fs xs) (small' h1)) ?_
  · obtain ⟨a, b, ha, hb, rfl⟩ := pairs_mem _ _ _ he
    have := h1.mem ha
    exact ⟨_, rfl, rfl, _, _, rfl, _, _, rfl, rfl, .int a, rfl, .int b, rfl, a, b, rfl, rfl, .inl ⟨by omega, by omega⟩, hR⟩
  · rw [List.nil_append, pairs_map]
    exact ⟨_, rfl, _, rfl, _, _, _, rfl, T.c_Sum.cl, T.na_prime, rfl, _, p, rfl, rfl, h1.pos.1, q⟩
end
end K36
set_option Elab.async false
set_option linter.all false
set_option maxRecDepth 100000
set_option maxHeartbeats 4000000
namespace K36
open PySem PySem.Spec PyProof.Rows L2 Pd Spc
theorem rmd_snoc (p : Int) (l : Rw) : ∀ (R : List Rw) (row : Rw), rmd p (R ++ [l]) row = mn p (rmd p R row) l (at_ (rmd p R row) (Spc.ld l))
  | [], row => rfl
  | r :: R, row => rmd_snoc p l R _
theorem mn_len {p : Int} {row other : Rw} {t : Int} (h : other.length = row.length) : (mn p row other t).length = row.length := by unfold mn; rw [List.length_zipWith, h, Nat.min_self]
theorem mn_in {p : Int} (hp : 0 < p) {row other : Rw} {t : Int} : In p (mn p row other t) := fun x hx => by
  unfold mn at hx
  rw [List.mem_iff_getElem] at hx
  obtain ⟨i, hi, rfl⟩ := hx
  rw [List.getElem_zipWith]
  exact ⟨Int.emod_nonneg _ (by omega), Int.emod_lt_of_pos _ (by omega)⟩
theorem rmd_len {p : Int} {n : Nat} : ∀ {R : List Rw} {row : Rw}, (∀ l ∈ R, l.length = n) → row.length = n → (rmd p R row).length = n
  | [], row, _, h => h
  | r :: R, row, h1, h => rmd_len (R := R) (row := mn p row r (at_ row (Spc.ld r))) (fun l hl => h1 l (List.mem_cons_of_mem _ hl)) (by rw [mn_len (by rw [h1 r List.mem_cons_self, h]), h])
theorem rmd_in {p : Int} (hp : 0 < p) : ∀ {R : List Rw} {row : Rw}, In p row → In p (rmd p R row)
  | [], row, h => h
  | r :: R, row, h => rmd_in hp (R := R) (row := mn p row r (at_ row (Spc.ld r))) (mn_in hp)
theorem at_get {row : Rw} {i : Nat} (h : i < row.length) : (dI row)[i]? = some (.int (at_ row i)) := by
  unfold at_
  rw [List.getElem?_map, List.getElem?_eq_getElem h, List.getD_eq_getElem?_getD, List.getElem?_eq_getElem h]; rfl
theorem psz {row other : List Int} (h : row.length ≤ 1000) : ([] : List D).length + (pairs (dI row) (dI other)).length ≤ sizeLine := by
  have h1 := pairs_size row other
  have hs : sizeLine = 16777216 := by decide
  rw [List.length_nil]; omega
/-- a row that leads -/
structure Lrow (n : Nat) (l : Rw) : Prop where
  len : l.length = n
  one : (1 : Int) ∈ l
  low : ∀ x ∈ l, 0 ≤ x ∧ x < 7
theorem Lrow.ix {n : Nat} {l : Rw} (h : Lrow n l) : Spc.ld l < n := by unfold Spc.ld; rw [← h.len]; exact List.idxOf_lt_length_iff.mpr h.one
section
variable {P : Program} {w : World} {K : PySem.W.Frag} {mg : Str → Option Value} {base : Heap}
def W_minus : DC := fun ds M Q => ∃ (p t : Int) (r o : D) (row other : List Int), ds = [.int p, r, o, .int t] ∧ fgD r = .tup (dI row) ∧ fgD o = .tup (dI other) ∧ 0 < p ∧ (∀ b ∈ other, 0 ≤ b ∧ b < 7) ∧ row.length ≤ 1000 ∧ Q (.tfz (mn p row other t)) M
theorem ok_minus (T : Tx P w K mg) : FnOk P w K mg base CX0 1 T.a_minus T.f_minus ["prime", "row", "other", "times"] (spD 4 W_minus K) := by
  refine pd_fn T.F_minus sc_minus (fun cdv A outer s H E hr => ⟨_, (pdss_one (pds_ret (pd_callTy call_mkT sc_mkT (by rfl) T.n_tuple (by decide +kernel) (pda_cons (pd_lc [("one", 4), ("two", 5)] rfl sc_minus.nd (pdi_zip (by rfl) T.n_zip (pda_cons (pd_fg (pd_name 1)) (pda_cons (pd_fg (pd_name 2)) pda_nil))) (blkOk_by (N := ["prime", "row", "other", "times", "one", "two"]) (sc := defScope s_minus) (by decide +kernel)) (fun _ _ _ _ _ => (pdg_tup (n := 2) rfl (pdgs_cons (pdg_name 4 sc_minus.nd) (pdgs_cons (pdg_name 5 sc_minus.nd) pdgs_nil)))) (fun _ _ _ _ _ => pdts_nil) (fun _ _ _ _ _ => (pd_op op_mod sr_I (pd_op op_sub sr_I0i (pd_name 4) (pd_op op_mul sr_I (pd_name 3) (pd_name 5))) (pd_name 0)))) pda_nil)))), fun ds M Q hl h => ?_⟩)
  obtain ⟨p, t, r, o, row, other, rfl, h1, h2, hp, hb, hz, q⟩ := h
  refine ⟨r, rfl, o, rfl, fgD r, fgD o, dI row, dI other, rfl, .inr h1, .inr h2, ?_⟩
  refine lc_map (on2 fun a b => (a - t * b) % p) _ _ (fun e he R hR => ?_) (psz hz) ?_
  · obtain ⟨a, b, ha, hb', rfl⟩ := pairs_mem _ _ _ he
    have := hb b hb'
    exact ⟨_, rfl, rfl, _, _, rfl, _, _, rfl, rfl, .int a, rfl, .int t, rfl, .int b, rfl, t, b, rfl, rfl, .inr ⟨by omega, by omega⟩, a, _, rfl, rfl, .int p, rfl, _, p, rfl, rfl, hp, hR⟩
  · rw [List.nil_append, pairs_map]
    exact ⟨_, _, rfl, .inl ⟨rfl, q⟩⟩
def W_remainder : DC := fun ds M Q => ∃ (p : Int) (r : D) (R : List Rw) (row : Rw) (n : Nat), ds = [.int p, .lst (R.map D.tfz), r] ∧ fgD r = .tup (dI row) ∧ 0 < p ∧ row.length = n ∧ n ≤ 1000 ∧ (∀ l ∈ R, Lrow n l) ∧ (∀ d, fgD d = .tup (dI (rmd p R row)) → (R ≠ [] → d = .tfz (rmd p R row)) → Q d M)
theorem ok_remainder (T : Tx P w K mg) : FnOk P w K mg base CX0 2 T.a_remainder T.f_remainder ["prime", "reduced", "row"] (spD 3 W_remainder K) := by
  refine pd_fn T.F_remainder sc_remainder (fun cdv A outer s H E hr => ⟨_, (pdss_cons (pds_for PassesOwn.never rfl (pdi_list (pd_name 1)) (pdg_name 3 sc_remainder.nd) (pdss_one (pds_set 2 sc_remainder.nd (pd_call (ok_minus T) (hr.mono (by decide)) (by rfl) T.g_minus T.F_minus.kp T.b_minus (pda_cons (pd_name 0) (pda_cons (pd_name 2) (pda_cons (pd_name 3) (pda_cons (pd_ix ix_tup sr_ixT (pd_fg (pd_name 2)) (pd_tidx hr.units (pd_name 3) pd_int)) pda_nil))))))))
      (pdss_one (pds_ret (pd_name 2)))), fun ds M Q hl h => ?_⟩)
  obtain ⟨p, r, R, row, n, rfl, h1, hp, hln, hz, hR, q⟩ := h
  refine ⟨_, rfl, _, rfl, for_ind (fun i ρ M' => M' = M ∧ ∃ d x, ρ = [some (.int p), some (.lst (R.map D.tfz)), some d, x] ∧ fgD d = .tup (dI (rmd p (R.take i) row)) ∧ (i ≠ 0 → d = .tfz (rmd p (R.take i) row))) _ ?_ ?_ ⟨rfl, r, none, rfl, h1, fun z => absurd rfl z⟩⟩
  · rintro i d ρ M' N hd ⟨rfl, e, x, rfl, he, _⟩ hN
    have hi : i < R.length := by have := (List.getElem?_eq_some_iff.mp hd).1; rwa [List.length_map] at this
    rw [List.getElem?_map, List.getElem?_eq_getElem hi] at hd
    cases hd
    have hm := hR R[i] (List.getElem_mem hi)
    have hlen : (rmd p (R.take i) row).length = n := rmd_len (fun l hl => (hR l (List.mem_of_mem_take hl)).len) hln
    have hx : (dI (rmd p (R.take i) row))[(((R[i] : List Int).idxOf 1 : Nat) : Int).toNat]? = some (.int (at_ (rmd p (R.take i) row) (Spc.ld R[i]))) := by
      rw [Int.toNat_natCast]; exact at_get (by rw [hlen]; exact hm.ix)
    refine ⟨.int p, rfl, e, rfl, .tfz R[i], rfl, e, rfl, .tfz R[i], rfl, R[i], rfl, 1, rfl, hm.one, ?_⟩
    rw [he]
    refine ⟨_, _, _, rfl, rfl, ⟨by omega, hx⟩, rfl, p, _, e, .tfz R[i], rmd p (R.take i) row, R[i], rfl, he, rfl, hp, hm.low, by rw [hlen]; exact hz, ?_⟩
    have hs : rmd p (R.take (i + 1)) row = mn p (rmd p (R.take i) row) R[i] (at_ (rmd p (R.take i) row) (Spc.ld R[i])) := by
      rw [List.take_succ_eq_append_getElem hi]; exact rmd_snoc p _ _ _
    refine hN _ _ ⟨rfl, _, _, rfl, ?_, fun _ => ?_⟩
    · rw [hs]; rfl
    · rw [hs]
  · rintro ρ M' ⟨rfl, e, x, rfl, he, h2⟩
    rw [List.length_map, List.take_length] at he h2
    exact ⟨e, rfl, q e he fun z => h2 fun y => z (List.length_eq_zero_iff.mp y)⟩
end
end K36
set_option Elab.async false
set_option linter.all false
set_option maxRecDepth 100000
set_option maxHeartbeats 4000000
namespace K36
open PySem PySem.Spec PyProof.Rows L2 Pd Spc
def on1 (f : Int → Int) : D → D := fun d => match d with | .int a => .int (f a) | d => d
theorem on1_map (f : Int → Int) : ∀ fs : List Int, (dI fs).map (on1 f) = dI (fs.map f) := fun fs => by
  show List.map _ (List.map _ _) = List.map _ (List.map _ _)
  rw [List.map_map, List.map_map]
  rfl
/-- what is known of the spaces of one form -/
structure Univ (p : Int) (n : Nat) (SP : List (List Rw)) : Prop where
  p2 : 2 ≤ p
  p7 : p ≤ 7
  n1 : 1 ≤ n
  n4 : n ≤ 4
  g : ∃ g, gsz p = some g ∧ (n : Int) ≤ g
  nil : [] ∈ SP
  lrow : ∀ R ∈ SP, ∀ l ∈ R, l.length = n ∧ (1 : Int) ∈ l ∧ In p l
  nodup : ∀ R ∈ SP, (R.map Spc.ld).Nodup
  len : ∀ R ∈ SP, R.length ≤ 4
  inv : ∀ f : Int, 0 < f → f < p → ∃ k ∈ rngL p, k * f % p = 1
  zs0 : zs p n [] = allD p n
  step : ∀ R ∈ SP, ∀ y ∈ allD p n, Spc.step p R y ∈ SP ∧ zs p n (Spc.step p R y) = ((zs p n R).filter fun d => dot y d p == 0) ∧ blind p n R y = ((zs p n R).find? fun d => dot y d p != 0) ∧ (!nz (rmd p R y)) = ((zs p n R).find? fun d => dot y d p != 0).isNone
theorem Univ.low {p : Int} {n : Nat} {SP : List (List Rw)} (U : Univ p n SP) {R : List Rw} (h : R ∈ SP) : ∀ l ∈ R, Lrow n l := fun l hl => by
  obtain ⟨h1, h2, h3⟩ := U.lrow R h l hl
  exact ⟨h1, h2, fun x hx => ⟨(h3 x hx).1, by have := (h3 x hx).2; have := U.p7; omega⟩⟩
theorem univ_of {p : Int} {n : Nat} {SP : List (List Rw)} (h2 : 2 ≤ p) (h7 : p ≤ 7) (n1 : 1 ≤ n) (n4 : n ≤ 4) (g : ∃ g, gsz p = some g ∧ (n : Int) ≤ g) (hs : shpB p n SP = true) (hg : (SP.all fun R => good p n SP R) = true) : Univ p n SP := by
  unfold shpB at hs
  simp only [Bool.and_eq_true] at hs
  obtain ⟨⟨⟨a1, a2⟩, a3⟩, a4⟩ := hs
  have sh := fun R hR => (List.all_eq_true.mp a3) R hR
  refine ⟨h2, h7, n1, n4, g, by simpa using a1, fun R hR l hl => ?_, fun R hR => ?_, fun R hR => ?_, fun f f0 fp => ?_, by simpa using a2, fun R hR y hy => ?_⟩
  · have := sh R hR
    simp only [Bool.and_eq_true] at this
    have h3 := (List.all_eq_true.mp this.2) l hl
    simp only [Bool.and_eq_true, decide_eq_true_eq] at h3
    refine ⟨h3.1.1, by simpa using h3.1.2, fun x hx => ?_⟩
    have := (List.all_eq_true.mp h3.2) x hx
    simpa using this
  · have := sh R hR
    simp only [Bool.and_eq_true, decide_eq_true_eq] at this
    exact this.1.2
  · have := sh R hR
    simp only [Bool.and_eq_true, decide_eq_true_eq] at this
    exact this.1.1
  · have hm : f ∈ rngL p := List.mem_map.mpr ⟨f.toNat, List.mem_range.mpr (by omega), by omega⟩
    have := (List.all_eq_true.mp a4) f hm
    simp only [Bool.or_eq_true, beq_iff_eq] at this
    rcases this with z | z
    · omega
    · obtain ⟨k, hk, e⟩ := List.any_eq_true.mp z
      exact ⟨k, hk, by simpa using e⟩
  · have := (List.all_eq_true.mp hg) R hR
    unfold good at this
    have := (List.all_eq_true.mp this) y hy
    simp only [Bool.and_eq_true, beq_iff_eq] at this
    obtain ⟨⟨⟨b1, b2⟩, b3⟩, b4⟩ := this
    exact ⟨by simpa using b1, b2, b3, b4⟩
theorem fm_ne : ∀ row : List Int, (dI row).filterMap (fun d => match d with | .int x => if x = 0 then none else some (.int x) | _ => none) = dI (row.filter fun n => n != 0)
  | [] => rfl
  | x :: row => by
    have ih := fm_ne row
    show List.filterMap _ (D.int x :: dI row) = _
    by_cases h : x = 0
    · rw [List.filterMap_cons_none (by simp [h]), ih, List.filter_cons_of_neg (by simp [h])]
    · rw [List.filterMap_cons_some (b := .int x) (by simp [h]), ih, List.filter_cons_of_pos (by simp [h])]
      rfl
theorem rng_eq (p : Int) : rng 0 p.toNat = dI (rngL p) := by
  unfold rng rngL
  show _ = List.map D.int (List.map _ _)
  rw [List.map_map]
  exact List.map_congr_left fun k _ => by simp
theorem rngL_mem {p k : Int} (h : k ∈ rngL p) : 0 ≤ k ∧ k < p := by
  obtain ⟨j, hj, rfl⟩ := List.mem_map.mp h
  have := List.mem_range.mp hj
  omega
theorem fm_inv (p f : Int) : ∀ ks : List Int, (dI ks).filterMap (fun d => match d with | .int k => if k * f % p = 1 then some (.int k) else none | _ => none) = dI (ks.filter fun k => k * f % p == 1)
  | [] => rfl
  | k :: ks => by
    have ih := fm_inv p f ks
    show List.filterMap _ (D.int k :: dI ks) = _
    by_cases h : k * f % p = 1
    · rw [List.filterMap_cons_some (b := .int k) (by simp [h]), ih, List.filter_cons_of_pos (by simp [h])]; rfl
    · rw [List.filterMap_cons_none (by simp [h]), ih, List.filter_cons_of_neg (by simp [h])]
theorem head_get {q : Int → Bool} {xs : List Int} (h : ∃ x ∈ xs, q x = true) : (dI (xs.filter q))[(0 : Int).toNat]? = some (.int ((xs.filter q).headD 0)) ∧ (xs.filter q).headD 0 ∈ xs ∧ q ((xs.filter q).headD 0) = true := by
  obtain ⟨x, hx, hq⟩ := h
  have hm : x ∈ xs.filter q := List.mem_filter.mpr ⟨hx, hq⟩
  cases e : xs.filter q with
  | nil => rw [e] at hm; cases hm
  | cons y ys =>
    have hy : y ∈ xs.filter q := by rw [e]; exact List.mem_cons_self
    have := List.mem_filter.mp hy
    exact ⟨rfl, this.1, this.2⟩
section
variable {P : Program} {w : World} {K : PySem.W.Frag} {mg : Str → Option Value} {base : Heap}
def W_led : DC := fun ds M Q => ∃ (p : Int) (r : D) (row : List Int), ds = [.int p, r] ∧ fgD r = .tup (dI row) ∧ 2 ≤ p ∧ p ≤ 7 ∧ In p row ∧ row.length ≤ 1000 ∧ nz row = true ∧ (∀ f : Int, 0 < f → f < p → ∃ k ∈ rngL p, k * f % p = 1) ∧ Q (.tfz (led p row)) M
theorem ok_led_by_one (T : Tx P w K mg) : FnOk P w K mg base CX0 1 T.a_led_by_one T.f_led_by_one ["prime", "row"] (spD 2 W_led K) := by
  refine pd_fn T.F_led_by_one sc_led_by_one (fun cdv A outer s H E hr => ⟨_, (pdss_cons (pds_set 2 sc_led_by_one.nd (pd_ix ix_list sr_ixL (pd_lc [("factor", 4)] rfl sc_led_by_one.nd (pdi_tup (pd_fg (pd_name 1))) (blkOk_by (N := ["prime", "row", "first", "times", "factor", "number"]) (sc := defScope s_led_by_one) (by decide +kernel)) (fun _ _ _ _ _ => (pdg_name 4 sc_led_by_one.nd)) (fun _ _ _ _ _ => pdts_one (pdt_cmp (op_neD hr.units) sr_ne (pd_name 4) pd_int (nomark _))) (fun _ _ _ _ _ => (pd_name 4))) pd_int))
      (pdss_cons (pds_set 3 sc_led_by_one.nd (pd_ix ix_list sr_ixL (pd_lc [("number", 5)] rfl sc_led_by_one.nd (pdi_range1 (by rfl) T.n_range (pda_cons (pd_name 0) pda_nil)) (blkOk_by (N := ["prime", "row", "first", "times", "factor", "number"]) (sc := defScope s_led_by_one) (by decide +kernel)) (fun _ _ _ _ _ => (pdg_name 5 sc_led_by_one.nd)) (fun _ _ _ _ _ => pdts_one (pdt_cmp (op_eqD hr.units) sr_eq (pd_op op_mod sr_I (pd_op op_mul sr_I (pd_name 5) (pd_name 2)) (pd_name 0)) pd_int (nomark _))) (fun _ _ _ _ _ => (pd_name 5))) pd_int))
      (pdss_one (pds_ret (pd_callTy call_mkT sc_mkT (by rfl) T.n_tuple (by decide +kernel) (pda_cons (pd_lc [("factor", 4)] rfl sc_led_by_one.nd (pdi_tup (pd_fg (pd_name 1))) (blkOk_by (N := ["prime", "row", "first", "times", "factor", "number"]) (sc := defScope s_led_by_one) (by decide +kernel)) (fun _ _ _ _ _ => (pdg_name 4 sc_led_by_one.nd)) (fun _ _ _ _ _ => pdts_nil) (fun _ _ _ _ _ => (pd_op op_mod sr_I (pd_op op_mul sr_I (pd_name 4) (pd_name 3)) (pd_name 0)))) pda_nil)))))), fun ds M Q hl h => ?_⟩)
  obtain ⟨p, r, row, rfl, h1, hp, hp7, hin, hz, hnz, hinv, q⟩ := h
  have hs : sizeLine = 16777216 := by decide
  have hz0 : ([] : List D).length + (dI row).length ≤ sizeLine := by rw [List.length_nil, List.length_map]; omega
  refine ⟨r, rfl, dI row, h1, ?_⟩
  refine lc_fmap (fun d => match d with | .int x => if x = 0 then none else some (.int x) | _ => none) _ _ (fun d hd R S hR hS => ?_) hz0 ?_
  · obtain ⟨x, hx, rfl⟩ := List.mem_map.mp hd
    refine ⟨.int x, rfl, rfl, rfl, !decide (x = 0), by rw [eqD_int], ?_⟩
    by_cases h : x = 0
    · simp only [h, decide_true, Bool.not_true, Bool.false_eq_true, if_false]
      exact hS (by simp [h])
    · simp only [h, decide_false, Bool.not_false, if_true]
      exact ⟨_, rfl, hR _ (by simp [h])⟩
  rw [List.nil_append, fm_ne]
  obtain ⟨e1, e2, e3⟩ := head_get (q := fun n => n != 0) (xs := row) (by obtain ⟨x, hx, h⟩ := List.any_eq_true.mp hnz; exact ⟨x, hx, h⟩)
  have hf := hin _ e2
  have hf0 : (row.filter fun n => n != 0).headD 0 ≠ 0 := by simpa using e3
  have ef : (row.filter fun n => n != 0).headD 0 = fst1 row := rfl
  rw [ef] at e1 e2 e3 hf hf0
  refine ⟨_, 0, _, rfl, rfl, ⟨by decide, e1⟩, ?_⟩
  refine ⟨.int p, rfl, p, rfl, by omega, by omega, ?_⟩
  rw [rng_eq]
  refine lc_fmap (fun d => match d with | .int k => if k * fst1 row % p = 1 then some (.int k) else none | _ => none) _ _ (fun d hd R S hR hS => ?_) (by rw [List.length_nil, List.length_map]; unfold rngL; rw [List.length_map, List.length_range]; omega) ?_
  · obtain ⟨k, hk, rfl⟩ := List.mem_map.mp hd
    have := rngL_mem hk
    refine ⟨.int k, rfl, .int (fst1 row), rfl, k, _, rfl, rfl, .inl ⟨by omega, by omega⟩, .int p, rfl, _, p, rfl, rfl, by omega, rfl, rfl, decide (k * fst1 row % p = 1), by rw [eqD_int], ?_⟩
    by_cases h : k * fst1 row % p = 1
    · simp only [h, decide_true, if_true]
      exact ⟨_, rfl, hR _ (by simp [h])⟩
    · simp only [h, decide_false, Bool.false_eq_true, if_false]
      exact hS (by simp [h])
  rw [List.nil_append, fm_inv]
  obtain ⟨k0, hk0, ek0⟩ := hinv (fst1 row) (by omega) (by omega)
  obtain ⟨u1, u2, u3⟩ := head_get (q := fun k => k * fst1 row % p == 1) (xs := rngL p) ⟨k0, hk0, by simpa using ek0⟩
  have ei : ((rngL p).filter fun k => k * fst1 row % p == 1).headD 0 = inv1 p (fst1 row) := rfl
  rw [ei] at u1 u2 u3
  have hk := rngL_mem u2
  refine ⟨_, 0, _, rfl, rfl, ⟨by decide, u1⟩, ?_⟩
  refine ⟨r, rfl, dI row, h1, ?_⟩
  refine lc_map (on1 fun a => a * inv1 p (fst1 row) % p) _ _ (fun e he R hR => ?_) hz0 ?_
  · obtain ⟨a, ha, rfl⟩ := List.mem_map.mp he
    have := hin a ha
    exact ⟨.int a, rfl, .int _, rfl, a, _, rfl, rfl, .inl ⟨by omega, by omega⟩, .int p, rfl, _, p, rfl, rfl, by omega, hR⟩
  · rw [List.nil_append, on1_map]
    exact ⟨_, _, rfl, .inl ⟨rfl, q⟩⟩
end
end K36
set_option Elab.async false
set_option linter.all false
set_option maxRecDepth 100000
set_option maxHeartbeats 4000000
namespace K36
open PySem PySem.Spec PyProof.Rows L2 Pd Spc
def tD (row : Rw) : D := .tup (dI row)
theorem red_snoc {p : Int} {rows : List Rw} {k : Nat} (h : k < rows.length) : red p (rows.take (k + 1)) = Spc.step p (red p (rows.take k)) rows[k] := by
  unfold red
  rw [List.take_succ_eq_append_getElem h, List.foldl_append]; rfl
theorem red_in {p : Int} {n : Nat} {SP : List (List Rw)} (U : Univ p n SP) : ∀ (rows : List Rw) (R : List Rw), R ∈ SP → (∀ y ∈ rows, y ∈ allD p n) → rows.foldl (Spc.step p) R ∈ SP
  | [], R, h, _ => h
  | y :: rows, R, h, hy => red_in U rows _ (U.step R h y (hy y List.mem_cons_self)).1 fun z hz => hy z (List.mem_cons_of_mem _ hz)
theorem fg_at {es : List D} {rows : List Rw} (h : es.map fgD = rows.map tD) {k : Nat} {d : D} (hd : es[k]? = some d) : ∃ hk : k < rows.length, fgD d = .tup (dI rows[k]) := by
  have h1 := congrArg (fun l => l[k]?) h
  simp only [List.getElem?_map, hd, Option.map_some] at h1
  have hk : k < rows.length := by
    have hl := congrArg List.length h
    rw [List.length_map, List.length_map] at hl
    have := (List.getElem?_eq_some_iff.mp hd).1
    omega
  rw [List.getElem?_eq_getElem hk] at h1
  exact ⟨hk, Option.some.inj h1⟩
theorem red_len {p : Int} : ∀ (rows R : List Rw), (rows.foldl (Spc.step p) R).length ≤ R.length + rows.length
  | [], R => Nat.le_refl _
  | y :: rows, R => by
    have h := red_len (p := p) rows (Spc.step p R y)
    have h2 : (Spc.step p R y).length ≤ R.length + 1 := by
      unfold Spc.step
      split
      · rw [(srtD_perm _).length_eq, List.length_cons, List.length_map]; exact Nat.le_refl _
      · exact Nat.le_succ _
    show (rows.foldl (Spc.step p) (Spc.step p R y)).length ≤ R.length + (rows.length + 1)
    omega
theorem red_rref {p : Int} {W : Nat} (hp : 2 ≤ p) (hI : Invs p) : ∀ (rows R : List Rw), Rref W p R → (∀ y ∈ rows, y.length = W ∧ InP p y) → Rref W p (rows.foldl (Spc.step p) R)
  | [], _, h, _ => h
  | y :: rows, R, h, hy => red_rref hp hI rows _ (rref_step hp hI h (hy y List.mem_cons_self).1 (hy y List.mem_cons_self).2) fun z hz => hy z (List.mem_cons_of_mem _ hz)
theorem rref_low {p : Int} {W : Nat} {R : List Rw} (hp7 : p ≤ 7) (h : Rref W p R) : ∀ l ∈ R, Lrow W l := fun l hl => by
  have k := h.led l hl
  refine ⟨k.len, ?_, fun x hx => ⟨(k.inp x hx).1, by have := (k.inp x hx).2; omega⟩⟩
  have hk : Spc.ld l < l.length := by rw [k.len]; exact k.lt
  have e : l[Spc.ld l] = 1 := by rw [← at_lt hk]; exact k.one
  rw [← e]; exact List.getElem_mem hk
theorem rref_nil (W : Nat) (p : Int) : Rref W p [] := ⟨(fun _ h => nomatch h), List.Pairwise.nil⟩
section
variable {P : Program} {w : World} {K : PySem.W.Frag} {mg : Str → Option Value} {base : Heap}
def W_red : DC := fun ds M Q => ∃ (p : Int) (W : Nat) (es : List D) (rows : List Rw), ds = [.int p, .lst es] ∧ 2 ≤ p ∧ p ≤ 7 ∧ Invs p ∧ W ≤ 1000 ∧ es.map fgD = rows.map tD ∧ rows.length ≤ 1000 ∧ (∀ y ∈ rows, y.length = W ∧ InP p y) ∧ Q (.lst ((red p rows).map D.tfz)) M
theorem red_of {p : Int} {n : Nat} {SP : List (List Rw)} {es : List D} {rows : List Rw} {M : Ms} {Q : D → Ms → Prop} (U : Univ p n SP) (hes : es.map fgD = rows.map tD) (hz : rows.length ≤ 1000) (hrows : ∀ y ∈ rows, y ∈ allD p n) (q : Q (.lst ((red p rows).map D.tfz)) M) :
    W_red [.int p, .lst es] M Q := ⟨p, n, es, rows, rfl, U.p2, U.p7, U.inv, by have := U.n4; omega, hes, hz, fun y hy => allD_mem (hrows y hy), q⟩
theorem ok_reduced_rows (T : Tx P w K mg) : FnOk P w K mg base CX0 3 T.a_reduced_rows T.f_reduced_rows ["prime", "rows"] (spD 2 W_red K) := by
  refine pd_fn T.F_reduced_rows sc_reduced_rows (fun cdv A outer s H E hr => ⟨_, (pdss_cons (pds_set 2 sc_reduced_rows.nd (pd_lst pda_nil))
      (pdss_cons (pds_for PassesOwn.never rfl (pdi_list (pd_name 1)) (pdg_name 3 sc_reduced_rows.nd) (pdss_cons (pds_set 4 sc_reduced_rows.nd (pd_call (ok_remainder T) (hr.mono (by decide)) (by rfl) T.g_remainder T.F_remainder.kp T.b_remainder (pda_cons (pd_name 0) (pda_cons (pd_name 2) (pda_cons (pd_name 3) pda_nil)))))
      (pdss_one (pds_if (pdt_val (pd_callB (cr_anyT rfl) sc_anyT (by rfl) T.n_any (by decide +kernel) (pda_cons (pd_fg (pd_name 4)) pda_nil))) (pdss_cons (pds_set 5 sc_reduced_rows.nd (pd_call (ok_led_by_one T) (hr.mono (by decide)) (by rfl) T.g_led_by_one T.F_led_by_one.kp T.b_led_by_one (pda_cons (pd_name 0) (pda_cons (pd_name 4) pda_nil))))
      (pdss_cons (pds_setLc 6 [("other", 7)] rfl sc_reduced_rows.nd rfl rfl (sw_true rfl rfl rfl (by decide +kernel)) (pdi_list (pd_name 2)) (blkOk_by (N := ["prime", "rows", "reduced", "row", "rest", "lead", "others", "other"]) (sc := defScope s_reduced_rows) (by decide +kernel)) (fun _ _ _ _ _ => (pdg_name 7 sc_reduced_rows.nd)) (fun _ _ _ _ _ => pdts_nil) (fun _ _ _ _ _ => (pd_call (ok_remainder T) (hr.mono (by decide)) (by rfl) T.g_remainder T.F_remainder.kp T.b_remainder (pda_cons (pd_name 0) (pda_cons (pd_lst (pda_cons (pd_name 5) pda_nil)) (pda_cons (pd_name 7) pda_nil))))))
      (pdss_one (pds_set 2 sc_reduced_rows.nd (pd_sortRev hr.units (by rfl) T.n_sorted (pd_lst (pda_cons (pd_name 5) (pda_star (pd_name 6) pda_nil))) (pdk_cons pd_bl pdk_nil)))))) pdss_nil))))
      (pdss_one (pds_ret (pd_name 2))))), fun ds M Q hl h => ?_⟩)
  obtain ⟨p, W, es, rows, rfl, hp, hp7, hI, hW, hes, hrl, hrows, q⟩ := h
  have hs : sizeLine = 16777216 := by decide
  have hlen : es.length = rows.length := by have := congrArg List.length hes; rwa [List.length_map, List.length_map] at this
  refine ⟨by decide, ?_⟩
  refine ⟨_, rfl, _, rfl, for_ind (fun k ρ M' => M' = M ∧ ∃ x3 x4 x5 x6 x7, ρ = [some (.int p), some (.lst es), some (.lst ((red p (rows.take k)).map D.tfz)), x3, x4, x5, x6, x7]) _ ?_ ?_ ⟨rfl, none, none, none, none, none, rfl⟩⟩
  · rintro k d ρ M' N hd ⟨rfl, x3, x4, x5, x6, x7, rfl⟩ hN
    obtain ⟨hk, hfd⟩ := fg_at hes hd
    have hRS : Rref W p (red p (rows.take k)) := red_rref hp hI _ _ (rref_nil W p) fun y hy => hrows y (List.mem_of_mem_take hy)
    have hRl : (red p (rows.take k)).length ≤ 1000 := by
      have := red_len (p := p) (rows.take k) []
      rw [List.length_take, List.length_nil] at this
      show ((rows.take k).foldl (Spc.step p) []).length ≤ 1000
      omega
    obtain ⟨hyl, hyi⟩ := hrows _ (List.getElem_mem hk)
    have hst := rref_step hp hI hRS hyl hyi
    rw [red_snoc hk] at hN
    generalize hR : red p (rows.take k) = R at hRS hRl hst hN ⊢
    generalize rows[k] = y at hfd hyl hyi hst hN
    have hlow := rref_low hp7 hRS
    have hrl2 : (rmd p R y).length = W := rmd_len (fun l hl => (hlow l hl).len) hyl
    refine ⟨.int p, rfl, _, rfl, d, rfl, rfl, p, d, R, y, W, rfl, hfd, by omega, hyl, hW, hlow, fun e he _ => ?_⟩
    refine ⟨e, rfl, rmd p R y, by rw [he], nz (rmd p R y), rfl, ?_⟩
    cases hnz : nz (rmd p R y) with
    | false =>
      have e1 : Spc.step p R y = R := by unfold Spc.step; rw [if_neg (by rw [hnz]; decide)]
      rw [e1] at hN
      exact hN _ _ ⟨rfl, _, _, _, _, _, rfl⟩
    | true =>
      have e1 : Spc.step p R y = srtD (led p (rmd p R y) :: R.map fun o => rmd p [led p (rmd p R y)] o) := by unfold Spc.step; rw [if_pos hnz]
      rw [e1] at hN hst
      have hl2 := rref_low hp7 hst
      have hll : Lrow W (led p (rmd p R y)) := hl2 _ ((srtD_perm _).mem_iff.mpr List.mem_cons_self)
      refine ⟨.int p, rfl, e, rfl, rfl, p, e, rmd p R y, rfl, he, hp, hp7, rmd_in (by omega) hyi, by omega, hnz, hI, ?_⟩
      generalize led p (rmd p R y) = l at hll hl2 hst hN ⊢
      refine ⟨_, rfl, _, rfl, lc_map (fun d => match d with | .tfz o => .tfz (rmd p [l] o) | d => d) _ _ (fun d3 hd3 R3 hR3 => ?_) (by rw [List.length_nil, List.length_map]; omega) ?_⟩
      · obtain ⟨o, ho, rfl⟩ := List.mem_map.mp hd3
        refine ⟨.int p, rfl, .tfz l, rfl, (by show 1 ≤ sizeLine; decide), .tfz o, rfl, rfl, p, .tfz o, [l], o, W, rfl, rfl, by omega, (hlow o ho).len, hW, fun l' hl' => by rw [List.mem_singleton.mp hl']; exact hll, fun d4 _ h4 => ?_⟩
        rw [h4 (by simp)]
        exact hR3
      · have e2 : (R.map D.tfz).map (fun d => match d with | .tfz o => .tfz (rmd p [l] o) | d => d) = (R.map fun o => rmd p [l] o).map D.tfz := by
          rw [List.map_map, List.map_map]; rfl
        rw [List.nil_append, e2]
        refine ⟨.tfz l, rfl, _, rfl, _, .inl rfl, ?_, l :: R.map (fun o => rmd p [l] o), ?_, fun r hr => ?_, rfl, ?_⟩
        · rw [List.append_nil, List.length_cons, List.length_map, List.length_map]; omega
        · rw [List.append_nil]; rfl
        · intro z
          have := (hl2 r ((srtD_perm _).mem_iff.mpr hr)).one
          rw [z] at this
          cases this
        · rw [sort_eq]
          exact hN _ _ ⟨rfl, _, _, _, _, _, rfl⟩
  · rintro ρ M' ⟨rfl, x3, x4, x5, x6, x7, rfl⟩
    rw [hlen, List.take_length]
    exact ⟨_, rfl, q⟩
end
end K36
set_option Elab.async false
set_option linter.all false
set_option maxRecDepth 100000
set_option maxHeartbeats 4000000
namespace K36
open PySem PySem.Spec PyProof.Rows L2 Pd Spc
theorem dc_map {g : DG} {tk tv : DE} {ρ : Rho} {P : D → Ms → Prop} {M : Ms} (fk : D → Key) (fv : D → D) : ∀ (ds : List D) (ks : List Key) (acc : List D), (∀ d ∈ ds, ∀ S : D → D → Ms → Prop, S (keyD (fk d)) (fv d) M → g d ρ fun ρ' => tk ρ' M fun kd M1 => tv ρ' M1 fun y M2 => S kd y M2) →
    (ks ++ ds.map fk).Nodup → acc.length + ds.length ≤ sizeLine → P (.dic (ks ++ ds.map fk) (acc ++ ds.map fv)) M → dcRun g tk tv ρ P ds ks acc M
  | [], ks, acc, _, _, _, p => by
    show P (.dic ks acc) M
    simpa using p
  | d :: r, ks, acc, h, hn, hz, p => by
    rw [List.length_cons] at hz
    refine h d List.mem_cons_self (fun kd y M2 => ∃ k, kd = keyD k ∧ k ∉ ks ∧ acc.length < sizeLine ∧ dcRun g tk tv ρ P r (ks ++ [k]) (acc ++ [y]) M2) ⟨fk d, rfl, fun z => ?_, by omega, dc_map fk fv r _ _ (fun d' h' => h d' (List.mem_cons_of_mem _ h')) ?_ (by rw [List.length_append, List.length_singleton]; omega) ?_⟩
    · rw [List.map_cons] at hn
      exact (List.nodup_append.mp hn).2.2 _ z _ List.mem_cons_self rfl
    · rw [List.append_assoc]; exact hn
    · rw [List.append_assoc, List.append_assoc]; exact p
theorem get_find {p : Int} {free i : Nat} : ∀ R : List Rw, (dicGet (R.map fun l => (Sum.inl ((Spc.ld l : Nat) : Int) : Key)) (R.map fun l => D.int (-(at_ l free) % p)) (.inl (i : Int))).getD (.int 0) = .int (forced R p free i)
  | [] => rfl
  | l :: R => by
    have ih := get_find (p := p) (free := free) (i := i) R
    unfold dicGet forced at ih ⊢
    rw [List.map_cons, List.map_cons, List.zip_cons_cons]
    by_cases e : Spc.ld l = i
    · rw [List.find?_cons_of_pos (by simp [e]), List.find?_cons_of_pos (by simp [e])]; rfl
    · have e' : ¬ ((Spc.ld l : Nat) : Int) = (i : Int) := fun z => e (by exact_mod_cast z)
      rw [List.find?_cons_of_neg (by simpa using e'), List.find?_cons_of_neg (by simpa using e)]; exact ih
theorem forced_in {p : Int} (hp : 0 < p) {R : List Rw} {free i : Nat} : 0 ≤ forced R p free i ∧ forced R p free i < p := by
  unfold forced
  split
  · exact ⟨Int.emod_nonneg _ (by omega), Int.emod_lt_of_pos _ hp⟩
  · exact ⟨Int.le_refl _, hp⟩
theorem zrow_in {p : Int} (hp : 2 ≤ p) (n : Nat) (R : List Rw) (free : Nat) : zrow p n R free ∈ allD p n := by
  refine mem_allD (by omega) (by unfold zrow; rw [List.length_map, List.length_range]) fun x hx => ?_
  unfold zrow at hx
  obtain ⟨i, _, rfl⟩ := List.mem_map.mp hx
  split
  · omega
  · exact forced_in (by omega)
section
variable {P : Program} {w : World} {K : PySem.W.Frag} {mg : Str → Option Value} {base : Heap}
def W_zrow : DC := fun ds M Q => ∃ (p : Int) (n free : Nat) (SP R : List (List Rw)) (R : List Rw), ds = [.int p, .int n, .lst (R.map D.tfz), .int free] ∧ Univ p n SP ∧ R ∈ SP ∧ free < n ∧ Q (.tfz (zrow p n R free)) M
theorem ok_zero_row (T : Tx P w K mg) : FnOk P w K mg base CX0 1 T.a_zero_row T.f_zero_row ["prime", "size", "reduced", "free"] (spD 4 W_zrow K) := by
  refine pd_fn T.F_zero_row sc_zero_row (fun cdv A outer s H E hr => ⟨_, (pdss_cons (pds_set 4 sc_zero_row.nd (pd_dc [("row", 5)] rfl sc_zero_row.nd (pdi_list (pd_name 2)) (blkOk_by (N := ["prime", "size", "reduced", "free", "forced", "row", "place"]) (sc := defScope s_zero_row) (by decide +kernel)) (fun _ _ _ _ _ => (pdg_name 5 sc_zero_row.nd)) (fun _ _ _ _ _ => (pd_tidx hr.units (pd_name 5) pd_int)) (fun _ _ _ _ _ => (pd_op op_mod sr_I (pd_un un_neg su_U (pd_ix ix_tup sr_ixT (pd_fg (pd_name 5)) (pd_name 3))) (pd_name 0)))))
      (pdss_one (pds_ret (pd_callTy call_mkT sc_mkT (by rfl) T.n_tuple (by decide +kernel) (pda_cons (pd_lc [("place", 6)] rfl sc_zero_row.nd (pdi_range1 (by rfl) T.n_range (pda_cons (pd_name 1) pda_nil)) (blkOk_by (N := ["prime", "size", "reduced", "free", "forced", "row", "place"]) (sc := defScope s_zero_row) (by decide +kernel)) (fun _ _ _ _ _ => (pdg_name 6 sc_zero_row.nd)) (fun _ _ _ _ _ => pdts_nil) (fun _ _ _ _ _ => (pd_ifExp (pdt_cmp (op_eqD hr.units) sr_eq (pd_name 6) (pd_name 3) (nomark _)) pd_int (pd_dget2 hr.units (pd_name 4) (pd_name 6) pd_int)))) pda_nil))))), fun ds M Q hl h => ?_⟩)
  obtain ⟨p, n, free, SP, _, R, rfl, U, hR, hf, q⟩ := h
  have hs : sizeLine = 16777216 := by decide
  have hp := U.p2
  have hn := U.n4
  have hlow := U.low hR
  refine ⟨_, rfl, _, rfl, dc_map (fun d => match d with | .tfz l => .inl ((Spc.ld l : Nat) : Int) | _ => .inl 0) (fun d => match d with | .tfz l => .int (-(at_ l free) % p) | d => d) _ _ _ (fun d hd S hS => ?_) ?_ (by rw [List.length_nil, List.length_map]; have := U.len R hR; omega) ?_⟩
  · obtain ⟨l, hl, rfl⟩ := List.mem_map.mp hd
    have hll := hlow l hl
    refine ⟨.tfz l, rfl, l, rfl, 1, rfl, hll.one, ?_⟩
    refine ⟨.tfz l, rfl, .int free, rfl, _, _, .int (at_ l free), rfl, rfl, ⟨by omega, by rw [Int.toNat_natCast]; exact at_get (by rw [hll.len]; exact hf)⟩, _, rfl, .int p, rfl, _, p, rfl, rfl, by omega, hS⟩
  · rw [List.nil_append, List.map_map]
    have := U.nodup R hR
    unfold List.Nodup at this ⊢
    rw [List.pairwise_map] at this ⊢
    refine this.imp fun h z => h ?_
    have z' := Sum.inl.inj z
    exact_mod_cast z'
  · rw [List.nil_append, List.nil_append, List.map_map, List.map_map]
    refine ⟨.int n, rfl, n, rfl, by omega, by omega, ?_⟩
    refine lc_map (fun d => match d with | .int i => .int (if i = (free : Int) then 1 else forced R p free i.toNat) | d => d) _ _ (fun d hd R3 hR3 => ?_) (by rw [rng_len, List.length_nil, Int.toNat_natCast]; omega) ?_
    · obtain ⟨i, hi, rfl⟩ := List.mem_map.mp hd
      have hR' : R3 (.int (if 0 + (i : Int) = (free : Int) then 1 else forced R p free (0 + (i : Int)).toNat)) M := hR3
      refine ⟨.int _, rfl, .int _, rfl, rfl, rfl, decide (0 + (i : Int) = free), by rw [eqD_int], ?_⟩
      by_cases e : 0 + (i : Int) = (free : Int)
      · rw [if_pos e] at hR'
        rw [decide_eq_true e]
        exact hR'
      · rw [if_neg e, show (0 + (i : Int)).toNat = i by omega] at hR'
        rw [decide_eq_false e]
        refine ⟨_, rfl, _, _, rfl, .int (0 + (i : Int)), rfl, .inl (0 + (i : Int)), rfl, ?_⟩
        rw [Int.zero_add]
        have := get_find (p := p) (free := free) (i := i) R
        exact at_val this hR'
    · rw [List.nil_append]
      refine ⟨_, zrow p n R free, rfl, .inl ⟨?_, q⟩⟩
      unfold rng zrow
      rw [List.map_map, Int.toNat_natCast]
      show D.lst _ = D.lst (List.map D.int (List.map _ _))
      rw [List.map_map]
      congr 1
      refine List.map_congr_left fun i _ => ?_
      show D.int _ = D.int _
      congr 1
      have e : (0 + (i : Int)).toNat = i := by omega
      rw [e]
      show _ = if i = free then 1 else forced R p free i
      by_cases h : i = free
      · rw [if_pos h, if_pos (by omega)]
      · rw [if_neg h, if_neg (by omega)]
end
end K36
set_option Elab.async false
set_option linter.all false
set_option maxRecDepth 100000
set_option maxHeartbeats 4000000
namespace K36
open PySem PySem.Spec PyProof.Rows L2 Pd Spc
theorem any_ld (i : Nat) : ∀ R : List Rw, ((R.map fun l => D.int ((Spc.ld l : Nat) : Int)).any fun z => eqD z (.int (0 + (i : Int)))) = (R.map Spc.ld).contains i
  | [] => rfl
  | l :: R => by
    have ih := any_ld i R
    rw [List.map_cons, List.map_cons, List.any_cons, ih, List.contains_cons, eqD_int]
    congr 1
    rw [Bool.eq_iff_iff]
    simp
    omega
theorem fm_free {p : Int} {n : Nat} {R : List Rw} : ∀ ks : List Nat, (ks.map fun (k : Nat) => D.int (0 + (k : Int))).filterMap (fun d => match d with | .int i => if (R.map Spc.ld).contains i.toNat then none else some (.tfz (zrow p n R i.toNat)) | _ => none) = ((ks.filter fun i => !((R.map Spc.ld).contains i)).map (zrow p n R)).map D.tfz
  | [] => rfl
  | k :: ks => by
    have ih := fm_free (p := p) (n := n) (R := R) ks
    have e : (0 + (k : Int)).toNat = k := by omega
    rw [List.map_cons]
    cases h : (R.map Spc.ld).contains k with
    | true => rw [List.filterMap_cons_none (by simp only [e, h, if_true]), ih, List.filter_cons_of_neg (by rw [h]; decide)]
    | false => rw [List.filterMap_cons_some (b := .tfz (zrow p n R k)) (by simp only [e, h]; rfl), ih, List.filter_cons_of_pos (by rw [h]; rfl)]; rfl
theorem tfz_fg (rows : List Rw) : (rows.map D.tfz).map fgD = rows.map tD := by rw [List.map_map]; rfl
theorem zrows_in {p : Int} {n : Nat} {SP : List (List Rw)} (U : Univ p n SP) (R : List Rw) : zrows p n R ∈ SP := by
  unfold zrows red
  refine red_in U _ _ U.nil fun y hy => ?_
  obtain ⟨i, _, rfl⟩ := List.mem_map.mp hy
  exact zrow_in U.p2 n R i
section
variable {P : Program} {w : World} {K : PySem.W.Frag} {mg : Str → Option Value} {base : Heap}
def W_zrows : DC := fun ds M Q => ∃ (p : Int) (n : Nat) (SP : List (List Rw)) (R : List Rw), ds = [.int p, .int n, .lst (R.map D.tfz)] ∧ Univ p n SP ∧ R ∈ SP ∧ Q (.lst ((zrows p n R).map D.tfz)) M
theorem ok_zero_rows (T : Tx P w K mg) : FnOk P w K mg base CX0 4 T.a_zero_rows T.f_zero_rows ["prime", "size", "reduced"] (spD 3 W_zrows K) := by
  refine pd_fn T.F_zero_rows sc_zero_rows (fun cdv A outer s H E hr => ⟨_, (pdss_cons (pds_set 3 sc_zero_rows.nd (pd_lc [("row", 5)] rfl sc_zero_rows.nd (pdi_list (pd_name 2)) (blkOk_by (N := ["prime", "size", "reduced", "leads", "rows", "row", "place"]) (sc := defScope s_zero_rows) (by decide +kernel)) (fun _ _ _ _ _ => (pdg_name 5 sc_zero_rows.nd)) (fun _ _ _ _ _ => pdts_nil) (fun _ _ _ _ _ => (pd_tidx hr.units (pd_name 5) pd_int))))
      (pdss_cons (pds_setLc 4 [("place", 6)] rfl sc_zero_rows.nd rfl rfl (sw_true rfl rfl rfl (by decide +kernel)) (pdi_range1 (by rfl) T.n_range (pda_cons (pd_name 1) pda_nil)) (blkOk_by (N := ["prime", "size", "reduced", "leads", "rows", "row", "place"]) (sc := defScope s_zero_rows) (by decide +kernel)) (fun _ _ _ _ _ => (pdg_name 6 sc_zero_rows.nd)) (fun _ _ _ _ _ => pdts_one (pdt_cmp (op_ninI hr.units) sr_ninI (pd_name 6) (pd_name 3) (by rfl))) (fun _ _ _ _ _ => (pd_call (ok_zero_row T) (hr.mono (by decide)) (by rfl) T.g_zero_row T.F_zero_row.kp T.b_zero_row (pda_cons (pd_name 0) (pda_cons (pd_name 1) (pda_cons (pd_name 2) (pda_cons (pd_name 6) pda_nil)))))))
      (pdss_one (pds_ret (pd_call (ok_reduced_rows T) (hr.mono (by decide)) (by rfl) T.g_reduced_rows T.F_reduced_rows.kp T.b_reduced_rows (pda_cons (pd_name 0) (pda_cons (pd_name 4) pda_nil))))))), fun ds M Q hl h => ?_⟩)
  obtain ⟨p, n, SP, R, rfl, U, hR, q⟩ := h
  have hs : sizeLine = 16777216 := by decide
  have hn := U.n4
  have hlow := U.low hR
  refine ⟨_, rfl, _, rfl, lc_map (fun d => match d with | .tfz l => .int ((Spc.ld l : Nat) : Int) | d => d) _ _ (fun d hd R3 hR3 => ?_) (by rw [List.length_nil, List.length_map]; have := U.len R hR; omega) ?_⟩
  · obtain ⟨l, hl, rfl⟩ := List.mem_map.mp hd
    exact ⟨.tfz l, rfl, l, rfl, 1, rfl, (hlow l hl).one, hR3⟩
  rw [List.nil_append, List.map_map]
  have e1 : R.map ((fun d => match d with | .tfz l => D.int ((Spc.ld l : Nat) : Int) | d => d) ∘ D.tfz) = R.map fun l => D.int ((Spc.ld l : Nat) : Int) := rfl
  rw [e1]
  have okl : okD (.lst (R.map fun l => D.int ((Spc.ld l : Nat) : Int))) = true := by
    have : (R.map fun l => D.int ((Spc.ld l : Nat) : Int)) = dI (R.map fun l => ((Spc.ld l : Nat) : Int)) := by
      show _ = List.map _ (List.map _ _)
      rw [List.map_map]; rfl
    rw [this]; exact okD_lst _
  refine ⟨.int n, rfl, n, rfl, by omega, by omega, ?_⟩
  refine lc_fmap (fun d => match d with | .int i => if (R.map Spc.ld).contains i.toNat then none else some (.tfz (zrow p n R i.toNat)) | _ => none) _ _ (fun d hd R3 S hR3 hS => ?_) (by rw [List.length_nil, rng_len, Int.toNat_natCast]; omega) ?_
  · obtain ⟨i, hi, rfl⟩ := List.mem_map.mp hd
    rw [Int.toNat_natCast, List.mem_range] at hi
    have e : (0 + (i : Int)).toNat = i := by omega
    refine ⟨.int _, rfl, _, rfl, _, rfl, rfl, okl, (by show 0 ≤ 60; decide), _, rfl, ?_⟩
    rw [any_ld]
    cases h : (R.map Spc.ld).contains i with
    | true => exact hS (by simp only [e, h, if_true])
    | false =>
      refine ⟨.int p, rfl, .int n, rfl, _, rfl, .int (0 + (i : Int)), rfl, rfl, p, n, i, SP, [], R, ?_, U, hR, hi, hR3 _ (by simp only [e, h]; rfl)⟩
      rw [Int.zero_add]
  rw [List.nil_append]
  refine ⟨.int p, rfl, _, rfl, rfl, red_of (rows := ((List.range n).filter fun i => !((R.map Spc.ld).contains i)).map (zrow p n R)) U ?_ ?_ (fun y hy => ?_) q⟩
  · rw [← tfz_fg]
    congr 1
    unfold rng
    rw [Int.toNat_natCast]
    exact fm_free _
  · rw [List.length_map]; have := List.length_filter_le (fun i => !((R.map Spc.ld).contains i)) (List.range n); rw [List.length_range] at this; omega
  · obtain ⟨i, _, rfl⟩ := List.mem_map.mp hy
    exact zrow_in U.p2 n R i
end
end K36
set_option Elab.async false
set_option linter.all false
set_option maxRecDepth 100000
set_option maxHeartbeats 4000000
namespace K36
open PySem PySem.Spec PyProof.Rows L2 Pd Spc
def spF (S : Addr) (p : Int) (n : Nat) (R : List Rw) : List (Str × D) := [("_prime", .int p), ("_size", .int n), ("_rows", .lst (R.map D.tfz)), ("_reduced", .tup (R.map fun r => dSum S p (.tfz r)))]
def dSpace (S C : Addr) (p : Int) (n : Nat) (R : List Rw) : D := .ins C (spF S p n R)
theorem apart_tfz (k : Nat) : ∀ R : List Rw, apartA k (R.map D.tfz) = true
  | [] => rfl
  | r :: R => apart_tfz k R
theorem apart_sums (S : Addr) (p : Int) (k : Nat) : ∀ R : List Rw, apartA k (R.map fun r => dSum S p (.tfz r)) = true
  | [] => rfl
  | r :: R => apart_sums S p k R
theorem okM_ins {M : Ms} {j : Nat} {C : Addr} {fs : List (Str × D)} (h : okM M) (hf : apartF M.length fs = true) : okM (M.set j (.ins C fs)) := by
  unfold okM at h ⊢
  rw [List.length_set]
  refine List.all_eq_true.mpr fun m hm => ?_
  rcases List.mem_or_eq_of_mem_set hm with h1 | h1
  · exact List.all_eq_true.mp h m h1
  · rw [h1]; exact hf
theorem sum_ok {p : Int} {n : Nat} {SP : List (List Rw)} (U : Univ p n SP) {y : Rw} (h : y ∈ allD p n) : SumOk p y := by
  obtain ⟨g, g1, g2⟩ := U.g
  obtain ⟨h1, h2⟩ := allD_mem h
  have := U.n1
  exact ⟨g, g1, by rw [h1]; omega, by rw [h1]; exact g2, h2⟩
theorem lead_all {p : Int} {n : Nat} {SP : List (List Rw)} (U : Univ p n SP) {R : List Rw} (hR : R ∈ SP) {l : Rw} (hl : l ∈ R) : l ∈ allD p n := by
  obtain ⟨h1, h2, h3⟩ := U.lrow R hR l hl
  exact mem_allD (by have := U.p2; omega) h1 h3
section
variable {P : Program} {w : World} {K : PySem.W.Frag} {mg : Str → Option Value} {base : Heap}
def W_spp (S C : Addr) : DC := fun ds M Q => ∃ (p : Int) (n : Nat) (R : List Rw), ds = [dSpace S C p n R] ∧ Q (.int p) M
theorem ok_Space_prime (T : Tx P w K mg) : FnOk P w K mg base CX0 1 T.a_Space_prime T.f_Space_prime ["self"] (spD 1 (W_spp T.a_Sum T.a_Space) K) := by
  refine pd_fn T.F_Space_prime sc_Space_prime (fun cdv A outer s H E hr => ⟨_, (pdss_one (pds_ret (pd_fldK (K := K) rfl (pd_name 0)))), fun ds M Q hl h => ?_⟩)
  obtain ⟨p, n, R, rfl, q⟩ := h
  exact ⟨_, rfl, _, _, _, rfl, T.c_Space.cl, T.ns_prime, rfl, q⟩
def W_sps (S C : Addr) : DC := fun ds M Q => ∃ (p : Int) (n : Nat) (R : List Rw), ds = [dSpace S C p n R] ∧ Q (.int n) M
theorem ok_Space_size (T : Tx P w K mg) : FnOk P w K mg base CX0 1 T.a_Space_size T.f_Space_size ["self"] (spD 1 (W_sps T.a_Sum T.a_Space) K) := by
  refine pd_fn T.F_Space_size sc_Space_size (fun cdv A outer s H E hr => ⟨_, (pdss_one (pds_ret (pd_fldK (K := K) rfl (pd_name 0)))), fun ds M Q hl h => ?_⟩)
  obtain ⟨p, n, R, rfl, q⟩ := h
  exact ⟨_, rfl, _, _, _, rfl, T.c_Space.cl, T.ns_size, rfl, q⟩
def W_spr (S C : Addr) : DC := fun ds M Q => ∃ (p : Int) (n : Nat) (R : List Rw), ds = [dSpace S C p n R] ∧ Q (.tup (R.map fun r => dSum S p (.tfz r))) M
theorem ok_Space_reduced_sums (T : Tx P w K mg) : FnOk P w K mg base CX0 1 T.a_Space_reduced_sums T.f_Space_reduced_sums ["self"] (spD 1 (W_spr T.a_Sum T.a_Space) K) := by
  refine pd_fn T.F_Space_reduced_sums sc_Space_reduced_sums (fun cdv A outer s H E hr => ⟨_, (pdss_one (pds_ret (pd_fldK (K := K) rfl (pd_name 0)))), fun ds M Q hl h => ?_⟩)
  obtain ⟨p, n, R, rfl, q⟩ := h
  exact ⟨_, rfl, _, _, _, rfl, T.c_Space.cl, T.ns_reduced, rfl, q⟩
def W_spinit (S C : Addr) : DC := fun ds M Q => ∃ (j : Nat) (p : Int) (n : Nat) (SP : List (List Rw)) (fsD : List D) (rows : List Rw), ds = [.mu j, .int p, .int n, .lst (fsD.map (dSum S p))] ∧ M[j]? = some (.ins C []) ∧ okM M ∧ Univ p n SP ∧ fsD.map fgD = rows.map tD ∧ fsD.length ≤ 1000 ∧ (∀ y ∈ rows, y ∈ allD p n) ∧ Q .non (M.set j (.ins C (spF S p n (red p rows))))
theorem ok_Space_init (T : Tx P w K mg) : FnOk P w K mg base CX0 6 T.a_Space_init T.f_Space_init ["self", "prime", "size", "sums"] (spD 4 (W_spinit T.a_Sum T.a_Space) K) := by
  refine pd_fnD T.F_Space_init sc_Space_init (fun cdv A outer s H E hr => ⟨_, (pdss_cons (pds_expr (pd_call (ok_expect_prime_and_size T) (hr.mono (by decide)) (by rfl) T.g_expect_prime_and_size T.F_expect_prime_and_size.kp T.b_expect_prime_and_size (pda_cons (pd_name 1) (pda_cons (pd_name 2) pda_nil))))
      (pdss_cons (pds_if (pdt_not (pdt_val (pd_isi2 (T1 := "list") (T2 := "tuple") (by rfl) T.n_isinstance (pd_name 3) (by rfl) T.n_list (by decide +kernel) (by rfl) T.n_tuple (by decide +kernel)))) (pdss_one pds_never) pdss_nil)
      (pdss_cons (pds_for PassesOwn.never rfl (pdi_seq (pd_name 3)) (pdg_name 4 sc_Space_init.nd) (pdss_one (pds_if (pdt_not (pdt_val (pd_call (ok_is_sum T) (hr.mono (by decide)) (by rfl) T.g_is_sum T.F_is_sum.kp T.b_is_sum (pda_cons (pd_name 1) (pda_cons (pd_name 2) (pda_cons (pd_name 4) pda_nil)))))) (pdss_one pds_never) pdss_nil)))
      (pdss_cons (pds_fldM (pd_name 1) (pd_name 0))
      (pdss_cons (pds_fldM (pd_name 2) (pd_name 0))
      (pdss_cons (pds_fldM (pd_call (ok_reduced_rows T) (hr.mono (by decide)) (by rfl) T.g_reduced_rows T.F_reduced_rows.kp T.b_reduced_rows (pda_cons (pd_name 1) (pda_cons (pd_lc [("item", 4)] rfl sc_Space_init.nd (pdi_seq (pd_name 3)) (blkOk_by (N := ["self", "prime", "size", "sums", "item", "row"]) (sc := defScope s_Space_init) (by decide +kernel)) (fun _ _ _ _ _ => (pdg_name 4 sc_Space_init.nd)) (fun _ _ _ _ _ => pdts_nil) (fun _ _ _ _ _ => (pd_prop (pd_name 4) T.c_Sum.cl T.pp_Sum_factors (ok_Sum_factors T) (hr.mono (by decide)) T.b_Sum_factors))) pda_nil))) (pd_name 0))
      (pdss_one (pds_fldM (pd_callTy call_tuple_of sc_tuple (by rfl) T.n_tuple (by decide +kernel) (pda_cons (pd_lc [("row", 5)] rfl sc_Space_init.nd (pdi_list (pd_fldMu (K := K) rfl (pd_name 0))) (blkOk_by (N := ["self", "prime", "size", "sums", "item", "row"]) (sc := defScope s_Space_init) (by decide +kernel)) (fun _ _ _ _ _ => (pdg_name 5 sc_Space_init.nd)) (fun _ _ _ _ _ => pdts_nil) (fun _ _ _ _ _ => (pd_make T.m_Sum (ok_Sum_init T) (hr.mono (by decide)) (by rfl) T.g_Sum T.b_Sum_init (pda_cons (pd_name 1) (pda_cons (pd_name 5) pda_nil))))) pda_nil)) (pd_name 0))))))))), fun ds M Q hl h => ?_⟩)
  obtain ⟨j, p, n, SP, fsD, rows, rfl, hm, hM, U, hfs, hz, hrows, q⟩ := h
  have hs : sizeLine = 16777216 := by decide
  have hj : j < M.length := (List.getElem?_eq_some_iff.mp hm).1
  obtain ⟨g, g1, g2⟩ := U.g
  have hn1 := U.n1
  have hRS : red p rows ∈ SP := red_in U _ _ U.nil hrows
  refine ⟨.int p, rfl, .int n, rfl, rfl, p, g, n, rfl, g1, by omega, g2, ?_⟩
  refine ⟨_, rfl, .type "list", true, .lst _, rfl, true, rfl, ?_⟩
  refine ⟨_, rfl, _, .inl rfl, for_ind (fun k ρ M' => M' = M ∧ ∃ x, ρ = [some (.mu j), some (.int p), some (.int n), some (.lst (fsD.map (dSum T.a_Sum p))), x, none]) _ ?_ ?_ ⟨rfl, none, rfl⟩⟩
  · rintro k d ρ M' N hd ⟨rfl, x, rfl⟩ hN
    rw [List.getElem?_map] at hd
    cases e : fsD[k]? with
    | none => rw [e] at hd; cases hd
    | some f =>
      rw [e] at hd
      cases hd
      obtain ⟨hk, hf⟩ := fg_at hfs e
      obtain ⟨y1, y2⟩ := allD_mem (hrows _ (List.getElem_mem hk))
      exact ⟨.int p, rfl, .int n, rfl, _, rfl, rfl, p, n, _, rfl, .inl ⟨p, f, _, rfl, hf, true, by rw [y1, decide_eq_true rfl, decide_eq_true rfl]; rfl, hN _ _ ⟨rfl, _, rfl⟩⟩⟩
  · rintro ρ M' ⟨rfl, x, rfl⟩
    have gj : ∀ fs, (M'.set j (.ins T.a_Space fs))[j]? = some (.ins T.a_Space fs) := fun fs => List.getElem?_set_self hj
    refine ⟨.int p, rfl, .mu j, rfl, j, T.a_Space, [], rfl, hm, T.c_Space.cl, T.ns_prime, by decide, ?_⟩
    refine ⟨.int n, rfl, .mu j, rfl, j, T.a_Space, _, rfl, gj _, T.c_Space.cl, T.ns_size, (by show 1 < 1000; decide), ?_⟩
    rw [List.set_set]
    refine ⟨.int p, rfl, _, rfl, _, .inl rfl, lc_map (fun d => match d with | .ins _ [_, (_, f)] => f | d => d) _ _ (fun d hd R3 hR3 => ?_) (by rw [List.length_nil, List.length_map]; omega) ?_⟩
    · obtain ⟨f, hf, rfl⟩ := List.mem_map.mp hd
      exact ⟨_, rfl, _, rfl, p, f, rfl, hR3⟩
    · rw [List.nil_append, List.map_map]
      have e1 : fsD.map ((fun d => match d with | .ins _ [_, (_, f)] => f | d => d) ∘ dSum T.a_Sum p) = fsD := by
        conv => rhs; rw [← List.map_id fsD]
        rfl
      rw [e1]
      have hrl : rows.length ≤ 1000 := by
        have := congrArg List.length hfs
        rw [List.length_map, List.length_map] at this
        omega
      refine ⟨rfl, red_of U hfs hrl hrows ?_⟩
      generalize red p rows = R at hRS q ⊢
      have hlen := U.len R hRS
      refine ⟨.mu j, rfl, j, T.a_Space, _, rfl, gj _, T.c_Space.cl, T.ns_rows, (by show 2 < 1000; decide), ?_⟩
      rw [List.set_set]
      have hM2 : okM (M'.set j (.ins T.a_Space [("_prime", .int p), ("_size", .int n), ("_rows", .lst (R.map D.tfz))])) := okM_ins hM (by
        show (true && (true && (apartA _ (R.map D.tfz) && true))) = true
        rw [apart_tfz]; rfl)
      refine ⟨.mu j, rfl, j, T.a_Space, _, _, rfl, gj _, T.c_Space.cl, T.ns_rows, rfl, R.map D.tfz, rfl, lc_map (fun d => dSum T.a_Sum p d) _ _ (fun d hd R3 hR3 => ?_) (by rw [List.length_nil, List.length_map]; omega) ?_⟩
      · obtain ⟨l, hl', rfl⟩ := List.mem_map.mp hd
        exact ⟨.int p, rfl, .tfz l, rfl, make_sum (sum_ok U (lead_all U hRS hl')) (.inr (.inr ⟨rfl, rfl⟩)) hM2 hR3⟩
      · rw [List.nil_append, List.map_map]
        refine ⟨_, _, rfl, .inl rfl, .mu j, rfl, j, T.a_Space, _, rfl, gj _, T.c_Space.cl, T.ns_reduced, (by show 3 < 1000; decide), ?_⟩
        rw [List.set_set]
        exact q
theorem make_space {S C : Addr} {p : Int} {n : Nat} {SP : List (List Rw)} {fsD : List D} {rows : List Rw} {M : Ms} {P : D → Ms → Prop} (U : Univ p n SP) (hfs : fsD.map fgD = rows.map tD) (hz : fsD.length ≤ 1000) (hrows : ∀ y ∈ rows, y ∈ allD p n) (hM : okM M) (hM' : okM (M ++ [.ins C []])) (q : P (dSpace S C p n (red p rows)) M) :
    ([.int p, .int n, .lst (fsD.map (dSum S p))] : List D).length + 1 = 4 ∧ W_spinit S C (.mu M.length :: [.int p, .int n, .lst (fsD.map (dSum S p))]) (M ++ [.ins C []]) fun d M2 => ∃ M3 fs, d = .non ∧ M2 = M3 ++ [.ins C fs] ∧ M3.length = M.length ∧ apartF M.length fs = true ∧ apartM M.length M3 = true ∧ P (.ins C fs) M3 :=
  ⟨rfl, _, p, n, SP, fsD, rows, rfl, get_last _ _, hM', U, hfs, hz, hrows, M, _, rfl, set_last _ _ _, rfl, by
    show (true && (true && (apartA _ _ && (apartA _ _ && true)))) = true
    rw [apart_tfz, apart_sums]; rfl, hM, q⟩
def W_spwhole (S C : Addr) : DC := fun ds M Q => ∃ (p : Int) (n : Nat) (R : List Rw), ds = [dSpace S C p n R] ∧ Q (.bl (decide ((R.length : Int) = n))) M
theorem ok_Space_is_whole (T : Tx P w K mg) : FnOk P w K mg base CX0 1 T.a_Space_is_whole T.f_Space_is_whole ["self"] (spD 1 (W_spwhole T.a_Sum T.a_Space) K) := by
  refine pd_fn T.F_Space_is_whole sc_Space_is_whole (fun cdv A outer s H E hr => ⟨_, (pdss_one (pds_ret (pd_cmp (op_eqD hr.units) sr_eq (pd_callB call_len_seq sc_len (by rfl) T.n_len (by decide +kernel) (pda_cons (pd_fldK (K := K) rfl (pd_name 0)) pda_nil)) (pd_fldK (K := K) rfl (pd_name 0)) (nomark _)))), fun ds M Q hl h => ?_⟩)
  obtain ⟨p, n, R, rfl, q⟩ := h
  refine ⟨_, rfl, _, _, _, rfl, T.c_Space.cl, T.ns_reduced, rfl, _, .inr rfl, _, rfl, _, _, _, rfl, T.c_Space.cl, T.ns_size, rfl, rfl, rfl, ?_⟩
  rw [List.length_map, eqD_int]
  exact q
end
end K36
set_option Elab.async false
set_option linter.all false
set_option maxRecDepth 100000
set_option maxHeartbeats 4000000
namespace K36
open PySem PySem.Spec PyProof.Rows L2 Pd Spc
/-- the rows of p numbers below n, ascending -/
theorem p29 : (0 : Int) < 2147483629 := by decide
theorem p47 : (0 : Int) < 2147483647 := by decide
theorem z2 : 2 ≤ sizeLine := by decide
theorem i12 : (1 : Nat) < 2 := by decide
/-- the law's source -/
def lq1 : Str := "_law_doors.<locals>.<lambda>"
def lq2 : Str := "law.<locals>.<lambda>"
def Src (P1 : Addr × Addr) (M : Ms) : Prop := ∃ n s : Int, M = [.tab P1.1 lq1, .tab P1.2 lq2, .lst [.int n, .int s]] ∧ 0 ≤ s ∧ s < 2147483647
theorem Src.ok {P1 : Addr × Addr} {M : Ms} (h : Src P1 M) : okM M := by
  obtain ⟨n, s, rfl, _⟩ := h
  rfl
section
variable {P : Program} {w : World} {K : PySem.W.Frag} {mg : Str → Option Value} {base : Heap}
def W_source : DCN := fun ds M Q => ∃ (ns : List Int) (k : Int), ds = [.lst (dI ns), .int k] ∧ 0 ≤ k ∧ ∀ n s : Int, 0 ≤ s → s < 2147483647 → Q [.int n, .int s] M
theorem ok_law_source (T : Tx P w K mg) : FnOk P w K mg base CX0 1 T.a_law_source T.f_law_source ["_law_script", "_law_turn"] (spN 2 W_source K) := by
  refine pd_fnN T.F_law_source sc_law_source (fun cdv A outer s H E hr => ⟨_, (pdn_cons (pds_set 2 sc_law_source.nd pd_int)
      (pdn_cons (pds_if (pdt_cmp op_lt sr_I0b (pd_name 1) (pd_callB call_len_seq sc_len (by rfl) T.n_len (by decide +kernel) (pda_cons (pd_name 0) pda_nil)) (nomark _)) (pdss_one (pds_set 2 sc_law_source.nd (pd_ix ix_list sr_ixL (pd_name 0) (pd_name 1)))) pdss_nil)
      (pdn_cons (pds_set 3 sc_law_source.nd (pd_callB (call_max2 rfl) sc_max (by rfl) T.n_max (by decide +kernel) (pda_cons (pd_name 2) (pda_cons (pd_op op_sub sr_I0i (pd_un un_neg su_U pd_int) (pd_name 2)) pda_nil))))
      (pdn_cons (pds_set 4 sc_law_source.nd (pd_op op_mod sr_I (pd_callTy call_int1 sc_int (by rfl) T.n_int (by decide +kernel) (pda_cons (pd_op op_add sr_I0i (pd_op op_add sr_I0i (pd_op op_mul sr_I (pd_op op_mod sr_I (pd_callTy call_int1 sc_int (by rfl) T.n_int (by decide +kernel) (pda_cons (pd_name 3) pda_nil)) pd_int) pd_int) (pd_op op_mul sr_I pd_int (pd_name 1))) pd_int) pda_nil)) pd_int))
      (pdn_cons (pds_if (pdt_cmp op_lt sr_I0b (pd_name 3) (pd_op op_pow sr_I pd_int pd_int) (nomark _)) (pdss_one (pds_set 3 sc_law_source.nd pd_int)) pdss_nil)
      (pdn_ret (pda_cons (pd_name 3) (pda_cons (pd_name 4) pda_nil)))))))), fun ds M Q hl h => ?_⟩)
  obtain ⟨ns, k, rfl, hk, q⟩ := h
  have m1 : ∀ x : Int, 0 ≤ x % 2147483647 ∧ x % 2147483647 < 2147483647 := fun x => ⟨Int.emod_nonneg _ (by decide), Int.emod_lt_of_pos _ (by decide)⟩
  refine ⟨.int k, rfl, _, rfl, dI ns, .inl rfl, _, _, rfl, rfl, decide (k < ((dI ns).length : Int)), rfl, ?_⟩
  by_cases hc : k < ((dI ns).length : Int)
  · rw [decide_eq_true hc]
    have hlt : k.toNat < ns.length := by rw [List.length_map] at hc; omega
    have hv : (dI ns)[k.toNat]? = some (.int ns[k.toNat]) := by rw [List.getElem?_map, List.getElem?_eq_getElem hlt]; rfl
    refine ⟨_, rfl, _, rfl, dI ns, k, _, rfl, rfl, ⟨hk, hv⟩, ?_⟩
    refine ⟨_, rfl, 1, rfl, _, rfl, _, _, rfl, rfl, _, _, rfl, ?_⟩
    refine ⟨_, rfl, .inl ⟨_, rfl, _, _, rfl, rfl, p29, _, _, rfl, rfl, .inr ⟨by decide, by decide⟩, .int k, rfl, _, _, rfl, rfl, .inl ⟨by decide, by decide⟩, _, _, rfl, rfl, _, _, rfl, rfl, .inl ⟨_, rfl, _, _, rfl, rfl, p47, ?_⟩⟩⟩
    refine ⟨_, rfl, _, _, rfl, rfl, ⟨by decide, by decide, by decide⟩, _, _, rfl, rfl, _, rfl, ?_⟩
    refine bsplit (fun _ => ?_) (fun _ => ?_)
    · exact ⟨_, rfl, _, rfl, z2, q _ _ (m1 _).1 (m1 _).2⟩
    · exact ⟨_, rfl, _, rfl, z2, q _ _ (m1 _).1 (m1 _).2⟩
  · rw [decide_eq_false hc]
    refine ⟨_, rfl, 1, rfl, _, rfl, _, _, rfl, rfl, _, _, rfl, ?_⟩
    refine ⟨_, rfl, .inl ⟨_, rfl, _, _, rfl, rfl, p29, _, _, rfl, rfl, .inr ⟨by decide, by decide⟩, .int k, rfl, _, _, rfl, rfl, .inl ⟨by decide, by decide⟩, _, _, rfl, rfl, _, _, rfl, rfl, .inl ⟨_, rfl, _, _, rfl, rfl, p47, ?_⟩⟩⟩
    refine ⟨_, rfl, _, _, rfl, rfl, ⟨by decide, by decide, by decide⟩, _, _, rfl, rfl, _, rfl, ?_⟩
    refine bsplit (fun _ => ?_) (fun _ => ?_)
    · exact ⟨_, rfl, _, rfl, z2, q _ _ (m1 _).1 (m1 _).2⟩
    · exact ⟨_, rfl, _, rfl, z2, q _ _ (m1 _).1 (m1 _).2⟩
def W_draw : DC := fun ds M Q => ∃ (a : Int), ds = [.mu 2, .int a] ∧ SrcAt 2 M ∧ 0 < a ∧ a < 1073741824 ∧ ∀ r M', Cu 2 M M' → 0 ≤ r → r < a → Q (.int r) M'
theorem ok_law_draw (T : Tx P w K mg) : FnOk P w K mg base CX0 1 T.a_law_draw T.f_law_draw ["_law_source_here", "_law_amount"] (spD 2 W_draw K) := by
  refine pd_fn T.F_law_draw sc_law_draw (fun cdv A outer s H E hr => ⟨_, (pdss_cons (pds_if (pdt_cmp op_gt sr_I0b (pd_ix ix_list sr_ixM (pd_name 0) pd_int) pd_int (nomark _)) (pdss_cons (pds_set 2 sc_law_draw.nd (pd_op op_mod sr_I (pd_callTy call_int1 sc_int (by rfl) T.n_int (by decide +kernel) (pda_cons (pd_ix ix_list sr_ixM (pd_name 0) pd_int) pda_nil)) (pd_name 1)))
      (pdss_cons (pds_setItem (pd_op op_fdiv sr_I (pd_ix ix_list sr_ixM (pd_name 0) pd_int) (pd_name 1)) (pd_name 0) pd_int)
      (pdss_one (pds_ret (pd_name 2))))) pdss_nil)
      (pdss_cons (pds_setItem (pd_op op_mod sr_I (pd_callTy call_int1 sc_int (by rfl) T.n_int (by decide +kernel) (pda_cons (pd_op op_add sr_I0i (pd_op op_mul sr_I (pd_ix ix_list sr_ixM (pd_name 0) pd_int) pd_int) pd_int) pda_nil)) pd_int) (pd_name 0) pd_int)
      (pdss_one (pds_ret (pd_op op_mod sr_I (pd_callTy call_int1 sc_int (by rfl) T.n_int (by decide +kernel) (pda_cons (pd_op op_fdiv sr_I (pd_op op_mod sr_I (pd_callTy call_int1 sc_int (by rfl) T.n_int (by decide +kernel) (pda_cons (pd_op op_mul sr_I (pd_ix ix_list sr_ixM (pd_name 0) pd_int) (pd_ix ix_list sr_ixM (pd_name 0) pd_int)) pda_nil)) pd_int) pd_int) pda_nil)) (pd_name 1)))))), fun ds M Q hl h => ?_⟩)
  obtain ⟨a, rfl, ⟨n, sd, hm, h1, h2⟩, ha, hb, q⟩ := h
  have hk : 2 < M.length := (List.getElem?_eq_some_iff.mp hm).1
  refine ⟨.mu 2, rfl, 2, _, 0, .int n, rfl, rfl, hm, ⟨by decide, rfl⟩, n, 0, rfl, rfl, decide (0 < n), rfl, ?_⟩
  by_cases hc : 0 < n
  · rw [decide_eq_true hc]
    refine ⟨.mu 2, rfl, 2, _, 0, .int n, rfl, rfl, hm, ⟨by decide, rfl⟩, .inl ⟨n, rfl, .int a, rfl, _, _, rfl, rfl, ha, ?_⟩⟩
    refine ⟨.mu 2, rfl, 2, _, 0, .int n, rfl, rfl, hm, ⟨by decide, rfl⟩, .int a, rfl, _, _, rfl, rfl, ⟨ha, hb⟩, .mu 2, rfl, 2, _, 0, rfl, rfl, hm, ⟨by decide, (by show 0 < 2; decide)⟩, ?_⟩
    exact ⟨_, rfl, q _ _ ⟨_, _, h1, h2, rfl⟩ (Int.emod_nonneg _ (by omega)) (Int.emod_lt_of_pos _ ha)⟩
  · rw [decide_eq_false hc]
    have m1 : ∀ x : Int, 0 ≤ x % 2147483647 ∧ x % 2147483647 < 2147483647 := fun x => ⟨Int.emod_nonneg _ (by decide), Int.emod_lt_of_pos _ (by decide)⟩
    refine ⟨.mu 2, rfl, 2, _, 1, .int sd, rfl, rfl, hm, ⟨by decide, rfl⟩, _, _, rfl, rfl, .inr ⟨by decide, by decide⟩, _, _, rfl, rfl, .inl ⟨_, rfl, _, _, rfl, rfl, p47, .mu 2, rfl, 2, _, 1, rfl, rfl, hm, ⟨by decide, (by show 1 < 2; decide)⟩, ?_⟩⟩
    have m2 := m1 (sd * 48271 + 11)
    have hs := List.getElem?_set_self (a := MO.lst ([D.int n, .int sd].set (1 : Int).toNat (.int ((sd * 48271 + 11) % 2147483647)))) hk
    refine ⟨.mu 2, rfl, 2, _, 1, _, rfl, rfl, hs, ⟨by decide, rfl⟩, .mu 2, rfl, 2, _, 1, _, rfl, rfl, hs, ⟨by decide, rfl⟩, _, _, rfl, rfl, .inl ⟨by omega, by omega⟩, .inl ⟨_, rfl, _, _, rfl, rfl, p29, _, _, rfl, rfl, ⟨by decide, by decide⟩, .inl ⟨_, rfl, .int a, rfl, _, _, rfl, rfl, ha, ?_⟩⟩⟩
    exact q _ _ ⟨_, _, m2.1, m2.2, rfl⟩ (Int.emod_nonneg _ (by omega)) (Int.emod_lt_of_pos _ ha)
end
end K36
set_option Elab.async false
set_option linter.all false
set_option maxRecDepth 100000
set_option maxHeartbeats 4000000
namespace K36
open PySem PySem.Spec PyProof.Rows L2 Pd
/-- a row of parts, or None -/
def rowLen : D → Nat | .tup xs => xs.length | .lst xs => xs.length | _ => 0
def rowB (d : D) : Prop := d = .non ∨ ∃ xs, isSeq d xs ∧ xs.length ≤ 3
def spotsFrom (i : Nat) : List D → List (List Int)
  | [] => []
  | d :: r => ((List.range (rowLen d)).map fun (j : Nat) => [(i : Int), (j : Int)]) ++ spotsFrom (i + 1) r
def keep : D → Option D | .tup [i, d] => if isNonD d = true then none else some (.tup [i, d]) | _ => none
def wide : D → List D | .tup [i, d] => (List.range (rowLen d)).map fun (j : Nat) => .tup [i, .int (j : Int)] | _ => []
theorem spots_eq : ∀ (rows : List D) (i : Nat), (∀ d ∈ rows, rowB d) → ((numd i rows).filterMap keep).flatMap wide = (spotsFrom i rows).map tI
  | [], _, _ => rfl
  | d :: r, i, h => by
    have ih := spots_eq r (i + 1) fun x hx => h x (List.mem_cons_of_mem _ hx)
    show ((D.tup [.int (i : Int), d] :: numd (i + 1) r).filterMap keep).flatMap wide = List.map tI (_ ++ _)
    rw [List.map_append, ← ih, List.filterMap_cons]
    rcases h d List.mem_cons_self with rfl | ⟨xs, hx, _⟩
    · rfl
    · have e : keep (.tup [.int (i : Int), d]) = some (.tup [.int (i : Int), d]) := by rcases hx with rfl | rfl <;> rfl
      rw [e]
      show List.flatMap wide (_ :: _) = _
      rw [List.flatMap_cons]
      congr 1
      show List.map _ _ = List.map _ (List.map _ _)
      rw [List.map_map]
      rfl
theorem spots_len : ∀ (rows : List D) (i : Nat), (∀ d ∈ rows, rowLen d ≤ 3) → (spotsFrom i rows).length ≤ 3 * rows.length
  | [], _, _ => Nat.zero_le _
  | d :: r, i, h => by
    have h1 := h d List.mem_cons_self
    have ih := spots_len r (i + 1) fun x hx => h x (List.mem_cons_of_mem _ hx)
    show (((List.range (rowLen d)).map fun (j : Nat) => [(i : Int), (j : Int)]) ++ spotsFrom (i + 1) r).length ≤ 3 * (r.length + 1)
    rw [List.length_append, List.length_map, List.length_range]
    omega
theorem rowB.len {d : D} (h : rowB d) : rowLen d ≤ 3 := by
  rcases h with rfl | ⟨xs, rfl | rfl, hl⟩
  · exact Nat.zero_le _
  · exact hl
  · exact hl
section
variable {P : Program} {w : World} {K : PySem.W.Frag} {mg : Str → Option Value} {base : Heap}
def W_spots_of : DC := fun ds M Q => ∃ d rows, ds = [d] ∧ isSeq d rows ∧ rows.length ≤ 6 ∧ (∀ x ∈ rows, rowB x) ∧ Q (.tup ((spotsFrom 0 rows).map tI)) M
theorem ok_spots_of_parts (T : Tx P w K mg) : FnOk P w K mg base CX0 1 T.a_spots_of_parts T.f_spots_of_parts ["pieces"] (spD 1 W_spots_of K) := by
  refine pd_fn T.F_spots_of_parts sc_spots_of_parts (fun cdv A outer s H E hr => ⟨_, (pdss_cons (pds_setLc 1 [("piece", 2), ("parts", 3)] rfl sc_spots_of_parts.nd rfl rfl (sw_true rfl rfl rfl (by decide +kernel)) (pdi_enumK (by rfl) T.n_enumerate (pda_cons (pd_name 0) pda_nil)) (blkOk_by (N := ["pieces", "there", "piece", "parts", "part"]) (sc := defScope s_spots_of_parts) (by decide +kernel)) (fun _ _ _ _ _ => (pdg_tup (n := 2) rfl (pdgs_cons (pdg_name 2 sc_spots_of_parts.nd) (pdgs_cons (pdg_name 3 sc_spots_of_parts.nd) pdgs_nil)))) (fun _ _ _ _ _ => pdts_one (pdt_cmp op_not0 sr_not0 (pd_name 3) pd_non (nomark _))) (fun _ _ _ _ _ => (pd_tup (pda_cons (pd_name 2) (pda_cons (pd_name 3) pda_nil)))))
      (pdss_one (pds_ret (pd_callTy call_tuple_of sc_tuple (by rfl) T.n_tuple (by decide +kernel) (pda_cons (pd_lc2 [("piece", 2), ("parts", 3), ("part", 4)] [4] rfl sc_spots_of_parts.nd (pdi_list (pd_name 1)) (blkOk_by (N := ["pieces", "there", "piece", "parts", "part"]) (sc := defScope s_spots_of_parts) (by decide +kernel)) (fun _ _ _ _ _ => (pdg_tup (n := 2) rfl (pdgs_cons (pdg_name 2 sc_spots_of_parts.nd) (pdgs_cons (pdg_name 3 sc_spots_of_parts.nd) pdgs_nil)))) (fun _ _ _ _ _ => pdts_nil) (fun _ _ _ _ _ => (pdi_range1 (by rfl) T.n_range (pda_cons (pd_callB call_len_seq sc_len (by rfl) T.n_len (by decide +kernel) (pda_cons (pd_name 3) pda_nil)) pda_nil))) (fun _ _ _ _ _ => (pdg_name 4 sc_spots_of_parts.nd)) (fun _ _ _ _ _ => pdts_nil) (fun _ _ _ _ _ => (pd_tup (pda_cons (pd_name 2) (pda_cons (pd_name 4) pda_nil))))) pda_nil))))), fun ds M Q hl h => ?_⟩)
  obtain ⟨d, rows, rfl, hd, h6, hb, q⟩ := h
  have hsl : sizeLine = 16777216 := by decide
  refine ⟨d, rfl, d, rows, rfl, hd, lc_fmap keep _ _ (fun e he R S hR hS => ?_) (by rw [List.length_nil, numd_len]; omega) ?_⟩
  · obtain ⟨j, hj⟩ := List.mem_iff_getElem?.mp he
    have hjl : j < rows.length := by have := (List.getElem?_eq_some_iff.mp hj).1; rwa [numd_len] at this
    have hx := numd_get rows 0 j _ (List.getElem?_eq_getElem hjl)
    rw [hx] at hj
    cases hj
    refine ⟨_, rfl, rfl, _, _, rfl, _, _, rfl, rfl, ?_⟩
    cases hn : isNonD rows[j] with
    | true => exact ⟨rows[j], rfl, rfl, false, by rw [hn]; rfl, hS (if_pos hn)⟩
    | false => exact ⟨rows[j], rfl, rfl, true, by rw [hn]; rfl, _, rfl, rows[j], rfl, (by show 2 ≤ sizeLine; decide), hR _ (if_neg (by rw [hn]; exact Bool.false_ne_true))⟩
  · refine ⟨_, rfl, _, rfl, lc2_map wide _ _ (fun e he acc k hz hk => ?_) ?_ ?_⟩
    · obtain ⟨a, ha, hka⟩ := List.mem_filterMap.mp he
      obtain ⟨j, hj⟩ := List.mem_iff_getElem?.mp ha
      have hjl : j < rows.length := by have := (List.getElem?_eq_some_iff.mp hj).1; rwa [numd_len] at this
      have hx := numd_get rows 0 j _ (List.getElem?_eq_getElem hjl)
      rw [hx] at hj
      cases hj
      have hrb := hb _ (List.getElem_mem hjl)
      generalize rows[j] = row at *
      have hnn : isNonD row = false ∧ e = .tup [.int ((0 + j : Nat) : Int), row] := by
        have h2 : (if isNonD row = true then none else some (D.tup [.int ((0 + j : Nat) : Int), row])) = some e := hka
        cases hn : isNonD row with
        | true => rw [hn, if_pos rfl] at h2; cases h2
        | false => rw [hn, if_neg Bool.false_ne_true] at h2; cases h2; exact ⟨rfl, rfl⟩
      obtain ⟨hnn, rfl⟩ := hnn
      obtain ⟨xs, hxs, hxl⟩ : ∃ xs, isSeq row xs ∧ xs.length ≤ 3 := by
        rcases hrb with rfl | h
        · cases hnn
        · exact h
      have hrl : rowLen row = xs.length := by rcases hxs with rfl | rfl <;> rfl
      have hw : wide (.tup [.int ((0 + j : Nat) : Int), row]) = (rng 0 (xs.length : Int).toNat).map (fun e => .tup [.int ((0 + j : Nat) : Int), e]) := by
        show List.map _ (List.range (rowLen row)) = _
        rw [hrl]
        unfold rng
        rw [Int.toNat_natCast, List.map_map]
        congr 1
        funext v
        show D.tup [_, D.int (v : Int)] = D.tup [_, D.int (0 + (v : Int))]
        rw [Int.zero_add]
      rw [hw] at hz hk
      rw [List.length_map] at hz
      refine ⟨_, rfl, rfl, _, _, rfl, _, _, rfl, rfl, ?_⟩
      refine ⟨row, rfl, xs, (by rcases hxs with rfl | rfl; exact .inl rfl; exact .inr rfl), _, rfl, by omega, by omega, lcIn_map (fun e => .tup [.int ((0 + j : Nat) : Int), e]) _ _ (fun e2 he2 R hR => ?_) hz hk⟩
      exact ⟨_, rfl, e2, rfl, (by show 2 ≤ sizeLine; decide), hR⟩
    · have h1 := spots_len rows 0 fun d hd => (hb d hd).len
      rw [List.nil_append, spots_eq rows 0 hb, List.length_nil, List.length_map]
      omega
    · rw [List.nil_append, List.nil_append, spots_eq rows 0 hb]
      exact ⟨_, _, rfl, .inl rfl, q⟩
end
def unI : D → Int | .int i => i | _ => 0
def ltG : D → Bool | .tup [.int a, .int b] => decide (a < b) | .tup [.tup a, .tup b] => HT.lexLt (a.map unI) (b.map unI) | _ => false
/-- each one before the next -/
def ascG (es : List D) : Bool := (pairs es (Pd.cutD es (some 1) none)).all ltG
theorem unI_map (xs : List Int) : (dI xs).map unI = xs := by
  show List.map _ (List.map _ _) = _
  rw [List.map_map]
  show List.map id xs = xs
  rw [List.map_id]
theorem pairs_in : ∀ (xs ys : List D) (d : D), d ∈ pairs xs ys → ∃ a b, a ∈ xs ∧ b ∈ ys ∧ d = .tup [a, b]
  | x :: xs, y :: ys, d, h => by
    rcases List.mem_cons.mp h with rfl | h
    · exact ⟨x, y, List.mem_cons_self, List.mem_cons_self, rfl⟩
    · obtain ⟨a, b, h1, h2, h3⟩ := pairs_in xs ys d h
      exact ⟨a, b, List.mem_cons_of_mem _ h1, List.mem_cons_of_mem _ h2, h3⟩
  | [], ys, d, h => by cases ys <;> cases h
  | _ :: _, [], d, h => by cases h
theorem cutD_in {xs : List D} {l u : Option Int} {d : D} (h : d ∈ Pd.cutD xs l u) : d ∈ xs := List.mem_of_mem_drop (List.mem_of_mem_take h)
theorem drop1 (xs : List D) : Pd.cutD xs (some 1) none = xs.drop 1 := by
  cases xs with
  | nil => rfl
  | cons x xs =>
    unfold Pd.cutD
    have e1 : HT.sIx (x :: xs).length 0 (some 1) = 1 := by
      unfold HT.sIx
      simp
      try omega
    have e2 : HT.sIx (x :: xs).length (x :: xs).length none = (x :: xs).length := rfl
    rw [e1, e2]
    show xs.take _ = xs
    exact List.take_of_length_le (by simp)
theorem ascG_of {es : List D} (h : es.Pairwise fun a b => ltG (.tup [a, b]) = true) : ascG es = true := by
  unfold ascG
  rw [drop1]
  induction es with
  | nil => rfl
  | cons a es ih =>
    cases es with
    | nil => rfl
    | cons b es =>
      obtain ⟨h1, h2⟩ := List.pairwise_cons.mp h
      have ih := ih h2
      show (ltG (.tup [a, b]) && ((pairs (b :: es) es).all ltG)) = true
      rw [h1 b List.mem_cons_self]
      exact ih
theorem ltI (a b : Int) (h : a < b) : ltG (.tup [.int a, .int b]) = true := decide_eq_true h
theorem asc_ints {ns : List Int} (h : ns.Pairwise (· < ·)) : ascG (dI ns) = true := ascG_of (by
  show (ns.map D.int).Pairwise _
  rw [List.pairwise_map]
  exact h.imp fun h => ltI _ _ h)
/-- one spot before another -/
def spLt (x y : List Int) : Prop := ∃ i j k l : Int, x = [i, j] ∧ y = [k, l] ∧ (i < k ∨ i = k ∧ j < l)
theorem ltT {x y : List Int} (h : spLt x y) : ltG (.tup [tI x, tI y]) = true := by
  obtain ⟨i, j, k, l, rfl, rfl, h⟩ := h
  show HT.lexLt ((dI [i, j]).map unI) ((dI [k, l]).map unI) = true
  rw [unI_map, unI_map]
  rw [HT.lexLt_cons]
  rcases h with h | ⟨rfl, h⟩
  · rw [if_neg (by omega)]; exact decide_eq_true h
  · rw [if_pos rfl, HT.lexLt_cons, if_neg (by omega)]; exact decide_eq_true h
theorem asc_spots {sp : List (List Int)} (h : sp.Pairwise spLt) : ascG (sp.map tI) = true := ascG_of (by
  rw [List.pairwise_map]
  exact h.imp fun h => ltT h)
theorem spotsFrom_mem : ∀ (rows : List D) (i : Nat) (x : List Int), x ∈ spotsFrom i rows → ∃ k j : Nat, x = [(k : Int), (j : Int)] ∧ i ≤ k ∧ ∃ d, rows[k - i]? = some d ∧ j < rowLen d
  | [], i, x, h => nomatch h
  | d :: r, i, x, h => by
    rcases List.mem_append.mp h with h | h
    · obtain ⟨j, hj, rfl⟩ := List.mem_map.mp h
      exact ⟨i, j, rfl, Nat.le_refl _, d, by rw [Nat.sub_self]; rfl, List.mem_range.mp hj⟩
    · obtain ⟨k, j, rfl, hk, e, he, hj⟩ := spotsFrom_mem r (i + 1) x h
      exact ⟨k, j, rfl, by omega, e, by rw [show k - i = (k - (i + 1)) + 1 by omega]; exact he, hj⟩
theorem spotsFrom_asc : ∀ (rows : List D) (i : Nat), (spotsFrom i rows).Pairwise spLt
  | [], _ => List.Pairwise.nil
  | d :: r, i => by
    refine List.pairwise_append.mpr ⟨?_, spotsFrom_asc r (i + 1), fun x hx y hy => ?_⟩
    · rw [List.pairwise_map]
      exact List.pairwise_lt_range.imp fun h => ⟨_, _, _, _, rfl, rfl, .inr ⟨rfl, by omega⟩⟩
    · obtain ⟨j, _, rfl⟩ := List.mem_map.mp hx
      obtain ⟨k, l, rfl, hk, _⟩ := spotsFrom_mem r (i + 1) y hy
      exact ⟨_, _, _, _, rfl, rfl, .inl (by omega)⟩
theorem dep_tI (x : List Int) : (toP (tI x)).depth ≤ 60 := by
  show PyData.depthAll (toPA (dI x)) + 1 ≤ 60
  rw [depth_ints]; decide
section
variable {P : Program} {w : World} {K : PySem.W.Frag} {mg : Str → Option Value} {base : Heap}
def W_is_ascending : DC := fun ds M Q => ∃ d es, ds = [d] ∧ isSeq d es ∧ es.length ≤ 1000 ∧ ((∃ ns, es = dI ns) ∨ ∃ sp : List (List Int), es = sp.map tI) ∧ Q (.bl (ascG es)) M
theorem ok_is_ascending (T : Tx P w K mg) : FnOk P w K mg base CX0 1 T.a_is_ascending T.f_is_ascending ["items"] (spD 1 W_is_ascending K) := by
  refine pd_fn T.F_is_ascending sc_is_ascending (fun cdv A outer s H E hr => ⟨_, (pdss_one (pds_ret (pd_callB (cr_all rfl) sc_all (by rfl) T.n_all (by decide +kernel) (pda_cons (pd_lc [("one", 1), ("other", 2)] rfl sc_is_ascending.nd (pdi_zip (by rfl) T.n_zip (pda_cons (pd_name 0) (pda_cons (pd_slS (pd_name 0) (pdo_some pd_int) pdo_no) pda_nil))) (blkOk_by (N := ["items", "one", "other"]) (sc := defScope s_is_ascending) (by decide +kernel)) (fun _ _ _ _ _ => (pdg_tup (n := 2) rfl (pdgs_cons (pdg_name 1 sc_is_ascending.nd) (pdgs_cons (pdg_name 2 sc_is_ascending.nd) pdgs_nil)))) (fun _ _ _ _ _ => pdts_nil) (fun _ _ _ _ _ => (pd_cmp (op_or2 op_lt (op_ltT (Nat.lt_of_le_of_lt (Nat.le_add_right _ 64) hr.units))) (sr_or2 sr_I0b sr_ltT) (pd_name 1) (pd_name 2) (nomark _)))) pda_nil)))), fun ds M Q hl h => ?_⟩)
  obtain ⟨d, es, rfl, hd, hz, hk, q⟩ := h
  have hsl : sizeLine = 16777216 := by decide
  have hlike : isSeq (likeD d (Pd.cutD es (some 1) none)) (Pd.cutD es (some 1) none) := by
    rcases hd with rfl | rfl
    · exact .inl rfl
    · exact .inr rfl
  have hlen : (pairs es (Pd.cutD es (some 1) none)).length ≤ es.length := by
    rw [Pd.pairs_len]
    exact Nat.min_le_left _ _
  refine ⟨d, rfl, d, rfl, es, hd, 1, rfl, d, _, _, _, rfl, hd, hlike, lc_map (fun e => .bl (ltG e)) _ _ (fun e he R hR => ?_) (by rw [List.length_nil]; omega) ?_⟩
  · obtain ⟨a, b, ha, hb, rfl⟩ := pairs_in _ _ _ he
    have hb := cutD_in hb
    rcases hk with ⟨ns, rfl⟩ | ⟨sp, rfl⟩
    · obtain ⟨xa, _, rfl⟩ := List.mem_map.mp ha
      obtain ⟨xb, _, rfl⟩ := List.mem_map.mp hb
      exact ⟨_, rfl, rfl, _, _, rfl, _, _, rfl, rfl, _, rfl, _, rfl, .inl ⟨xa, xb, rfl, rfl, hR⟩⟩
    · obtain ⟨xa, _, rfl⟩ := List.mem_map.mp ha
      obtain ⟨xb, _, rfl⟩ := List.mem_map.mp hb
      refine ⟨_, rfl, rfl, _, _, rfl, _, _, rfl, rfl, _, rfl, _, rfl, .inr ⟨xa, xb, rfl, rfl, ?_⟩⟩
      have e : ltG (.tup [tI xa, tI xb]) = HT.lexLt xa xb := by
        show HT.lexLt ((dI xa).map unI) ((dI xb).map unI) = _
        rw [unI_map, unI_map]
      rw [← e]
      exact hR
  · refine ⟨(pairs es (Pd.cutD es (some 1) none)).map ltG, ?_, ?_⟩
    · rw [List.nil_append, List.map_map]
      rfl
    · rw [List.all_map]
      exact q
def W_is_spot : DC := fun ds M Q => ∃ (i j : Int) (e : D) (sp : List (List Int)), ds = [tI [i, j], e] ∧ isSeq e (sp.map tI) ∧ Q (.bl (sp.contains [i, j])) M
theorem okD_seqT {e : D} {sp : List (List Int)} (h : isSeq e (sp.map tI)) : okD e = true := by rcases h with rfl | rfl <;> exact okD_tuples sp
theorem ok_is_spot (T : Tx P w K mg) : FnOk P w K mg base CX0 2 T.a_is_spot T.f_is_spot ["value", "spots"] (spD 2 W_is_spot K) := by
  refine pd_fn T.F_is_spot sc_is_spot (fun cdv A outer s H E hr => ⟨_, (pdss_cons (pds_if (pdt_w (pdw_or (pdt_not (pdt_val (pd_callB call_isi sc_isi (by rfl) T.n_isinstance (by decide +kernel) (pda_cons (pd_name 0) (pda_cons (pd_bltn (v := .ty "tuple") (d := .ty "tuple") (by rfl) T.n_tuple (by decide +kernel) rfl (fun _ _ => .ty _)) pda_nil))))) (pdw_or1 (pdt_cmp (op_neD hr.units) sr_ne (pd_callB call_len_seq sc_len (by rfl) T.n_len (by decide +kernel) (pda_cons (pd_name 0) pda_nil)) pd_int (nomark _))))) (pdss_one (pds_ret pd_bl)) pdss_nil)
      (pdss_one (pds_ret (pd_and (pd_call (ok_is_integer T) (hr.mono (by decide)) (by rfl) T.g_is_integer T.F_is_integer.kp T.b_is_integer (pda_cons (pd_ix ix_tup sr_ixT (pd_name 0) pd_int) pda_nil)) (pd_and (pd_call (ok_is_integer T) (hr.mono (by decide)) (by rfl) T.g_is_integer T.F_is_integer.kp T.b_is_integer (pda_cons (pd_ix ix_tup sr_ixT (pd_name 0) pd_int) pda_nil)) (pd_one (pd_cmp (op_inS' hr.units) sr_inS (pd_name 0) (pd_name 1) (by rfl)))))))), fun ds M Q hl h => ?_⟩)
  obtain ⟨i, j, e, sp, rfl, he, q⟩ := h
  refine ⟨_, rfl, _, _, _, _, _, true, rfl, .tup _, .ty "tuple", kit_ty (by decide +kernel), true, rfl, ?_⟩
  refine ⟨_, rfl, _, .inr rfl, rfl, rfl, false, rfl, ?_⟩
  refine ⟨_, rfl, dI [i, j], 0, .int i, rfl, rfl, ⟨by decide, rfl⟩, rfl, .int i, "int", rfl, rfl, true, rfl, ?_⟩
  refine ⟨_, rfl, dI [i, j], 1, .int j, rfl, rfl, ⟨by decide, rfl⟩, rfl, .int j, "int", rfl, rfl, true, rfl, ?_⟩
  refine ⟨_, rfl, e, rfl, sp.map tI, he, okD_tup [i, j], okD_seqT he, dep_tI [i, j], ?_⟩
  rw [show ((sp.map tI).any fun z => eqD z (tI [i, j])) = sp.contains [i, j] from any_row _ _]
  exact q
def W_are_spots : DC := fun ds M Q => ∃ (d e : D) (cs sp : List (List Int)), ds = [d, e] ∧ isSeq d (cs.map tI) ∧ isSeq e (sp.map tI) ∧ sp.length ≤ 1000 ∧ cs.length ≤ sp.length ∧ (∀ x ∈ cs, x ∈ sp ∧ ∃ i j : Int, x = [i, j]) ∧ cs.Pairwise spLt ∧ Q (.bl true) M
theorem ok_are_spots (T : Tx P w K mg) : FnOk P w K mg base CX0 3 T.a_are_spots T.f_are_spots ["value", "spots"] (spD 2 W_are_spots K) := by
  refine pd_fn T.F_are_spots sc_are_spots (fun cdv A outer s H E hr => ⟨_, (pdss_cons (pds_if (pdt_not (pdt_val (pd_call (ok_has_items T) (hr.mono (by decide)) (by rfl) T.g_has_items T.F_has_items.kp T.b_has_items (pda_cons (pd_name 0) (pda_cons pd_int (pda_cons (pd_callB call_len_seq sc_len (by rfl) T.n_len (by decide +kernel) (pda_cons (pd_name 1) pda_nil)) pda_nil)))))) (pdss_one (pds_ret pd_bl)) pdss_nil)
      (pdss_one (pds_ret (pd_and (pd_callB (cr_all rfl) sc_all (by rfl) T.n_all (by decide +kernel) (pda_cons (pd_lc [("item", 2)] rfl sc_are_spots.nd (pdi_seq (pd_name 0)) (blkOk_by (N := ["value", "spots", "item"]) (sc := defScope s_are_spots) (by decide +kernel)) (fun _ _ _ _ _ => (pdg_name 2 sc_are_spots.nd)) (fun _ _ _ _ _ => pdts_nil) (fun _ _ _ _ _ => (pd_call (ok_is_spot T) (hr.mono (by decide)) (by rfl) T.g_is_spot T.F_is_spot.kp T.b_is_spot (pda_cons (pd_name 2) (pda_cons (pd_name 1) pda_nil))))) pda_nil)) (pd_one (pd_call (ok_is_ascending T) (hr.mono (by decide)) (by rfl) T.g_is_ascending T.F_is_ascending.kp T.b_is_ascending (pda_cons (pd_name 0) pda_nil))))))), fun ds M Q hl h => ?_⟩)
  obtain ⟨d, e, cs, sp, rfl, hd, he, h1, h0, h2, h3, q⟩ := h
  have hsl : sizeLine = 16777216 := by decide
  refine ⟨d, rfl, e, rfl, sp.map tI, (by rcases he with rfl | rfl; exact .inl rfl; exact .inr rfl), rfl, d, _, 0, _, rfl, hd, true, by rw [List.length_map, List.length_map, decide_eq_true (by omega), decide_eq_true (by omega)]; rfl, ?_⟩
  refine ⟨d, rfl, _, hd, lc_map (fun _ => .bl true) _ _ (fun y hy R hR => ?_) (by rw [List.length_nil, List.length_map]; omega) ?_⟩
  · obtain ⟨x, hx, rfl⟩ := List.mem_map.mp hy
    obtain ⟨hin, i, j, rfl⟩ := h2 x hx
    exact ⟨_, rfl, e, rfl, rfl, i, j, e, sp, rfl, he, by rw [List.contains_iff_mem.mpr hin]; exact hR⟩
  · refine ⟨(cs.map tI).map fun _ => true, by rw [List.nil_append, List.map_map, List.map_map, List.map_map]; rfl, true, ?_, ?_⟩
    · have e : (((cs.map tI).map fun _ => true).all id) = true := by rw [List.all_map]; exact List.all_eq_true.mpr fun _ _ => rfl
      rw [e]
    exact ⟨d, rfl, rfl, d, _, rfl, hd, by rw [List.length_map]; omega, .inr ⟨cs, rfl⟩, by rw [asc_spots h3]; exact q⟩
/-- values of a piece -/
def Vl (xs : List Int) : Prop := 1 ≤ xs.length ∧ xs.length ≤ 3 ∧ ∀ x ∈ xs, 0 ≤ x ∧ x ≤ 6
def W_are_pieces : DC := fun ds M Q => ∃ (d : D) (ns : List Int) (m : Int), ds = [d, .int m] ∧ isSeq d (dI ns) ∧ (ns.length : Int) ≤ m ∧ m ≤ 1000 ∧ (∀ x ∈ ns, 0 ≤ x ∧ x < m) ∧ ns.Pairwise (· < ·) ∧ Q (.bl true) M
theorem ok_are_pieces (T : Tx P w K mg) : FnOk P w K mg base CX0 4 T.a_are_pieces T.f_are_pieces ["value", "many"] (spD 2 W_are_pieces K) := by
  refine pd_fn T.F_are_pieces sc_are_pieces (fun cdv A outer s H E hr => ⟨_, (pdss_one (pds_ret (pd_and (pd_call (ok_has_items T) (hr.mono (by decide)) (by rfl) T.g_has_items T.F_has_items.kp T.b_has_items (pda_cons (pd_name 0) (pda_cons pd_int (pda_cons (pd_name 1) pda_nil)))) (pd_and (pd_call (ok_all_between T) (hr.mono (by decide)) (by rfl) T.g_all_between T.F_all_between.kp T.b_all_between (pda_cons (pd_name 0) (pda_cons pd_int (pda_cons (pd_op op_sub sr_I0i (pd_name 1) pd_int) pda_nil)))) (pd_one (pd_call (ok_is_ascending T) (hr.mono (by decide)) (by rfl) T.g_is_ascending T.F_is_ascending.kp T.b_is_ascending (pda_cons (pd_name 0) pda_nil))))))), fun ds M Q hl h => ?_⟩)
  obtain ⟨d, ns, m, rfl, hd, h1, h2, h3, h4, q⟩ := h
  have hsl : sizeLine = 16777216 := by decide
  refine ⟨d, rfl, .int m, rfl, rfl, d, _, 0, m, rfl, hd, true, by rw [List.length_map, decide_eq_true (by omega), decide_eq_true h1]; rfl, ?_⟩
  refine ⟨d, rfl, _, rfl, _, _, rfl, rfl, rfl, d, ns, 0, m - 1, rfl, hd, by omega, true, by rw [List.all_eq_true.mpr fun x hx => by have := h3 x hx; rw [decide_eq_true this.1, decide_eq_true (by omega)]; rfl], ?_⟩
  exact ⟨d, rfl, rfl, d, _, rfl, hd, by rw [List.length_map]; omega, .inl ⟨ns, rfl⟩, by rw [asc_ints h4]; exact q⟩
end
end K36
set_option Elab.async false
set_option linter.all false
set_option maxRecDepth 100000
set_option maxHeartbeats 4000000
namespace K36
open PySem PySem.Spec PyProof.Rows L2 Pd Spc
abbrev Pc := Option (List Int)
structure PcOk (pcs : List Pc) : Prop where
  l1 : 1 ≤ pcs.length
  l6 : pcs.length ≤ 6
  v : ∀ xs, some xs ∈ pcs → Vl xs
def woF (ns : List Int) : Nat → List Pc → List Pc
  | _, [] => []
  | i, pc :: r => (if ns.contains (i : Int) = true then none else pc) :: woF ns (i + 1) r
end K36
set_option Elab.async false
set_option linter.all false
set_option maxRecDepth 100000
set_option maxHeartbeats 4000000
namespace K36
open PySem PySem.Spec PyProof.Rows L2 Pd Spc
def tP (ps : List (List Int)) : D := .tup (ps.map tI)
structure RwOk (p : Int) (n : Nat) (rows : List (List (List Int))) : Prop where
  l1 : 1 ≤ rows.length
  l6 : rows.length ≤ 6
  ps : ∀ ps ∈ rows, 1 ≤ ps.length ∧ ps.length ≤ 3 ∧ ∀ fs ∈ ps, fs ∈ allD p n
  all : (rows.map List.length).sum ≤ 10
def tsp (rows : List (List (List Int))) : List (List Int) := spotsFrom 0 (rows.map tP)
theorem rowLen_tP (ps : List (List Int)) : rowLen (tP ps) = ps.length := by show (ps.map tI).length = _; rw [List.length_map]
theorem spots_flat : ∀ (rows : List (List (List Int))) (i : Nat), (spotsFrom i (rows.map tP)).length = rows.flatten.length
  | [], _ => rfl
  | ps :: r, i => by
    show (((List.range (rowLen (tP ps))).map _) ++ spotsFrom (i + 1) (r.map tP)).length = _
    rw [List.length_append, spots_flat r (i + 1), List.length_map, List.length_range, rowLen_tP, List.flatten_cons, List.length_append]
theorem flat_len {p : Int} {n : Nat} {rows : List (List (List Int))} (h : RwOk p n rows) : rows.flatten.length ≤ 10 := by
  rw [List.length_flatten]; exact h.all
theorem flat_mem {p : Int} {n : Nat} {rows : List (List (List Int))} (h : RwOk p n rows) : ∀ fs ∈ rows.flatten, fs ∈ allD p n := fun fs hf => by
  obtain ⟨ps, h1, h2⟩ := List.mem_flatten.mp hf
  exact (h.ps ps h1).2.2 fs h2
/-- the part that stands at a spot -/
def partAt (rows : List (List (List Int))) (i j : Nat) : List Int := (rows.getD i []).getD j []
theorem spots_parts : ∀ (rows : List (List (List Int))) (i : Nat), (spotsFrom i (rows.map tP)).map (fun x => match x with | [a, b] => partAt rows (a.toNat - i) b.toNat | _ => []) = rows.flatten
  | [], _ => rfl
  | ps :: r, i => by
    have ih := spots_parts r (i + 1)
    show (((List.range (rowLen (tP ps))).map fun (j : Nat) => [(i : Int), (j : Int)]) ++ spotsFrom (i + 1) (r.map tP)).map _ = ps ++ r.flatten
    rw [List.map_append, List.map_map, rowLen_tP, ← ih]
    congr 1
    · refine List.ext_getElem (by rw [List.length_map, List.length_range]) fun k h1 h2 => ?_
      rw [List.getElem_map, List.getElem_range]
      show partAt (ps :: r) ((i : Int).toNat - i) (k : Int).toNat = ps[k]
      rw [show (i : Int).toNat - i = 0 by omega, Int.toNat_natCast]
      show (ps.getD k []) = _
      rw [List.getD_eq_getElem?_getD, List.getElem?_eq_getElem h2]; rfl
    · refine List.map_congr_left fun x hx => ?_
      obtain ⟨k, j, rfl, hk, _⟩ := spotsFrom_mem _ _ x hx
      show partAt (ps :: r) ((k : Int).toNat - i) (j : Int).toNat = partAt r ((k : Int).toNat - (i + 1)) (j : Int).toNat
      rw [show (k : Int).toNat - i = ((k : Int).toNat - (i + 1)) + 1 by omega]
      rfl
theorem spLt_ne {x y : List Int} (h : spLt x y) : x ≠ y := by
  obtain ⟨i, j, k, l, rfl, rfl, h⟩ := h
  intro e
  injection e with e1 e2
  injection e2 with e2 _
  omega
theorem sp_nodup (rows : List D) (i : Nat) : (spotsFrom i rows).Nodup := (spotsFrom_asc rows i).imp spLt_ne
theorem kI_inj {x y : List Int} (h : kI x = kI y) : x = y := by
  unfold kI at h
  have := congrArg (List.map fun k : Key => match k with | .inl i => i | .inr _ => 0) h
  rw [List.map_map, List.map_map] at this
  simpa [Function.comp_def] using this
theorem zip_get : ∀ (sp : List (List Int)) (vals : List D), sp.Nodup → sp.length = vals.length → sp.map (fun x => ditGet (sp.map kI) vals x) = vals.map some
  | [], [], _, _ => rfl
  | [], _ :: _, _, h => by cases h
  | _ :: _, [], _, h => by cases h
  | x :: sp, v :: vals, hn, hl => by
    obtain ⟨h1, h2⟩ := List.nodup_cons.mp hn
    have ih := zip_get sp vals h2 (by simpa using hl)
    have e0 : ditGet ((x :: sp).map kI) (v :: vals) x = some v := by
      unfold ditGet
      rw [List.map_cons, List.zip_cons_cons, List.find?_cons_of_pos (by simp)]; rfl
    show ditGet ((x :: sp).map kI) (v :: vals) x :: sp.map (fun y => ditGet ((x :: sp).map kI) (v :: vals) y) = some v :: vals.map some
    rw [e0, ← ih]
    congr 1
    refine List.map_congr_left fun y hy => ?_
    unfold ditGet
    rw [List.map_cons, List.zip_cons_cons, List.find?_cons_of_neg]
    simp only [decide_eq_true_eq]
    exact fun e => h1 (by rw [kI_inj e]; exact hy)
end K36
set_option Elab.async false
set_option linter.all false
set_option maxRecDepth 100000
set_option maxHeartbeats 4000000
namespace K36
open PySem PySem.Spec PyProof.Rows L2 Pd Spc
def lt : D → D | .lst xs => .tup xs | d => d
theorem lt_tP {e : D} {ps : List (List Int)} (h : lt e = tP ps) : isSeq e (ps.map tI) := by
  cases e with
  | lst xs => injection h with h; exact .inl (by rw [h])
  | tup xs => injection h with h; exact .inr (by rw [h])
  | _ => cases h
def lenO : D → Option D | .lst xs => some (.int xs.length) | .tup xs => some (.int xs.length) | _ => none
theorem lt_at {es : List D} {rows : List (List (List Int))} (h : es.map lt = rows.map tP) {k : Nat} (hk : k < rows.length) : ∃ hk2 : k < es.length, isSeq es[k] (rows[k].map tI) := by
  have hl : es.length = rows.length := by have := congrArg List.length h; rwa [List.length_map, List.length_map] at this
  refine ⟨by omega, lt_tP ?_⟩
  have := congrArg (fun l => l[k]?) h
  simp only [List.getElem?_map] at this
  rw [List.getElem?_eq_getElem (by omega : k < es.length), List.getElem?_eq_getElem hk] at this
  exact Option.some.inj this
theorem lt_mem {es : List D} {rows : List (List (List Int))} (h : es.map lt = rows.map tP) {e : D} (he : e ∈ es) : ∃ ps ∈ rows, isSeq e (ps.map tI) := by
  have : lt e ∈ rows.map tP := by rw [← h]; exact List.mem_map_of_mem he
  obtain ⟨ps, hp, e2⟩ := List.mem_map.mp this
  exact ⟨ps, hp, lt_tP e2.symm⟩
theorem lenO_eq : ∀ (rows : List (List (List Int))) (es : List D), es.map lt = rows.map tP → es.filterMap lenO = (rows.map fun ps => (ps.length : Int)).map D.int
  | [], [], _ => rfl
  | [], _ :: _, h => by cases h
  | _ :: _, [], h => by cases h
  | ps :: r, e :: es, h => by
    rw [List.map_cons, List.map_cons] at h
    injection h with h1 h2
    have hs := lt_tP h1
    have e1 : lenO e = some (.int ((ps.map tI).length : Nat)) := by rcases hs with rfl | rfl <;> rfl
    rw [List.filterMap_cons_some e1, lenO_eq r es h2, List.length_map]; rfl
theorem sum_cast : ∀ rows : List (List (List Int)), (rows.map fun ps => (ps.length : Int)).sum = (((rows.map List.length).sum : Nat) : Int)
  | [] => rfl
  | ps :: r => by
    rw [List.map_cons, List.sum_cons, sum_cast r, List.map_cons, List.sum_cons]; omega
section
variable {P : Program} {w : World} {K : PySem.W.Frag} {mg : Str → Option Value} {base : Heap}
def W_exp : DC := fun ds M Q => ∃ (p : Int) (n : Nat) (d : D) (es : List D) (rows : List (List (List Int))), ds = [.int p, .int n, d] ∧ isSeq d es ∧ es.map lt = rows.map tP ∧ n ≤ 6 ∧ RwOk p n rows ∧ Q .non M
theorem ok_expect_pieces (T : Tx P w K mg) : FnOk P w K mg base CX0 4 T.a_expect_pieces T.f_expect_pieces ["prime", "size", "pieces"] (spD 3 W_exp K) := by
  refine pd_fn T.F_expect_pieces sc_expect_pieces (fun cdv A outer s H E hr => ⟨_, (pdss_cons (pds_if (pdt_not (pdt_val (pd_call (ok_has_items T) (hr.mono (by decide)) (by rfl) T.g_has_items T.F_has_items.kp T.b_has_items (pda_cons (pd_name 2) (pda_cons pd_int (pda_cons (pd_glob (v := .int 6) (d := .int 6) (by rfl) T.g_MOST_PIECES ⟨_, rfl⟩ (fun _ _ => .int _)) pda_nil)))))) (pdss_one pds_never) pdss_nil)
      (pdss_cons (pds_if (pdt_cmp op_gt sr_I0b (pd_callB (cr_sum rfl) sc_sum (by rfl) T.n_sum (by decide +kernel) (pda_cons (pd_lc [("parts", 4)] rfl sc_expect_pieces.nd (pdi_seq (pd_name 2)) (blkOk_by (N := ["prime", "size", "pieces", "piece", "parts", "part", "factors"]) (sc := defScope s_expect_pieces) (by decide +kernel)) (fun _ _ _ _ _ => (pdg_name 4 sc_expect_pieces.nd)) (fun _ _ _ _ _ => pdts_one (pdt_val (pd_isi2K (K := K) rfl (T1 := "list") (T2 := "tuple") (by rfl) T.n_isinstance (pd_name 4) (by rfl) T.n_list (by decide +kernel) (by rfl) T.n_tuple (by decide +kernel)))) (fun _ _ _ _ _ => (pd_callB call_len_seq sc_len (by rfl) T.n_len (by decide +kernel) (pda_cons (pd_name 4) pda_nil)))) pda_nil)) (pd_glob (v := .int 10) (d := .int 10) (by rfl) T.g_MOST_PARTS_IN_ALL ⟨_, rfl⟩ (fun _ _ => .int _)) (nomark _)) (pdss_one pds_never) pdss_nil)
      (pdss_one (pds_for PassesOwn.never rfl (pdi_enumK (by rfl) T.n_enumerate (pda_cons (pd_name 2) pda_nil)) (pdg_tup (n := 2) rfl (pdgs_cons (pdg_name 3 sc_expect_pieces.nd) (pdgs_cons (pdg_name 4 sc_expect_pieces.nd) pdgs_nil))) (pdss_cons (pds_if (pdt_not (pdt_val (pd_call (ok_has_items T) (hr.mono (by decide)) (by rfl) T.g_has_items T.F_has_items.kp T.b_has_items (pda_cons (pd_name 4) (pda_cons pd_int (pda_cons (pd_glob (v := .int 3) (d := .int 3) (by rfl) T.g_MOST_PARTS ⟨_, rfl⟩ (fun _ _ => .int _)) pda_nil)))))) (pdss_one pds_never) pdss_nil)
      (pdss_one (pds_for PassesOwn.never rfl (pdi_enumK (by rfl) T.n_enumerate (pda_cons (pd_name 4) pda_nil)) (pdg_tup (n := 2) rfl (pdgs_cons (pdg_name 5 sc_expect_pieces.nd) (pdgs_cons (pdg_name 6 sc_expect_pieces.nd) pdgs_nil))) (pdss_one (pds_if (pdt_w (pdw_or (pdt_not (pdt_val (pd_call (ok_has_items T) (hr.mono (by decide)) (by rfl) T.g_has_items T.F_has_items.kp T.b_has_items (pda_cons (pd_name 6) (pda_cons (pd_name 1) (pda_cons (pd_name 1) pda_nil)))))) (pdw_or1 (pdt_not (pdt_val (pd_call (ok_all_between T) (hr.mono (by decide)) (by rfl) T.g_all_between T.F_all_between.kp T.b_all_between (pda_cons (pd_name 6) (pda_cons pd_int (pda_cons (pd_op op_sub sr_I0i (pd_name 0) pd_int) pda_nil))))))))) (pdss_one pds_never) pdss_nil))))))))), fun ds M Q hl h => ?_⟩)
  obtain ⟨p, n, d0, es, rows, rfl, hd0, hes, hn6, hw, q⟩ := h
  have hel : es.length = rows.length := by have := congrArg List.length hes; rwa [List.length_map, List.length_map] at this
  have hsl : sizeLine = 16777216 := by decide
  have h1 := hw.l1
  have h6 := hw.l6
  have h10 := hw.all
  refine ⟨_, rfl, rfl, d0, es, 1, 6, rfl, hd0, true, by rw [decide_eq_true (by omega), decide_eq_true (by omega)]; rfl, ?_⟩
  refine ⟨_, rfl, es, hd0, lc_fmap lenO _ _ (fun e he R S hR hS => ?_) (by rw [List.length_nil]; omega) ?_⟩
  · obtain ⟨ps, _, hs⟩ := lt_mem hes he
    rcases hs with rfl | rfl
    · exact ⟨_, rfl, .type "list", true, .lst _, rfl, true, rfl, _, rfl, _, .inl rfl, hR _ rfl⟩
    · exact ⟨_, rfl, .type "tuple", true, .tup _, rfl, true, rfl, _, rfl, _, .inr rfl, hR _ rfl⟩
  rw [List.nil_append, lenO_eq rows es hes]
  refine ⟨_, rfl, _, _, rfl, rfl, false, by rw [sum_cast]; exact congrArg D.bl (decide_eq_false (by omega)), ?_⟩
  refine ⟨_, rfl, _, es, rfl, hd0, for_ind (fun k ρ M' => M' = M ∧ ∃ a b c e, ρ = [some (.int p), some (.int n), some d0, a, b, c, e]) _ ?_ ?_ ⟨rfl, _, _, _, _, rfl⟩⟩
  · rintro k d ρ M' N hd ⟨rfl, a, b, c, e, rfl⟩ hN
    have hkl : k < rows.length := by have := (List.getElem?_eq_some_iff.mp hd).1; rw [numd_len] at this; omega
    obtain ⟨hke, hse⟩ := lt_at hes hkl
    have hx := numd_get es 0 k _ (List.getElem?_eq_getElem hke)
    rw [hx] at hd
    cases hd
    have hin := List.getElem_mem hkl
    generalize es[k] = ek at hse
    obtain ⟨p1, p3, pf⟩ := hw.ps _ hin
    generalize rows[k] = ps at p1 p3 pf hin hse
    refine ⟨_, rfl, rfl, _, _, rfl, _, _, rfl, rfl, ?_⟩
    refine ⟨_, rfl, rfl, ek, ps.map tI, 1, 3, rfl, hse, true, by rw [List.length_map, decide_eq_true (by omega), decide_eq_true (by omega)]; rfl, ?_⟩
    refine ⟨_, rfl, _, _, rfl, hse, for_ind (fun k2 ρ M2 => M2 = M' ∧ ∃ c e, ρ = [some (.int p), some (.int n), some d0, some (.int ((0 + k : Nat) : Int)), some ek, c, e]) _ ?_ ?_ ⟨rfl, _, _, rfl⟩⟩
    · rintro k2 d ρ M2 N2 hd ⟨rfl, c, e, rfl⟩ hN2
      have hkl2 : k2 < ps.length := by have := (List.getElem?_eq_some_iff.mp hd).1; rwa [numd_len, List.length_map] at this
      have hx := numd_get (ps.map tI) 0 k2 _ (List.getElem?_eq_getElem (by rw [List.length_map]; exact hkl2))
      rw [hx, List.getElem_map] at hd
      cases hd
      obtain ⟨y1, y2⟩ := allD_mem (pf _ (List.getElem_mem hkl2))
      refine ⟨_, rfl, rfl, _, _, rfl, _, _, rfl, rfl, ?_⟩
      refine ⟨_, rfl, .int n, rfl, .int n, rfl, rfl, tI ps[k2], dI ps[k2], n, n, rfl, .inr rfl, true, by rw [List.length_map, y1, decide_eq_true (Int.le_refl _)]; rfl, ?_⟩
      exact ⟨_, rfl, .int p, rfl, p, 1, rfl, rfl, rfl, tI ps[k2], ps[k2], 0, p - 1, rfl, .inr rfl, by omega, true, by rw [In.all y2], hN2 _ _ ⟨rfl, _, _, rfl⟩⟩
    · rintro ρ M2 ⟨rfl, c, e, rfl⟩
      exact hN _ _ ⟨rfl, _, _, _, _, rfl⟩
  · rintro ρ M' ⟨rfl, a, b, c, e, rfl⟩
    exact q
end
end K36
set_option Elab.async false
set_option linter.all false
set_option maxRecDepth 100000
set_option maxHeartbeats 4000000
namespace K36
open PySem PySem.Spec PyProof.Rows L2 Pd Spc
def intsOf : D → List Int | .tup ds => ds.map unI | _ => []
theorem ints_tI (xs : List Int) : intsOf (tI xs) = xs := unI_map xs
theorem tsp_len {p : Int} {n : Nat} {rows : List (List (List Int))} (h : RwOk p n rows) : (tsp rows).length ≤ 10 := by
  unfold tsp; rw [spots_flat]; exact flat_len h
theorem tsp_two (rows : List (List (List Int))) : ∀ x ∈ tsp rows, ∃ i j : Int, x = [i, j] := fun x hx => by
  obtain ⟨k, j, rfl, _, _⟩ := spotsFrom_mem _ _ x hx
  exact ⟨_, _, rfl⟩
def sums (S : Addr) (p : Int) (rows : List (List (List Int))) : List D := (rows.flatten.map tI).map (dSum S p)
theorem sums_len (S : Addr) (p : Int) (rows : List (List (List Int))) : (tsp rows).length = (sums S p rows).length := by
  unfold tsp sums; rw [spots_flat, List.length_map, List.length_map]
theorem sums_sp (S : Addr) (p : Int) (rows : List (List (List Int))) : sums S p rows = (tsp rows).map fun x => dSum S p (tI (match x with | [a, b] => partAt rows (a.toNat - 0) b.toNat | _ => [])) := by
  have h := spots_parts rows 0
  unfold sums tsp
  rw [← h, List.map_map, List.map_map]
  rfl
/-- the part at a place -/
def prt (rows : List (List (List Int))) (x : List Int) : List Int := match x with | [a, b] => partAt rows (a.toNat - 0) b.toNat | _ => []
theorem prt_all (rows : List (List (List Int))) : (tsp rows).map (prt rows) = rows.flatten := spots_parts rows 0
theorem sum_at (S : Addr) (p : Int) (rows : List (List (List Int))) {x : List Int} (hx : x ∈ tsp rows) : ditGet ((tsp rows).map kI) (sums S p rows) x = some (dSum S p (tI (prt rows x))) := by
  have h := zip_get (tsp rows) (sums S p rows) (sp_nodup _ _) (sums_len S p rows)
  rw [sums_sp S p rows, List.map_map] at h
  have h2 := List.map_inj_left.mp h x hx
  rw [← sums_sp S p rows] at h2
  exact h2
theorem prt_in {p : Int} {n : Nat} {rows : List (List (List Int))} (h : RwOk p n rows) {x : List Int} (hx : x ∈ tsp rows) : prt rows x ∈ allD p n := by
  refine flat_mem h _ ?_
  rw [← prt_all]
  exact List.mem_map_of_mem hx
/-- places of a table, ascending -/
structure Cs (rows : List (List (List Int))) (cs : List (List Int)) : Prop where
  inn : ∀ x ∈ cs, x ∈ tsp rows
  asc : cs.Pairwise spLt
  len : cs.length ≤ (tsp rows).length
theorem cs_all (rows : List (List (List Int))) : Cs rows (tsp rows) := ⟨fun _ h => h, spotsFrom_asc _ _, Nat.le_refl _⟩
section
variable {P : Program} {w : World} {K : PySem.W.Frag} {mg : Str → Option Value} {base : Heap}
def tblF (S : Addr) (p : Int) (n : Nat) (rows : List (List (List Int))) (fs : List (Str × D)) : Prop := fs.lookup ("_prime" : Str) = some (D.int p) ∧ fs.lookup ("_size" : Str) = some (D.int n) ∧
  fs.lookup ("_spots" : Str) = some (D.tup ((tsp rows).map tI)) ∧ fs.lookup ("_sums" : Str) = some (D.dit ((tsp rows).map kI) (sums S p rows))
def W_tsp (S C TC : Addr) : DC := fun ds M Q => ∃ (x e : D) (p : Int) (n : Nat) (SP : List (List Rw)) (rows : List (List (List Int))) (cs : List (List Int)) (fs : List (Str × D)), ds = [x, e] ∧ InsOf M x TC fs ∧ tblF S p n rows fs ∧
  okM M ∧ Univ p n SP ∧ RwOk p n rows ∧ Cs rows cs ∧ ((e = .non ∧ cs = tsp rows) ∨ isSeq e (cs.map tI)) ∧ Q (dSpace S C p n (red p (cs.map (prt rows)))) M
theorem ok_Table_space (T : Tx P w K mg) : FnOk P w K mg base CX0 8 T.a_Table_space T.f_Table_space ["self", "spots"] (spD 2 (W_tsp T.a_Sum T.a_Space T.a_Table) K) := by
  refine pd_fnD T.F_Table_space sc_Table_space (fun cdv A outer s H E hr => ⟨_, (pdss_cons (pds_if (pdt_cmp op_is0 sr_is0 (pd_name 1) pd_non (nomark _)) (pdss_one (pds_set 1 sc_Table_space.nd (pd_fldA (K := K) rfl (pd_name 0)))) pdss_nil)
      (pdss_cons (pds_if (pdt_not (pdt_val (pd_call (ok_are_spots T) (hr.mono (by decide)) (by rfl) T.g_are_spots T.F_are_spots.kp T.b_are_spots (pda_cons (pd_name 1) (pda_cons (pd_fldA (K := K) rfl (pd_name 0)) pda_nil))))) (pdss_one pds_never) pdss_nil)
      (pdss_one (pds_ret (pd_make T.m_Space (ok_Space_init T) (hr.mono (by decide)) (by rfl) T.g_Space T.b_Space_init (pda_cons (pd_fldA (K := K) rfl (pd_name 0)) (pda_cons (pd_fldA (K := K) rfl (pd_name 0)) (pda_cons (pd_lc [("spot", 2)] rfl sc_Table_space.nd (pdi_seq (pd_name 1)) (blkOk_by (N := ["self", "spots", "spot"]) (sc := defScope s_Table_space) (by decide +kernel)) (fun _ _ _ _ _ => (pdg_name 2 sc_Table_space.nd)) (fun _ _ _ _ _ => pdts_nil) (fun _ _ _ _ _ => (pd_getT (Nat.lt_of_le_of_lt (Nat.add_le_add_left (by decide : 1 ≤ 64) _) hr.units) (pd_fldA (K := K) rfl (pd_name 0)) (pd_name 2)))) pda_nil)))))))), fun ds M Q hl h => ?_⟩)
  obtain ⟨x, e, p, n, SP, rows, cs, fs, rfl, hx, ⟨f1, f2, f3, f4⟩, hM, U, hw, hcs, he, q⟩ := h
  have hsl : sizeLine = 16777216 := by decide
  have hl10 := tsp_len hw
  have hcl := hcs.len
  have hco : ∀ y ∈ cs, ∃ i j : Int, y = [i, j] := fun y hy => tsp_two rows y (hcs.inn y hy)
  have hcm : cs.map (fun y => dSum T.a_Sum p (tI (prt rows y))) = ((cs.map (prt rows)).map tI).map (dSum T.a_Sum p) := by rw [List.map_map, List.map_map]; rfl
  have fin : okM (M ++ [.ins T.a_Space []]) → ∀ acc, acc = cs.map (fun y => dSum T.a_Sum p (tI (prt rows y))) → ([.int p, .int n, .lst acc] : List D).length + 1 = 4 ∧ W_spinit T.a_Sum T.a_Space (.mu M.length :: [.int p, .int n, .lst acc]) (M ++ [.ins T.a_Space []]) fun d M2 => ∃ M3 fs, d = .non ∧ M2 = M3 ++ [.ins T.a_Space fs] ∧ M3.length = M.length ∧ apartF M.length fs = true ∧ apartM M.length M3 = true ∧ Q (.ins T.a_Space fs) M3 := fun ho acc ea => by
    rw [ea, hcm]
    refine make_space U (fsD := (cs.map (prt rows)).map tI) (rows := cs.map (prt rows)) ?_ ?_ (fun y hy => ?_) hM ho q
    · rw [List.map_map]; rfl
    · rw [List.length_map, List.length_map]; omega
    · obtain ⟨x, hx, rfl⟩ := List.mem_map.mp hy
      exact prt_in hw (hcs.inn x hx)
  have el : ∀ y ∈ cs, ditGet ((tsp rows).map kI) (sums T.a_Sum p rows) y = some (dSum T.a_Sum p (tI (prt rows y))) := fun y hy => sum_at _ _ _ (hcs.inn y hy)
  rcases he with ⟨rfl, rfl⟩ | he
  · refine ⟨_, rfl, rfl, true, rfl, _, rfl, _, _, _, hx, T.c_Table.cl, T.nb_spots, f3, ?_⟩
    refine ⟨_, rfl, _, rfl, _, _, _, hx, T.c_Table.cl, T.nb_spots, f3, rfl, _, _, tsp rows, tsp rows, rfl, .inr rfl, .inr rfl, by omega, Nat.le_refl _, fun x hx => ⟨hx, tsp_two rows x hx⟩, spotsFrom_asc _ _, true, rfl, ?_⟩
    refine ⟨_, rfl, _, _, _, hx, T.c_Table.cl, T.nb_prime, f1, _, rfl, _, _, _, hx, T.c_Table.cl, T.nb_size, f2, ?_⟩
    refine ⟨_, rfl, _, .inr rfl, lc_map (fun d => dSum T.a_Sum p (tI (prt rows (intsOf d)))) _ _ (fun d hd R hR => ?_) (by rw [List.length_nil, List.length_map]; omega) ?_⟩
    · obtain ⟨y, hy, rfl⟩ := List.mem_map.mp hd
      refine ⟨_, rfl, _, _, _, hx, T.c_Table.cl, T.nb_sums, f4, _, _, rfl, _, rfl, y, _, rfl, el y hy, ?_⟩
      have hR' : R (dSum T.a_Sum p (tI (prt rows (intsOf (tI y))))) M := hR
      rwa [ints_tI] at hR'
    · refine fin (okM_apI hM) _ ?_
      rw [List.nil_append, List.map_map]
      exact List.map_congr_left fun y _ => by show dSum T.a_Sum p (tI (prt rows (intsOf (tI y)))) = _; rw [ints_tI]
  · have hen : isNonD e = false := by rcases he with rfl | rfl <;> rfl
    refine ⟨e, rfl, rfl, false, by rw [hen], ?_⟩
    refine ⟨e, rfl, _, rfl, _, _, _, hx, T.c_Table.cl, T.nb_spots, f3, rfl, e, _, cs, tsp rows, rfl, he, .inr rfl, by omega, hcl, fun y hy => ⟨hcs.inn y hy, hco y hy⟩, hcs.asc, true, rfl, ?_⟩
    refine ⟨_, rfl, _, _, _, hx, T.c_Table.cl, T.nb_prime, f1, _, rfl, _, _, _, hx, T.c_Table.cl, T.nb_size, f2, ?_⟩
    refine ⟨e, rfl, _, he, lc_map (fun d => dSum T.a_Sum p (tI (prt rows (intsOf d)))) _ _ (fun d hd R hR => ?_) (by rw [List.length_nil, List.length_map]; omega) ?_⟩
    · obtain ⟨y, hy, rfl⟩ := List.mem_map.mp hd
      refine ⟨_, rfl, _, _, _, hx, T.c_Table.cl, T.nb_sums, f4, _, _, rfl, _, rfl, y, _, rfl, el y hy, ?_⟩
      have hR' : R (dSum T.a_Sum p (tI (prt rows (intsOf (tI y))))) M := hR
      rwa [ints_tI] at hR'
    · refine fin (okM_apI hM) _ ?_
      rw [List.nil_append, List.map_map]
      exact List.map_congr_left fun y _ => by show dSum T.a_Sum p (tI (prt rows (intsOf (tI y)))) = _; rw [ints_tI]
end
end K36
set_option Elab.async false
set_option linter.all false
set_option maxRecDepth 100000
set_option maxHeartbeats 4000000
namespace K36
open PySem PySem.Spec PyProof.Rows L2 Pd Spc
def tbF (S : Addr) (p : Int) (n : Nat) (rows : List (List (List Int))) : List (Str × D) := [("_prime", .int p), ("_size", .int n), ("_pieces", .tup (rows.map tP)), ("_spots", .tup ((tsp rows).map tI)), ("_sums", .dit ((tsp rows).map kI) (sums S p rows)), ("_whole", .bl (decide (((red p rows.flatten).length : Int) = n)))]
def dTab (S TC : Addr) (p : Int) (n : Nat) (rows : List (List (List Int))) : D := .ins TC (tbF S p n rows)
theorem ap_tI (k : Nat) : ∀ L : List (List Int), apartA k (L.map tI) = true
  | [] => rfl
  | x :: r => by show (apartA k (dI x) && apartA k (r.map tI)) = true; rw [apartA_ints, ap_tI k r]; rfl
theorem ap_tP (k : Nat) : ∀ rows : List (List (List Int)), apartA k (rows.map tP) = true
  | [] => rfl
  | x :: r => by show (apartA k (x.map tI) && apartA k (r.map tP)) = true; rw [ap_tI, ap_tP k r]; rfl
theorem ap_sum1 (S : Addr) (p : Int) (k : Nat) : ∀ L : List (List Int), apartA k ((L.map tI).map (dSum S p)) = true
  | [] => rfl
  | x :: r => by show ((true && (apartA k (dI x) && true)) && apartA k ((r.map tI).map (dSum S p))) = true; rw [apartA_ints, ap_sum1 S p k r]; rfl
theorem ap_tb (S : Addr) (p : Int) (n : Nat) (rows : List (List (List Int))) (k : Nat) : apartF k (tbF S p n rows) = true := by
  show (true && (true && (apartA k (rows.map tP) && (apartA k ((tsp rows).map tI) && (apartA k (sums S p rows) && (true && true)))))) = true
  rw [ap_tP, ap_tI, show apartA k (sums S p rows) = true from ap_sum1 S p k _]; rfl
theorem ap_tb4 (S : Addr) (p : Int) (n : Nat) (rows : List (List (List Int))) (k : Nat) : apartF k ((tbF S p n rows).take 4) = true := by
  show (true && (true && (apartA k (rows.map tP) && (apartA k ((tsp rows).map tI) && true)))) = true
  rw [ap_tP, ap_tI]; rfl
theorem ap_tb5 (S : Addr) (p : Int) (n : Nat) (rows : List (List (List Int))) (k : Nat) : apartF k ((tbF S p n rows).take 5) = true := by
  show (true && (true && (apartA k (rows.map tP) && (apartA k ((tsp rows).map tI) && (apartA k (sums S p rows) && true))))) = true
  rw [ap_tP, ap_tI, show apartA k (sums S p rows) = true from ap_sum1 S p k _]; rfl
theorem rowB_tP {p : Int} {n : Nat} {rows : List (List (List Int))} (h : RwOk p n rows) : ∀ x ∈ rows.map tP, rowB x := fun x hx => by
  obtain ⟨ps, hp, rfl⟩ := List.mem_map.mp hx
  exact .inr ⟨ps.map tI, .inr rfl, by rw [List.length_map]; exact (h.ps ps hp).2.1⟩
/-- the sum that is made at a spot -/
def sumAt (S : Addr) (p : Int) (rows : List (List (List Int))) (d : D) : D := dSum S p (tI (match intsOf d with | [a, b] => partAt rows a.toNat b.toNat | _ => []))
theorem sumAt_all (S : Addr) (p : Int) (rows : List (List (List Int))) : ((tsp rows).map tI).map (sumAt S p rows) = sums S p rows := by
  have h := spots_parts rows 0
  unfold sums
  rw [← h, List.map_map, List.map_map, List.map_map]
  refine List.map_congr_left fun x _ => ?_
  simp only [Function.comp_apply, sumAt, ints_tI]; rfl
theorem keys_all (rows : List (List (List Int))) : (((tsp rows).map tI).map fun d => kI (intsOf d)) = (tsp rows).map kI := by
  rw [List.map_map]
  exact List.map_congr_left fun x _ => by show kI (intsOf (tI x)) = kI x; rw [ints_tI]
theorem spot_in {p : Int} {n : Nat} {rows : List (List (List Int))} (h : RwOk p n rows) {x : List Int} (hx : x ∈ tsp rows) : ∃ (i j : Nat) (ps : List (List Int)) (fs : List Int), x = [(i : Int), (j : Int)] ∧ (rows.map tP)[i]? = some (tP ps) ∧ (ps.map tI)[j]? = some (tI fs) ∧ partAt rows i j = fs ∧ fs ∈ allD p n := by
  obtain ⟨k, j, rfl, _, d, hd, hj⟩ := spotsFrom_mem _ _ x hx
  rw [Nat.sub_zero, List.getElem?_map] at hd
  cases e : rows[k]? with
  | none => rw [e] at hd; cases hd
  | some ps =>
    rw [e] at hd
    cases hd
    rw [rowLen_tP] at hj
    have hm : ps ∈ rows := List.mem_of_getElem? e
    refine ⟨k, j, ps, ps[j], rfl, by rw [List.getElem?_map, e]; rfl, by rw [List.getElem?_map, List.getElem?_eq_getElem hj]; rfl, ?_, (h.ps ps hm).2.2 _ (List.getElem_mem hj)⟩
    unfold partAt
    rw [show rows.getD k [] = ps by rw [List.getD_eq_getElem?_getD, e]; rfl, List.getD_eq_getElem?_getD, List.getElem?_eq_getElem hj]; rfl
section
variable {P : Program} {w : World} {K : PySem.W.Frag} {mg : Str → Option Value} {base : Heap}
def W_tinit (S TC : Addr) : DC := fun ds M Q => ∃ (j : Nat) (p : Int) (n : Nat) (SP : List (List Rw)) (d : D) (es : List D) (rows : List (List (List Int))), ds = [.mu j, .int p, .int n, d] ∧ isSeq d es ∧ es.map lt = rows.map tP ∧ M[j]? = some (.ins TC []) ∧ okM M ∧ Univ p n SP ∧ RwOk p n rows ∧ Q .non (M.set j (.ins TC (tbF S p n rows)))
theorem ok_Table_init (T : Tx P w K mg) : FnOk P w K mg base CX0 10 T.a_Table_init T.f_Table_init ["self", "prime", "size", "pieces"] (spD 4 (W_tinit T.a_Sum T.a_Table) K) := by
  refine pd_fn T.F_Table_init sc_Table_init (fun cdv A outer s H E hr => ⟨_, (pdss_cons (pds_expr (pd_call (ok_expect_prime_and_size T) (hr.mono (by decide)) (by rfl) T.g_expect_prime_and_size T.F_expect_prime_and_size.kp T.b_expect_prime_and_size (pda_cons (pd_name 1) (pda_cons (pd_name 2) pda_nil))))
      (pdss_cons (pds_expr (pd_call (ok_expect_pieces T) (hr.mono (by decide)) (by rfl) T.g_expect_pieces T.F_expect_pieces.kp T.b_expect_pieces (pda_cons (pd_name 1) (pda_cons (pd_name 2) (pda_cons (pd_name 3) pda_nil)))))
      (pdss_cons (pds_fldM (pd_name 1) (pd_name 0))
      (pdss_cons (pds_fldM (pd_name 2) (pd_name 0))
      (pdss_cons (pds_fldM (pd_callTy call_tuple_of sc_tuple (by rfl) T.n_tuple (by decide +kernel) (pda_cons (pd_lc [("parts", 4)] rfl sc_Table_init.nd (pdi_seq (pd_name 3)) (blkOk_by (N := ["self", "prime", "size", "pieces", "parts", "piece", "part", "factors"]) (sc := defScope s_Table_init) (by decide +kernel)) (fun _ _ _ _ _ => (pdg_name 4 sc_Table_init.nd)) (fun _ _ _ _ _ => pdts_nil) (fun _ _ _ _ _ => (pd_callTy call_tuple_of sc_tuple (by rfl) T.n_tuple (by decide +kernel) (pda_cons (pd_lc [("factors", 7)] rfl sc_Table_init.nd (pdi_seq (pd_name 4)) (blkOk_by (by kernel_rfl)) (fun _ _ _ _ _ => (pdg_name 7 sc_Table_init.nd)) (fun _ _ _ _ _ => pdts_nil) (fun _ _ _ _ _ => (pd_callTy call_mkT sc_mkT (by rfl) T.n_tuple (by decide +kernel) (pda_cons (pd_name 7) pda_nil)))) pda_nil)))) pda_nil)) (pd_name 0))
      (pdss_cons (pds_fldM (pd_call (ok_spots_of_parts T) (hr.mono (by decide)) (by rfl) T.g_spots_of_parts T.F_spots_of_parts.kp T.b_spots_of_parts (pda_cons (pd_fldMu (K := K) rfl (pd_name 0)) pda_nil)) (pd_name 0))
      (pdss_cons (pds_fldM (pd_dcT [("piece", 5), ("part", 6)] rfl (Nat.lt_of_le_of_lt (Nat.le_add_right _ 64) hr.units) sc_Table_init.nd (pdi_tup (pd_fldMu (K := K) rfl (pd_name 0))) (blkOk_by (N := ["self", "prime", "size", "pieces", "parts", "piece", "part", "factors"]) (sc := defScope s_Table_init) (by decide +kernel)) (fun _ _ _ _ _ => (pdg_tup (n := 2) rfl (pdgs_cons (pdg_name 5 sc_Table_init.nd) (pdgs_cons (pdg_name 6 sc_Table_init.nd) pdgs_nil)))) (fun _ _ _ _ _ => (pda_cons (pd_name 5) (pda_cons (pd_name 6) pda_nil))) (fun _ _ _ _ _ => (pd_make T.m_Sum (ok_Sum_init T) (hr.mono (by decide)) (by rfl) T.g_Sum T.b_Sum_init (pda_cons (pd_name 1) (pda_cons (pd_ix ix_tup sr_ixT (pd_ix ix_tup sr_ixT (pd_fldMu (K := K) rfl (pd_name 0)) (pd_name 5)) (pd_name 6)) pda_nil))))) (pd_name 0))
      (pdss_one (pds_fldM (pd_prop (pd_methA0 (pd_name 0) T.c_Table.cl T.me_space (ok_Table_space T) (hr.mono (by decide)) T.bd_Table_space T.bv_Table_space) T.c_Space.cl T.pp_Space_is_whole (ok_Space_is_whole T) (hr.mono (by decide)) T.b_Space_is_whole) (pd_name 0)))))))))), fun ds M Q hl h => ?_⟩)
  obtain ⟨j, p, n, SP, d0, es, rows, rfl, hd0, hes, hm, hM, U, hw, q⟩ := h
  have hel : es.length = rows.length := by have := congrArg List.length hes; rwa [List.length_map, List.length_map] at this
  have hsl : sizeLine = 16777216 := by decide
  have hj : j < M.length := (List.getElem?_eq_some_iff.mp hm).1
  obtain ⟨g, g1, g2⟩ := U.g
  have hn1 := U.n1
  have hn4 := U.n4
  have h6 := hw.l6
  have hl10 := tsp_len hw
  have gj : ∀ fs, (M.set j (.ins T.a_Table fs))[j]? = some (.ins T.a_Table fs) := fun fs => List.getElem?_set_self hj
  refine ⟨.int p, rfl, .int n, rfl, rfl, p, g, n, rfl, g1, by omega, g2, ?_⟩
  refine ⟨.int p, rfl, .int n, rfl, _, rfl, rfl, p, n, d0, es, rows, rfl, hd0, hes, by omega, hw, ?_⟩
  refine ⟨.int p, rfl, .mu j, rfl, j, T.a_Table, [], rfl, hm, T.c_Table.cl, T.nb_prime, by decide, ?_⟩
  refine ⟨.int n, rfl, .mu j, rfl, j, T.a_Table, _, rfl, gj _, T.c_Table.cl, T.nb_size, (by show 1 < 1000; decide), ?_⟩
  rw [List.set_set]
  refine ⟨d0, rfl, es, hd0, lc_map lt _ _ (fun d hd R hR => ?_) (by rw [List.length_nil]; omega) ?_⟩
  · obtain ⟨ps, hps, hse⟩ := lt_mem hes hd
    obtain ⟨p1, p3, pf⟩ := hw.ps ps hps
    have hlt : lt d = .tup (ps.map tI) := by rcases hse with rfl | rfl <;> rfl
    rw [hlt] at hR
    refine ⟨d, rfl, _, hse, lc_map (fun d => d) _ _ (fun d hd R2 hR2 => ?_) (by rw [List.length_nil, List.length_map]; omega) ?_⟩
    · obtain ⟨fs, hfs, rfl⟩ := List.mem_map.mp hd
      exact ⟨_, rfl, _, fs, rfl, .inr (.inl ⟨rfl, hR2⟩)⟩
    · rw [List.nil_append, List.map_id']
      exact ⟨_, _, rfl, .inl rfl, hR⟩
  have e1 : [] ++ es.map lt = rows.map tP := by rw [List.nil_append, hes]
  rw [e1]
  refine ⟨_, _, rfl, .inl rfl, .mu j, rfl, j, T.a_Table, _, rfl, gj _, T.c_Table.cl, T.nb_pieces, (by show 2 < 1000; decide), ?_⟩
  rw [List.set_set]
  refine ⟨.mu j, rfl, j, T.a_Table, _, _, rfl, gj _, T.c_Table.cl, T.nb_pieces, rfl, rfl, _, _, rfl, .inr rfl, by rw [List.length_map]; exact h6, rowB_tP hw, .mu j, rfl, j, T.a_Table, _, rfl, gj _, T.c_Table.cl, T.nb_spots, (by show 3 < 1000; decide), ?_⟩
  rw [List.set_set]
  refine ⟨.mu j, rfl, j, T.a_Table, _, _, rfl, gj _, T.c_Table.cl, T.nb_spots, rfl, _, rfl, dcT_map intsOf (sumAt T.a_Sum p rows) _ _ _ (fun d hd ks acc k hk hz hR => ?_) ?_ ?_ ?_⟩
  · obtain ⟨x, hx, rfl⟩ := List.mem_map.mp hd
    obtain ⟨a, b, ps, fs, rfl, ha, hb, he, hfs⟩ := spot_in hw hx
    refine ⟨_, rfl, rfl, _, _, rfl, _, _, rfl, rfl, ?_⟩
    refine ⟨_, rfl, _, rfl, [(a : Int), (b : Int)], rfl, (by show 2 ≤ sizeLine; decide), hk, hz, ?_⟩
    refine ⟨.int p, rfl, .mu j, rfl, j, T.a_Table, _, _, rfl, gj _, T.c_Table.cl, T.nb_pieces, rfl, _, rfl, _, _, _, rfl, rfl, ⟨Int.natCast_nonneg _, ha⟩, _, rfl, _, _, _, rfl, rfl, ⟨Int.natCast_nonneg _, hb⟩, ?_⟩
    refine make_sum (P := fun y M2 => k (ks ++ [kI [(a : Int), (b : Int)]]) (acc ++ [y]) M2) (sum_ok U hfs) (.inr (.inl ⟨rfl, rfl⟩)) (okM_ins hM (ap_tb4 T.a_Sum p n rows _)) ?_
    rw [← he]
    exact hR
  · show (([] : List (List Key)) ++ (((tsp rows).map tI).map fun d => kI (intsOf d))).Nodup
    rw [List.nil_append, keys_all]
    exact List.Pairwise.map kI (fun a b h e => h (kI_inj e)) (sp_nodup _ _)
  · show (([] : List D).length + ((tsp rows).map tI).length) ≤ sizeLine
    rw [List.length_nil, List.length_map]; omega
  have e2 : ([] : List (List Key)) ++ (((spotsFrom 0 (rows.map tP)).map tI).map fun d => kI (intsOf d)) = (tsp rows).map kI := by rw [List.nil_append]; exact keys_all rows
  have e3 : ([] : List D) ++ ((spotsFrom 0 (rows.map tP)).map tI).map (sumAt T.a_Sum p rows) = sums T.a_Sum p rows := by rw [List.nil_append]; exact sumAt_all _ _ _
  rw [e2, e3]
  refine ⟨.mu j, rfl, j, T.a_Table, _, rfl, gj _, T.c_Table.cl, T.nb_sums, (by show 4 < 1000; decide), ?_⟩
  rw [List.set_set]
  refine ⟨.mu j, rfl, _, .inr ⟨j, rfl, gj _⟩, rfl, .mu j, .non, p, n, SP, rows, tsp rows, _, rfl, .inr ⟨j, rfl, gj _⟩, ⟨rfl, rfl, rfl, rfl⟩, okM_ins hM (ap_tb5 _ _ n _ _), U, hw, cs_all rows, .inl ⟨rfl, rfl⟩, ?_⟩
  rw [prt_all]
  refine ⟨_, rfl, p, n, _, rfl, ?_⟩
  refine ⟨.mu j, rfl, j, T.a_Table, _, rfl, gj _, T.c_Table.cl, T.nb_whole, (by show 5 < 1000; decide), ?_⟩
  rw [List.set_set]
  exact q
theorem tbl_dTab {S : Addr} {p : Int} {n : Nat} {rows : List (List (List Int))} : tblF S p n rows (tbF S p n rows) := ⟨rfl, rfl, rfl, rfl⟩
end
section
variable {P : Program} {w : World} {K : PySem.W.Frag} {mg : Str → Option Value} {base : Heap}
def W_tprime (S TC : Addr) : DC := fun ds M Q => ∃ (p : Int) (n : Nat) (rows : List (List (List Int))), ds = [dTab S TC p n rows] ∧ Q (.int p) M
theorem ok_Table_prime (T : Tx P w K mg) : FnOk P w K mg base CX0 1 T.a_Table_prime T.f_Table_prime ["self"] (spD 1 (W_tprime T.a_Sum T.a_Table) K) := by
  refine pd_fn T.F_Table_prime sc_Table_prime (fun cdv A outer s H E hr => ⟨_, (pdss_one (pds_ret (pd_fldK (K := K) rfl (pd_name 0)))), fun ds M Q hl h => ?_⟩)
  obtain ⟨p, n, rows, rfl, q⟩ := h
  exact ⟨_, rfl, _, _, _, rfl, T.c_Table.cl, T.nb_prime, rfl, q⟩
def W_tsize (S TC : Addr) : DC := fun ds M Q => ∃ (p : Int) (n : Nat) (rows : List (List (List Int))), ds = [dTab S TC p n rows] ∧ Q (.int n) M
theorem ok_Table_size (T : Tx P w K mg) : FnOk P w K mg base CX0 1 T.a_Table_size T.f_Table_size ["self"] (spD 1 (W_tsize T.a_Sum T.a_Table) K) := by
  refine pd_fn T.F_Table_size sc_Table_size (fun cdv A outer s H E hr => ⟨_, (pdss_one (pds_ret (pd_fldK (K := K) rfl (pd_name 0)))), fun ds M Q hl h => ?_⟩)
  obtain ⟨p, n, rows, rfl, q⟩ := h
  exact ⟨_, rfl, _, _, _, rfl, T.c_Table.cl, T.nb_size, rfl, q⟩
def W_tlen (S TC : Addr) : DC := fun ds M Q => ∃ (p : Int) (n : Nat) (rows : List (List (List Int))), ds = [dTab S TC p n rows] ∧ Q (.int (rows.length : Nat)) M
theorem ok_Table_len (T : Tx P w K mg) : FnOk P w K mg base CX0 1 T.a_Table_len T.f_Table_len ["self"] (spD 1 (W_tlen T.a_Sum T.a_Table) K) := by
  refine pd_fn T.F_Table_len sc_Table_len (fun cdv A outer s H E hr => ⟨_, (pdss_one (pds_ret (pd_callB call_len_seq sc_len (by rfl) T.n_len (by decide +kernel) (pda_cons (pd_fldK (K := K) rfl (pd_name 0)) pda_nil)))), fun ds M Q hl h => ?_⟩)
  obtain ⟨p, n, rows, rfl, q⟩ := h
  refine ⟨_, rfl, _, _, _, rfl, T.c_Table.cl, T.nb_pieces, rfl, _, .inr rfl, ?_⟩
  rw [List.length_map]
  exact q
end
end K36
set_option Elab.async false
set_option linter.all false
set_option maxRecDepth 100000
set_option maxHeartbeats 4000000
namespace K36
open PySem PySem.Spec PyProof.Rows L2 Pd Spc
theorem _root_.Pd.Cu.tr {k : Nat} {M M1 M2 : Ms} (c : Cu k M M1) (d : Cu k M1 M2) : Cu k M M2 := by
  obtain ⟨n, s, a, b, rfl⟩ := d
  exact c.set a b
/-- the rows of p numbers below n, ascending -/
def tups (p : Nat) : Nat → List (List Int)
  | 0 => [[]]
  | n + 1 => (tups p n).flatMap fun xs => (List.range p).map fun (v : Nat) => xs ++ [(v : Int)]
theorem tups_len (p : Nat) : ∀ n, (tups p n).length = p ^ n
  | 0 => rfl
  | n + 1 => by
    have e : (fun xs : List Int => ((List.range p).map fun (v : Nat) => xs ++ [(v : Int)]).length) = fun _ => p := by
      funext xs; rw [List.length_map, List.length_range]
    show ((tups p n).flatMap _).length = _
    rw [List.length_flatMap, e, List.map_const', List.sum_replicate_nat, tups_len p n, Nat.pow_succ]
theorem tups_row (p : Nat) : ∀ n, ∀ xs ∈ tups p n, xs.length = n ∧ In (p : Int) xs
  | 0, xs, h => by
    have e : xs = [] := by simpa [tups] using h
    subst e
    exact ⟨rfl, fun _ h => nomatch h⟩
  | n + 1, xs, h => by
    obtain ⟨ys, hy, h2⟩ := List.mem_flatMap.mp h
    obtain ⟨v, hv, rfl⟩ := List.mem_map.mp h2
    obtain ⟨h3, h4⟩ := tups_row p n ys hy
    refine ⟨by rw [List.length_append, h3]; rfl, fun x hx => ?_⟩
    rcases List.mem_append.mp hx with hx | hx
    · exact h4 x hx
    · rw [List.mem_singleton.mp hx]
      have := List.mem_range.mp hv
      omega
theorem u21 : Univ 2 1 SP21 := univ_of (by decide) (by decide) (by decide) (by decide) ⟨6, rfl, by decide⟩ shp21 good21
theorem u22 : Univ 2 2 SP22 := univ_of (by decide) (by decide) (by decide) (by decide) ⟨6, rfl, by decide⟩ shp22 good22
theorem u32 : Univ 3 2 SP32 := univ_of (by decide) (by decide) (by decide) (by decide) ⟨6, rfl, by decide⟩ shp32 good32
end K36
set_option Elab.async false
set_option linter.all false
set_option maxRecDepth 100000
set_option maxHeartbeats 4000000
namespace K36
open PySem PySem.Spec PyProof.Rows L2 Pd Spc
theorem lc_indT {g : DG} {tt : DT} {te : DE} {ρ : Rho} {P : D → Ms → Prop} (I : Nat → List D → Ms → Prop) (ds0 : List D) (hN : ds0.length ≤ sizeLine) (hlen : ∀ k acc M, I k acc M → acc.length ≤ k)
    (step : ∀ (k : Nat) (d : D) (acc : List D) (M : Ms) (R : D → Ms → Prop) (S : Ms → Prop), ds0[k]? = some d → I k acc M → (∀ y M2, I (k + 1) (acc ++ [y]) M2 → R y M2) → (∀ M2, I (k + 1) acc M2 → S M2) → g d ρ fun ρ' => tt ρ' M fun b M1 => if b = true then te ρ' M1 R else S M1)
    (fin : ∀ acc M, I ds0.length acc M → P (.lst acc) M) {M : Ms} (h : I 0 [] M) : lcRun g tt te ρ P ds0 [] M := by
  have key : ∀ (r : List D) (k : Nat) (acc : List D) (M : Ms), ds0.drop k = r → k + r.length = ds0.length → I k acc M → lcRun g tt te ρ P r acc M := by
    intro r
    induction r with
    | nil =>
      intro k acc M _ hl h
      have : k = ds0.length := by simpa using hl
      subst this
      exact fin acc M h
    | cons d r ih =>
      intro k acc M hd hl h
      rw [List.length_cons] at hl
      have hk : k < ds0.length := by omega
      rw [List.drop_eq_getElem_cons hk] at hd
      injection hd with h1 h2
      have hl2 := hlen k acc M h
      exact step k d acc M (fun y M2 => acc.length < sizeLine ∧ lcRun g tt te ρ P r (acc ++ [y]) M2) (fun M2 => lcRun g tt te ρ P r acc M2) (by rw [List.getElem?_eq_getElem hk, h1]) h (fun y M2 hI => ⟨by omega, ih (k + 1) _ M2 h2 (by omega) hI⟩) fun M2 hI => ih (k + 1) _ M2 h2 (by omega) hI
  exact key ds0 0 [] M rfl (by omega) h
/-- pieces of one or two parts -/
def Pcs (p : Int) (n : Nat) (rows : List (List (List Int))) : Prop := ∀ ps ∈ rows, 1 ≤ ps.length ∧ ps.length ≤ 2 ∧ ∀ fs ∈ ps, fs ∈ allD p n
theorem sum_le2 : ∀ rows : List (List (List Int)), (∀ ps ∈ rows, ps.length ≤ 2) → (rows.map List.length).sum ≤ 2 * rows.length
  | [], _ => Nat.zero_le _
  | ps :: r, h => by
    have ih := sum_le2 r fun x hx => h x (List.mem_cons_of_mem _ hx)
    have := h ps List.mem_cons_self
    rw [List.map_cons, List.sum_cons, List.length_cons]
    omega
theorem Pcs.ok {p : Int} {n : Nat} {rows : List (List (List Int))} (h : Pcs p n rows) (h1 : 1 ≤ rows.length) (h5 : rows.length ≤ 5) : RwOk p n rows :=
  ⟨h1, by omega, fun ps hp => ⟨(h ps hp).1, by have := (h ps hp).2.1; omega, (h ps hp).2.2⟩, by have := sum_le2 rows fun ps hp => (h ps hp).2.1; omega⟩
end K36
set_option Elab.async false
set_option linter.all false
set_option maxRecDepth 100000
set_option maxHeartbeats 4000000
namespace K36
open PySem PySem.Spec PyProof.Rows L2 Pd Spc
theorem spots_have : ∀ (rows : List D) (i k j : Nat) (d : D), rows[k]? = some d → j < rowLen d → [((i + k : Nat) : Int), (j : Int)] ∈ spotsFrom i rows
  | [], _, _, _, _, h, _ => by simp at h
  | d0 :: r, i, 0, j, d, h, hj => by
    cases h
    exact List.mem_append_left _ (List.mem_map.mpr ⟨j, List.mem_range.mpr hj, rfl⟩)
  | d0 :: r, i, k + 1, j, d, h, hj => by
    have := spots_have r (i + 1) k j d (by simpa using h) hj
    rw [show i + 1 + k = i + (k + 1) by omega] at this
    exact List.mem_append_right _ this
end K36
set_option Elab.async false
set_option linter.all false
set_option maxRecDepth 100000
set_option maxHeartbeats 4000000
namespace K36
open PySem PySem.Spec PyProof.Rows L2 Pd Spc
def shw (p : Int) (x : List Int) (rows : List (List (List Int))) : List Pc := rows.map fun ps => some (ps.map fun r => dot r x p)
end K36
set_option Elab.async false
set_option linter.all false
set_option maxRecDepth 100000
set_option maxHeartbeats 4000000
namespace K36
open PySem PySem.Spec PyProof.Rows L2 Pd Spc
def due (p : Int) (x : Rw) (ps : List (List Int)) : List Int := ps.map fun r => dot r x p
def dif1 (p : Int) (x : Rw) (i : Nat) (pc : Pc) (ps : List (List Int)) : List Int := match pc with | none => [] | some vs => if due p x ps = vs then [] else [(i : Int)]
def wrG (p : Int) (x : Rw) : Nat → List Pc → List (List (List Int)) → List Int
  | i, pc :: st, ps :: rows => dif1 p x i pc ps ++ wrG p x (i + 1) st rows
  | _, _, _ => []
structure Fit (p : Int) (rows : List (List (List Int))) (st : List Pc) : Prop where
  len : st.length = rows.length
  at_ : ∀ (i : Nat) (vs : List Int) (ps : List (List Int)), st[i]? = some (some vs) → rows[i]? = some ps → vs.length = ps.length ∧ In p vs
theorem Fit.ok {p : Int} {n : Nat} {SP : List (List Rw)} {rows : List (List (List Int))} {st : List Pc} (h : Fit p rows st) (U : Univ p n SP) (hw : RwOk p n rows) : PcOk st := by
  have h1 := hw.l1
  have h6 := hw.l6
  have hl := h.len
  have hp7 := U.p7
  refine ⟨by omega, by omega, fun xs hx => ?_⟩
  obtain ⟨i, hi⟩ := List.mem_iff_getElem?.mp hx
  have hil : i < rows.length := by have := (List.getElem?_eq_some_iff.mp hi).1; omega
  obtain ⟨e1, e2⟩ := h.at_ i xs _ hi (List.getElem?_eq_getElem hil)
  obtain ⟨p1, p3, _⟩ := hw.ps _ (List.getElem_mem hil)
  exact ⟨by omega, by omega, fun v hv => by have := e2 v hv; omega⟩
theorem Fit.set {p : Int} {rows : List (List (List Int))} {st : List Pc} (h : Fit p rows st) {k : Nat} {vs : List Int} {ps : List (List Int)} (hk : rows[k]? = some ps) (hl : vs.length = ps.length) (hv : In p vs) : Fit p rows (st.set k (some vs)) := by
  refine ⟨by rw [List.length_set]; exact h.len, fun i us qs h1 h2 => ?_⟩
  rw [List.getElem?_set] at h1
  split at h1
  · rename_i e
    subst e
    split at h1
    · cases h1
      rw [hk] at h2
      cases h2
      exact ⟨hl, hv⟩
    · cases h1
  · exact h.at_ i us qs h1 h2
theorem Fit.none {p : Int} {rows : List (List (List Int))} {st : List Pc} (h : Fit p rows st) {k : Nat} : Fit p rows (st.set k none) := by
  refine ⟨by rw [List.length_set]; exact h.len, fun i us qs h1 h2 => ?_⟩
  rw [List.getElem?_set] at h1
  split at h1
  · split at h1
    · cases h1
    · cases h1
  · exact h.at_ i us qs h1 h2
def pr (p : Int) (st : List Pc) (rows : List (List (List Int))) (x : Rw) : D := .tup [tI (wrG p x 0 st rows), tI x]
def cnt (p : Int) (st : List Pc) (rows : List (List (List Int))) (x : Rw) : Int := ((wrG p x 0 st rows).length : Nat)
def xsS (p : Int) (n : Nat) (st : List Pc) (rows : List (List (List Int))) (m : Int) : List Rw := ((allD p n).filter fun x => decide (cnt p st rows x = m)).mergeSort (PySem.W.dataLe false fun x => toP (pr p st rows x))
theorem sort_eq (p : Int) (n : Nat) (st : List Pc) (rows : List (List (List Int))) (m : Int) : sortD (((allD p n).filter fun x => decide (cnt p st rows x = m)).map (pr p st rows)) = (xsS p n st rows m).map (pr p st rows) := by
  unfold sortD xsS
  exact (List.map_mergeSort (f := pr p st rows) fun _ _ _ _ => rfl).symm
theorem toPA_ints (xs : List Int) : toPA (dI xs) = xs.map PyData.int := by
  induction xs with
  | nil => rfl
  | cons x xs ih => show PyData.int x :: toPA (dI xs) = _; rw [ih]; rfl
/-- wishes are sums that a table of this form may have -/
structure Ws (p : Int) (n : Nat) (ws : List (List Int)) : Prop where
  l1 : 1 ≤ ws.length
  l3 : ws.length ≤ 10
  inn : ∀ w ∈ ws, w ∈ allD p n
end K36
set_option Elab.async false
set_option linter.all false
set_option maxRecDepth 100000
set_option maxHeartbeats 4000000
namespace K36
open PySem PySem.Spec PyProof.Rows L2 Pd Spc
theorem pairs_of {α : Type} (f g : α → D) : ∀ A : List α, pairs (A.map f) (A.map g) = A.map fun x => D.tup [f x, g x]
  | [] => rfl
  | a :: A => by show D.tup [f a, g a] :: pairs (A.map f) (A.map g) = _; rw [pairs_of f g A]; rfl
end K36
set_option Elab.async false
set_option linter.all false
set_option maxRecDepth 100000
set_option maxHeartbeats 4000000
namespace K36
open PySem PySem.Spec PyProof.Rows L2 Pd Spc
theorem rng_at {lo : Int} {n k : Nat} {d : D} (h : (rng lo n)[k]? = some d) : k < n ∧ d = .int (lo + (k : Nat)) := by
  unfold rng at h
  rw [List.getElem?_map] at h
  cases hk : (List.range n)[k]? with
  | none => rw [hk] at h; cases h
  | some j =>
    rw [hk] at h
    obtain ⟨h1, h2⟩ := List.getElem?_eq_some_iff.mp hk
    rw [List.length_range] at h1
    rw [List.getElem_range] at h2
    subst h2
    cases h
    exact ⟨h1, rfl⟩
theorem grpsUnd_len : ∀ n, (grpsUnd n).length = 2 ^ n
  | 0 => rfl
  | n + 1 => by
    show (grpsUnd n ++ (grpsUnd n).map _).length = _
    rw [List.length_append, List.length_map, grpsUnd_len n, Nat.pow_succ]; omega
/-- all groups, fewer first, then ascending -/
def grps (m : Nat) : List (List Int) := (grpsUnd m).mergeSort grpLe
theorem grps_in {m : Nat} {g : List Int} : g ∈ grps m ↔ AscBelow m g := by unfold grps; rw [List.mem_mergeSort]; exact grps_mem
theorem grps_len (m : Nat) : (grps m).length = 2 ^ m := by unfold grps; rw [List.length_mergeSort]; exact grpsUnd_len m
theorem nodup_len {α : Type} [DecidableEq α] : ∀ (a b : List α), a.Nodup → (∀ x ∈ a, x ∈ b) → a.length ≤ b.length
  | [], _, _, _ => Nat.zero_le _
  | x :: a, b, hn, h => by
    obtain ⟨h1, h2⟩ := List.nodup_cons.mp hn
    have hx := h x List.mem_cons_self
    have ih := nodup_len a (b.erase x) h2 fun y hy => (List.mem_erase_of_ne (fun e => by subst e; exact h1 hy)).mpr (h y (List.mem_cons_of_mem _ hy))
    rw [List.length_erase_of_mem hx] at ih
    have := List.length_pos_of_mem hx
    rw [List.length_cons]; omega
theorem asc_len {m : Nat} {g : List Int} (h : AscBelow m g) : g.length ≤ m := by
  have h1 : g.Nodup := h.1.imp fun h => by omega
  have h2 : g ⊆ (List.range m).map fun (i : Nat) => (i : Int) := fun x hx => by
    obtain ⟨a, b⟩ := h.2 x hx
    exact List.mem_map.mpr ⟨x.toNat, List.mem_range.mpr (by omega), by omega⟩
  have := nodup_len _ _ h1 h2
  rwa [List.length_map, List.length_range] at this
section
variable {P : Program} {w : World} {K : PySem.W.Frag} {mg : Str → Option Value} {base : Heap}
def W_agroups : DC := fun ds M Q => ∃ m : Nat, ds = [.int m] ∧ m ≤ 6 ∧ Q (.lst ((grps m).map tI)) M
theorem ok_all_groups (T : Tx P w K mg) : FnOk P w K mg base CX0 1 T.a_all_groups T.f_all_groups ["many"] (spD 1 W_agroups K) := by
  refine pd_fn T.F_all_groups sc_all_groups (fun cdv A outer s H E hr => ⟨_, (pdss_cons (pds_set 1 sc_all_groups.nd (pd_lst (pda_cons (pd_tup pda_nil) pda_nil)))
      (pdss_cons (pds_for PassesOwn.never rfl (pdi_range1 (by rfl) T.n_range (pda_cons (pd_name 0) pda_nil)) (pdg_name 2 sc_all_groups.nd) (pdss_one (pds_set 1 sc_all_groups.nd (pd_lst (pda_star (pd_name 1) (pda_star (pd_lc [("group", 3)] rfl sc_all_groups.nd (pdi_list (pd_name 1)) (blkOk_by (N := ["many", "groups", "index", "group"]) (sc := defScope s_all_groups) (by decide +kernel)) (fun _ _ _ _ _ => (pdg_name 3 sc_all_groups.nd)) (fun _ _ _ _ _ => pdts_nil) (fun _ _ _ _ _ => (pd_tup (pda_star (pd_name 3) (pda_cons (pd_name 2) pda_nil))))) pda_nil))))))
      (pdss_one (pds_ret (pd_sortedLen hr.units (by rfl) T.n_sorted (by decide +kernel) (by rfl) T.n_len (by decide +kernel) (pda_cons (pd_sortedE rfl hr.units (by rfl) T.n_sorted (by decide +kernel) (pda_cons (pd_name 1) pda_nil)) pda_nil)))))), fun ds M Q hl h => ?_⟩)
  obtain ⟨m, rfl, hm, q⟩ := h
  have hsl : sizeLine = 16777216 := by decide
  refine ⟨by decide, by decide, .int m, rfl, m, rfl, by omega, by omega, ?_⟩
  refine for_ind (fun k ρ M' => M' = M ∧ ∃ x2 x3, ρ = [some (.int m), some (.lst ((grpsUnd k).map tI)), x2, x3]) _ ?_ ?_ ⟨rfl, none, none, rfl⟩
  · rintro k d ρ M' N hd ⟨rfl, x2, x3, rfl⟩ hN
    obtain ⟨hk, rfl⟩ := rng_at hd
    rw [Int.toNat_natCast] at hk
    have hl2 := grpsUnd_len k
    have hp2 : 2 ^ k ≤ 64 := Nat.le_trans (Nat.pow_le_pow_right (by decide) (by omega : k ≤ 6)) (by decide)
    refine ⟨_, rfl, _, .inl rfl, ?_⟩
    refine ⟨_, rfl, _, rfl, lc_map (fun d => match d with | .tup ds => .tup (ds ++ [.int (k : Int)]) | d => d) _ _ (fun e he R hR => ?_) (by rw [List.length_nil, List.length_map]; omega) ?_⟩
    · obtain ⟨g, hg, rfl⟩ := List.mem_map.mp he
      have hR' : R (.tup (dI g ++ [.int (k : Int)])) M' := hR
      have hgl := asc_len (grps_mem.mp hg)
      rw [show (k : Int) = 0 + (k : Nat) by omega] at hR'
      exact ⟨_, rfl, _, .inr rfl, _, rfl, by rw [List.length_append, List.length_map, List.length_singleton]; omega, hR'⟩
    · have e : ((grpsUnd k).map tI).map (fun d => match d with | .tup ds => D.tup (ds ++ [.int (k : Int)]) | d => d) = ((grpsUnd k).map (· ++ [(k : Int)])).map tI := by
        rw [List.map_map, List.map_map]
        exact List.map_congr_left fun g _ => by show D.tup (dI g ++ [.int (k : Int)]) = D.tup (List.map D.int (g ++ [(k : Int)])); rw [List.map_append]; rfl
      rw [List.nil_append, e]
      refine ⟨_, .inl rfl, ?_⟩
      have e2 : (grpsUnd k).map tI ++ (((grpsUnd k).map (· ++ [(k : Int)])).map tI ++ []) = (grpsUnd (k + 1)).map tI := by
        rw [List.append_nil, ← List.map_append]; rfl
      refine ⟨(by show ((grpsUnd k).map tI ++ (((grpsUnd k).map (· ++ [(k : Int)])).map tI ++ [])).length ≤ sizeLine; rw [e2, List.length_map, grpsUnd_len, Nat.pow_succ]; omega), ?_⟩
      rw [e2]
      exact hN _ _ ⟨rfl, _, _, rfl⟩
  · rintro ρ M' ⟨rfl, x2, x3, rfl⟩
    rw [rng_len, Int.toNat_natCast]
    refine ⟨_, rfl, grpsUnd m, rfl, grps_first m, _, rfl, ?_⟩
    rw [sort_groups]
    exact q
end
end K36
namespace Spc
def pw (p : Int) : Nat → Int
  | 0 => 1
  | n + 1 => pw p n * p
def asc : List Nat → Bool
  | [] => true
  | [_] => true
  | a :: b :: l => decide (a < b) && asc (b :: l)
end Spc
namespace Spc
def sm (x d : Rw) : Int := (List.zipWith (fun a b => a * b) x d).sum
end Spc
set_option Elab.async false
set_option linter.all false
set_option maxRecDepth 100000
set_option maxHeartbeats 4000000
namespace K36
open PySem PySem.Spec PyProof.Rows L2 Pd Spc
theorem wo_at (gn : List Int) : ∀ (pcs : List Pc) (i k : Nat), (woF gn i pcs)[k]? = (pcs[k]?).map fun pc => if gn.contains ((i + k : Nat) : Int) = true then none else pc
  | [], _, _ => rfl
  | pc :: r, i, 0 => rfl
  | pc :: r, i, k + 1 => by
    show (woF gn (i + 1) r)[k]? = (r[k]?).map _
    rw [wo_at gn r (i + 1) k, show i + 1 + k = i + (k + 1) by omega]
theorem wr_has {p : Int} {x : Rw} : ∀ {st : List Pc} {rows : List (List (List Int))} {i k : Nat} {vs : List Int} {ps : List (List Int)}, st[k]? = some (some vs) → rows[k]? = some ps → due p x ps ≠ vs → ((i + k : Nat) : Int) ∈ wrG p x i st rows
  | [], _, _, _, _, _, h, _, _ => by simp at h
  | _ :: _, [], _, _, _, _, _, h, _ => by simp at h
  | a :: st, b :: rows, i, 0, vs, ps, h1, h2, h3 => by
    have e1 : a = some vs := by simpa using h1
    have e2 : b = ps := by simpa using h2
    subst e1; subst e2
    show _ ∈ dif1 p x i (some vs) b ++ _
    refine List.mem_append.mpr (.inl ?_)
    unfold dif1
    simp only
    rw [if_neg h3]
    exact List.mem_singleton.mpr rfl
  | a :: st, b :: rows, i, k + 1, vs, ps, h1, h2, h3 => by
    have := wr_has (p := p) (x := x) (st := st) (rows := rows) (i := i + 1) (k := k) (vs := vs) (ps := ps) (by simpa using h1) (by simpa using h2) h3
    rw [show i + 1 + k = i + (k + 1) by omega] at this
    show _ ∈ dif1 p x i a b ++ _
    exact List.mem_append.mpr (.inr this)
/-- the values of no data, but for what is gone -/
def st0 (p : Int) (n : Nat) (gn : List Int) (rows : List (List (List Int))) : List Pc := woF gn 0 (shw p (zero n) rows)
theorem st0_at {p : Int} {n : Nat} {gn : List Int} {rows : List (List (List Int))} {k : Nat} {vs : List Int} {ps : List (List Int)} (h : (st0 p n gn rows)[k]? = some (some vs)) (hr : rows[k]? = some ps) : (k : Int) ∉ gn ∧ vs = due p (zero n) ps := by
  unfold st0 shw at h
  rw [wo_at, List.getElem?_map, hr] at h
  have h2 : (if gn.contains ((0 + k : Nat) : Int) = true then none else some (ps.map fun r => dot r (zero n) p)) = some vs := by simpa using h
  split at h2
  · cases h2
  · rename_i c
    rw [Nat.zero_add, List.contains_iff_mem] at c
    cases h2
    exact ⟨c, rfl⟩
theorem sm_zero : ∀ (r : Rw) (n : Nat), (List.zipWith (fun a b => a * b) r (List.replicate n (0 : Int))).sum = 0
  | [], n => by simp
  | a :: r, 0 => by simp
  | a :: r, n + 1 => by
    rw [List.replicate_succ, List.zipWith_cons_cons, List.sum_cons, sm_zero r n]; simp
theorem dot_z (r : Rw) (n : Nat) (p : Int) : dot r (zero n) p = 0 := by
  unfold dot zero
  rw [sm_zero]; exact Int.zero_emod _
theorem head_all {p : Int} (hp : 0 < p) : ∀ n : Nat, ∃ t, allD p n = zero n :: t
  | 0 => ⟨[], rfl⟩
  | n + 1 => by
    obtain ⟨t, ih⟩ := head_all hp n
    have hr : rngL p = 0 :: (rngL p).drop 1 := by
      unfold rngL
      obtain ⟨m, hm⟩ : ∃ m, p.toNat = m + 1 := ⟨p.toNat - 1, by omega⟩
      rw [hm, List.range_succ_eq_map]; rfl
    refine ⟨((rngL p).drop 1).map (fun v => zero n ++ [v]) ++ t.flatMap (fun d => (rngL p).map fun v => d ++ [v]), ?_⟩
    show (allD p n).flatMap (fun d => (rngL p).map fun v => d ++ [v]) = _
    have e : zero n ++ [0] = zero (n + 1) := by unfold zero; rw [List.replicate_succ']
    rw [ih, List.flatMap_cons]
    conv => lhs; rw [hr]
    rw [List.map_cons, List.cons_append, e, ← hr]
def rest1 (p : Int) (n : Nat) : List Rw := (allD p n).drop 1
theorem rest_mem {p : Int} {n : Nat} {z : Rw} (hp : 0 < p) (hz : z ∈ allD p n) (h : z ≠ zero n) : z ∈ rest1 p n := by
  obtain ⟨t, e⟩ := head_all hp n
  unfold rest1
  rw [e] at hz ⊢
  rcases List.mem_cons.mp hz with hz | hz
  · exact absurd hz h
  · exact hz
end K36
set_option Elab.async false
set_option linter.all false
set_option maxRecDepth 100000
set_option maxHeartbeats 4000000
set_option Elab.async false
set_option linter.all false
set_option maxRecDepth 100000
set_option maxHeartbeats 4000000
namespace K36
open PySem PySem.Spec PyProof.Rows L2 Pd Spc
/-- wishes as sums that were made of lists -/
def prU (S : Addr) (p : Int) (ws : List (List Int)) : D := .lst (ws.map fun w => dSum S p (.tfz w))
def unitR (n : Nat) (i : Int) : List Int := (List.range n).map fun (k : Nat) => if (0 + (k : Int)) = i then 1 else 0
theorem unit_in {p : Int} (hp : 2 ≤ p) (n : Nat) (i : Int) : unitR n i ∈ allD p n := by
  refine mem_allD (by omega) (by unfold unitR; rw [List.length_map, List.length_range]) fun x hx => ?_
  obtain ⟨k, _, rfl⟩ := List.mem_map.mp hx
  split
  · exact ⟨by decide, by omega⟩
  · exact ⟨by decide, by omega⟩
section
variable {P : Program} {w : World} {K : PySem.W.Frag} {mg : Str → Option Value} {base : Heap}
def W_unit (C : Addr) : DC := fun ds M Q => ∃ (p : Int) (n : Nat) (SP : List (List Rw)) (i : Int), ds = [.int p, .int n, .int i] ∧ Univ p n SP ∧ 0 ≤ i ∧ i < (n : Int) ∧ okM M ∧ Q (dSum C p (.tfz (unitR n i))) M
theorem ok_Sum_unit (T : Tx P w K mg) : FnOk P w K mg base CX0 6 T.a_Sum_unit T.f_Sum_unit ["prime", "size", "index"] (spD 3 (W_unit T.a_Sum) K) := by
  refine pd_fn T.F_Sum_unit sc_Sum_unit (fun cdv A outer s H E hr => ⟨_, (pdss_cons (pds_expr (pd_call (ok_expect_prime_and_size T) (hr.mono (by decide)) (by rfl) T.g_expect_prime_and_size T.F_expect_prime_and_size.kp T.b_expect_prime_and_size (pda_cons (pd_name 0) (pda_cons (pd_name 1) pda_nil))))
      (pdss_cons (pds_if (pdt_not (pdt_val (pd_call (ok_is_between T) (hr.mono (by decide)) (by rfl) T.g_is_between T.F_is_between.kp T.b_is_between (pda_cons (pd_name 2) (pda_cons pd_int (pda_cons (pd_op op_sub sr_I0i (pd_name 1) pd_int) pda_nil)))))) (pdss_one pds_never) pdss_nil)
      (pdss_one (pds_ret (pd_make T.m_Sum (ok_Sum_init T) (hr.mono (by decide)) (by rfl) T.g_Sum T.b_Sum_init (pda_cons (pd_name 0) (pda_cons (pd_lc [("place", 3)] rfl sc_Sum_unit.nd (pdi_range1 (by rfl) T.n_range (pda_cons (pd_name 1) pda_nil)) (blkOk_by (N := ["prime", "size", "index", "place"]) (sc := defScope s_Sum_unit) (by decide +kernel)) (fun _ _ _ _ _ => (pdg_name 3 sc_Sum_unit.nd)) (fun _ _ _ _ _ => pdts_nil) (fun _ _ _ _ _ => (pd_ifExp (pdt_cmp (op_eqD hr.units) sr_eq (pd_name 3) (pd_name 2) (nomark _)) pd_int pd_int))) pda_nil))))))), fun ds M Q hl h => ?_⟩)
  obtain ⟨p, n, SP, i, rfl, U, h3, h4, hM, q⟩ := h
  have hsl : sizeLine = 16777216 := by decide
  have hp2 := U.p2
  have hn4 := U.n4
  have hn1 := U.n1
  obtain ⟨g, hg, hgn⟩ := U.g
  refine ⟨.int p, rfl, .int n, rfl, rfl, p, g, n, rfl, hg, by omega, hgn, ?_⟩
  refine ⟨.int i, rfl, .int n, rfl, n, 1, rfl, rfl, rfl, .int i, "int", 0, (n : Int) - 1, rfl, rfl, fun j e => ?_, fun e => by cases e⟩
  cases e
  refine ⟨true, by rw [decide_eq_true h3, decide_eq_true (show i ≤ (n : Int) - 1 by omega)]; rfl, ?_⟩
  refine ⟨.int p, rfl, .int n, rfl, n, rfl, by omega, by omega, ?_⟩
  refine lc_map (fun d => match d with | .int x => .int (if x = i then 1 else 0) | d => d) _ _ (fun d hd R hR => ?_) ?_ ?_
  · obtain ⟨k, _, rfl⟩ := List.mem_map.mp hd
    refine ⟨.int _, rfl, .int i, rfl, rfl, rfl, decide (0 + (k : Int) = i), by rw [eqD_int], ?_⟩
    have hR' : R (.int (if 0 + (k : Int) = i then 1 else 0)) M := hR
    by_cases e : 0 + (k : Int) = i
    · rw [if_pos e] at hR'
      rw [decide_eq_true e]
      exact hR'
    · rw [if_neg e] at hR'
      rw [decide_eq_false e]
      exact hR'
  · rw [rng_len, Int.toNat_natCast, List.length_nil]
    omega
  · refine make_sum (sum_ok U (unit_in hp2 n i)) (.inl ⟨?_, rfl⟩) hM q
    rw [List.nil_append]
    unfold rng unitR
    rw [Int.toNat_natCast, List.map_map]
    show D.lst _ = D.lst (List.map D.int (List.map _ _))
    rw [List.map_map]
    rfl
def W_arew (S TC : Addr) : DC := fun ds M Q => ∃ (p : Int) (n : Nat) (rows : List (List (List Int))) (ws : List (List Int)), ds = [dTab S TC p n rows, prU S p ws] ∧ Ws p n ws ∧ Q (.bl true) M
theorem ok_are_wishes (T : Tx P w K mg) : FnOk P w K mg base CX0 4 T.a_are_wishes T.f_are_wishes ["table", "value"] (spD 2 (W_arew T.a_Sum T.a_Table) K) := by
  refine pd_fn T.F_are_wishes sc_are_wishes (fun cdv A outer s H E hr => ⟨_, (pdss_one (pds_ret (pd_and (pd_call (ok_has_items T) (hr.mono (by decide)) (by rfl) T.g_has_items T.F_has_items.kp T.b_has_items (pda_cons (pd_name 1) (pda_cons pd_int (pda_cons (pd_glob (v := .int 10) (d := .int 10) (by rfl) T.g_MOST_WISHES ⟨_, rfl⟩ (fun _ _ => .int _)) pda_nil)))) (pd_one (pd_callB (cr_all rfl) sc_all (by rfl) T.n_all (by decide +kernel) (pda_cons (pd_lc [("item", 2)] rfl sc_are_wishes.nd (pdi_seq (pd_name 1)) (blkOk_by (N := ["table", "value", "item"]) (sc := defScope s_are_wishes) (by decide +kernel)) (fun _ _ _ _ _ => (pdg_name 2 sc_are_wishes.nd)) (fun _ _ _ _ _ => pdts_nil) (fun _ _ _ _ _ => (pd_call (ok_is_sum T) (hr.mono (by decide)) (by rfl) T.g_is_sum T.F_is_sum.kp T.b_is_sum (pda_cons (pd_prop (pd_name 0) T.c_Table.cl T.pp_Table_prime (ok_Table_prime T) (hr.mono (by decide)) T.b_Table_prime) (pda_cons (pd_prop (pd_name 0) T.c_Table.cl T.pp_Table_size (ok_Table_size T) (hr.mono (by decide)) T.b_Table_size) (pda_cons (pd_name 2) pda_nil)))))) pda_nil)))))), fun ds M Q hl h => ?_⟩)
  obtain ⟨p, n, rows, ws, rfl, hws, q⟩ := h
  have hsl : sizeLine = 16777216 := by decide
  have h1 := hws.l1
  have h3 := hws.l3
  refine ⟨_, rfl, rfl, _, _, 1, 10, rfl, .inl rfl, true, by rw [List.length_map, decide_eq_true (by omega), decide_eq_true (by omega)]; rfl, ?_⟩
  refine ⟨_, rfl, _, .inl rfl, lc_map (fun _ => .bl true) _ _ (fun d hd R hR => ?_) (by rw [List.length_nil, List.length_map]; omega) ?_⟩
  · obtain ⟨w, hw, rfl⟩ := List.mem_map.mp hd
    refine ⟨_, rfl, _, rfl, p, n, rows, rfl, _, rfl, _, rfl, p, n, rows, rfl, _, rfl, rfl, p, n, _, rfl, .inl ⟨p, .tfz w, w, rfl, rfl, ?_⟩⟩
    rw [decide_eq_true rfl, (allD_mem (hws.inn w hw)).1, decide_eq_true rfl]
    exact hR
  · refine ⟨ws.map fun _ => true, by rw [List.nil_append, List.map_map, List.map_map]; rfl, ?_⟩
    rw [show ((ws.map fun _ => true).all id) = true by rw [List.all_map]; exact List.all_eq_true.mpr fun _ _ => rfl]
    exact q
end
end K36
set_option Elab.async false
set_option linter.all false
set_option maxRecDepth 100000
set_option maxHeartbeats 4000000
namespace K36
open PySem PySem.Spec PyProof.Rows L2 Pd Spc
def ip (x : List Int) : Int := x.getD 0 0
def intA : D → Int | .int i => i | _ => 0
def intT : D → List Int | .tup es => es.map intA | _ => []
theorem intT_tI (x : List Int) : intT (tI x) = x := by
  show (dI x).map intA = x
  unfold dI
  rw [List.map_map]
  exact (List.map_congr_left fun i _ => rfl).trans (List.map_id x)
def keepS (f : List Int → Bool) (d : D) : Option D := if f (intT d) = true then some d else none
theorem keepS_eq (f : List Int → Bool) : ∀ L : List (List Int), (L.map tI).filterMap (keepS f) = (L.filter f).map tI
  | [] => rfl
  | k :: L => by
    have ih := keepS_eq f L
    rw [List.map_cons]
    by_cases c : f k = true
    · rw [List.filterMap_cons_some (show keepS f (tI k) = some (tI k) by unfold keepS; rw [intT_tI, if_pos c]), ih, List.filter_cons_of_pos c]; rfl
    · rw [List.filterMap_cons_none (show keepS f (tI k) = none by unfold keepS; rw [intT_tI, if_neg c]), ih, List.filter_cons_of_neg c]
theorem any_int (L : List Int) (i : Int) : ((dI L).any fun z => eqD z (.int i)) = L.contains i := by
  rw [show dI L = L.map D.int from rfl, List.any_map]
  have : ((fun y => eqD y (.int i)) ∘ D.int) = fun x : Int => decide (x = i) := by
    funext x; exact eqD_int _ _
  rw [this, Bool.eq_iff_iff, List.contains_iff_mem]
  simp
theorem zs_fold {p : Int} {n : Nat} {SP : List (List Rw)} (U : Univ p n SP) : ∀ (rows : List Rw) (R : List Rw), R ∈ SP → (∀ y ∈ rows, y ∈ allD p n) → zs p n (rows.foldl (Spc.step p) R) = (zs p n R).filter fun d => rows.all fun r => dot r d p == 0
  | [], R, _, _ => by
    show zs p n R = _
    exact (List.filter_eq_self.mpr fun d _ => rfl).symm
  | y :: rows, R, hR, h => by
    obtain ⟨s1, s2, _, _⟩ := U.step R hR y (h y List.mem_cons_self)
    show zs p n (rows.foldl (Spc.step p) (Spc.step p R y)) = _
    rw [zs_fold U rows _ s1 (fun z hz => h z (List.mem_cons_of_mem _ hz)), s2, List.filter_filter]
    congr 1
    funext d
    rw [List.all_cons, Bool.and_comm]
theorem iff0 {A B : Prop} (h : B) : if false = true then A else B := by rw [if_neg Bool.false_ne_true]; exact h
end K36
set_option Elab.async false
set_option linter.all false
set_option maxRecDepth 100000
set_option maxHeartbeats 4000000
namespace K36
open PySem PySem.Spec PyProof.Rows L2 Pd Spc
section
variable {P : Program} {w : World} {K : PySem.W.Frag} {mg : Str → Option Value} {base : Heap}
/-- the table's other questions -/
def W_twhole (S TC : Addr) : DC := fun ds M Q => ∃ (p : Int) (n : Nat) (rows : List (List (List Int))), ds = [dTab S TC p n rows] ∧ Q (.bl (decide (((red p rows.flatten).length : Int) = n))) M
theorem ok_Table_is_whole (T : Tx P w K mg) : FnOk P w K mg base CX0 1 T.a_Table_is_whole T.f_Table_is_whole ["self"] (spD 1 (W_twhole T.a_Sum T.a_Table) K) := by
  refine pd_fn T.F_Table_is_whole sc_Table_is_whole (fun cdv A outer s H E hr => ⟨_, (pdss_one (pds_ret (pd_fldK (K := K) rfl (pd_name 0)))), fun ds M Q hl h => ?_⟩)
  obtain ⟨p, n, rows, rfl, q⟩ := h
  exact ⟨_, rfl, _, _, _, rfl, T.c_Table.cl, T.nb_whole, rfl, q⟩
def W_tspots (S TC : Addr) : DC := fun ds M Q => ∃ (p : Int) (n : Nat) (rows : List (List (List Int))) (d : D) (gn : List Int), ds = [dTab S TC p n rows, d] ∧ RwOk p n rows ∧ isSeq d (dI gn) ∧ (gn.length : Int) ≤ rows.length ∧ (∀ x ∈ gn, 0 ≤ x ∧ x < (rows.length : Int)) ∧ gn.Pairwise (· < ·) ∧ Q (.tup (((tsp rows).filter fun x => gn.contains (ip x)).map tI)) M
theorem ok_Table_spots_of (T : Tx P w K mg) : FnOk P w K mg base CX0 6 T.a_Table_spots_of T.f_Table_spots_of ["self", "pieces"] (spD 2 (W_tspots T.a_Sum T.a_Table) K) := by
  refine pd_fn T.F_Table_spots_of sc_Table_spots_of (fun cdv A outer s H E hr => ⟨_, (pdss_cons (pds_if (pdt_not (pdt_val (pd_call (ok_are_pieces T) (hr.mono (by decide)) (by rfl) T.g_are_pieces T.F_are_pieces.kp T.b_are_pieces (pda_cons (pd_name 1) (pda_cons (pd_callB call_len_seq sc_len (by rfl) T.n_len (by decide +kernel) (pda_cons (pd_fldK (K := K) rfl (pd_name 0)) pda_nil)) pda_nil))))) (pdss_one pds_never) pdss_nil)
      (pdss_one (pds_ret (pd_callTy call_tuple_of sc_tuple (by rfl) T.n_tuple (by decide +kernel) (pda_cons (pd_lc [("piece", 2), ("part", 3)] rfl sc_Table_spots_of.nd (pdi_tup (pd_fldK (K := K) rfl (pd_name 0))) (blkOk_by (N := ["self", "pieces", "piece", "part"]) (sc := defScope s_Table_spots_of) (by decide +kernel)) (fun _ _ _ _ _ => (pdg_tup (n := 2) rfl (pdgs_cons (pdg_name 2 sc_Table_spots_of.nd) (pdgs_cons (pdg_name 3 sc_Table_spots_of.nd) pdgs_nil)))) (fun _ _ _ _ _ => pdts_one (pdt_cmp (op_inS' hr.units) sr_inS (pd_name 2) (pd_name 1) (by rfl))) (fun _ _ _ _ _ => (pd_tup (pda_cons (pd_name 2) (pda_cons (pd_name 3) pda_nil))))) pda_nil))))), fun ds M Q hl h => ?_⟩)
  obtain ⟨p, n, rows, d, gn, rfl, hw, hd, g1, g2, g3, q⟩ := h
  have hsl : sizeLine = 16777216 := by decide
  have h6 := hw.l6
  have h10 := tsp_len hw
  have hok : okD d = true := by rcases hd with rfl | rfl <;> exact okD_tup gn
  refine ⟨_, rfl, _, rfl, _, _, _, rfl, T.c_Table.cl, T.nb_pieces, rfl, rows.map tP, .inr rfl, rfl, d, gn, rows.length, by rw [List.length_map], hd, g1, by omega, g2, g3, true, rfl, iff0 ?_⟩
  refine ⟨_, rfl, _, _, _, rfl, T.c_Table.cl, T.nb_spots, rfl, (tsp rows).map tI, rfl, lc_fmap (keepS fun x => gn.contains (ip x)) _ _ (fun e he R S hR hS => ?_) (by rw [List.length_nil, List.length_map]; omega) ?_⟩
  · obtain ⟨x, hx, rfl⟩ := List.mem_map.mp he
    have hR' : ∀ y, (if gn.contains (ip (intT (tI x))) = true then some (tI x) else none) = some y → R y M := hR
    have hS' : (if gn.contains (ip (intT (tI x))) = true then some (tI x) else none) = none → S M := hS
    rw [intT_tI] at hR' hS'
    obtain ⟨i, j, rfl⟩ := tsp_two rows x hx
    refine ⟨_, rfl, rfl, _, _, rfl, _, _, rfl, rfl, ?_⟩
    refine ⟨_, rfl, _, rfl, dI gn, hd, rfl, hok, (by show 0 ≤ 60; decide), gn.contains i, by rw [any_int], ?_⟩
    cases hc : gn.contains i with
    | true => exact ⟨_, rfl, _, rfl, (by show 2 ≤ sizeLine; decide), hR' _ (if_pos hc)⟩
    | false => exact hS' (if_neg (by show ¬ gn.contains i = true; rw [hc]; exact Bool.false_ne_true))
  · rw [List.nil_append, keepS_eq]
    exact ⟨_, _, rfl, .inl rfl, q⟩
end
end K36
set_option Elab.async false
set_option linter.all false
set_option maxRecDepth 100000
set_option maxHeartbeats 4000000
set_option Elab.async false
set_option linter.all false
set_option maxRecDepth 100000
set_option maxHeartbeats 4000000
namespace K36
open PySem PySem.Spec PyProof.Rows L2 Pd Spc
def units (n : Nat) : List (List Int) := (List.range n).map fun (k : Nat) => unitR n (0 + (k : Int))
theorem unit_sum {n k : Nat} {x : Rw} (hx : x.length = n) (hk : k < n) : (List.zipWith (fun a b => a * b) (unitR n (0 + (k : Int))) x).sum = x.getD k 0 := by
  have e : List.zipWith (fun a b => a * b) (unitR n (0 + (k : Int))) x = (List.range n).map fun i => (if i = k then 1 else 0) * x.getD i 0 := by
    unfold unitR
    refine List.ext_getElem (by rw [List.length_zipWith, List.length_map, List.length_map, List.length_range, hx, Nat.min_self]) fun i h1 h2 => ?_
    rw [List.length_map, List.length_range] at h2
    rw [List.getElem_zipWith, List.getElem_map, List.getElem_map, List.getElem_range, List.getD_eq_getElem?_getD, List.getElem?_eq_getElem (by omega)]
    show _ = (if i = k then 1 else 0) * x[i]
    by_cases h : i = k
    · rw [if_pos (by omega), if_pos h]
    · rw [if_neg (by omega), if_neg h]
  rw [e, sum_one _ n k hk fun i _ hne => by rw [if_neg hne, Int.zero_mul], if_pos rfl, Int.one_mul]
theorem unit_dot {p : Int} {n k : Nat} {x : Rw} (hx : x ∈ allD p n) (hk : k < n) : dot (unitR n (0 + (k : Int))) x p = x.getD k 0 := by
  obtain ⟨x1, x2⟩ := allD_mem hx
  unfold dot
  rw [unit_sum x1 hk, List.getD_eq_getElem?_getD, List.getElem?_eq_getElem (by omega)]
  have := x2 _ (List.getElem_mem (show k < x.length by omega))
  exact Int.emod_eq_of_lt this.1 this.2
/-- some unit shows what is not 0 -/
def anyU (p : Int) (n : Nat) (d : Rw) : Bool := (units n).any fun w => dot w d p != 0
theorem anyU_at {p : Int} {n : Nat} {d : Rw} (h : anyU p n d = true) : ∃ k, k < n ∧ (dot (unitR n (0 + (k : Int))) d p != 0) = true := by
  obtain ⟨w, hw, e⟩ := List.any_eq_true.mp h
  obtain ⟨k, hk, rfl⟩ := List.mem_map.mp hw
  exact ⟨k, List.mem_range.mp hk, e⟩
theorem anyU_of {p : Int} {n k : Nat} {d : Rw} (hk : k < n) (h : (dot (unitR n (0 + (k : Int))) d p != 0) = true) : anyU p n d = true :=
  List.any_eq_true.mpr ⟨_, List.mem_map.mpr ⟨k, List.mem_range.mpr hk, rfl⟩, h⟩
theorem not_zero {p : Int} {n : Nat} {d : Rw} (hd : d ∈ allD p n) : d ≠ zero n ↔ anyU p n d = true := by
  obtain ⟨d1, d2⟩ := allD_mem hd
  constructor
  · intro h
    refine Classical.byContradiction fun c => h ?_
    refine List.ext_getElem (by rw [d1]; unfold zero; rw [List.length_replicate]) fun i h1 h2 => ?_
    have e : ¬ (dot (unitR n (0 + (i : Int))) d p != 0) = true := fun z => c (anyU_of (by omega) z)
    rw [unit_dot hd (by omega), List.getD_eq_getElem?_getD, List.getElem?_eq_getElem h1] at e
    have e2 : d[i] = 0 := by simpa using e
    have e3 : (zero n)[i]? = some 0 := by unfold zero; rw [List.getElem?_replicate, if_pos (by omega)]
    rw [e2]
    exact (List.getElem?_eq_some_iff.mp e3).2.symm
  · rintro h rfl
    obtain ⟨k, _, e⟩ := anyU_at h
    rw [dot_z] at e
    simp at e
theorem blind_units {p : Int} {n : Nat} {SP : List (List Rw)} {R : List Rw} (U : Univ p n SP) (hR : R ∈ SP) (hz : ∀ d ∈ zs p n R, d ∈ allD p n) : (∃ z ∈ (zrows p n R).reverse, anyU p n z = true) ↔ ∃ d ∈ zs p n R, d ≠ zero n := by
  have hp := U.p2
  constructor
  · rintro ⟨z, hz1, h⟩
    obtain ⟨k, hk, e⟩ := anyU_at h
    obtain ⟨_, _, hb, _⟩ := U.step R hR _ (unit_in hp n (0 + (k : Int)))
    have e2 : blind p n R (unitR n (0 + (k : Int))) ≠ none := fun c => by
      have := List.find?_eq_none.mp c z hz1
      exact this e
    rw [hb] at e2
    cases e3 : (zs p n R).find? (fun d => dot (unitR n (0 + (k : Int))) d p != 0) with
    | none => exact absurd e3 e2
    | some d =>
      have h1 := List.find?_some e3
      have h2 := List.mem_of_find?_eq_some e3
      exact ⟨d, h2, (not_zero (hz d h2)).mpr (anyU_of hk h1)⟩
  · rintro ⟨d, hd, hne⟩
    obtain ⟨k, hk, e⟩ := anyU_at ((not_zero (hz d hd)).mp hne)
    obtain ⟨_, _, hb, _⟩ := U.step R hR _ (unit_in hp n (0 + (k : Int)))
    have e2 : blind p n R (unitR n (0 + (k : Int))) ≠ none := fun c => by
      rw [hb] at c
      exact List.find?_eq_none.mp c d hd e
    cases e3 : blind p n R (unitR n (0 + (k : Int))) with
    | none => exact absurd e3 e2
    | some z =>
      have h1 := List.find?_some e3
      have h2 := List.mem_of_find?_eq_some e3
      exact ⟨z, h2, anyU_of hk h1⟩
def Fat (p : Int) (n : Nat) (rows : List (List (List Int))) (g : List Int) : Prop := ∃ d ∈ allD p n, d ≠ zero n ∧ ∀ x ∈ tsp rows, ip x ∉ g → dot (prt rows x) d p = 0
/-- the spots of some pieces -/
def spG (rows : List (List (List Int))) (gn : List Int) : List (List Int) := (tsp rows).filter fun x => gn.contains (ip x)
def lft (m : Nat) (g : List Int) : List Int := ((List.range m).map fun (k : Nat) => (0 + (k : Int))).filter fun x => !g.contains x
theorem tsp_ip {rows : List (List (List Int))} {x : List Int} (h : x ∈ tsp rows) : 0 ≤ ip x ∧ ip x < (rows.length : Int) := by
  obtain ⟨k, j, rfl, _, d, e, _⟩ := spotsFrom_mem _ _ x h
  have hk := (List.getElem?_eq_some_iff.mp e).1
  rw [List.length_map] at hk
  show 0 ≤ (k : Int) ∧ (k : Int) < _
  omega
theorem lft_mem {m : Nat} {g : List Int} {x : Int} : x ∈ lft m g ↔ (0 ≤ x ∧ x < (m : Int)) ∧ x ∉ g := by
  unfold lft
  rw [List.mem_filter, List.mem_map]
  constructor
  · rintro ⟨⟨k, hk, rfl⟩, h⟩
    have := List.mem_range.mp hk
    refine ⟨by omega, fun c => ?_⟩
    rw [List.contains_iff_mem.mpr c] at h
    cases h
  · rintro ⟨⟨h1, h2⟩, h⟩
    refine ⟨⟨x.toNat, List.mem_range.mpr (by omega), by omega⟩, ?_⟩
    cases hc : g.contains x with
    | true => exact absurd (List.contains_iff_mem.mp hc) h
    | false => rfl
theorem spG_mem {rows : List (List (List Int))} {g : List Int} {x : List Int} : x ∈ spG rows (lft rows.length g) ↔ x ∈ tsp rows ∧ ip x ∉ g := by
  unfold spG
  rw [List.mem_filter, List.contains_iff_mem, lft_mem]
  exact ⟨fun h => ⟨h.1, h.2.2⟩, fun h => ⟨h.1, tsp_ip h.1, h.2⟩⟩
theorem spG_cs (rows : List (List (List Int))) (gn : List Int) : Cs rows (spG rows gn) :=
  ⟨fun x hx => (List.mem_filter.mp hx).1, (spotsFrom_asc _ _).sublist List.filter_sublist, List.length_filter_le _ _⟩
theorem zs_cs {p : Int} {n : Nat} {SP : List (List Rw)} {rows : List (List (List Int))} {cs : List (List Int)} (U : Univ p n SP) (hw : RwOk p n rows) (hc : ∀ x ∈ cs, x ∈ tsp rows) : red p (cs.map (prt rows)) ∈ SP ∧ ∀ d, d ∈ zs p n (red p (cs.map (prt rows))) ↔ d ∈ allD p n ∧ ∀ x ∈ cs, dot (prt rows x) d p = 0 := by
  have hrows : ∀ r ∈ cs.map (prt rows), r ∈ allD p n := fun r hr => by obtain ⟨x, hx, rfl⟩ := List.mem_map.mp hr; exact prt_in hw (hc x hx)
  refine ⟨red_in U _ _ U.nil hrows, fun d => ?_⟩
  have hzs : zs p n (red p (cs.map (prt rows))) = (allD p n).filter fun d => (cs.map (prt rows)).all fun r => dot r d p == 0 := by
    rw [← U.zs0]; exact zs_fold U _ [] U.nil hrows
  rw [hzs, List.mem_filter, List.all_map, List.all_eq_true]
  refine and_congr_right fun _ => ⟨fun h x hx => by simpa using h x hx, fun h x hx => by simpa using h x hx⟩
theorem fat_zs {p : Int} {n : Nat} {SP : List (List Rw)} {rows : List (List (List Int))} {g : List Int} (U : Univ p n SP) (hw : RwOk p n rows) : (∃ d ∈ zs p n (red p ((spG rows (lft rows.length g)).map (prt rows))), d ≠ zero n) ↔ Fat p n rows g := by
  obtain ⟨_, h⟩ := zs_cs (cs := spG rows (lft rows.length g)) U hw (spG_cs rows _).inn
  constructor
  · rintro ⟨d, hd, hne⟩
    obtain ⟨h1, h2⟩ := (h d).mp hd
    exact ⟨d, h1, hne, fun x hx hg => h2 x (spG_mem.mpr ⟨hx, hg⟩)⟩
  · rintro ⟨d, hd, hne, h2⟩
    exact ⟨d, (h d).mpr ⟨hd, fun x hx => h2 x (spG_mem.mp hx).1 (spG_mem.mp hx).2⟩, hne⟩
end K36
set_option Elab.async false
set_option linter.all false
set_option maxRecDepth 100000
set_option maxHeartbeats 4000000
namespace K36
open PySem PySem.Spec PyProof.Rows L2 Pd Spc
theorem tI_inj {x y : List Int} (h : tI x = tI y) : x = y := by
  have := congrArg intsOf h
  rwa [ints_tI, ints_tI] at this
theorem tP_inj {x y : List (List Int)} (h : tP x = tP y) : x = y := by
  injection h with h
  have := congrArg (List.map intsOf) h
  rw [List.map_map, List.map_map] at this
  have e : ∀ l : List (List Int), l.map (intsOf ∘ tI) = l := fun l => by
    have : (intsOf ∘ tI) = id := funext fun z => ints_tI z
    rw [this, List.map_id]
  rwa [e, e] at this
theorem wr_mem {p : Int} {x : Rw} : ∀ {st : List Pc} {rows : List (List (List Int))} {i : Nat} {z : Int}, z ∈ wrG p x i st rows → ∃ (k : Nat) (vs : List Int) (ps : List (List Int)), z = ((i + k : Nat) : Int) ∧ st[k]? = some (some vs) ∧ rows[k]? = some ps ∧ due p x ps ≠ vs
  | [], _, _, _, h => by unfold wrG at h; cases h
  | _ :: _, [], _, _, h => by unfold wrG at h; cases h
  | a :: st, b :: rows, i, z, h => by
    have h' : z ∈ dif1 p x i a b ++ wrG p x (i + 1) st rows := h
    rcases List.mem_append.mp h' with h | h
    · cases a with
      | none => exact (nomatch h)
      | some vs =>
        unfold dif1 at h
        simp only at h
        split at h
        · exact (nomatch h)
        · rename_i c
          rw [List.mem_singleton.mp h]
          exact ⟨0, vs, b, rfl, rfl, rfl, c⟩
    · obtain ⟨k, vs, ps, e, h1, h2, h3⟩ := wr_mem h
      exact ⟨k + 1, vs, ps, by rw [e]; congr 1; omega, by simpa using h1, by simpa using h2, h3⟩
theorem dif1_mem {p : Int} {x : Rw} {i : Nat} {a : Pc} {b : List (List Int)} {z : Int} (h : z ∈ dif1 p x i a b) : z = (i : Int) := by
  unfold dif1 at h
  split at h
  · cases h
  · split at h
    · cases h
    · exact List.mem_singleton.mp h
theorem wr_asc {p : Int} {x : Rw} : ∀ (st : List Pc) (rows : List (List (List Int))) (i : Nat), (wrG p x i st rows).Pairwise (· < ·)
  | [], _, _ => by unfold wrG; exact List.Pairwise.nil
  | _ :: _, [], _ => by unfold wrG; exact List.Pairwise.nil
  | a :: st, b :: rows, i => by
    show (dif1 p x i a b ++ wrG p x (i + 1) st rows).Pairwise _
    refine List.pairwise_append.mpr ⟨?_, wr_asc st rows (i + 1), fun u hu v hv => ?_⟩
    · unfold dif1
      split
      · exact List.Pairwise.nil
      · split
        · exact List.Pairwise.nil
        · exact List.pairwise_singleton _ _
    · rw [dif1_mem hu]
      obtain ⟨k, _, _, rfl, _⟩ := wr_mem hv
      omega
theorem asc_nodup {g : List Int} (h : g.Pairwise (· < ·)) : g.Nodup := h.imp fun h => by omega
theorem prt_at {rows : List (List (List Int))} {i j : Nat} {ps : List (List Int)} (h : rows[i]? = some ps) (hj : j < ps.length) : prt rows [(i : Int), (j : Int)] = ps[j] := by
  show partAt rows ((i : Int).toNat - 0) (j : Int).toNat = _
  rw [Int.toNat_natCast, Int.toNat_natCast, Nat.sub_zero]
  unfold partAt
  rw [List.getD_eq_getElem?_getD, List.getD_eq_getElem?_getD, h]
  show (ps[j]?).getD [] = _
  rw [List.getElem?_eq_getElem hj]; rfl
theorem lt_snoc : ∀ {a b : List Int} (u v : Int), a < b → a.length = b.length → a ++ [u] < b ++ [v]
  | [], [], _, _, h, _ => absurd h (List.lt_irrefl _)
  | [], _ :: _, _, _, _, h => by cases h
  | _ :: _, [], _, _, _, h => by cases h
  | x :: a, y :: b, u, v, h, hl => by
    rw [List.cons_append, List.cons_append]
    rcases List.cons_lt_cons_iff.mp h with h | ⟨h1, h2⟩
    · exact List.cons_lt_cons_iff.mpr (.inl h)
    · exact List.cons_lt_cons_iff.mpr (.inr ⟨h1, lt_snoc u v h2 (by simpa using hl)⟩)
theorem lt_last : ∀ (a : List Int) {u v : Int}, u < v → a ++ [u] < a ++ [v]
  | [], _, _, h => List.cons_lt_cons_iff.mpr (.inl h)
  | x :: a, _, _, h => List.cons_lt_cons_iff.mpr (.inr ⟨rfl, lt_last a h⟩)
theorem allD_asc (p : Int) : ∀ n : Nat, (allD p n).Pairwise (· < ·)
  | 0 => List.pairwise_singleton _ _
  | n + 1 => by
    show ((allD p n).flatMap fun d => (rngL p).map fun v => d ++ [v]).Pairwise _
    refine List.pairwise_flatMap.mpr ⟨fun a _ => ?_, ?_⟩
    · rw [List.pairwise_map]
      unfold rngL
      rw [List.pairwise_map]
      exact List.pairwise_lt_range.imp fun h => lt_last a (by omega)
    · refine List.Pairwise.imp_of_mem (fun {a b} ha hb h => ?_) (allD_asc p n)
      intro x hx y hy
      obtain ⟨u, _, rfl⟩ := List.mem_map.mp hx
      obtain ⟨v, _, rfl⟩ := List.mem_map.mp hy
      exact lt_snoc u v h (by rw [(allD_mem ha).1, (allD_mem hb).1])
section
variable {p : Int} {n : Nat} {rows : List (List (List Int))} {gn : List Int} {d : Rw}
theorem sup_at {z : Int} (h : z ∈ wrG p d 0 (st0 p n gn rows) rows) : ∃ (k : Nat) (ps : List (List Int)), z = (k : Int) ∧ rows[k]? = some ps ∧ (k : Int) ∉ gn ∧ ∃ r ∈ ps, dot r d p ≠ 0 := by
  obtain ⟨k, vs, ps, rfl, h1, h2, h3⟩ := wr_mem h
  obtain ⟨h4, rfl⟩ := st0_at h1 h2
  refine ⟨k, ps, by rw [Nat.zero_add], h2, h4, Classical.byContradiction fun c => h3 (List.map_congr_left fun r hr => ?_)⟩
  rw [dot_z]
  exact Classical.byContradiction fun c2 => c ⟨r, hr, c2⟩
theorem sup_of {k : Nat} {ps : List (List Int)} {r : Rw} (h2 : rows[k]? = some ps) (hg : (k : Int) ∉ gn) (hr : r ∈ ps) (h : dot r d p ≠ 0) : (k : Int) ∈ wrG p d 0 (st0 p n gn rows) rows := by
  have h1 : (st0 p n gn rows)[k]? = some (some (due p (zero n) ps)) := by
    unfold st0 shw
    rw [wo_at, List.getElem?_map, h2]
    show some (if gn.contains ((0 + k : Nat) : Int) = true then none else some _) = _
    rw [Nat.zero_add, if_neg (fun c => hg (List.contains_iff_mem.mp c))]; rfl
  have := wr_has (p := p) (x := d) (i := 0) h1 h2 fun e => h ?_
  · rwa [Nat.zero_add] at this
  · have := List.map_inj_left.mp (show ps.map (fun r => dot r d p) = ps.map fun r => dot r (zero n) p from e) r hr
    rw [dot_z] at this
    exact this
theorem shows_iff (hw : RwOk p n rows) {g : List Int} (hs : ∀ z ∈ gn, z ∈ g) : (∀ x ∈ tsp rows, ip x ∉ g → dot (prt rows x) d p = 0) ↔ ∀ z ∈ wrG p d 0 (st0 p n gn rows) rows, z ∈ g := by
  constructor
  · intro h z hz
    obtain ⟨k, ps, rfl, h1, h2, r, hr, hne⟩ := sup_at hz
    refine Classical.byContradiction fun c => hne ?_
    obtain ⟨j, hj, rfl⟩ := List.getElem_of_mem hr
    have hk := spots_have (rows.map tP) 0 k j (tP ps) (by rw [List.getElem?_map, h1]; rfl) (by rw [rowLen_tP]; exact hj)
    rw [Nat.zero_add] at hk
    have := h [(k : Int), (j : Int)] hk c
    rwa [prt_at h1 hj] at this
  · intro h x hx hg
    obtain ⟨i, j, ps, fs, rfl, e1, e2, e3, e4⟩ := spot_in hw hx
    have e5 : prt rows [(i : Int), (j : Int)] = fs := e3
    rw [List.getElem?_map] at e1 e2
    obtain ⟨ps', h1, h2⟩ := Option.map_eq_some_iff.mp e1
    obtain ⟨fs', h3, h4⟩ := Option.map_eq_some_iff.mp e2
    have := tP_inj h2
    subst this
    have := tI_inj h4
    subst this
    rw [e5]
    refine Classical.byContradiction fun c => hg (h _ (sup_of h1 (fun z => hg (hs _ z)) (List.mem_of_getElem? h3) c))
end
theorem all_nodup (p : Int) (n : Nat) : (allD p n).Nodup := (allD_asc p n).imp fun {a b} h e => by
  subst e
  exact List.lt_irrefl _ h
theorem rest_at {p : Int} {n : Nat} {z : Rw} (hp : 0 < p) (h : z ∈ rest1 p n) : z ∈ allD p n ∧ z ≠ zero n := by
  obtain ⟨t, e⟩ := head_all hp n
  have hn := all_nodup p n
  unfold rest1 at h
  rw [e] at hn h ⊢
  refine ⟨List.mem_cons_of_mem _ h, fun c => ?_⟩
  subst c
  exact (List.nodup_cons.mp hn).1 h
section
variable {p : Int} {n : Nat} {SP : List (List Rw)} {rows : List (List (List Int))} {gn : List Int} {m : Int}
theorem fat_iff (hw : RwOk p n rows) {g : List Int} : Fat p n rows g ↔ ∃ d ∈ allD p n, d ≠ zero n ∧ ∀ z ∈ wrG p d 0 (st0 p n [] rows) rows, z ∈ g :=
  exists_congr fun d => and_congr_right fun _ => and_congr_right fun _ => shows_iff hw (fun _ h => nomatch h)
theorem sup_asc (d : Rw) : AscBelow rows.length (wrG p d 0 (st0 p n gn rows) rows) := ⟨wr_asc _ _ 0, fun z hz => by
  obtain ⟨k, ps, rfl, h1, _⟩ := sup_at hz
  have := (List.getElem?_eq_some_iff.mp h1).1
  omega⟩
theorem fat_sup (hw : RwOk p n rows) {d : Rw} (hd : d ∈ allD p n) (hne : d ≠ zero n) : Fat p n rows (wrG p d 0 (st0 p n [] rows) rows) := (fat_iff hw).mpr ⟨d, hd, hne, fun _ h => h⟩
/-- a fatal group is not smaller than the strength -/
theorem fat_le (hw : RwOk p n rows) (hp : 0 < p) (m2 : ∀ y ∈ (rest1 p n).map (cnt p (st0 p n [] rows) rows), m ≤ y) {g : List Int} (h : Fat p n rows g) : m ≤ (g.length : Int) := by
  obtain ⟨d, hd, hne, hs⟩ := (fat_iff hw).mp h
  have h1 := m2 _ (List.mem_map_of_mem (rest_mem hp hd hne))
  have h2 := nodup_len _ _ (asc_nodup (wr_asc (p := p) (x := d) (st0 p n [] rows) rows 0)) hs
  have h3 : cnt p (st0 p n [] rows) rows d = (((wrG p d 0 (st0 p n [] rows) rows).length : Nat) : Int) := rfl
  omega
theorem str_at (hp : 0 < p) (m1 : m ∈ (rest1 p n).map (cnt p (st0 p n gn rows) rows)) : ∃ d ∈ allD p n, d ≠ zero n ∧ m = (((wrG p d 0 (st0 p n gn rows) rows).length : Nat) : Int) := by
  obtain ⟨d, hd, rfl⟩ := List.mem_map.mp m1
  obtain ⟨h1, h2⟩ := rest_at hp hd
  exact ⟨d, h1, h2, rfl⟩
/-- the fatal groups, as they are told -/
structure Bars (p : Int) (n : Nat) (rows : List (List (List Int))) (bars : List (List Int × Rw)) : Prop where
  ok : ∀ b ∈ bars, Fat p n rows b.1 ∧ AscBelow rows.length b.1 ∧ b.2 ∈ allD p n
  hd : ∃ b0 r, bars = b0 :: r ∧ ∀ g, AscBelow rows.length g → Fat p n rows g → b0.1.length ≤ g.length
  len : bars.length ≤ 64
theorem Bars.str {bars : List (List Int × Rw)} (B : Bars p n rows bars) (hw : RwOk p n rows) (hp : 0 < p) (m1 : m ∈ (rest1 p n).map (cnt p (st0 p n [] rows) rows)) (m2 : ∀ y ∈ (rest1 p n).map (cnt p (st0 p n [] rows) rows), m ≤ y) : (∀ b ∈ bars, m ≤ (b.1.length : Int)) ∧ ∃ b0 r, bars = b0 :: r ∧ (b0.1.length : Int) = m := by
  refine ⟨fun b hb => fat_le hw hp m2 (B.ok b hb).1, ?_⟩
  obtain ⟨b0, r, e, h⟩ := B.hd
  refine ⟨b0, r, e, ?_⟩
  obtain ⟨d, hd, hne, e2⟩ := str_at hp m1
  have h1 := h _ (sup_asc d) (fat_sup hw hd hne)
  have h2 := fat_le hw hp m2 (B.ok b0 (by rw [e]; exact List.mem_cons_self)).1
  omega
end
end K36
set_option Elab.async false
set_option linter.all false
set_option maxRecDepth 100000
set_option maxHeartbeats 4000000
namespace K36
open PySem PySem.Spec PyProof.Rows L2 Pd Spc
theorem iff1 {A B : Prop} (h : A) : if true = true then A else B := by rw [if_pos rfl]; exact h
def dotU (p : Int) (x : Rw) : D → D | .ins _ [_, (_, .tfz w)] => .int (dot w x p) | d => d
def uniD (S : Addr) (p : Int) (n : Nat) : D → D | .int i => dSum S p (.tfz (unitR n i)) | d => d
theorem uni_all (S : Addr) (p : Int) (n : Nat) : (rng 0 ((n : Nat) : Int).toNat).map (uniD S p n) = (units n).map fun w => dSum S p (.tfz w) := by
  unfold rng units
  rw [Int.toNat_natCast, List.map_map, List.map_map]
  rfl
theorem units_ok {p : Int} {n : Nat} (hp : 2 ≤ p) (h1 : 1 ≤ n) (h4 : n ≤ 4) : Ws p n (units n) := by
  refine ⟨by unfold units; rw [List.length_map, List.length_range]; exact h1, by unfold units; rw [List.length_map, List.length_range]; omega, fun w hw => ?_⟩
  obtain ⟨k, _, rfl⟩ := List.mem_map.mp hw
  exact unit_in hp n _
section
variable {P : Program} {w : World} {K : PySem.W.Frag} {mg : Str → Option Value} {base : Heap}
def W_bfor (S C : Addr) : DC := fun ds M Q => ∃ (p : Int) (n : Nat) (SP : List (List Rw)) (R : List Rw), ds = [dSpace S C p n R, prU S p (units n)] ∧ Univ p n SP ∧ R ∈ SP ∧ (∀ d ∈ zs p n R, d ∈ allD p n) ∧ ((¬ ∃ d ∈ zs p n R, d ≠ zero n) → Q .non M) ∧ (∀ d, (∃ d ∈ zs p n R, d ≠ zero n) → d ∈ allD p n → d ∈ zrows p n R → Q (.tfz d) M)
theorem ok_blind_for (T : Tx P w K mg) : FnOk P w K mg base CX0 6 T.a_blind_for T.f_blind_for ["space", "items"] (spD 2 (W_bfor T.a_Sum T.a_Space) K) := by
  refine pd_fn T.F_blind_for sc_blind_for (fun cdv A outer s H E hr => ⟨_, (pdss_cons (pds_setLc 2 [("item", 5)] rfl sc_blind_for.nd rfl rfl (sw_true rfl rfl rfl (by decide +kernel)) (pdi_tup (pd_prop (pd_name 0) T.c_Space.cl T.pp_Space_reduced_sums (ok_Space_reduced_sums T) (hr.mono (by decide)) T.b_Space_reduced_sums)) (blkOk_by (N := ["space", "items", "rows", "leads", "data", "item"]) (sc := defScope s_blind_for) (by decide +kernel)) (fun _ _ _ _ _ => (pdg_name 5 sc_blind_for.nd)) (fun _ _ _ _ _ => pdts_nil) (fun _ _ _ _ _ => (pd_prop (pd_name 5) T.c_Sum.cl T.pp_Sum_factors (ok_Sum_factors T) (hr.mono (by decide)) T.b_Sum_factors)))
      (pdss_cons (pds_set 3 sc_blind_for.nd (pd_call (ok_zero_rows T) (hr.mono (by decide)) (by rfl) T.g_zero_rows T.F_zero_rows.kp T.b_zero_rows (pda_cons (pd_prop (pd_name 0) T.c_Space.cl T.pp_Space_prime (ok_Space_prime T) (hr.mono (by decide)) T.b_Space_prime) (pda_cons (pd_prop (pd_name 0) T.c_Space.cl T.pp_Space_size (ok_Space_size T) (hr.mono (by decide)) T.b_Space_size) (pda_cons (pd_name 2) pda_nil)))))
      (pdss_cons (pds_for PassesOwn.never rfl (pdi_rev (by rfl) T.n_reversed (pd_callTy call_list_of sc_list (by rfl) T.n_list (by decide +kernel) (pda_cons (pd_name 3) pda_nil))) (pdg_name 4 sc_blind_for.nd) (pdss_one (pds_if (pdt_val (pd_callB (cr_anyLI rfl) sc_anyLI (by rfl) T.n_any (by decide +kernel) (pda_cons (pd_lc [("item", 5)] rfl sc_blind_for.nd (pdi_list (pd_name 1)) (blkOk_by (N := ["space", "items", "rows", "leads", "data", "item"]) (sc := defScope s_blind_for) (by decide +kernel)) (fun _ _ _ _ _ => (pdg_name 5 sc_blind_for.nd)) (fun _ _ _ _ _ => pdts_nil) (fun _ _ _ _ _ => (pd_callO (pd_name 5) T.call_Sum (ok_Sum_call T) T.b_Sum_call (hr.mono (by decide)) (pda_cons (pd_fg (pd_name 4)) pda_nil)))) pda_nil))) (pdss_one (pds_ret (pd_name 4))) pdss_nil)))
      (pdss_one (pds_ret pd_non))))), fun ds M Q hl h => ?_⟩)
  obtain ⟨p, n, SP, R, rfl, U, hR, hzs, q1, q2⟩ := h
  have hs : sizeLine = 16777216 := by decide
  have hlen := U.len R hR
  have hn4 := U.n4
  refine ⟨_, rfl, _, rfl, p, n, R, rfl, _, rfl, lc_map (fun d => match d with | .ins _ [_, (_, f)] => f | d => d) _ _ (fun d hd R3 hR3 => ?_) (by rw [List.length_nil, List.length_map]; omega) ?_⟩
  · obtain ⟨l, hl', rfl⟩ := List.mem_map.mp hd
    exact ⟨_, rfl, _, rfl, p, _, rfl, hR3⟩
  rw [List.nil_append, List.map_map]
  have e1 : R.map ((fun d => match d with | .ins _ [_, (_, f)] => f | d => d) ∘ fun r => dSum T.a_Sum p (.tfz r)) = R.map D.tfz := rfl
  rw [e1]
  refine ⟨_, rfl, _, rfl, p, n, R, rfl, _, rfl, _, rfl, p, n, R, rfl, _, rfl, rfl, p, n, SP, R, rfl, U, hR, ?_⟩
  refine ⟨_, rfl, _, _, rfl, .inl rfl, _, rfl, ?_⟩
  rw [← List.map_reverse]
  have hZ := zrows_in U R
  have hbl := blind_units U hR hzs
  have hmem : ∀ d ∈ (zrows p n R).reverse, d ∈ allD p n := fun d hd => lead_all U hZ (List.mem_reverse.mp hd)
  have hmz : ∀ d ∈ (zrows p n R).reverse, d ∈ zrows p n R := fun d hd => List.mem_reverse.mp hd
  generalize (zrows p n R).reverse = Z at hbl hmem hmz ⊢
  refine for_ind (fun k ρ M' => M' = M ∧ (∃ x4, ρ = [some (dSpace T.a_Sum T.a_Space p n R), some (prU T.a_Sum p (units n)), some (.lst (R.map D.tfz)), some (.lst ((zrows p n R).map D.tfz)), x4, none]) ∧ ∀ d ∈ Z.take k, anyU p n d = false) _ ?_ ?_ ⟨rfl, ⟨none, rfl⟩, fun d hd => by rw [List.take_zero] at hd; cases hd⟩
  · rintro k d ρ M' N hd ⟨rfl, ⟨x4, rfl⟩, hno⟩ hN
    have hk : k < Z.length := by have := (List.getElem?_eq_some_iff.mp hd).1; rwa [List.length_map] at this
    rw [List.getElem?_map, List.getElem?_eq_getElem hk] at hd
    cases hd
    have hza := hmem _ (List.getElem_mem hk)
    obtain ⟨z1, z2⟩ := allD_mem hza
    refine ⟨_, rfl, _, rfl, lc_map (dotU p Z[k]) _ _ (fun d3 hd3 R3 hR3 => ?_) (by rw [List.length_nil, List.length_map]; unfold units; rw [List.length_map, List.length_range]; omega) ?_⟩
    · obtain ⟨u, hu, rfl⟩ := List.mem_map.mp hd3
      have hua : u ∈ allD p n := (units_ok U.p2 U.n1 hn4).inn u hu
      exact ⟨_, rfl, _, rfl, .tfz Z[k], rfl, rfl, p, _, u, _, Z[k], rfl, rfl, sum_ok U hua, sum_ok U hza, .inr rfl, by rw [z1, (allD_mem hua).1], hR3⟩
    · have e5 : ([] : List D) ++ ((units n).map fun w => dSum T.a_Sum p (.tfz w)).map (dotU p Z[k]) = dI ((units n).map fun w => dot w Z[k] p) := by
        rw [List.nil_append, List.map_map]
        show _ = List.map D.int (List.map _ _)
        rw [List.map_map]; rfl
      rw [e5]
      refine ⟨_, rfl, anyU p n Z[k], by unfold anyU; rw [List.any_map]; rfl, ?_⟩
      cases h0 : anyU p n Z[k] with
      | false =>
        refine hN _ _ ⟨rfl, ⟨_, rfl⟩, fun d hd => ?_⟩
        rw [List.take_succ_eq_append_getElem hk] at hd
        rcases List.mem_append.mp hd with h1 | h1
        · exact hno d h1
        · rw [List.mem_singleton.mp h1]; exact h0
      | true => exact ⟨_, rfl, q2 _ (hbl.mp ⟨_, List.getElem_mem hk, h0⟩) hza (hmz _ (List.getElem_mem hk))⟩
  · rintro ρ M' ⟨rfl, ⟨x4, rfl⟩, hno⟩
    rw [List.length_map, List.take_length] at hno
    exact q1 fun h => by
      obtain ⟨z, hz, e⟩ := hbl.mpr h
      rw [hno z hz] at e
      cases e
def W_units (S TC : Addr) : DC := fun ds M Q => ∃ (p : Int) (n : Nat) (SP : List (List Rw)) (rows : List (List (List Int))), ds = [dTab S TC p n rows] ∧ Univ p n SP ∧ okM M ∧ Q (prU S p (units n)) M
theorem ok_units_of (T : Tx P w K mg) : FnOk P w K mg base CX0 8 T.a_units_of T.f_units_of ["table"] (spD 1 (W_units T.a_Sum T.a_Table) K) := by
  refine pd_fn T.F_units_of sc_units_of (fun cdv A outer s H E hr => ⟨_, (pdss_one (pds_ret (pd_lc [("index", 1)] rfl sc_units_of.nd (pdi_range1 (by rfl) T.n_range (pda_cons (pd_prop (pd_name 0) T.c_Table.cl T.pp_Table_size (ok_Table_size T) (hr.mono (by decide)) T.b_Table_size) pda_nil)) (blkOk_by (N := ["table", "index"]) (sc := defScope s_units_of) (by decide +kernel)) (fun _ _ _ _ _ => (pdg_name 1 sc_units_of.nd)) (fun _ _ _ _ _ => pdts_nil) (fun _ _ _ _ _ => (pd_smeth (pd_glob (v := .ref T.a_Sum) (d := .ob T.a_Sum) (by rfl) T.g_Sum rfl (fun _ _ => .ob _)) T.sm_unit (ok_Sum_unit T) T.b_Sum_unit (hr.mono (by decide)) (pda_cons (pd_prop (pd_name 0) T.c_Table.cl T.pp_Table_prime (ok_Table_prime T) (hr.mono (by decide)) T.b_Table_prime) (pda_cons (pd_prop (pd_name 0) T.c_Table.cl T.pp_Table_size (ok_Table_size T) (hr.mono (by decide)) T.b_Table_size) (pda_cons (pd_name 1) pda_nil)))))))), fun ds M Q hl h => ?_⟩)
  obtain ⟨p, n, SP, rows, rfl, U, hM, q⟩ := h
  have hs : sizeLine = 16777216 := by decide
  have hn4 := U.n4
  refine ⟨_, rfl, _, rfl, p, n, rows, rfl, n, rfl, by omega, by omega, lc_map (uniD T.a_Sum p n) _ _ (fun d hd R hR => ?_) (by rw [List.length_nil, rng_len, Int.toNat_natCast]; omega) ?_⟩
  · obtain ⟨i, hi, rfl⟩ := List.mem_map.mp hd
    have hi' := List.mem_range.mp hi
    rw [Int.toNat_natCast] at hi'
    have hR' : R (dSum T.a_Sum p (.tfz (unitR n (0 + (i : Int))))) M := hR
    exact ⟨rfl, _, rfl, _, rfl, p, n, rows, rfl, _, rfl, _, rfl, p, n, rows, rfl, _, rfl, rfl, p, n, SP, _, rfl, U, by omega, by omega, hM, hR'⟩
  · rw [List.nil_append, uni_all]
    exact q
/-- a fatal group with its data -/
def barD (b : List Int × Rw) : D := .tup [tI b.1, .tfz b.2]
def fstT : D → List Int | .tup [.tup es, _] => intsOf (.tup es) | _ => []
def subB (g : List Int) (b : List Int × Rw) : Bool := b.1.all fun x => g.contains x
def lessD (g : List Int) (d : D) : D := .bl ((fstT d).all fun x => g.contains x)
theorem less_bar (g : List Int) (b : List Int × Rw) : lessD g (barD b) = .bl (subB g b) := by
  show D.bl ((intsOf (tI b.1)).all fun x => g.contains x) = _
  rw [ints_tI]; rfl
theorem apart_bars (k : Nat) : ∀ bs : List (List Int × Rw), apartA k (bs.map barD) = true
  | [] => rfl
  | b :: bs => by
    show ((apartA k (dI b.1) && (true && true)) && apartA k (bs.map barD)) = true
    rw [apart_bars k bs, apartA_ints]; rfl
theorem grps_lt {m k : Nat} (hk : k < (grps m).length) {g : List Int} (hg : AscBelow m g) (hno : g ∉ (grps m).take k) : ((grps m)[k]).length ≤ g.length := by
  have hp : (grps m).Pairwise fun a b => grpLe a b = true := PySem.W.sort_pairwise grp_total _
  have hm : g ∈ (grps m).drop k := by
    have := grps_in.mpr hg
    rw [← List.take_append_drop k (grps m)] at this
    exact (List.mem_append.mp this).resolve_left hno
  rw [List.drop_eq_getElem_cons hk] at hm
  rcases List.mem_cons.mp hm with rfl | hm
  · exact Nat.le_refl _
  · have h2 := (List.pairwise_cons.mp (show ((grps m)[k] :: (grps m).drop (k + 1)).Pairwise _ by rw [← List.drop_eq_getElem_cons hk]; exact hp.sublist (List.drop_sublist _ _))).1 g hm
    simp only [grpLe, decide_eq_true_eq] at h2
    omega
def ninK (g : List Int) : D → Option D | .int k => if g.contains k = true then none else some (.int k) | _ => none
theorem nin_eq (g : List Int) : ∀ L : List Int, (dI L).filterMap (ninK g) = dI (L.filter fun k => !g.contains k)
  | [] => rfl
  | k :: L => by
    have ih := nin_eq g L
    show List.filterMap (ninK g) (D.int k :: dI L) = _
    by_cases c : g.contains k = true
    · rw [List.filterMap_cons_none (f := ninK g) (show ninK g (.int k) = none from if_pos c), ih, List.filter_cons_of_neg (by rw [c]; decide)]
    · rw [List.filterMap_cons_some (f := ninK g) (show ninK g (.int k) = some (.int k) from if_neg c), ih, List.filter_cons_of_pos (by rw [(Bool.not_eq_true _).mp c]; rfl)]; rfl
theorem lft_asc (m : Nat) (g : List Int) : (lft m g).Pairwise (· < ·) := by
  unfold lft
  refine List.Pairwise.filter _ ?_
  rw [List.pairwise_map]
  exact List.pairwise_lt_range.imp fun h => by omega
theorem lft_len (m : Nat) (g : List Int) : (lft m g).length ≤ m := by
  unfold lft
  refine Nat.le_trans (List.length_filter_le _ _) ?_
  rw [List.length_map, List.length_range]; exact Nat.le_refl _
theorem lft_rng (m : Nat) (g : List Int) : (rng 0 ((m : Nat) : Int).toNat).filterMap (ninK g) = dI (lft m g) := by
  have e : rng 0 ((m : Nat) : Int).toNat = dI ((List.range m).map fun (k : Nat) => (0 + (k : Int))) := by
    unfold rng
    rw [Int.toNat_natCast]
    show _ = List.map D.int (List.map _ _)
    rw [List.map_map]; rfl
  rw [e, nin_eq]; rfl
def hdOk (p : Int) (n : Nat) (rows : List (List (List Int))) (k : Nat) : List (List Int × Rw) → Prop
  | [] => ∀ g ∈ (grps rows.length).take k, ¬ Fat p n rows g
  | b0 :: _ => ∀ g, AscBelow rows.length g → Fat p n rows g → b0.1.length ≤ g.length
def W_least (S TC : Addr) : DC := fun ds M Q => ∃ (p : Int) (n : Nat) (SP : List (List Rw)) (rows : List (List (List Int))), ds = [dTab S TC p n rows, prU S p (units n), .lst ((grps rows.length).map fun g => .tup [tI g, tI g])] ∧ Univ p n SP ∧ RwOk p n rows ∧ okM M ∧ ∀ bars, Bars p n rows bars → Q (.lst (bars.map barD)) M
theorem ok_least_losses (T : Tx P w K mg) : FnOk P w K mg base CX0 9 T.a_least_losses T.f_least_losses ["table", "wishes", "losses"] (spD 3 (W_least T.a_Sum T.a_Table) K) := by
  refine pd_fn T.F_least_losses sc_least_losses (fun cdv A outer s H E hr => ⟨_, (pdss_build (i := 3) sc_least_losses.nd (pds_for PassesOwn.never rfl (pdi_list (pd_name 2)) (pdg_tup (n := 2) rfl (pdgs_cons (pdg_name 4 sc_least_losses.nd) (pdgs_cons (pdg_name 5 sc_least_losses.nd) pdgs_nil))) (pdss_one (pds_if (pdt_not (pdt_val (pd_callB (cr_any rfl) sc_any (by rfl) T.n_any (by decide +kernel) (pda_cons (pd_lcM [("smaller", 9), ("_", 10)] rfl sc_least_losses.nd (pdi_mu 3) (blkOk_by (N := ["table", "wishes", "losses", "found", "group", "gone", "left", "data", "piece", "smaller", "_", "item"]) (sc := defScope s_least_losses) (by decide +kernel)) (fun _ _ _ _ _ => (pdg_tup (n := 2) rfl (pdgs_cons (pdg_name 9 sc_least_losses.nd) (pdgs_cons (pdg_name 10 sc_least_losses.nd) pdgs_nil)))) (fun _ _ _ _ _ => pdts_nil) (fun _ _ _ _ _ => (pd_callB (cr_all rfl) sc_all (by rfl) T.n_all (by decide +kernel) (pda_cons (pd_lc [("item", 11)] rfl sc_least_losses.nd (pdi_tup (pd_name 9)) (blkOk_by (by kernel_rfl)) (fun _ _ _ _ _ => (pdg_name 11 sc_least_losses.nd)) (fun _ _ _ _ _ => pdts_nil) (fun _ _ _ _ _ => (pd_cmp (op_inS' hr.units) sr_inS (pd_name 11) (pd_name 4) (by rfl)))) pda_nil)))) pda_nil)))) (pdss_cons (pds_set 6 sc_least_losses.nd (pd_methD (pd_name 0) T.c_Table.cl T.me_spots_of (ok_Table_spots_of T) (hr.mono (by decide)) T.b_Table_spots_of (pda_cons (pd_lc [("piece", 8)] rfl sc_least_losses.nd (pdi_range1 (by rfl) T.n_range (pda_cons (pd_callB (call_ownLen T.ln_Table T.lf_Table (ok_Table_len T) T.b_Table_len (hr.mono (by decide))) sc_ownLen (by rfl) T.n_len (by decide +kernel) (pda_cons (pd_name 0) pda_nil)) pda_nil)) (blkOk_by (N := ["table", "wishes", "losses", "found", "group", "gone", "left", "data", "piece", "smaller", "_", "item"]) (sc := defScope s_least_losses) (by decide +kernel)) (fun _ _ _ _ _ => (pdg_name 8 sc_least_losses.nd)) (fun _ _ _ _ _ => pdts_one (pdt_cmp (op_ninS hr.units) sr_ninS (pd_name 8) (pd_name 5) (by rfl))) (fun _ _ _ _ _ => (pd_name 8))) pda_nil)))
      (pdss_cons (pds_set 7 sc_least_losses.nd (pd_call (ok_blind_for T) (hr.mono (by decide)) (by rfl) T.g_blind_for T.F_blind_for.kp T.b_blind_for (pda_cons (pd_methD (pd_name 0) T.c_Table.cl T.me_space (ok_Table_space T) (hr.mono (by decide)) T.b_Table_space (pda_cons (pd_name 6) pda_nil)) (pda_cons (pd_name 1) pda_nil))))
      (pdss_one (pds_if (pdt_cmp op_not0 sr_not0 (pd_name 7) pd_non (nomark _)) (pdss_one (pds_expr (pd_append 3 (pd_tup (pda_cons (pd_name 4) (pda_cons (pd_name 7) pda_nil)))))) pdss_nil)))) pdss_nil)))
      (pdss_one (pds_ret (pd_name 3)))), fun ds M Q hl h => ?_⟩)
  obtain ⟨p, n, SP, rows, rfl, U, hw, hM, q⟩ := h
  have hsl : sizeLine = 16777216 := by decide
  have h6 := hw.l6
  have hgl := grps_len rows.length
  have h64 : 2 ^ rows.length ≤ 64 := Nat.le_trans (Nat.pow_le_pow_right (by decide) h6) (by decide)
  refine ⟨_, rfl, _, rfl, for_ind (fun k ρ M' => ∃ (bars : List (List Int × Rw)) (x4 x5 x6 x7 x8 x9 x10 x11 : Option D), M' = M ++ [.lst (bars.map barD)] ∧ (∀ b ∈ bars, Fat p n rows b.1 ∧ AscBelow rows.length b.1 ∧ b.2 ∈ allD p n) ∧ bars.length ≤ k ∧ hdOk p n rows k bars ∧ ρ = [some (dTab T.a_Sum T.a_Table p n rows), some (prU T.a_Sum p (units n)), some (.lst ((grps rows.length).map fun g => .tup [tI g, tI g])), some (.mu M.length), x4, x5, x6, x7, x8, x9, x10, x11]) _ ?_ ?_ ⟨[], _, _, _, _, _, _, _, _, rfl, (fun _ h => nomatch h), Nat.le_refl _, (fun g hg => by rw [List.take_zero] at hg; cases hg), rfl⟩⟩
  · rintro k d ρ M' N hd ⟨bars, x4, x5, x6, x7, x8, x9, x10, x11, rfl, hb, hbl, hh, rfl⟩ hN
    have hk : k < (grps rows.length).length := by have := (List.getElem?_eq_some_iff.mp hd).1; rwa [List.length_map] at this
    rw [List.getElem?_map, List.getElem?_eq_getElem hk] at hd
    cases hd
    have hga := grps_in.mp (List.getElem_mem hk)
    have hlt := fun {g} => grps_lt (g := g) hk
    have htk := List.take_succ_eq_append_getElem hk
    generalize (grps rows.length)[k] = g at hga hlt htk
    have hg6 := asc_len hga
    refine ⟨_, rfl, rfl, _, _, rfl, _, _, rfl, rfl, ?_⟩
    refine ⟨M.length, bars.map barD, rfl, get_last _ _, lcM_map (lessD g) (get_last _ _) _ _ (fun c hc R hR => ?_) (by rw [List.length_nil, List.length_map]; omega) ?_⟩
    · obtain ⟨b, hbm, rfl⟩ := List.mem_map.mp hc
      rw [less_bar] at hR
      have hbl2 := asc_len (hb b hbm).2.1
      refine ⟨_, rfl, rfl, _, _, rfl, _, _, rfl, rfl, ?_⟩
      refine ⟨_, rfl, dI b.1, rfl, lc_map (fun d => match d with | .int i => .bl (g.contains i) | d => d) _ _ (fun e he R2 hR2 => ?_) (by rw [List.length_nil, List.length_map]; omega) ?_⟩
      · obtain ⟨i, hi, rfl⟩ := List.mem_map.mp he
        have hR3 : R2 (.bl (g.contains i)) _ := hR2
        exact ⟨_, rfl, _, rfl, dI g, .inr rfl, rfl, okD_tup _, (by show 0 ≤ 60; decide), by rw [any_int]; exact hR3⟩
      · refine ⟨b.1.map fun i => g.contains i, by rw [List.nil_append, List.map_map, List.map_map]; rfl, ?_⟩
        rw [show ((b.1.map fun i => g.contains i).all id) = subB g b by unfold subB; rw [List.all_map]; rfl]
        exact hR
    have ea : ([] : List D) ++ (bars.map barD).map (lessD g) = (bars.map (subB g)).map D.bl := by
      rw [List.nil_append, List.map_map, List.map_map]
      exact List.map_congr_left fun b _ => less_bar g b
    rw [ea]
    refine ⟨bars.map (subB g), rfl, bars.any (subB g), by rw [List.any_map]; rfl, ?_⟩
    cases hany : bars.any (subB g) with
    | true =>
      cases bars with
      | nil => cases hany
      | cons b0 r => exact hN _ _ ⟨b0 :: r, _, _, _, _, _, _, _, _, rfl, hb, by omega, hh, rfl⟩
    | false =>
      refine iff1 ?_
      refine ⟨_, rfl, _, rfl, rfl, _, rfl, _, rfl, p, n, rows, rfl, _, rfl, ⟨by omega, by omega⟩, _, rfl, by omega, by omega, lc_fmap (ninK g) _ _ (fun d hd R S hR hS => ?_) (by rw [List.length_nil, rng_len, Int.toNat_natCast]; omega) ?_⟩
      · unfold rng at hd
        obtain ⟨i, _, rfl⟩ := List.mem_map.mp hd
        have hR' : ∀ y, (if g.contains (0 + (i : Int)) = true then none else some (D.int (0 + (i : Int)))) = some y → R y _ := hR
        have hS' : (if g.contains (0 + (i : Int)) = true then none else some (D.int (0 + (i : Int)))) = none → S _ := hS
        refine ⟨_, rfl, _, rfl, dI g, .inr rfl, rfl, okD_tup _, (by show 0 ≤ 60; decide), _, rfl, ?_⟩
        rw [any_int]
        cases hc : g.contains (0 + (i : Int)) with
        | true => exact hS' (if_pos hc)
        | false => exact ⟨_, rfl, hR' _ (if_neg (by rw [hc]; exact Bool.false_ne_true))⟩
      rw [List.nil_append, lft_rng]
      refine ⟨rfl, p, n, rows, .lst (dI (lft rows.length g)), lft rows.length g, rfl, hw, .inl rfl, by have := lft_len rows.length g; omega, fun x hx => (lft_mem.mp hx).1, lft_asc _ _, ?_⟩
      have hcs := spG_cs rows (lft rows.length g)
      obtain ⟨hR, hzs⟩ := zs_cs U hw hcs.inn
      have hfz := fat_zs (g := g) U hw
      refine ⟨_, rfl, _, rfl, rfl, _, rfl, rfl, _, _, p, n, SP, rows, spG rows (lft rows.length g), _, rfl, .inl rfl, tbl_dTab, ?_, U, hw, hcs, .inr (.inr rfl), ?_⟩
      · exact okM_app hM (apart_bars _ _)
      refine ⟨_, rfl, rfl, p, n, SP, _, rfl, U, hR, fun d hd => ((hzs d).mp hd).1, fun hno => ?_, fun d hex hd _ => ?_⟩
      · refine ⟨_, rfl, rfl, false, rfl, iff0 (hN _ _ ⟨bars, _, _, _, _, _, _, _, _, rfl, hb, by omega, ?_, rfl⟩)⟩
        cases bars with
        | cons b0 r => exact hh
        | nil =>
          intro g' hg'
          rw [htk] at hg'
          rcases List.mem_append.mp hg' with hg' | hg'
          · exact hh g' hg'
          · rw [List.mem_singleton.mp hg']
            exact fun c => hno (hfz.mpr c)
      · have hfg : Fat p n rows g := hfz.mp hex
        refine ⟨_, rfl, rfl, true, rfl, iff1 ?_⟩
        refine ⟨M.length, rfl, ⟨_, get_last _ _⟩, _, rfl, _, rfl, (by show 2 ≤ sizeLine; rw [hsl]; decide), bars.map barD, get_last _ _, by rw [List.length_map]; omega, ?_⟩
        rw [set_last]
        refine hN _ _ ⟨bars ++ [(g, d)], _, _, _, _, _, _, _, _, by rw [List.map_append]; rfl, fun b hbm => ?_, by rw [List.length_append, List.length_singleton]; omega, ?_, rfl⟩
        · rcases List.mem_append.mp hbm with hbm | hbm
          · exact hb b hbm
          · rw [List.mem_singleton.mp hbm]; exact ⟨hfg, hga, hd⟩
        · cases bars with
          | cons b0 r => exact hh
          | nil => exact fun g' ha hf => hlt ha fun c => hh g' c hf
  · rintro ρ M' ⟨bars, x4, x5, x6, x7, x8, x9, x10, x11, rfl, hb, hbl, hh, rfl⟩
    rw [List.length_map] at hbl hh
    refine ⟨M, bars.map barD, rfl, rfl, hM, apart_bars _ _, rfl, _, rfl, q bars ⟨hb, ?_, by omega⟩⟩
    cases bars with
    | cons b0 r => exact ⟨b0, r, rfl, hh⟩
    | nil =>
      exfalso
      have hp := U.p2
      have hn1 := U.n1
      have hu := unit_in hp n 0
      have hne : unitR n 0 ≠ zero n := fun e => by
        have e2 : (unitR n 0)[0]? = (zero n)[0]? := by rw [e]
        unfold unitR zero at e2
        rw [List.getElem?_map, List.getElem?_range (by omega), List.getElem?_replicate, if_pos (by omega)] at e2
        cases e2
      have hf := fat_sup hw hu hne
      have ha : AscBelow rows.length (wrG p (unitR n 0) 0 (st0 p n [] rows) rows) := sup_asc _
      refine hh _ ?_ hf
      rw [List.take_length]
      exact grps_in.mpr ha
def W_fatal (S TC : Addr) : DC := fun ds M Q => ∃ (p : Int) (n : Nat) (SP : List (List Rw)) (rows : List (List (List Int))), ds = [dTab S TC p n rows, prU S p (units n)] ∧ Univ p n SP ∧ RwOk p n rows ∧ okM M ∧ ∀ bars, Bars p n rows bars → Q (.lst (bars.map barD)) M
theorem ok_fatal (T : Tx P w K mg) : FnOk P w K mg base CX0 10 T.a_fatal T.f_fatal ["table", "wishes"] (spD 2 (W_fatal T.a_Sum T.a_Table) K) := by
  refine pd_fn T.F_fatal sc_fatal (fun cdv A outer s H E hr => ⟨_, (pdss_cons (pds_if (pdt_not (pdt_val (pd_call (ok_are_wishes T) (hr.mono (by decide)) (by rfl) T.g_are_wishes T.F_are_wishes.kp T.b_are_wishes (pda_cons (pd_name 0) (pda_cons (pd_name 1) pda_nil))))) (pdss_one pds_never) pdss_nil)
      (pdss_one (pds_ret (pd_call (ok_least_losses T) (hr.mono (by decide)) (by rfl) T.g_least_losses T.F_least_losses.kp T.b_least_losses (pda_cons (pd_name 0) (pda_cons (pd_name 1) (pda_cons (pd_lc [("group", 2)] rfl sc_fatal.nd (pdi_list (pd_call (ok_all_groups T) (hr.mono (by decide)) (by rfl) T.g_all_groups T.F_all_groups.kp T.b_all_groups (pda_cons (pd_callB (call_ownLen T.ln_Table T.lf_Table (ok_Table_len T) T.b_Table_len (hr.mono (by decide))) sc_ownLen (by rfl) T.n_len (by decide +kernel) (pda_cons (pd_name 0) pda_nil)) pda_nil))) (blkOk_by (N := ["table", "wishes", "group"]) (sc := defScope s_fatal) (by decide +kernel)) (fun _ _ _ _ _ => (pdg_name 2 sc_fatal.nd)) (fun _ _ _ _ _ => pdts_nil) (fun _ _ _ _ _ => (pd_tup (pda_cons (pd_name 2) (pda_cons (pd_name 2) pda_nil))))) pda_nil))))))), fun ds M Q hl h => ?_⟩)
  obtain ⟨p, n, SP, rows, rfl, U, hw, hM, q⟩ := h
  have hsl : sizeLine = 16777216 := by decide
  have h6 := hw.l6
  have hgl := grps_len rows.length
  have h64 : 2 ^ rows.length ≤ 64 := Nat.le_trans (Nat.pow_le_pow_right (by decide) h6) (by decide)
  refine ⟨_, rfl, _, rfl, rfl, p, n, rows, units n, rfl, units_ok U.p2 U.n1 U.n4, true, rfl, ?_⟩
  refine iff0 ⟨_, rfl, _, rfl, _, rfl, _, rfl, p, n, rows, rfl, _, rfl, ⟨by omega, by omega⟩, rfl, rows.length, rfl, h6, _, rfl, lc_map (fun d => .tup [d, d]) _ _ (fun d hd R hR => ⟨_, rfl, _, rfl, (by show 2 ≤ sizeLine; rw [hsl]; decide), hR⟩) (by rw [List.length_nil, List.length_map]; omega) ?_⟩
  rw [List.nil_append, List.map_map]
  exact ⟨rfl, p, n, SP, rows, rfl, U, hw, hM, q⟩
end
end K36
set_option Elab.async false
set_option linter.all false
set_option maxRecDepth 100000
set_option maxHeartbeats 4000000
namespace K36
open PySem PySem.Spec PyProof.Rows L2 Pd Spc
/-- the machines of some pieces, ascending -/
def imS (ws g : List Int) : List Int := ((List.range 6).map fun (k : Nat) => (k : Int)).filter fun k => (g.map fun i => ws.getD i.toNat 0).contains k
def at0 (ws : List Int) : D → Option D | .int i => some (.int (ws.getD i.toNat 0)) | _ => none
theorem imS_asc (ws g : List Int) : (imS ws g).Pairwise (· < ·) := by
  unfold imS
  refine List.Pairwise.filter _ ?_
  rw [List.pairwise_map]
  exact List.pairwise_lt_range.imp fun h => by omega
theorem imS_mem {ws g : List Int} (h : ∀ i ∈ g, 0 ≤ ws.getD i.toNat 0 ∧ ws.getD i.toNat 0 < 6) {k : Int} : k ∈ imS ws g ↔ k ∈ g.map fun i => ws.getD i.toNat 0 := by
  unfold imS
  rw [List.mem_filter, List.contains_iff_mem]
  refine ⟨fun h => h.2, fun hk => ⟨?_, hk⟩⟩
  obtain ⟨i, hi, rfl⟩ := List.mem_map.mp hk
  obtain ⟨h1, h2⟩ := h i hi
  exact List.mem_map.mpr ⟨(ws.getD i.toNat 0).toNat, List.mem_range.mpr (by omega), by omega⟩
theorem asc_same {a b : List Int} (ha : a.Pairwise (· < ·)) (hb : b.Pairwise (· < ·)) (h : ∀ k, k ∈ a ↔ k ∈ b) : a = b := by
  refine List.Perm.eq_of_pairwise (le := fun a b : Int => a < b) (fun x y _ _ h1 h2 => by omega) ha hb ?_
  exact (List.perm_ext_iff_of_nodup (asc_nodup ha) (asc_nodup hb)).mpr h
/-- a row of machines for so many pieces -/
structure Whr (m : Nat) (ws : List Int) : Prop where
  len : ws.length = m
  bnd : ∀ x ∈ ws, 0 ≤ x ∧ x < 6
theorem Whr.at {m : Nat} {ws : List Int} (h : Whr m ws) {i : Int} (h0 : 0 ≤ i) (h1 : i < (m : Int)) : (dI ws)[i.toNat]? = some (.int (ws.getD i.toNat 0)) ∧ 0 ≤ ws.getD i.toNat 0 ∧ ws.getD i.toNat 0 < 6 := by
  have hl : i.toNat < ws.length := by rw [h.len]; omega
  rw [List.getD_eq_getElem?_getD, List.getElem?_eq_getElem hl]
  refine ⟨?_, h.bnd _ (List.getElem_mem hl)⟩
  show (ws.map D.int)[_]? = _
  rw [List.getElem?_map, List.getElem?_eq_getElem hl]; rfl
section
variable {P : Program} {w : World} {K : PySem.W.Frag} {mg : Str → Option Value} {base : Heap}
def W_mach : DC := fun ds M Q => ∃ (d : D) (m : Nat) (ws g : List Int), ds = [d, tI g] ∧ fgD d = .tup (dI ws) ∧ Whr m ws ∧ AscBelow m g ∧ m ≤ 6 ∧ Q (tI (imS ws g)) M
theorem ok_machines_of (T : Tx P w K mg) : FnOk P w K mg base CX0 1 T.a_machines_of T.f_machines_of ["where", "pieces"] (spD 2 W_mach K) := by
  refine pd_fn T.F_machines_of sc_machines_of (fun cdv A outer s H E hr => ⟨_, (pdss_one (pds_ret (pd_callTy call_tuple_of sc_tuple (by rfl) T.n_tuple (by decide +kernel) (pda_cons (pd_sortSet rfl (by rfl) T.n_sorted (by rfl) T.n_set (pd_lc [("piece", 2)] rfl sc_machines_of.nd (pdi_tup (pd_name 1)) (blkOk_by (N := ["where", "pieces", "piece"]) (sc := defScope s_machines_of) (by decide +kernel)) (fun _ _ _ _ _ => (pdg_name 2 sc_machines_of.nd)) (fun _ _ _ _ _ => pdts_one (pdt_cmp op_not0 sr_not0 (pd_ix ix_tup sr_ixT (pd_fg (pd_name 0)) (pd_name 2)) pd_non (nomark _))) (fun _ _ _ _ _ => (pd_ix ix_tup sr_ixT (pd_fg (pd_name 0)) (pd_name 2))))) pda_nil)))), fun ds M Q hl h => ?_⟩)
  obtain ⟨d, m, ws, g, rfl, hd, hw, hg, hm, q⟩ := h
  have hsl : sizeLine = 16777216 := by decide
  have hgl := asc_len hg
  refine ⟨_, rfl, dI g, rfl, lc_fmap (at0 ws) _ _ (fun e he R S hR hS => ?_) (by rw [List.length_nil, List.length_map]; omega) ?_⟩
  · obtain ⟨i, hi, rfl⟩ := List.mem_map.mp he
    obtain ⟨i0, i1⟩ := hg.2 i hi
    obtain ⟨h1, h2⟩ := hw.at i0 i1
    refine ⟨_, rfl, ?_⟩
    dsimp only
    rw [hd]
    refine ⟨_, rfl, _, i, _, rfl, rfl, ⟨i0, h1⟩, rfl, true, rfl, ?_⟩
    refine iff1 ⟨_, rfl, ?_⟩
    dsimp only
    rw [hd]
    exact ⟨_, rfl, _, i, _, rfl, rfl, ⟨i0, h1⟩, hR _ rfl⟩
  have e1 : ∀ L : List Int, (dI L).filterMap (at0 ws) = dI (L.map fun i => ws.getD i.toNat 0) := fun L => by
    induction L with
    | nil => rfl
    | cons x L ih => show D.int _ :: List.filterMap (at0 ws) (dI L) = _; rw [ih]; rfl
  rw [List.nil_append, e1]
  refine ⟨_, rfl, by rw [List.length_map]; omega, fun ms ha hmm => ⟨_, _, rfl, .inl rfl, ?_⟩⟩
  have e2 : ms = imS ws g := asc_same ha (imS_asc ws g) fun k => by
    rw [hmm, imS_mem fun i hi => (hw.at (hg.2 i hi).1 (hg.2 i hi).2).2]
  rw [e2]
  exact q
/-- what is told of a fatal group on the machines -/
def trip (ws : List Int) (b : List Int × Rw) : D := .tup [.int (imS ws b.1).length, tI (imS ws b.1), barD b]
theorem lt_trip {ws : List Int} {b c : List Int × Rw} (h : PySem.W.dataLt (toP (trip ws c)) (toP (trip ws b)) = false) : (imS ws b.1).length ≤ (imS ws c.1).length := by
  refine Classical.byContradiction fun hc => ?_
  have hlt : ((imS ws c.1).length : Int) < (imS ws b.1).length := by omega
  have e : PySem.W.dataLt (toP (trip ws c)) (toP (trip ws b)) = PyProof.Rows.lexLt PyProof.Rows.itemOrd (PySem.W.keyToksAll (.int (imS ws c.1).length :: [toP (tI (imS ws c.1)), toP (barD c)])) (PySem.W.keyToksAll (.int (imS ws b.1).length :: [toP (tI (imS ws b.1)), toP (barD b)])) := PySem.W.dataLt_tuple _ _
  rw [e, PySem.W.dataLt_cons rfl] at h
  have e2 : PyData.eqv (.int ((imS ws c.1).length : Nat)) (.int ((imS ws b.1).length : Nat)) = false := by
    show decide _ = false
    exact decide_eq_false (by omega)
  rw [e2, if_neg Bool.false_ne_true, PySem.W.dataLt_int, decide_eq_true hlt] at h
  cases h
theorem depth_le : ∀ (L : List PyData) (k : Nat), (∀ x ∈ L, x.depth ≤ k) → PyData.depthAll L ≤ k
  | [], _, _ => Nat.zero_le _
  | x :: L, k, h => by
    have ih := depth_le L k fun y hy => h y (List.mem_cons_of_mem _ hy)
    have := h x List.mem_cons_self
    show max x.depth (PyData.depthAll L) ≤ k
    omega
theorem depth_tI (x : List Int) : (toP (tI x)).depth ≤ 1 := by
  show PyData.depthAll (toPA (dI x)) + 1 ≤ 1
  rw [depth_ints]; decide
theorem depth_tfz (x : List Int) : (toP (.tfz x)).depth ≤ 1 := by
  rw [show toP (.tfz x) = toP (tI x) from (toP_fg (.tfz x)).symm]; exact depth_tI x
theorem trip_ok (ws : List Int) {bars : List (List Int × Rw)} (h : bars ≠ []) : MinOk (bars.map (trip ws)) := by
  have hA : ∀ x y : List Int, PySem.W.alike (toP (tI x)) (toP (tI y)) = true := fun x y => by
    show PySem.W.alikeAll (toPA (dI x)) (toPA (dI y)) = true
    rw [toPA_ints, toPA_ints]; exact Pd.alike_ints x y
  have hF : ∀ x y : List Int, PySem.W.alike (toP (.tfz x)) (toP (.tfz y)) = true := fun x y => by
    rw [show toP (.tfz x) = toP (tI x) from (toP_fg (.tfz x)).symm, show toP (.tfz y) = toP (tI y) from (toP_fg (.tfz y)).symm]; exact hA x y
  have hal : ∀ b c, PySem.W.alike (toP (trip ws b)) (toP (trip ws c)) = true := fun b c => by
    show (true && (PySem.W.alike (toP (tI (imS ws b.1))) (toP (tI (imS ws c.1))) && ((PySem.W.alike (toP (tI b.1)) (toP (tI c.1)) && (PySem.W.alike (toP (.tfz b.2)) (toP (.tfz c.2)) && true)) && true))) = true
    rw [hA, hA, hF]; rfl
  refine ⟨fun e => h (List.map_eq_nil_iff.mp e), ?_, ⟨fun x hx y hy => ?_, fun x hx => ?_⟩, ?_⟩
  · induction bars with
    | nil => rfl
    | cons b r ih =>
      have e1 : plainA (dI (imS ws b.1)) = true := plain_ints _
      have e2 : plainA (dI b.1) = true := plain_ints _
      cases r with
      | nil => show ((true && (plainA (dI (imS ws b.1)) && ((plainA (dI b.1) && (true && true)) && true))) && true) = true; rw [e1, e2]; rfl
      | cons c r =>
        have ih' := ih (by simp)
        show ((true && (plainA (dI (imS ws b.1)) && ((plainA (dI b.1) && (true && true)) && true))) && plainA ((c :: r).map (trip ws))) = true
        rw [e1, e2, ih']; rfl
  · rw [toPA_map, List.map_map] at hx hy
    obtain ⟨b, _, rfl⟩ := List.mem_map.mp hx
    obtain ⟨c, _, rfl⟩ := List.mem_map.mp hy
    exact hal b c
  · rw [toPA_map, List.map_map] at hx
    obtain ⟨b, _, rfl⟩ := List.mem_map.mp hx
    intro e
    cases e
  · refine depth_le _ _ fun x hx => ?_
    rw [toPA_map, List.map_map] at hx
    obtain ⟨b, _, rfl⟩ := List.mem_map.mp hx
    show PyData.depthAll [PyData.int _, toP (tI (imS ws b.1)), .tuple [toP (tI b.1), toP (.tfz b.2)]] + 1 ≤ 60
    have d1 := depth_tI (imS ws b.1)
    have d2 := depth_tI b.1
    have d3 := depth_tfz b.2
    have := depth_le [PyData.int ((imS ws b.1).length : Nat), toP (tI (imS ws b.1)), .tuple [toP (tI b.1), toP (.tfz b.2)]] 5 fun x hx => by
      rcases List.mem_cons.mp hx with rfl | hx
      · show 0 ≤ 5; decide
      · rcases List.mem_cons.mp hx with rfl | hx
        · omega
        · rw [List.mem_singleton.mp hx]
          show PyData.depthAll [toP (tI b.1), toP (.tfz b.2)] + 1 ≤ 5
          have := depth_le [toP (tI b.1), toP (.tfz b.2)] 1 fun x hx => by
            rcases List.mem_cons.mp hx with rfl | hx
            · exact d2
            · rw [List.mem_singleton.mp hx]; exact d3
          omega
    omega
end
end K36
set_option Elab.async false
set_option linter.all false
set_option maxRecDepth 100000
set_option maxHeartbeats 4000000
namespace K36
open PySem PySem.Spec PyProof.Rows L2 Pd Spc
def plD (C : Addr) (m : Int) (ws : List Int) : D := .ins C [("_machines", .int m), ("_where", .tup (dI ws))]
def imK (ws : List Int) : D → D | .tup [g, _] => tI (imS ws (intsOf g)) | d => d
def lenP : D → D | .tup [.tup ms, b] => .tup [.int (ms.length : Nat), .tup ms, b] | d => d
theorem apPl (k : Nat) (m : Int) (ws : List Int) : apartF k [("_machines", .int m), ("_where", .tup (dI ws))] = true := by
  show (true && (apartA k (dI ws) && true)) = true
  rw [apartA_ints]; rfl
section
variable {P : Program} {w : World} {K : PySem.W.Frag} {mg : Str → Option Value} {base : Heap}
def W_weak : DC := fun ds M Q => ∃ (bars : List (List Int × Rw)) (d : D) (m : Nat) (ws : List Int), ds = [.lst (bars.map barD), d] ∧ fgD d = .tup (dI ws) ∧ Whr m ws ∧ m ≤ 6 ∧ (∀ b ∈ bars, AscBelow m b.1) ∧ bars ≠ [] ∧ bars.length ≤ 64 ∧ ∀ b ∈ bars, (∀ c ∈ bars, (imS ws b.1).length ≤ (imS ws c.1).length) → Q (trip ws b) M
theorem ok_weakest (T : Tx P w K mg) : FnOk P w K mg base CX0 2 T.a_weakest T.f_weakest ["bars", "where"] (spD 2 W_weak K) := by
  refine pd_fn T.F_weakest sc_weakest (fun cdv A outer s H E hr => ⟨_, (pdss_cons (pds_setLc 2 [("pieces", 3), ("_", 4)] rfl sc_weakest.nd rfl rfl (sw_true rfl rfl rfl (by decide +kernel)) (pdi_list (pd_name 0)) (blkOk_by (N := ["bars", "where", "places", "pieces", "_", "machines", "bar"]) (sc := defScope s_weakest) (by decide +kernel)) (fun _ _ _ _ _ => (pdg_tup (n := 2) rfl (pdgs_cons (pdg_name 3 sc_weakest.nd) (pdgs_cons (pdg_name 4 sc_weakest.nd) pdgs_nil)))) (fun _ _ _ _ _ => pdts_nil) (fun _ _ _ _ _ => (pd_call (ok_machines_of T) (hr.mono (by decide)) (by rfl) T.g_machines_of T.F_machines_of.kp T.b_machines_of (pda_cons (pd_name 1) (pda_cons (pd_name 3) pda_nil)))))
      (pdss_one (pds_ret (pd_callB (cr_minD rfl hr.units) sc_minD (by rfl) T.n_min (by decide +kernel) (pda_cons (pd_lc [("machines", 5), ("bar", 6)] rfl sc_weakest.nd (pdi_zip (by rfl) T.n_zip (pda_cons (pd_name 2) (pda_cons (pd_name 0) pda_nil))) (blkOk_by (N := ["bars", "where", "places", "pieces", "_", "machines", "bar"]) (sc := defScope s_weakest) (by decide +kernel)) (fun _ _ _ _ _ => (pdg_tup (n := 2) rfl (pdgs_cons (pdg_name 5 sc_weakest.nd) (pdgs_cons (pdg_name 6 sc_weakest.nd) pdgs_nil)))) (fun _ _ _ _ _ => pdts_nil) (fun _ _ _ _ _ => (pd_tup (pda_cons (pd_callB call_len_seq sc_len (by rfl) T.n_len (by decide +kernel) (pda_cons (pd_name 5) pda_nil)) (pda_cons (pd_name 5) (pda_cons (pd_name 6) pda_nil)))))) pda_nil))))), fun ds M Q hl h => ?_⟩)
  obtain ⟨bars, d, m, ws, rfl, hd, hw, hm, hb, hne, hl64, q⟩ := h
  have hsl : sizeLine = 16777216 := by decide
  refine ⟨_, rfl, _, rfl, lc_map (imK ws) _ _ (fun e he R hR => ?_) (by rw [List.length_nil, List.length_map]; omega) ?_⟩
  · obtain ⟨b, hbm, rfl⟩ := List.mem_map.mp he
    have hR' : R (tI (imS ws (intsOf (tI b.1)))) M := hR
    rw [ints_tI] at hR'
    exact ⟨_, rfl, rfl, _, _, rfl, _, _, rfl, rfl, _, rfl, _, rfl, rfl, d, m, ws, b.1, rfl, hd, hw, hb b hbm, hm, hR'⟩
  have e1 : ([] : List D) ++ (bars.map barD).map (imK ws) = bars.map fun b => tI (imS ws b.1) := by
    rw [List.nil_append, List.map_map]
    exact List.map_congr_left fun b _ => by show tI (imS ws (intsOf (tI b.1))) = _; rw [ints_tI]
  rw [e1]
  refine ⟨_, rfl, _, rfl, _, _, bars.map (fun b => tI (imS ws b.1)), bars.map barD, rfl, .inl rfl, .inl rfl, ?_⟩
  rw [pairs_of]
  refine lc_map lenP _ _ (fun e he R hR => ?_) (by rw [List.length_nil, List.length_map]; omega) ?_
  · obtain ⟨b, hbm, rfl⟩ := List.mem_map.mp he
    refine ⟨_, rfl, rfl, _, _, rfl, _, _, rfl, rfl, ?_⟩
    exact ⟨_, rfl, dI (imS ws b.1), .inr rfl, _, rfl, _, rfl, (by show 3 ≤ sizeLine; rw [hsl]; decide), hR⟩
  have e2 : ([] : List D) ++ (bars.map fun b => D.tup [tI (imS ws b.1), barD b]).map lenP = bars.map (trip ws) := by
    rw [List.nil_append, List.map_map]
    refine List.map_congr_left fun b _ => ?_
    show D.tup [.int ((dI (imS ws b.1)).length : Nat), _, _] = _
    rw [List.length_map]; rfl
  rw [e2]
  refine ⟨bars.map (trip ws), rfl, trip_ok ws hne, fun e he hmin => ?_⟩
  obtain ⟨b, hbm, rfl⟩ := List.mem_map.mp he
  exact q b hbm fun c hc => lt_trip (hmin _ (List.mem_map_of_mem hc))
def W_power : DC := fun ds M Q => ∃ a b : Nat, ds = [.int a, .int b] ∧ a ≤ 6 ∧ b ≤ 6 ∧ Q (.int ((a ^ b : Nat) : Int)) M
theorem ok_power (T : Tx P w K mg) : FnOk P w K mg base CX0 1 T.a_power T.f_power ["number", "times"] (spD 2 W_power K) := by
  refine pd_fn T.F_power sc_power (fun cdv A outer s H E hr => ⟨_, (pdss_cons (pds_set 2 sc_power.nd pd_int)
      (pdss_cons (pds_for PassesOwn.never rfl (pdi_range1 (by rfl) T.n_range (pda_cons (pd_name 1) pda_nil)) (pdg_name 3 sc_power.nd) (pdss_one (pds_set 2 sc_power.nd (pd_op op_mul sr_I (pd_name 2) (pd_name 0)))))
      (pdss_one (pds_ret (pd_name 2))))), fun ds M Q hl h => ?_⟩)
  obtain ⟨a, b, rfl, ha, hb, q⟩ := h
  have hp : ∀ k, k ≤ 6 → a ^ k ≤ 46656 := fun k hk => Nat.le_trans (Nat.pow_le_pow_left ha k) (Nat.le_trans (Nat.pow_le_pow_right (by decide) hk) (by decide))
  refine ⟨_, rfl, b, rfl, by omega, by omega, for_ind (fun k ρ M' => M' = M ∧ ∃ x3, ρ = [some (.int a), some (.int b), some (.int ((a ^ k : Nat) : Int)), x3]) _ ?_ ?_ ⟨rfl, none, rfl⟩⟩
  · rintro k d ρ M' N hd ⟨rfl, x3, rfl⟩ hN
    have hk : k < b := by have := (List.getElem?_eq_some_iff.mp hd).1; rwa [rng_len, Int.toNat_natCast] at this
    have h1 := hp k (by omega)
    refine ⟨_, rfl, _, rfl, _, _, rfl, rfl, .inl ⟨by omega, by omega⟩, hN _ _ ⟨rfl, some d, ?_⟩⟩
    rw [Nat.pow_succ, Int.natCast_mul]; rfl
  · rintro ρ M' ⟨rfl, x3, rfl⟩
    rw [rng_len, Int.toNat_natCast]
    exact ⟨_, rfl, q⟩
def W_pinit (C : Addr) : DC := fun ds M Q => ∃ (j : Nat) (m : Int) (d : D) (ws : List Int), ds = [.mu j, .int m, d] ∧ M[j]? = some (.ins C []) ∧ 1 ≤ m ∧ m ≤ 6 ∧ isSeq d (dI ws) ∧ 1 ≤ ws.length ∧ ws.length ≤ 6 ∧ (∀ x ∈ ws, 0 ≤ x ∧ x < m) ∧ Q .non (M.set j (.ins C [("_machines", .int m), ("_where", .tup (dI ws))]))
theorem ok_Placing_init (T : Tx P w K mg) : FnOk P w K mg base CX0 4 T.a_Placing_init T.f_Placing_init ["self", "machines", "where"] (spD 3 (W_pinit T.a_Placing) K) := by
  refine pd_fn T.F_Placing_init sc_Placing_init (fun cdv A outer s H E hr => ⟨_, (pdss_cons (pds_if (pdt_not (pdt_val (pd_call (ok_is_between T) (hr.mono (by decide)) (by rfl) T.g_is_between T.F_is_between.kp T.b_is_between (pda_cons (pd_name 1) (pda_cons pd_int (pda_cons (pd_glob (v := .int 6) (d := .int 6) (by rfl) T.g_MOST_MACHINES ⟨_, rfl⟩ (fun _ _ => .int _)) pda_nil)))))) (pdss_one pds_never) pdss_nil)
      (pdss_cons (pds_if (pdt_not (pdt_val (pd_call (ok_has_items T) (hr.mono (by decide)) (by rfl) T.g_has_items T.F_has_items.kp T.b_has_items (pda_cons (pd_name 2) (pda_cons pd_int (pda_cons (pd_glob (v := .int 6) (d := .int 6) (by rfl) T.g_MOST_PIECES ⟨_, rfl⟩ (fun _ _ => .int _)) pda_nil)))))) (pdss_one pds_never) pdss_nil)
      (pdss_cons (pds_if (pdt_not (pdt_val (pd_call (ok_all_between T) (hr.mono (by decide)) (by rfl) T.g_all_between T.F_all_between.kp T.b_all_between (pda_cons (pd_lc [("machine", 3)] rfl sc_Placing_init.nd (pdi_seq (pd_name 2)) (blkOk_by (N := ["self", "machines", "where", "machine"]) (sc := defScope s_Placing_init) (by decide +kernel)) (fun _ _ _ _ _ => (pdg_name 3 sc_Placing_init.nd)) (fun _ _ _ _ _ => pdts_one (pdt_cmp op_not0 sr_not0 (pd_name 3) pd_non (nomark _))) (fun _ _ _ _ _ => (pd_name 3))) (pda_cons pd_int (pda_cons (pd_op op_sub sr_I0i (pd_name 1) pd_int) pda_nil)))))) (pdss_one pds_never) pdss_nil)
      (pdss_cons (pds_fldM (pd_name 1) (pd_name 0))
      (pdss_one (pds_fldM (pd_callTy call_tuple_of sc_tuple (by rfl) T.n_tuple (by decide +kernel) (pda_cons (pd_name 2) pda_nil)) (pd_name 0))))))), fun ds M Q hl h => ?_⟩)
  obtain ⟨j, m, d, ws, rfl, hj, m1, m6, hd, l1, l6, hx, q⟩ := h
  have hsl : sizeLine = 16777216 := by decide
  have hjl : j < M.length := (List.getElem?_eq_some_iff.mp hj).1
  refine ⟨_, rfl, rfl, .int m, "int", 1, 6, rfl, rfl, fun i e => ?_, fun e => by cases e⟩
  cases e
  refine ⟨true, by rw [decide_eq_true m1, decide_eq_true m6]; rfl, ?_⟩
  refine iff0 ⟨d, rfl, rfl, d, dI ws, 1, 6, rfl, hd, true, by rw [List.length_map, decide_eq_true (by omega), decide_eq_true (by omega)]; rfl, ?_⟩
  refine iff0 ⟨d, rfl, dI ws, hd, lc_fmap some _ _ (fun e he R S hR hS => ?_) (by rw [List.length_nil, List.length_map]; omega) ?_⟩
  · obtain ⟨i, hi, rfl⟩ := List.mem_map.mp he
    exact ⟨_, rfl, rfl, true, rfl, _, rfl, hR _ rfl⟩
  rw [List.nil_append, List.filterMap_some]
  refine ⟨_, rfl, m, 1, rfl, rfl, rfl, _, ws, 0, m - 1, rfl, .inl rfl, by omega, true, ?_, ?_⟩
  · refine congrArg D.bl (List.all_eq_true.mpr fun x hx' => ?_)
    have := hx x hx'
    rw [decide_eq_true this.1, decide_eq_true (by omega)]; rfl
  refine iff0 ⟨.int m, rfl, .mu j, rfl, j, T.a_Placing, [], rfl, hj, T.c_Placing.cl, T.np_machines, by decide, ?_⟩
  refine ⟨d, rfl, d, dI ws, rfl, hd, .mu j, rfl, j, T.a_Placing, _, rfl, List.getElem?_set_self hjl, T.c_Placing.cl, T.np_where, (by show 1 < 1000; decide), ?_⟩
  show Q .non _
  rw [List.set_set]
  exact q
end
end K36
set_option Elab.async false
set_option linter.all false
set_option maxRecDepth 100000
set_option maxHeartbeats 4000000
namespace K36
open PySem PySem.Spec PyProof.Rows L2 Pd Spc
def tyF : Nat → List Int → D | 0, xs => tI xs | _ + 1, xs => .tfz xs
theorem fg_tyF (k : Nat) (xs : List Int) : fgD (tyF k xs) = .tup (dI xs) := by cases k <;> rfl
section
variable {P : Program} {w : World} {K : PySem.W.Frag} {mg : Str → Option Value} {base : Heap}
def W_all_tuplesF : DC := fun ds M Q => ∃ (p n : Nat), ds = [.int p, .int n] ∧ 1 ≤ p ∧ p ≤ 7 ∧ 1 ≤ n ∧ n ≤ 6 ∧ p ^ n ≤ 4096 ∧ Q (.lst ((tups p n).map D.tfz)) M
theorem ok_all_tuplesF (T : Tx P w K mg) : FnOk P w K mg base CX0 1 T.a_all_tuples T.f_all_tuples ["limit", "many"] (spD 2 W_all_tuplesF K) := by
  refine pd_fn T.F_all_tuples sc_all_tuples (fun cdv A outer s H E hr => ⟨_, (pdss_cons (pds_set 2 sc_all_tuples.nd (pd_lst (pda_cons (pd_tup pda_nil) pda_nil)))
      (pdss_cons (pds_for PassesOwn.never rfl (pdi_range1 (by rfl) T.n_range (pda_cons (pd_name 1) pda_nil)) (pdg_name 3 sc_all_tuples.nd) (pdss_one (pds_setLc2 2 [("row", 4), ("value", 5)] [5] rfl sc_all_tuples.nd rfl rfl (sw_true rfl rfl rfl (by decide +kernel)) (pdi_list (pd_name 2)) (blkOk_by (N := ["limit", "many", "rows", "_", "row", "value"]) (sc := defScope s_all_tuples) (by decide +kernel)) (fun _ _ _ _ _ => (pdg_name 4 sc_all_tuples.nd)) (fun _ _ _ _ _ => pdts_nil) (fun _ _ _ _ _ => (pdi_range1 (by rfl) T.n_range (pda_cons (pd_name 0) pda_nil))) (fun _ _ _ _ _ => (pdg_name 5 sc_all_tuples.nd)) (fun _ _ _ _ _ => pdts_nil) (fun _ _ _ _ _ => (pd_tupF (pda_star (pd_fg (pd_name 4)) (pda_cons (pd_name 5) pda_nil)))))))
      (pdss_one (pds_ret (pd_name 2))))), fun ds M Q hl h => ?_⟩)
  obtain ⟨p, n, rfl, hp, hp7, hn1, hn, hpn, q⟩ := h
  have hs : sizeLine = 16777216 := by decide
  refine ⟨by decide, by decide, .int n, rfl, n, rfl, by omega, by omega, ?_⟩
  refine for_ind (fun i ρ M' => M' = M ∧ ∃ x3 x4 x5, ρ = [some (.int p), some (.int n), some (.lst ((tups p i).map (tyF i))), x3, x4, x5]) _ ?_ ?_ ⟨rfl, none, none, none, rfl⟩
  · rintro i d ρ M' N hd ⟨rfl, x3, x4, x5, rfl⟩ hN
    have hi : i < n := by
      have := (List.getElem?_eq_some_iff.mp hd).1
      rw [rng_len, Int.toNat_natCast] at this
      exact this
    have hpi : p ^ (i + 1) ≤ 4096 := Nat.le_trans (Nat.pow_le_pow_right (by omega) hi) hpn
    let f : D → List D := fun d => (List.range p).map fun (v : Nat) => .tfz (intsOf (fgD d) ++ [(v : Int)])
    have hfx : ∀ xs, f (tyF i xs) = (List.range p).map fun (v : Nat) => .tfz (xs ++ [(v : Int)]) := fun xs => by
      show (List.range p).map (fun (v : Nat) => D.tfz (intsOf (fgD (tyF i xs)) ++ [(v : Int)])) = _
      rw [fg_tyF, show intsOf (.tup (dI xs)) = xs from ints_tI xs]
    have hf : ((tups p i).map (tyF i)).flatMap f = (tups p (i + 1)).map (tyF (i + 1)) := by
      show _ = List.map (tyF (i + 1)) ((tups p i).flatMap _)
      rw [List.flatMap_map, List.map_flatMap]
      congr 1
      funext xs
      rw [hfx, List.map_map]; rfl
    have hlen : ((tups p (i + 1)).map (tyF (i + 1))).length ≤ 4096 := by rw [List.length_map, tups_len]; exact hpi
    refine ⟨_, rfl, _, rfl, lc2_map f _ _ (fun d2 hd2 acc k hz hk => ?_) ?_ ?_⟩
    · obtain ⟨xs, hxs, rfl⟩ := List.mem_map.mp hd2
      have hxl := (tups_row p i xs hxs).1
      refine ⟨.int p, rfl, p, rfl, by omega, by omega, lcIn_map (fun e => match e with | .int v => .tfz (xs ++ [v]) | e => e) _ _ (fun e he R hR => ?_) ?_ ?_⟩
      · obtain ⟨v, _, rfl⟩ := List.mem_map.mp he
        refine ⟨_, rfl, ?_⟩
        dsimp only
        rw [fg_tyF]
        refine ⟨dI xs, .inr rfl, _, rfl, xs ++ [0 + (v : Int)], ?_, ?_, hR⟩
        · show _ = List.map D.int _
          rw [List.map_append]; rfl
        · rw [List.length_append, List.length_map, hxl]
          show i + 1 ≤ sizeLine
          omega
      · have e : (f (tyF i xs)).length = p := by rw [hfx, List.length_map, List.length_range]
        rw [rng_len, Int.toNat_natCast]
        rw [e] at hz
        exact hz
      · have e : (rng 0 (p : Int).toNat).map (fun e => match e with | .int v => D.tfz (xs ++ [v]) | e => e) = f (tyF i xs) := by
          rw [hfx]
          unfold rng
          rw [Int.toNat_natCast, List.map_map]
          congr 1
          funext v
          show D.tfz _ = D.tfz _
          rw [Int.zero_add]
        rw [e]
        exact hk
    · rw [hf, List.length_nil, Nat.zero_add, hs]
      omega
    · rw [List.nil_append, hf]
      exact hN _ _ ⟨rfl, _, _, _, rfl⟩
  · rintro ρ M' ⟨rfl, x3, x4, x5, rfl⟩
    rw [rng_len, Int.toNat_natCast]
    obtain ⟨k, rfl⟩ : ∃ k, n = k + 1 := ⟨n - 1, by omega⟩
    exact ⟨_, rfl, q⟩
/-- a row in which each machine stands once -/
def cntK (ws : List Int) : D → D | .int x => .int (ws.countP fun y => decide (y = x) : Nat) | d => d
end
end K36
set_option Elab.async false
set_option linter.all false
set_option maxRecDepth 100000
set_option maxHeartbeats 4000000
namespace K36
open PySem PySem.Spec PyProof.Rows L2 Pd Spc
def ent (t : List Int × (List Int × Rw)) : D := .tup [.tfz t.1, trip t.1 t.2]
def w0K : D → D | .tup [_, .tup [a, _, _]] => a | d => d
end K36
set_option Elab.async false
set_option linter.all false
set_option maxRecDepth 100000
set_option maxHeartbeats 4000000
namespace K36
open PySem PySem.Spec PyProof.Rows L2 Pd Spc
def fits (l : Int) (ws : List Int) : Bool := ws.all fun x => decide (((ws.countP fun y => decide (y = x) : Nat) : Int) ≤ l)
theorem cnt_fits {ws : List Int} {m l : Int} (h1 : m ∈ ws.map fun x => ((ws.countP fun y => decide (y = x) : Nat) : Int)) (h2 : ∀ y ∈ ws.map fun x => ((ws.countP fun y => decide (y = x) : Nat) : Int), y ≤ m) : decide (m ≤ l) = fits l ws := by
  rw [Bool.eq_iff_iff, decide_eq_true_eq]
  unfold fits
  rw [List.all_eq_true]
  constructor
  · intro h x hx
    have := h2 _ (List.mem_map_of_mem hx)
    exact decide_eq_true (by omega)
  · intro h
    obtain ⟨x, hx, rfl⟩ := List.mem_map.mp h1
    exact of_decide_eq_true (h x hx)
def fitK (l : Int) : D → Option D | .tfz ws => if fits l ws = true then some (.tfz ws) else none | _ => none
theorem fit_eq (l : Int) : ∀ L : List (List Int), (L.map D.tfz).filterMap (fitK l) = (L.filter (fits l)).map D.tfz
  | [] => rfl
  | x :: L => by
    have ih := fit_eq l L
    rw [List.map_cons]
    by_cases c : fits l x = true
    · rw [List.filterMap_cons_some (show fitK l (.tfz x) = some (.tfz x) from if_pos c), ih, List.filter_cons_of_pos c]; rfl
    · rw [List.filterMap_cons_none (show fitK l (.tfz x) = none from if_neg c), ih, List.filter_cons_of_neg c]
/-- the fewest machines of a bar -/
def mnB (bars : List (List Int × Rw)) (ws : List Int) : Nat → Prop := fun k => (∃ b ∈ bars, (imS ws b.1).length = k) ∧ ∀ b ∈ bars, k ≤ (imS ws b.1).length
section
variable {P : Program} {w : World} {K : PySem.W.Frag} {mg : Str → Option Value} {base : Heap}
def W_roomyG (S TC : Addr) : DC := fun ds M Q => ∃ (p : Int) (n m : Nat) (l : Int) (rows : List (List (List Int))), ds = [dTab S TC p n rows, .int m, .int l] ∧ 1 ≤ m ∧ m ≤ 6 ∧ 1 ≤ rows.length ∧ rows.length ≤ 6 ∧ m ^ rows.length ≤ 4096 ∧ Q (.lst (((tups m rows.length).filter (fits l)).map D.tfz)) M
theorem ok_roomyG (T : Tx P w K mg) : FnOk P w K mg base CX0 4 T.a_roomy_placings T.f_roomy_placings ["table", "machines", "limit"] (spD 3 (W_roomyG T.a_Sum T.a_Table) K) := by
  refine pd_fn T.F_roomy_placings sc_roomy_placings (fun cdv A outer s H E hr => ⟨_, (pdss_cons (pds_set 3 sc_roomy_placings.nd (pd_call (ok_all_tuplesF T) (hr.mono (by decide)) (by rfl) T.g_all_tuples T.F_all_tuples.kp T.b_all_tuples (pda_cons (pd_name 1) (pda_cons (pd_callB (call_ownLen T.ln_Table T.lf_Table (ok_Table_len T) T.b_Table_len (hr.mono (by decide))) sc_ownLen (by rfl) T.n_len (by decide +kernel) (pda_cons (pd_name 0) pda_nil)) pda_nil))))
      (pdss_one (pds_ret (pd_lc [("where", 4)] rfl sc_roomy_placings.nd (pdi_list (pd_name 3)) (blkOk_by (N := ["table", "machines", "limit", "rows", "where", "machine"]) (sc := defScope s_roomy_placings) (by decide +kernel)) (fun _ _ _ _ _ => (pdg_name 4 sc_roomy_placings.nd)) (fun _ _ _ _ _ => pdts_one (pdt_cmp op_le sr_I0b (pd_callB (cr_maxS rfl hr.units) sc_maxS (by rfl) T.n_max (by decide +kernel) (pda_cons (pd_lc [("machine", 5)] rfl sc_roomy_placings.nd (pdi_tup (pd_fg (pd_name 4))) (blkOk_by (by kernel_rfl)) (fun _ _ _ _ _ => (pdg_name 5 sc_roomy_placings.nd)) (fun _ _ _ _ _ => pdts_nil) (fun _ _ _ _ _ => (pd_tcnt hr.units (pd_name 4) (pd_name 5)))) pda_nil)) (pd_name 2) (nomark _))) (fun _ _ _ _ _ => (pd_name 4)))))), fun ds M Q hl h => ?_⟩)
  obtain ⟨p, n, m, l, rows, rfl, m2, m6, h1, h6, hpw, q⟩ := h
  have hs : sizeLine = 16777216 := by decide
  have htl := tups_len m rows.length
  refine ⟨_, rfl, _, rfl, _, rfl, p, n, rows, rfl, _, rfl, ⟨by omega, by omega⟩, rfl, m, rows.length, rfl, m2, by omega, h1, h6, hpw, ?_⟩
  refine ⟨_, rfl, _, rfl, lc_fmap (fitK l) _ _ (fun e he R S hR hS => ?_) (by rw [List.length_nil, List.length_map]; omega) ?_⟩
  · obtain ⟨ws, hws, rfl⟩ := List.mem_map.mp he
    have hwl := (tups_row _ _ ws hws).1
    refine ⟨_, rfl, dI ws, rfl, lc_map (cntK ws) _ _ (fun e he R2 hR2 => ?_) (by rw [List.length_nil, List.length_map]; omega) ?_⟩
    · obtain ⟨i, hi, rfl⟩ := List.mem_map.mp he
      exact ⟨_, rfl, ws, rfl, _, rfl, i, rfl, hR2⟩
    have e1 : ([] : List D) ++ (dI ws).map (cntK ws) = dI (ws.map fun x => ((ws.countP fun y => decide (y = x) : Nat) : Int)) := by
      rw [List.nil_append]
      show List.map _ (List.map _ _) = List.map D.int (List.map _ _)
      rw [List.map_map, List.map_map]; rfl
    rw [e1]
    refine ⟨_, _, rfl, .inl rfl, fun e => ?_, fun mo k1 k2 => ?_⟩
    · have := congrArg List.length e
      rw [List.length_map] at this
      simp only [List.length_nil] at this
      omega
    · refine ⟨_, rfl, mo, l, rfl, rfl, _, rfl, ?_⟩
      have hR' : ∀ y, (if fits l ws = true then some (D.tfz ws) else none) = some y → R y M := hR
      have hS' : (if fits l ws = true then some (D.tfz ws) else none) = none → S M := hS
      rw [cnt_fits k1 k2]
      cases hc : fits l ws with
      | true => rw [hc] at hR'; exact ⟨_, rfl, hR' _ rfl⟩
      | false => rw [hc] at hS'; exact hS' rfl
  · rw [List.nil_append, fit_eq]
    exact q
def selK (mo : Int) : D → Option D | .tup [d, .tup [.int a, _, _]] => if decide (a = mo) = true then some d else none | _ => none
def imN (t : List Int × (List Int × Rw)) : Int := ((imS t.1 t.2.1).length : Nat)
theorem sel_allG (mo : Int) : ∀ its : List (List Int × (List Int × Rw)), (its.map ent).filterMap (selK mo) = (its.filter fun t => decide (imN t = mo)).map fun t => D.tfz t.1
  | [] => rfl
  | t :: its => by
    have ih := sel_allG mo its
    have e : selK mo (ent t) = if decide (imN t = mo) = true then some (.tfz t.1) else none := rfl
    rw [List.map_cons]
    by_cases c : decide (imN t = mo) = true
    · rw [List.filterMap_cons_some (e.trans (if_pos c)), ih, List.filter_cons_of_pos (p := fun t => decide (imN t = mo)) c]; rfl
    · rw [List.filterMap_cons_none (e.trans (if_neg c)), ih, List.filter_cons_of_neg (p := fun t => decide (imN t = mo)) c]
/-- what best_placing tells -/
structure Best (bars : List (List Int × Rw)) (L : List (List Int)) (s : Int) (ws0 : List Int) (cs : List (List Int × Rw)) : Prop where
  fst : ∃ pre suf, L = pre ++ ws0 :: suf ∧ ∀ ws ∈ pre, ∃ k, mnB bars ws k ∧ (k : Int) < s
  att : ∃ k, mnB bars ws0 k ∧ (k : Int) = s
  top : ∀ ws ∈ L, ∃ k, mnB bars ws k ∧ (k : Int) ≤ s
  inb : ∀ c ∈ cs, c ∈ bars
  bar : ∀ ws ∈ L, ∃ c ∈ cs, ((imS ws c.1).length : Int) ≤ s
end
end K36
set_option Elab.async false
set_option linter.all false
set_option maxRecDepth 100000
set_option maxHeartbeats 4000000
namespace K36
open PySem PySem.Spec PyProof.Rows L2 Pd Spc
theorem btw_call {d : D} {t : String} {lo hi : Int} {M : Ms} {Q : D → Ms → Prop} (ht : tyN d = some t) (q : Q (.bl (btwB lo hi d)) M) : W_is_between [d, .int lo, .int hi] M Q :=
  ⟨d, t, lo, hi, rfl, ht, fun i e => by subst e; exact q, fun z => by cases d <;> first | exact q | cases z⟩
theorem btw_16 {d : D} (h : btwB 1 6 d = true) : ∃ m : Nat, d = .int m ∧ 1 ≤ m ∧ m ≤ 6 := by
  cases d <;> first | cases h | skip
  rename_i i
  have := Bool.and_eq_true_iff.mp h
  have h1 := of_decide_eq_true this.1
  have h2 := of_decide_eq_true this.2
  exact ⟨i.toNat, by rw [Int.toNat_of_nonneg (by omega)], by omega, by omega⟩
/-- a number of machines and a limit, refused or not -/
def CntC (EN : Addr) (d e : D) (Xd : XD) (M : Ms) (R : Prop) : Prop := (btwB 1 6 d = false → Xd EN [("value", d)] M) ∧ (btwB 1 6 d = true → (btwB 1 6 e = false → Xd EN [("value", e)] M) ∧ (btwB 1 6 e = true → R))
/-- room, or not -/
def RoomC (EL ET : Addr) (p : Int) (n m l : Nat) (rows : List (List (List Int))) (Xd : XD) (M : Ms) (R : Prop) : Prop :=
  (m * l < rows.length → Xd EL [("limit", .int l)] M) ∧ (rows.length ≤ m * l →
    (((red p rows.flatten).length : Int) ≠ n → (∃ d ∈ zs p n (red p rows.flatten), d ≠ zero n) ∧ ∀ d ∈ zrows p n (red p rows.flatten), Xd ET [("blind", tI d)] M) ∧
    (((red p rows.flatten).length : Int) = n → (4096 < m ^ rows.length → Xd EL [("limit", .int 4096)] M) ∧ (m ^ rows.length ≤ 4096 → R)))
theorem RoomC.to {EL ET : Addr} {p : Int} {n m l : Nat} {rows : List (List (List Int))} {Xd Xd' : XD} {M M' : Ms} {R R' : Prop} (h : RoomC EL ET p n m l rows Xd M R) (f : ∀ C gs, Xd C gs M → Xd' C gs M') (g : R → R') : RoomC EL ET p n m l rows Xd' M' R' :=
  ⟨fun a => f _ _ (h.1 a), fun b => ⟨fun c => ⟨((h.2 b).1 c).1, fun d hd => f _ _ (((h.2 b).1 c).2 d hd)⟩, fun c => ⟨fun e => f _ _ (((h.2 b).2 c).1 e), fun e => g (((h.2 b).2 c).2 e)⟩⟩⟩
section
variable {P : Program} {w : World} {K : PySem.W.Frag} {mg : Str → Option Value} {base : Heap}
theorem ok_InvalidNumber_init (T : Tx P w K mg) : FnOk P w K mg base CX0 1 T.a_InvalidNumber_init T.f_InvalidNumber_init ["self", "value"] (spI1 "Exception.__new__" [.type "Exception", .type "BaseException", .type "object"] T.a_InvalidNumber "value" K) :=
  fn_init1 T.F_InvalidNumber_init sc_InvalidNumber_init (fun cdv A outer s H E => pss_one (ps_ostT tail_Exception (pv 0) (pv 1)))
theorem ok_LimitExceeded_init (T : Tx P w K mg) : FnOk P w K mg base CX0 1 T.a_LimitExceeded_init T.f_LimitExceeded_init ["self", "limit"] (spI1 "Exception.__new__" [.type "Exception", .type "BaseException", .type "object"] T.a_LimitExceeded "limit" K) :=
  fn_init1 T.F_LimitExceeded_init sc_LimitExceeded_init (fun cdv A outer s H E => pss_one (ps_ostT tail_Exception (pv 0) (pv 1)))
theorem ok_Lost_init (T : Tx P w K mg) : FnOk P w K mg base CX0 1 T.a_Lost_init T.f_Lost_init ["self", "blind"] (spI1 "Exception.__new__" [.type "Exception", .type "BaseException", .type "object"] T.a_Lost "blind" K) :=
  fn_init1 T.F_Lost_init sc_Lost_init (fun cdv A outer s H E => pss_one (ps_ostT tail_Exception (pv 0) (pv 1)))
def W_xcnt (EN : Addr) : DCX := fun ds M Q Xd => ∃ d e, ds = [d, e] ∧ (∃ t, tyN d = some t) ∧ (∃ t, tyN e = some t) ∧ CntC EN d e Xd M (Q .non M)
theorem ok_expect_counts (T : Tx P w K mg) : FnOk P w K mg base (L2.CX P w) 3 T.a_expect_counts T.f_expect_counts ["machines", "limit"] (spX 2 (W_xcnt T.a_InvalidNumber) K) := by
  refine pd_fnX T.F_expect_counts sc_expect_counts (fun cdv A outer s H E hr => ⟨_, (pdssx_cons (pdsx_if (pdt_not (pdt_val (pd_call (ok_is_between T) (hr.mono (by decide)) (by rfl) T.g_is_between T.F_is_between.kp T.b_is_between (pda_cons (pd_name 0) (pda_cons pd_int (pda_cons (pd_glob (v := .int 6) (d := .int 6) (by rfl) T.g_MOST_MACHINES ⟨_, rfl⟩ (fun _ _ => .int _)) pda_nil)))))) (pdssx_one (pdsx_raise tail_Exception rfl (takes_of rfl rfl rfl rfl) T.x_InvalidNumber T.i_InvalidNumber T.t_InvalidNumber T.h_InvalidNumber (ok_InvalidNumber_init T) (hr.mono (by decide)) T.b_InvalidNumber_init (by rfl) T.g_InvalidNumber (pda_cons (pd_name 0) pda_nil))) pdssx_nil)
      (pdssx_one (pdsx_if (pdt_not (pdt_val (pd_call (ok_is_between T) (hr.mono (by decide)) (by rfl) T.g_is_between T.F_is_between.kp T.b_is_between (pda_cons (pd_name 1) (pda_cons pd_int (pda_cons (pd_glob (v := .int 6) (d := .int 6) (by rfl) T.g_MOST_PIECES ⟨_, rfl⟩ (fun _ _ => .int _)) pda_nil)))))) (pdssx_one (pdsx_raise tail_Exception rfl (takes_of rfl rfl rfl rfl) T.x_InvalidNumber T.i_InvalidNumber T.t_InvalidNumber T.h_InvalidNumber (ok_InvalidNumber_init T) (hr.mono (by decide)) T.b_InvalidNumber_init (by rfl) T.g_InvalidNumber (pda_cons (pd_name 1) pda_nil))) pdssx_nil))), fun ds M Q Xd hl h => ?_⟩)
  obtain ⟨d, e, rfl, ⟨t, ht⟩, ⟨u, hu⟩, q0, q1⟩ := h
  refine ⟨d, rfl, rfl, btw_call ht ⟨btwB 1 6 d, rfl, ?_⟩⟩
  cases hb : btwB 1 6 d with
  | false => exact ⟨d, rfl, _, rfl, q0 hb⟩
  | true =>
    obtain ⟨q2, q3⟩ := q1 hb
    refine ⟨e, rfl, rfl, btw_call hu ⟨btwB 1 6 e, rfl, ?_⟩⟩
    cases hc : btwB 1 6 e with
    | false => exact ⟨e, rfl, _, rfl, q2 hc⟩
    | true => exact q3 hc
def W_xroom (S TC EL ET : Addr) : DCX := fun ds M Q Xd => ∃ (p : Int) (n m l : Nat) (SP : List (List Rw)) (rows : List (List (List Int))), ds = [dTab S TC p n rows, .int m, .int l] ∧ Univ p n SP ∧ RwOk p n rows ∧ okM M ∧ m ≤ 6 ∧ l ≤ 6 ∧ RoomC EL ET p n m l rows Xd M (Q .non M)
theorem ok_expect_room (T : Tx P w K mg) : FnOk P w K mg base (L2.CX P w) 10 T.a_expect_room T.f_expect_room ["table", "machines", "limit"] (spX 3 (W_xroom T.a_Sum T.a_Table T.a_LimitExceeded T.a_Lost) K) := by
  refine pd_fnX T.F_expect_room sc_expect_room (fun cdv A outer s H E hr => ⟨_, (pdssx_cons (pdsx_if (pdt_cmp op_lt sr_I0b (pd_op op_mul sr_I (pd_name 1) (pd_name 2)) (pd_callB (call_ownLen T.ln_Table T.lf_Table (ok_Table_len T) T.b_Table_len (hr.mono (by decide))) sc_ownLen (by rfl) T.n_len (by decide +kernel) (pda_cons (pd_name 0) pda_nil)) (nomark _)) (pdssx_one (pdsx_raise tail_Exception rfl (takes_of rfl rfl rfl rfl) T.x_LimitExceeded T.i_LimitExceeded T.t_LimitExceeded T.h_LimitExceeded (ok_LimitExceeded_init T) (hr.mono (by decide)) T.b_LimitExceeded_init (by rfl) T.g_LimitExceeded (pda_cons (pd_name 2) pda_nil))) pdssx_nil)
      (pdssx_cons (pdsx_if (pdt_not (pdt_val (pd_prop (pd_name 0) T.c_Table.cl T.pp_Table_is_whole (ok_Table_is_whole T) (hr.mono (by decide)) T.b_Table_is_whole))) (pdssx_one (pdsx_raise tail_Exception rfl (takes_of rfl rfl rfl rfl) T.x_Lost T.i_Lost T.t_Lost T.h_Lost (ok_Lost_init T) (hr.mono (by decide)) T.b_Lost_init (by rfl) T.g_Lost (pda_cons (pd_fg (pd_call (ok_blind_for T) (hr.mono (by decide)) (by rfl) T.g_blind_for T.F_blind_for.kp T.b_blind_for (pda_cons (pd_methA0 (pd_name 0) T.c_Table.cl T.me_space (ok_Table_space T) (hr.mono (by decide)) T.bd_Table_space T.bv_Table_space) (pda_cons (pd_call (ok_units_of T) (hr.mono (by decide)) (by rfl) T.g_units_of T.F_units_of.kp T.b_units_of (pda_cons (pd_name 0) pda_nil)) pda_nil)))) pda_nil))) pdssx_nil)
      (pdssx_one (pdsx_if (pdt_cmp op_gt sr_I0b (pd_call (ok_power T) (hr.mono (by decide)) (by rfl) T.g_power T.F_power.kp T.b_power (pda_cons (pd_name 1) (pda_cons (pd_callB (call_ownLen T.ln_Table T.lf_Table (ok_Table_len T) T.b_Table_len (hr.mono (by decide))) sc_ownLen (by rfl) T.n_len (by decide +kernel) (pda_cons (pd_name 0) pda_nil)) pda_nil))) (pd_glob (v := .int 4096) (d := .int 4096) (by rfl) T.g_MOST_PLACINGS ⟨_, rfl⟩ (fun _ _ => .int _)) (nomark _)) (pdssx_one (pdsx_raise tail_Exception rfl (takes_of rfl rfl rfl rfl) T.x_LimitExceeded T.i_LimitExceeded T.t_LimitExceeded T.h_LimitExceeded (ok_LimitExceeded_init T) (hr.mono (by decide)) T.b_LimitExceeded_init (by rfl) T.g_LimitExceeded (pda_cons (pd_glob (v := .int 4096) (d := .int 4096) (by rfl) T.g_MOST_PLACINGS ⟨_, rfl⟩ (fun _ _ => .int _)) pda_nil))) pdssx_nil)))), fun ds M Q Xd hl h => ?_⟩)
  obtain ⟨p, n, m, l, SP, rows, rfl, U, hw, hM, m6, l6, q1, q2⟩ := h
  have h6 := hw.l6
  have eml : ((m : Int) * (l : Int)) = ((m * l : Nat) : Int) := by rw [Int.natCast_mul]
  refine ⟨_, rfl, _, rfl, _, _, rfl, rfl, .inl ⟨by omega, by omega⟩, _, rfl, _, rfl, p, n, rows, rfl, _, rfl, ⟨by omega, by omega⟩, _, _, rfl, rfl, decide ((m : Int) * (l : Int) < (rows.length : Int)), rfl, ?_⟩
  rw [eml]
  by_cases hc : m * l < rows.length
  · rw [decide_eq_true (by omega : ((m * l : Nat) : Int) < (rows.length : Int))]
    exact iff1 ⟨_, rfl, _, rfl, q1 hc⟩
  rw [decide_eq_false (by omega : ¬ ((m * l : Nat) : Int) < (rows.length : Int))]
  obtain ⟨q3, q4⟩ := q2 (by omega)
  refine iff0 ⟨_, rfl, _, rfl, p, n, rows, rfl, decide (((red p rows.flatten).length : Int) = n), rfl, ?_⟩
  by_cases hwh : ((red p rows.flatten).length : Int) = n
  rotate_left
  · rw [decide_eq_false hwh]
    obtain ⟨he, q5⟩ := q3 hwh
    obtain ⟨hR, hzs⟩ := zs_cs U hw (cs_all rows).inn
    rw [prt_all] at hR hzs
    refine iff1 ⟨_, rfl, _, .inl rfl, rfl, _, .non, p, n, SP, rows, tsp rows, _, rfl, .inl rfl, tbl_dTab, hM, U, hw, cs_all rows, .inl ⟨rfl, rfl⟩, ?_⟩
    rw [prt_all]
    exact ⟨_, rfl, rfl, p, n, SP, rows, rfl, U, hM, rfl, p, n, SP, _, rfl, U, hR, fun d hd => ((hzs d).mp hd).1, fun z => absurd he z, fun d _ _ hz => ⟨_, rfl, q5 d hz⟩⟩
  rw [decide_eq_true hwh]
  obtain ⟨q5, q6⟩ := q4 hwh
  refine iff0 ⟨_, rfl, _, rfl, _, rfl, p, n, rows, rfl, _, rfl, ⟨by omega, by omega⟩, rfl, m, rows.length, rfl, by omega, by omega, ?_⟩
  refine ⟨_, _, rfl, rfl, decide (((m ^ rows.length : Nat) : Int) > 4096), rfl, ?_⟩
  by_cases hp : 4096 < m ^ rows.length
  · rw [decide_eq_true (by omega : ((m ^ rows.length : Nat) : Int) > 4096)]
    exact iff1 ⟨_, rfl, q5 hp⟩
  · rw [decide_eq_false (by omega : ¬ ((m ^ rows.length : Nat) : Int) > 4096)]
    exact iff0 (q6 (by omega))
def W_bestX (S TC C EN EL ET : Addr) : DCX := fun ds M Q Xd => ∃ (p : Int) (n : Nat) (SP : List (List Rw)) (rows : List (List (List Int))) (d e : D), ds = [dTab S TC p n rows, d, e] ∧ Univ p n SP ∧ RwOk p n rows ∧ okM M ∧ (∃ t, tyN d = some t) ∧ (∃ t, tyN e = some t) ∧
  CntC EN d e Xd M (∀ m l : Nat, d = .int m → e = .int l → 1 ≤ m → m ≤ 6 → 1 ≤ l → l ≤ 6 → RoomC EL ET p n m l rows Xd M ((tups m rows.length).filter (fits l) ≠ [] ∧ ∀ bars s ws0 cs, Bars p n rows bars → Best bars ((tups m rows.length).filter (fits l)) s ws0 cs → Q (.tup [plD C m ws0, .int (s - 1), .tup (cs.map barD)]) M))
theorem ok_best_placing (T : Tx P w K mg) : FnOk P w K mg base (L2.CX P w) 12 T.a_best_placing T.f_best_placing ["table", "machines", "limit"] (spX 3 (W_bestX T.a_Sum T.a_Table T.a_Placing T.a_InvalidNumber T.a_LimitExceeded T.a_Lost) K) := by
  refine pd_fnX T.F_best_placing sc_best_placing (fun cdv A outer s H E hr => ⟨_, (pdssx_cons (pdsx_expr (pdx_call (takes_of rfl rfl rfl rfl) (ok_expect_counts T) (hr.mono (by decide)) (by rfl) T.g_expect_counts T.F_expect_counts.kp T.b_expect_counts (pda_cons (pd_name 1) (pda_cons (pd_name 2) pda_nil))))
      (pdssx_cons (pdsx_expr (pdx_call (takes_of rfl rfl rfl rfl) (ok_expect_room T) (hr.mono (by decide)) (by rfl) T.g_expect_room T.F_expect_room.kp T.b_expect_room (pda_cons (pd_name 0) (pda_cons (pd_name 1) (pda_cons (pd_name 2) pda_nil)))))
      (pdssx_of (pdss_cons (pds_set 3 sc_best_placing.nd (pd_call (ok_fatal T) (hr.mono (by decide)) (by rfl) T.g_fatal T.F_fatal.kp T.b_fatal (pda_cons (pd_name 0) (pda_cons (pd_call (ok_units_of T) (hr.mono (by decide)) (by rfl) T.g_units_of T.F_units_of.kp T.b_units_of (pda_cons (pd_name 0) pda_nil)) pda_nil))))
      (pdss_cons (pds_setLc 4 [("where", 8)] rfl sc_best_placing.nd rfl rfl (sw_true rfl rfl rfl (by decide +kernel)) (pdi_list (pd_call (ok_roomyG T) (hr.mono (by decide)) (by rfl) T.g_roomy_placings T.F_roomy_placings.kp T.b_roomy_placings (pda_cons (pd_name 0) (pda_cons (pd_name 1) (pda_cons (pd_name 2) pda_nil))))) (blkOk_by (N := ["table", "machines", "limit", "bars", "rows", "most", "first", "chosen", "where", "weak", "_", "pieces"]) (sc := defScope s_best_placing) (by decide +kernel)) (fun _ _ _ _ _ => (pdg_name 8 sc_best_placing.nd)) (fun _ _ _ _ _ => pdts_nil) (fun _ _ _ _ _ => (pd_tup (pda_cons (pd_name 8) (pda_cons (pd_call (ok_weakest T) (hr.mono (by decide)) (by rfl) T.g_weakest T.F_weakest.kp T.b_weakest (pda_cons (pd_name 3) (pda_cons (pd_name 8) pda_nil))) pda_nil)))))
      (pdss_cons (pds_set 5 sc_best_placing.nd (pd_callB (cr_maxS rfl hr.units) sc_maxS (by rfl) T.n_max (by decide +kernel) (pda_cons (pd_lc [("_", 10), ("weak", 9)] rfl sc_best_placing.nd (pdi_list (pd_name 4)) (blkOk_by (N := ["table", "machines", "limit", "bars", "rows", "most", "first", "chosen", "where", "weak", "_", "pieces"]) (sc := defScope s_best_placing) (by decide +kernel)) (fun _ _ _ _ _ => (pdg_tup (n := 2) rfl (pdgs_cons (pdg_name 10 sc_best_placing.nd) (pdgs_cons (pdg_name 9 sc_best_placing.nd) pdgs_nil)))) (fun _ _ _ _ _ => pdts_nil) (fun _ _ _ _ _ => (pd_ix ix_tup sr_ixT (pd_name 9) pd_int))) pda_nil)))
      (pdss_cons (pds_set 6 sc_best_placing.nd (pd_ix ix_list sr_ixL (pd_lc [("where", 8), ("weak", 9)] rfl sc_best_placing.nd (pdi_list (pd_name 4)) (blkOk_by (N := ["table", "machines", "limit", "bars", "rows", "most", "first", "chosen", "where", "weak", "_", "pieces"]) (sc := defScope s_best_placing) (by decide +kernel)) (fun _ _ _ _ _ => (pdg_tup (n := 2) rfl (pdgs_cons (pdg_name 8 sc_best_placing.nd) (pdgs_cons (pdg_name 9 sc_best_placing.nd) pdgs_nil)))) (fun _ _ _ _ _ => pdts_one (pdt_cmp (op_eqD hr.units) sr_eq (pd_ix ix_tup sr_ixT (pd_name 9) pd_int) (pd_name 5) (nomark _))) (fun _ _ _ _ _ => (pd_name 8))) pd_int))
      (pdss_build (i := 7) sc_best_placing.nd (pds_for PassesOwn.leaving rfl (pdi_list (pd_name 4)) (pdg_tup (n := 2) rfl (pdgs_cons (pdg_name 8 sc_best_placing.nd) (pdgs_cons (pdg_name 9 sc_best_placing.nd) pdgs_nil))) (pdss_one (pds_if (pdt_not (pdt_val (pd_callB (cr_any rfl) sc_any (by rfl) T.n_any (by decide +kernel) (pda_cons (pd_lcM [("pieces", 11), ("_", 10)] rfl sc_best_placing.nd (pdi_mu 7) (blkOk_by (N := ["table", "machines", "limit", "bars", "rows", "most", "first", "chosen", "where", "weak", "_", "pieces"]) (sc := defScope s_best_placing) (by decide +kernel)) (fun _ _ _ _ _ => (pdg_tup (n := 2) rfl (pdgs_cons (pdg_name 11 sc_best_placing.nd) (pdgs_cons (pdg_name 10 sc_best_placing.nd) pdgs_nil)))) (fun _ _ _ _ _ => pdts_nil) (fun _ _ _ _ _ => (pd_cmp op_le sr_I0b (pd_callB call_len_seq sc_len (by rfl) T.n_len (by decide +kernel) (pda_cons (pd_call (ok_machines_of T) (hr.mono (by decide)) (by rfl) T.g_machines_of T.F_machines_of.kp T.b_machines_of (pda_cons (pd_name 8) (pda_cons (pd_name 11) pda_nil))) pda_nil)) (pd_name 5) (nomark _)))) pda_nil)))) (pdss_one (pds_expr (pd_append 7 (pd_ix ix_tup sr_ixT (pd_name 9) pd_int)))) pdss_nil)))
      (pdss_one (pds_ret (pd_tup (pda_cons (pd_make T.m_Placing (ok_Placing_init T) (hr.mono (by decide)) (by rfl) T.g_Placing T.b_Placing_init (pda_cons (pd_name 1) (pda_cons (pd_fg (pd_name 6)) pda_nil))) (pda_cons (pd_op op_sub sr_I0i (pd_name 5) pd_int) (pda_cons (pd_callTy call_tuple_of sc_tuple (by rfl) T.n_tuple (by decide +kernel) (pda_cons (pd_name 7) pda_nil)) pda_nil)))))))))))))), fun ds M Q Xd hl h => ?_⟩)
  obtain ⟨p, n, SP, rows, d, e, rfl, U, hw, hM, ht, hu, q0, q1⟩ := h
  refine ⟨d, rfl, e, rfl, rfl, d, e, rfl, ht, hu, q0, fun hb => ⟨(q1 hb).1, fun hc => ?_⟩⟩
  have q2 := (q1 hb).2 hc
  obtain ⟨m, rfl, m1, m6⟩ := btw_16 hb
  obtain ⟨l, rfl, l1, l6⟩ := btw_16 hc
  obtain ⟨q3, q4⟩ := q2 m l rfl rfl m1 m6 l1 l6
  refine ⟨_, rfl, .int m, rfl, .int l, rfl, rfl, p, n, m, l, SP, rows, rfl, U, hw, hM, m6, l6, q3, fun hml => ⟨(q4 hml).1, fun hwh => ⟨((q4 hml).2 hwh).1, fun hpw => ?_⟩⟩⟩
  obtain ⟨hLne, q⟩ := ((q4 hml).2 hwh).2 hpw
  have hsl : sizeLine = 16777216 := by decide
  have h1 := hw.l1
  have h6 := hw.l6
  have htl := tups_len m rows.length
  refine ⟨_, rfl, _, rfl, rfl, p, n, SP, rows, rfl, U, hM, rfl, p, n, SP, rows, rfl, U, hw, hM, fun bars B => ?_⟩
  have q := fun s ws0 cs => q bars s ws0 cs B
  have hbne : bars ≠ [] := by obtain ⟨b0, r, e, _⟩ := B.hd; rw [e]; simp
  refine ⟨_, rfl, _, rfl, _, rfl, rfl, p, n, m, l, rows, rfl, m1, m6, h1, h6, hpw, ?_⟩
  have hLl : ((tups m rows.length).filter (fits l)).length ≤ 4096 := Nat.le_trans (List.length_filter_le _ _) (by omega)
  have hLw : ∀ ws ∈ (tups m rows.length).filter (fits l), Whr rows.length ws ∧ ∀ x ∈ ws, 0 ≤ x ∧ x < (m : Int) := fun ws hws => by
    obtain ⟨k1, k2⟩ := tups_row _ _ ws (List.mem_filter.mp hws).1
    exact ⟨⟨k1, fun x hx => ⟨(k2 x hx).1, by have := (k2 x hx).2; omega⟩⟩, k2⟩
  generalize (tups m rows.length).filter (fits l) = L at hLne hLl hLw q
  have hasc : ∀ b ∈ bars, AscBelow rows.length b.1 := fun b hb => (B.ok b hb).2.1
  refine ⟨_, rfl, lc_indT (fun k acc M' => M' = M ∧ ∃ its : List (List Int × (List Int × Rw)), acc = its.map ent ∧ its.map (·.1) = L.take k ∧ ∀ t ∈ its, t.2 ∈ bars ∧ mnB bars t.1 (imS t.1 t.2.1).length) _ (by rw [List.length_map]; omega) (fun k acc M' h => by
    obtain ⟨_, its, rfl, h, _⟩ := h
    have := congrArg List.length h
    rw [List.length_map, List.length_take] at this
    rw [List.length_map]; omega) (fun k d acc M' R S hd hI hR hS => ?_) (fun acc M' hI => ?_) ⟨rfl, [], rfl, by rw [List.take_zero]; rfl, fun _ h => nomatch h⟩⟩
  · obtain ⟨rfl, its, rfl, hit, hio⟩ := hI
    have hk : k < L.length := by have := (List.getElem?_eq_some_iff.mp hd).1; rwa [List.length_map] at this
    rw [List.getElem?_map, List.getElem?_eq_getElem hk] at hd
    cases hd
    obtain ⟨c1, c3⟩ := hLw _ (List.getElem_mem hk)
    have htk := List.take_succ_eq_append_getElem hk
    generalize L[k] = ws at c1 c3 htk
    refine ⟨_, rfl, _, rfl, _, rfl, rfl, bars, .tfz ws, rows.length, ws, rfl, rfl, c1, h6, hasc, hbne, B.len, fun b hb hmin => ?_⟩
    refine ⟨(by show 2 ≤ sizeLine; rw [hsl]; decide), hR _ _ ⟨rfl, its ++ [(ws, b)], by rw [List.map_append]; rfl, by rw [List.map_append, hit, htk]; rfl, fun t ht => ?_⟩⟩
    rcases List.mem_append.mp ht with ht | ht
    · exact hio t ht
    · rw [List.mem_singleton.mp ht]
      exact ⟨hb, ⟨b, hb, rfl⟩, hmin⟩
  obtain ⟨rfl, its, rfl, hit, hio⟩ := hI
  rw [List.length_map, List.take_length] at hit
  have hil : its.length = L.length := by rw [← hit, List.length_map]
  have hine : its ≠ [] := fun e => hLne (by rw [← hit, e]; rfl)
  refine ⟨_, rfl, _, rfl, lc_map w0K _ _ (fun e he R hR => ?_) (by rw [List.length_nil, List.length_map]; omega) ?_⟩
  · obtain ⟨t, ht, rfl⟩ := List.mem_map.mp he
    exact ⟨_, rfl, rfl, _, _, rfl, _, _, rfl, rfl, _, rfl, _, 0, _, rfl, rfl, ⟨by decide, rfl⟩, hR⟩
  have e1 : ([] : List D) ++ (its.map ent).map w0K = dI (its.map imN) := by
    rw [List.nil_append, List.map_map]
    show _ = List.map D.int (List.map _ _)
    rw [List.map_map]; rfl
  rw [e1]
  refine ⟨_, _, rfl, .inl rfl, fun e => hine (List.map_eq_nil_iff.mp e), fun mo k1 k2 => ?_⟩
  refine ⟨_, rfl, _, rfl, lc_fmap (selK mo) _ _ (fun e he R S hR hS => ?_) (by rw [List.length_nil, List.length_map]; omega) ?_⟩
  · obtain ⟨t, ht, rfl⟩ := List.mem_map.mp he
    have hR' : ∀ y, (if decide (imN t = mo) = true then some (D.tfz t.1) else none) = some y → R y M' := hR
    have hS' : (if decide (imN t = mo) = true then some (D.tfz t.1) else none) = none → S M' := hS
    refine ⟨_, rfl, rfl, _, _, rfl, _, _, rfl, rfl, _, rfl, _, 0, _, rfl, rfl, ⟨by decide, rfl⟩, _, rfl, rfl, rfl, decide (imN t = mo), by rw [eqD_int]; rfl, ?_⟩
    cases hc : decide (imN t = mo) with
    | true => rw [hc] at hR'; exact ⟨_, rfl, hR' _ rfl⟩
    | false => rw [hc] at hS'; exact hS' rfl
  rw [List.nil_append, sel_allG]
  obtain ⟨t0, ir, eit⟩ : ∃ t0 ir, its.filter (fun t => decide (imN t = mo)) = t0 :: ir := by
    cases e : its.filter (fun t => decide (imN t = mo)) with
    | nil =>
      obtain ⟨t, ht, e2⟩ := List.mem_map.mp k1
      exact absurd (decide_eq_true e2) (List.filter_eq_nil_iff.mp e t ht)
    | cons t0 ir => exact ⟨t0, ir, rfl⟩
  refine ⟨_, 0, .tfz t0.1, rfl, rfl, ⟨by decide, by rw [eit]; rfl⟩, ?_⟩
  obtain ⟨pre, suf, ei, hpre, hp0, _⟩ := List.filter_eq_cons_iff.mp eit
  have ht0i : t0 ∈ its := by rw [ei]; simp
  have ht0 : t0.1 ∈ L := by rw [← hit]; exact List.mem_map_of_mem ht0i
  obtain ⟨c1, c3⟩ := hLw _ ht0
  have hmo : imN t0 = mo := of_decide_eq_true hp0
  have hle : ∀ t ∈ its, imN t ≤ mo := fun t ht => k2 _ (List.mem_map_of_mem ht)
  refine ⟨_, rfl, _, rfl, for_ind (fun k ρ M2 => ∃ (cs : List (List Int × Rw)) (x8 x9 x10 x11 : Option D), M2 = M' ++ [.lst (cs.map barD)] ∧ (∀ c ∈ cs, c ∈ bars) ∧ cs.length ≤ k ∧ (∀ ws ∈ L.take k, ∃ c ∈ cs, ((imS ws c.1).length : Int) ≤ mo) ∧ ρ = [some (dTab T.a_Sum T.a_Table p n rows), some (.int m), some (.int l), some (.lst (bars.map barD)), some (.lst (its.map ent)), some (.int mo), some (.tfz t0.1), some (.mu M'.length), x8, x9, x10, x11]) _ ?_ ?_ ⟨[], _, _, _, _, rfl, (fun _ h => nomatch h), Nat.le_refl _, (fun ws h => by rw [List.take_zero] at h; cases h), rfl⟩⟩
  · rintro k d ρ M2 N hd ⟨cs, x8, x9, x10, x11, rfl, hcs, hcl, hcv, rfl⟩ hN
    have hk : k < its.length := by have := (List.getElem?_eq_some_iff.mp hd).1; rwa [List.length_map] at this
    rw [List.getElem?_map, List.getElem?_eq_getElem hk] at hd
    cases hd
    have htm := List.getElem_mem hk
    have e5 : L[k] = its[k].1 := by
      have : (its.map (·.1))[k]'(by rw [List.length_map]; exact hk) = its[k].1 := List.getElem_map _
      rw [← this]
      congr 1
      exact hit.symm
    have htk := List.take_succ_eq_append_getElem (l := L) (i := k) (by omega)
    rw [e5] at htk
    obtain ⟨g1, g2⟩ := hio _ htm
    have g3 := hle _ htm
    have ht1 : its[k].1 ∈ L := by rw [← hit]; exact List.mem_map_of_mem htm
    obtain ⟨w1, w3⟩ := hLw _ ht1
    generalize its[k] = t at g1 g2 g3 w1 htk
    refine ⟨_, rfl, rfl, _, _, rfl, _, _, rfl, rfl, ?_⟩
    refine ⟨M'.length, cs.map barD, rfl, get_last _ _, lcM_map (fun d => .bl (decide (((dI (imS t.1 (fstT d))).length : Int) ≤ mo))) (get_last _ _) _ _ (fun c hc R hR => ?_) (by rw [List.length_nil, List.length_map]; omega) ?_⟩
    · obtain ⟨b, hbm, rfl⟩ := List.mem_map.mp hc
      have hR' : R (.bl (decide (((dI (imS t.1 (intsOf (tI b.1)))).length : Int) ≤ mo))) _ := hR
      rw [ints_tI] at hR'
      refine ⟨_, rfl, rfl, _, _, rfl, _, _, rfl, rfl, ?_⟩
      exact ⟨_, rfl, _, rfl, rfl, .tfz t.1, rows.length, t.1, b.1, rfl, rfl, w1, hasc b (hcs b hbm), h6, dI (imS t.1 b.1), .inr rfl, _, rfl, _, _, rfl, rfl, hR'⟩
    rw [List.nil_append]
    refine ⟨cs.map fun c => decide (((dI (imS t.1 (fstT (barD c)))).length : Int) ≤ mo), by rw [List.map_map, List.map_map]; rfl, _, rfl, ?_⟩
    refine bsplit (fun _ => ?_) fun hb => hN _ _ ⟨cs, _, _, _, _, rfl, hcs, by omega, fun ws hws => ?_, rfl⟩
    · refine ⟨M'.length, rfl, ⟨_, get_last _ _⟩, _, rfl, _, 2, barD t.2, rfl, rfl, ⟨by decide, rfl⟩, cs.map barD, get_last _ _, by rw [List.length_map]; omega, ?_⟩
      rw [set_last]
      refine hN _ _ ⟨cs ++ [t.2], _, _, _, _, by rw [List.map_append]; rfl, fun c hc => ?_, by rw [List.length_append, List.length_singleton]; omega, fun ws hws => ?_, rfl⟩
      · rcases List.mem_append.mp hc with hc | hc
        · exact hcs c hc
        · rw [List.mem_singleton.mp hc]; exact g1
      · rw [htk] at hws
        rcases List.mem_append.mp hws with hws | hws
        · obtain ⟨c, hc, e⟩ := hcv ws hws
          exact ⟨c, List.mem_append.mpr (.inl hc), e⟩
        · rw [List.mem_singleton.mp hws]
          exact ⟨t.2, List.mem_append.mpr (.inr (List.mem_singleton.mpr rfl)), g3⟩
    · rw [htk] at hws
      rcases List.mem_append.mp hws with hws | hws
      · exact hcv ws hws
      · rw [List.mem_singleton.mp hws]
        have h9 : ((cs.map fun c => decide (((dI (imS t.1 (fstT (barD c)))).length : Int) ≤ mo)).any id) = true := by
          cases e : ((cs.map fun c => decide (((dI (imS t.1 (fstT (barD c)))).length : Int) ≤ mo)).any id) with
          | true => rfl
          | false => rw [e] at hb; cases hb
        obtain ⟨x, hx, e⟩ := List.any_eq_true.mp h9
        obtain ⟨c, hc, rfl⟩ := List.mem_map.mp hx
        have e2 : ((dI (imS t.1 (intsOf (tI c.1)))).length : Int) ≤ mo := of_decide_eq_true e
        rw [ints_tI, List.length_map] at e2
        exact ⟨c, hc, e2⟩
  · rintro ρ M2 ⟨cs, x8, x9, x10, x11, rfl, hcs, hcl, hcv, rfl⟩
    rw [List.length_map, hil, List.take_length] at hcv
    refine ⟨M', cs.map barD, rfl, rfl, hM, apart_bars _ _, rfl, ?_⟩
    refine ⟨_, rfl, _, rfl, rfl, _, _, _, t0.1, rfl, get_last _ _, by omega, by omega, .inr rfl, by rw [c1.len]; omega, by rw [c1.len]; omega, c3, M', _, rfl, set_last _ _ _, rfl, apPl _ _ _, hM, ?_⟩
    refine ⟨_, rfl, mo, 1, rfl, rfl, _, rfl, _, _, rfl, .inl rfl, (by show 3 ≤ sizeLine; rw [hsl]; decide), q mo t0.1 cs ⟨⟨pre.map (·.1), suf.map (·.1), by rw [← hit, ei, List.map_append]; rfl, fun ws hws => ?_⟩, ?_, fun ws hws => ?_, hcs, hcv⟩⟩
    · obtain ⟨t, ht, rfl⟩ := List.mem_map.mp hws
      have hti : t ∈ its := by rw [ei]; exact List.mem_append.mpr (.inl ht)
      have g3 := hle t hti
      have g4 : ¬ imN t = mo := fun e => hpre t ht (decide_eq_true e)
      exact ⟨_, (hio t hti).2, by have : imN t = ((imS t.1 t.2.1).length : Nat) := rfl; omega⟩
    · exact ⟨_, (hio t0 ht0i).2, hmo⟩
    · rw [← hit] at hws
      obtain ⟨t, ht, rfl⟩ := List.mem_map.mp hws
      exact ⟨_, (hio t ht).2, hle t ht⟩
/-- a survival -/
def svB : D → Bool | .int i => decide (-1 ≤ i) | _ => false
def W_barX (S TC EN EL ET : Addr) : DCX := fun ds M Q Xd => ∃ (p : Int) (n : Nat) (SP : List (List Rw)) (rows : List (List (List Int))) (d e sv : D), ds = [dTab S TC p n rows, d, e, sv, .non] ∧ Univ p n SP ∧ RwOk p n rows ∧ okM M ∧ (∃ t, tyN d = some t) ∧ (∃ t, tyN e = some t) ∧ (∃ t, tyN sv = some t) ∧
  CntC EN d e Xd M ((svB sv = false → Xd EN [("value", sv)] M) ∧ (svB sv = true → ∀ m l : Nat, d = .int m → e = .int l → 1 ≤ m → m ≤ 6 → 1 ≤ l → l ≤ 6 → RoomC EL ET p n m l rows Xd M (Q (.bl false) M)))
theorem ok_is_barred (T : Tx P w K mg) : FnOk P w K mg base (L2.CX P w) 12 T.a_is_barred T.f_is_barred ["table", "machines", "limit", "survival", "value"] (spX 5 (W_barX T.a_Sum T.a_Table T.a_InvalidNumber T.a_LimitExceeded T.a_Lost) K) := by
  refine pd_fnX T.F_is_barred sc_is_barred (fun cdv A outer s H E hr => ⟨_, (pdssx_cons (pdsx_expr (pdx_call (takes_of rfl rfl rfl rfl) (ok_expect_counts T) (hr.mono (by decide)) (by rfl) T.g_expect_counts T.F_expect_counts.kp T.b_expect_counts (pda_cons (pd_name 1) (pda_cons (pd_name 2) pda_nil))))
      (pdssx_cons (pdsx_if (pdt_w (pdw_or (pdt_not (pdt_val (pd_call (ok_is_integer T) (hr.mono (by decide)) (by rfl) T.g_is_integer T.F_is_integer.kp T.b_is_integer (pda_cons (pd_name 3) pda_nil)))) (pdw_or1 (pdt_cmp op_lt sr_I0b (pd_name 3) (pd_un un_neg su_U pd_int) (nomark _))))) (pdssx_one (pdsx_raise tail_Exception rfl (takes_of rfl rfl rfl rfl) T.x_InvalidNumber T.i_InvalidNumber T.t_InvalidNumber T.h_InvalidNumber (ok_InvalidNumber_init T) (hr.mono (by decide)) T.b_InvalidNumber_init (by rfl) T.g_InvalidNumber (pda_cons (pd_name 3) pda_nil))) pdssx_nil)
      (pdssx_cons (pdsx_expr (pdx_call (takes_of rfl rfl rfl rfl) (ok_expect_room T) (hr.mono (by decide)) (by rfl) T.g_expect_room T.F_expect_room.kp T.b_expect_room (pda_cons (pd_name 0) (pda_cons (pd_name 1) (pda_cons (pd_name 2) pda_nil)))))
      (pdssx_cons (pdsx_if (pdt_w (pdw_or (pdt_not (pdt_val (pd_callB call_isi sc_isi (by rfl) T.n_isinstance (by decide +kernel) (pda_cons (pd_name 4) (pda_cons (pd_bltn (v := .ty "tuple") (d := .ty "tuple") (by rfl) T.n_tuple (by decide +kernel) rfl (fun _ _ => .ty _)) pda_nil))))) pdw_never)) (pdssx_one (pdsx_ret (pdx_of pd_bl))) pdssx_nil)
      (pdssx_of pdss_never))))), fun ds M Q Xd hl h => ?_⟩)
  obtain ⟨p, n, SP, rows, d, e, sv, rfl, U, hw, hM, ht, hu, ⟨v, hv⟩, q0, q1⟩ := h
  refine ⟨d, rfl, e, rfl, rfl, d, e, rfl, ht, hu, q0, fun hb => ⟨(q1 hb).1, fun hc => ?_⟩⟩
  obtain ⟨q2, q3⟩ := (q1 hb).2 hc
  obtain ⟨m, rfl, m1, m6⟩ := btw_16 hb
  obtain ⟨l, rfl, l1, l6⟩ := btw_16 hc
  refine ⟨sv, rfl, rfl, sv, v, rfl, hv, isI sv, rfl, ?_⟩
  cases hs : isI sv with
  | false =>
    have e0 : svB sv = false := by cases sv <;> first | rfl | cases hs
    exact ⟨sv, rfl, _, rfl, q2 e0⟩
  | true =>
    obtain ⟨i, rfl⟩ : ∃ i, sv = .int i := by
      cases sv
      case int i => exact ⟨i, rfl⟩
      all_goals cases hs
    refine ⟨_, rfl, _, rfl, _, _, rfl, rfl, decide (i < -1), rfl, ?_⟩
    by_cases hi : i < -1
    · rw [decide_eq_true hi]
      exact ⟨_, rfl, _, rfl, q2 (decide_eq_false (by omega))⟩
    · rw [decide_eq_false hi]
      refine ⟨_, rfl, _, rfl, _, rfl, rfl, p, n, m, l, SP, rows, rfl, U, hw, hM, m6, l6, (q3 (decide_eq_true (by omega)) m l rfl rfl m1 m6 l1 l6).to (fun _ _ x => x) fun q => ?_⟩
      exact ⟨_, rfl, _, _, _, _, _, false, rfl, .non, .ty _, rfl, false, rfl, q⟩
end
end K36
set_option Elab.async false
set_option linter.all false
set_option maxRecDepth 100000
set_option maxHeartbeats 4000000
namespace K36
open PySem PySem.Spec PyProof.Rows L2 Pd Spc
abbrev ClA (EN EL ET : Addr) : List (Addr × Str × Str × Bool) := [(EN, "number", "value", false), (EL, "limit", "limit", false), (ET, "lost", "blind", true)]
/-- what is told is one of these -/
def XO (K : PySem.W.Frag) (EN EL ET : Addr) (O : D → Prop) : XD := fun C gs _ => ∃ out : Str × D, PickCR K (ClA EN EL ET) C gs out ∧ O (.lst [.str out.1, out.2])
/-- all that a number of machines and a limit may lead to -/
def Goes (K : PySem.W.Frag) (EN EL ET : Addr) (p : Int) (n : Nat) (rows : List (List (List Int))) (d e : D) (O : D → Prop) : Prop :=
  CntC EN d e (XO K EN EL ET O) [] (∀ m l : Nat, d = .int m → e = .int l → 1 ≤ m → m ≤ 6 → 1 ≤ l → l ≤ 6 → RoomC EL ET p n m l rows (XO K EN EL ET O) [] ((tups m rows.length).filter (fits l) ≠ [] ∧ O (.lst [.str "done"])))
theorem Goes.best {K : PySem.W.Frag} {EN EL ET : Addr} {p : Int} {n : Nat} {rows : List (List (List Int))} {d e : D} {O : D → Prop} {Xd : XD} {M : Ms} {R : Nat → Nat → Prop} (h : Goes K EN EL ET p n rows d e O) (f : ∀ C gs, XO K EN EL ET O C gs [] → Xd C gs M) (g : O (.lst [.str "done"]) → ∀ m l, R m l) :
    CntC EN d e Xd M (∀ m l : Nat, d = .int m → e = .int l → 1 ≤ m → m ≤ 6 → 1 ≤ l → l ≤ 6 → RoomC EL ET p n m l rows Xd M ((tups m rows.length).filter (fits l) ≠ [] ∧ R m l)) :=
  ⟨fun a => f _ _ (h.1 a), fun b => ⟨fun c => f _ _ ((h.2 b).1 c), fun c m l e1 e2 m1 m6 l1 l6 => ((h.2 b).2 c m l e1 e2 m1 m6 l1 l6).to f fun z => ⟨z.1, g z.2 m l⟩⟩⟩
theorem Goes.bar {K : PySem.W.Frag} {EN EL ET : Addr} {p : Int} {n : Nat} {rows : List (List (List Int))} {d e : D} {O : D → Prop} {Xd : XD} {M : Ms} {R : Prop} (h : Goes K EN EL ET p n rows d e O) (f : ∀ C gs, XO K EN EL ET O C gs [] → Xd C gs M) (g : O (.lst [.str "done"]) → R) :
    CntC EN d e Xd M ((svB (.int 0) = false → Xd EN [("value", .int 0)] M) ∧ (svB (.int 0) = true → ∀ m l : Nat, d = .int m → e = .int l → 1 ≤ m → m ≤ 6 → 1 ≤ l → l ≤ 6 → RoomC EL ET p n m l rows Xd M R)) :=
  ⟨fun a => f _ _ (h.1 a), fun b => ⟨fun c => f _ _ ((h.2 b).1 c), fun c => ⟨fun z => (by cases z), fun _ m l e1 e2 m1 m6 l1 l6 => ((h.2 b).2 c m l e1 e2 m1 m6 l1 l6).to f fun z => g z.2⟩⟩⟩
section
variable {P : Program} {w : World} {K : PySem.W.Frag} {mg : Str → Option Value} {base : Heap}
abbrev Cl (T : Tx P w K mg) : List (Addr × Str × Str × Bool) := ClA T.a_InvalidNumber T.a_LimitExceeded T.a_Lost
theorem said_hs (T : Tx P w K mg) : SaidHsR K mg (defScope s_law_said) (hdsOf s_law_said) (Cl T) :=
  .cons rfl rfl T.g_InvalidNumber T.y_InvalidNumber T.z_InvalidNumber (.cons rfl rfl T.g_LimitExceeded T.y_LimitExceeded T.z_LimitExceeded (.raw rfl rfl T.g_Lost T.y_Lost T.z_Lost .nil))
theorem pickN (T : Tx P w K mg) {d : D} (s : Shows d) : PickCR K (Cl T) T.a_InvalidNumber [("value", d)] ("number", .str (reprD d)) :=
  ⟨true, T.e_InvalidNumber_InvalidNumber, fun _ => ⟨rfl, d, rfl, fun _ => ⟨s, rfl⟩, fun z => (by cases z)⟩, fun z => (by cases z)⟩
theorem pickL (T : Tx P w K mg) {d : D} (s : Shows d) : PickCR K (Cl T) T.a_LimitExceeded [("limit", d)] ("limit", .str (reprD d)) :=
  ⟨false, T.e_LimitExceeded_InvalidNumber, fun z => (by cases z), fun _ => ⟨true, T.e_LimitExceeded_LimitExceeded, fun _ => ⟨rfl, d, rfl, fun _ => ⟨s, rfl⟩, fun z => (by cases z)⟩, fun z => (by cases z)⟩⟩
theorem pickO (T : Tx P w K mg) {d : D} : PickCR K (Cl T) T.a_Lost [("blind", d)] ("lost", d) :=
  ⟨false, T.e_Lost_InvalidNumber, fun z => (by cases z), fun _ => ⟨false, T.e_Lost_LimitExceeded, fun z => (by cases z), fun _ => ⟨true, T.e_Lost_Lost, fun _ => ⟨rfl, d, rfl, fun z => (by cases z), fun _ => rfl⟩, fun z => (by cases z)⟩⟩⟩
def W_doors (K : PySem.W.Frag) (P1 S TC EN EL ET : Addr) : DC := fun ds M Q => ∃ (j : Nat) (p : Int) (n : Nat) (SP : List (List Rw)) (rows : List (List (List Int))) (d e : D) (O : D → Prop), ds = [dTab S TC p n rows, d, e] ∧ M[j]? = some (.tab P1 lq1) ∧ okM M ∧ Univ p n SP ∧ RwOk p n rows ∧ (∃ t, tyN d = some t) ∧ (∃ t, tyN e = some t) ∧
  Goes K EN EL ET p n rows d e O ∧ (∀ o, O o → ∀ k, apart k o = true) ∧ ∀ o1 o2, O o1 → O o2 → Q (.lst [o1, o2]) M
theorem ok_law_doors (T : Tx P w K mg) (TB : LamX.TabB base mg T.cl1 T.P1) : FnG P w K mg base 15 T.a_law_doors T.f_law_doors ["_law_table", "_law_machines", "_law_limit"] (spD 3 (W_doors K T.P1 T.a_Sum T.a_Table T.a_InvalidNumber T.a_LimitExceeded T.a_Lost) K) := by
  refine pd_fnGC T.F_law_doors sc_law_doors T.hcl1 (fun A outer s H E hgu hr => ⟨_, (pdss_keepR (i := 3) sc_law_doors.nd (pdl_lst (pda_cons (pd_saidR (k := 12) hgu T.F_law_said sc_law_said T.b_law_said rfl (said_hs T) (by rfl) T.g_law_said T.n_repr TB rfl (hr.mono (by decide)) (lamS_by (sc := defScope s_law_doors) (by decide +kernel)) rfl (fun _ _ _ _ _ => rfl) (hbody := fun A outer s H E f c hr => (pdx_call (takes_of rfl rfl rfl rfl) (ok_best_placing T) (hr.mono (by decide)) (by rfl) T.g_best_placing T.F_best_placing.kp T.b_best_placing (pda_cons (pd_name 0) (pda_cons (pd_name 1) (pda_cons (pd_name 2) pda_nil)))))) pda_nil)) (pdss_cons (pds_expr (pd_append 3 (pd_saidR (k := 12) hgu T.F_law_said sc_law_said T.b_law_said rfl (said_hs T) (by rfl) T.g_law_said T.n_repr TB rfl (hr.mono (by decide)) (lamS_by (sc := defScope s_law_doors) (by decide +kernel)) rfl (fun _ _ _ _ _ => rfl) (hbody := fun A outer s H E f c hr => (pdx_call (takes_of rfl rfl rfl rfl) (ok_is_barred T) (hr.mono (by decide)) (by rfl) T.g_is_barred T.F_is_barred.kp T.b_is_barred (pda_cons (pd_name 0) (pda_cons (pd_name 1) (pda_cons (pd_name 2) (pda_cons pd_int (pda_cons pd_non pda_nil))))))))))
      (pdss_one (pds_ret (pd_name 3))))), fun ds M Q hl h => ?_⟩)
  obtain ⟨j, p, n, SP, rows, d, e, O, rfl, hj, hM, U, hw, ht, hu, hg, ha, q⟩ := h
  have hap : ∀ o1 o2, O o1 → O o2 → apartA M.length [o1, o2] = true := fun o1 o2 h1 h2 => by
    show (apart _ o1 && (apart _ o2 && true)) = true
    rw [ha _ h1, ha _ h2]; rfl
  refine ⟨⟨j, hj⟩, _, rfl, d, rfl, e, rfl, rfl, p, n, SP, rows, d, e, rfl, U, hw, hM, ht, hu, hg.best (fun C gs hx => ?_) fun ho m l bars s ws0 cs _ _ => ?_⟩
  · obtain ⟨out, hp, ho⟩ := hx
    refine ⟨out, hp, ?_⟩
    generalize D.lst [D.str out.1, out.2] = o1 at ho ⊢
    have hok : okM (M ++ [.lst [o1]]) := okM_app hM (by show (apart _ o1 && true) = true; rw [ha _ ho]; rfl)
    refine ⟨(by show 1 ≤ sizeLine; decide), M.length, rfl, ⟨_, get_last _ _⟩, ⟨j, get_app hj _⟩, ?_⟩
    refine ⟨_, rfl, d, rfl, e, rfl, rfl, p, n, SP, rows, d, e, .int 0, rfl, U, hw, hok, ht, hu, ⟨_, rfl⟩, hg.bar (fun C gs hx => ?_) fun ho2 => ?_⟩
    · obtain ⟨out2, hp2, ho2⟩ := hx
      refine ⟨out2, hp2, _, get_last _ _, (by show 1 < sizeLine; decide), ?_⟩
      rw [set_last]
      exact ⟨_, rfl, M, [o1, _], rfl, rfl, hM, hap _ _ ho ho2, rfl, q _ _ ho ho2⟩
    · refine ⟨_, get_last _ _, (by show 1 < sizeLine; decide), ?_⟩
      rw [set_last]
      exact ⟨_, rfl, M, [o1, _], rfl, rfl, hM, hap _ _ ho ho2, rfl, q _ _ ho ho2⟩
  · generalize D.lst [D.str "done"] = o1 at ho ⊢
    have hok : okM (M ++ [.lst [o1]]) := okM_app hM (by show (apart _ o1 && true) = true; rw [ha _ ho]; rfl)
    refine ⟨(by show 1 ≤ sizeLine; decide), M.length, rfl, ⟨_, get_last _ _⟩, ⟨j, get_app hj _⟩, ?_⟩
    refine ⟨_, rfl, d, rfl, e, rfl, rfl, p, n, SP, rows, d, e, .int 0, rfl, U, hw, hok, ht, hu, ⟨_, rfl⟩, hg.bar (fun C gs hx => ?_) fun ho2 => ?_⟩
    · obtain ⟨out2, hp2, ho2⟩ := hx
      refine ⟨out2, hp2, _, get_last _ _, (by show 1 < sizeLine; decide), ?_⟩
      rw [set_last]
      exact ⟨_, rfl, M, [o1, _], rfl, rfl, hM, hap _ _ ho ho2, rfl, q _ _ ho ho2⟩
    · refine ⟨_, get_last _ _, (by show 1 < sizeLine; decide), ?_⟩
      rw [set_last]
      exact ⟨_, rfl, M, [o1, _], rfl, rfl, hM, hap _ _ ho ho2, rfl, q _ _ ho ho2⟩
end
end K36
set_option Elab.async false
set_option linter.all false
set_option maxRecDepth 100000
set_option maxHeartbeats 4000000
namespace K36
open PySem PySem.Spec PyProof.Rows L2 Pd Spc
def rowsA : List (List (List Int)) := [[[1, 0]], [[0, 1]], [[1, 1]]]
def rowsB : List (List (List Int)) := [[[1, 2]], [[2, 1]], [[0, 0]]]
def rowsG : List (List (List Int)) := [[[1]], [[1]], [[1]], [[1]], [[1]], [[1]]]
theorem rwA : RwOk 2 2 rowsA := ⟨by decide, by decide, by decide +kernel, by decide⟩
theorem rwB : RwOk 3 2 rowsB := ⟨by decide, by decide, by decide +kernel, by decide⟩
theorem rwG : RwOk 2 1 rowsG := ⟨by decide, by decide, by decide +kernel, by decide⟩
theorem whA : ((red 2 rowsA.flatten).length : Int) = (2 : Nat) := by decide +kernel
theorem whG : ((red 2 rowsG.flatten).length : Int) = (1 : Nat) := by decide +kernel
theorem whB : ((red 3 rowsB.flatten).length : Int) ≠ (2 : Nat) := by decide +kernel
theorem zrB : zrows 3 2 (red 3 rowsB.flatten) = [[1, 1]] := by decide +kernel
theorem blB : ∃ d ∈ zs 3 2 (red 3 rowsB.flatten), d ≠ zero 2 := by decide +kernel
theorem roomA (m : Nat) (h : m = 1 ∨ m = 2 ∨ m = 3) : (tups m rowsA.length).filter (fits (3 : Nat)) ≠ [] := by
  rcases h with rfl | rfl | rfl <;> decide +kernel
theorem roomG : (tups 3 rowsG.length).filter (fits (2 : Nat)) ≠ [] := by decide +kernel
/-- what is odd -/
def oddMs : List D := [.non, .int 0, .int 7, .int (-1), .bl true, .str "2", .lst [.int 2]]
def oddSs : List D := [.non, .int (-2), .bl true, .str "0", .lst [.int 0]]
structure BadM (d : D) : Prop where
  t : ∃ t, tyN d = some t
  no : btwB 1 6 d = false
  sm : Sm 1000 5 d
structure BadS (d : D) : Prop where
  t : ∃ t, tyN d = some t
  no : svB d = false
  sm : Sm 1000 5 d
theorem oddMs_ok : ∀ d ∈ oddMs, BadM d := by
  intro d hd
  simp only [oddMs, List.mem_cons, List.not_mem_nil, or_false] at hd
  rcases hd with rfl | rfl | rfl | rfl | rfl | rfl | rfl <;> exact ⟨⟨_, rfl⟩, rfl, ⟨by decide +kernel, by decide +kernel, by decide +kernel, by decide +kernel, by decide +kernel⟩⟩
theorem oddSs_ok : ∀ d ∈ oddSs, BadS d := by
  intro d hd
  simp only [oddSs, List.mem_cons, List.not_mem_nil, or_false] at hd
  rcases hd with rfl | rfl | rfl | rfl | rfl <;> exact ⟨⟨_, rfl⟩, rfl, ⟨by decide +kernel, by decide +kernel, by decide +kernel, by decide +kernel, by decide +kernel⟩⟩
theorem btw_n {m : Nat} (m1 : 1 ≤ m) (m6 : m ≤ 6) : btwB 1 6 (.int m) = true := by
  show (decide ((1 : Int) ≤ (m : Int)) && decide ((m : Int) ≤ 6)) = true
  rw [decide_eq_true (by omega), decide_eq_true (by omega)]; rfl
theorem ne_same {d : D} (h : okD d = true) : D.bl (!eqD d d) = .bl false := by rw [eqD_refl h]; rfl
def two (a : Str) (d : D) : D := .lst [.str a, d]
section
variable {P : Program} {w : World} {K : PySem.W.Frag} {mg : Str → Option Value} {base : Heap}
abbrev GoesT (T : Tx P w K mg) := Goes K T.a_InvalidNumber T.a_LimitExceeded T.a_Lost
theorem goes_badM (T : Tx P w K mg) {p : Int} {n : Nat} {rows : List (List (List Int))} {d e : D} (B : BadM d) : GoesT T p n rows d e (· = two "number" (.str (reprD d))) :=
  ⟨fun _ => ⟨_, pickN T (B.sm.shows (by decide) (by decide)), rfl⟩, fun z => absurd z (by rw [B.no]; exact Bool.noConfusion)⟩
theorem goes_badL (T : Tx P w K mg) {p : Int} {n m : Nat} {rows : List (List (List Int))} {e : D} (m1 : 1 ≤ m) (m6 : m ≤ 6) (B : BadM e) : GoesT T p n rows (.int m) e (· = two "number" (.str (reprD e))) :=
  ⟨fun z => absurd z (by rw [btw_n m1 m6]; exact Bool.noConfusion), fun _ => ⟨fun _ => ⟨_, pickN T (B.sm.shows (by decide) (by decide)), rfl⟩, fun z => absurd z (by rw [B.no]; exact Bool.noConfusion)⟩⟩
theorem goes_int (T : Tx P w K mg) {p : Int} {n m l : Nat} {rows : List (List (List Int))} {O : D → Prop} (m1 : 1 ≤ m) (m6 : m ≤ 6) (l1 : 1 ≤ l) (l6 : l ≤ 6) (h : RoomC T.a_LimitExceeded T.a_Lost p n m l rows (XO K T.a_InvalidNumber T.a_LimitExceeded T.a_Lost O) [] ((tups m rows.length).filter (fits l) ≠ [] ∧ O (.lst [.str "done"]))) : GoesT T p n rows (.int m) (.int l) O :=
  ⟨fun z => absurd z (by rw [btw_n m1 m6]; exact Bool.noConfusion), fun _ => ⟨fun z => absurd z (by rw [btw_n l1 l6]; exact Bool.noConfusion), fun _ m' l' e1 e2 _ _ _ _ => by
    obtain rfl : m = m' := by injection e1 with e1; omega
    obtain rfl : l = l' := by injection e2 with e2; omega
    exact h⟩⟩
theorem sh_int {i : Int} (h : i.natAbs ≤ 1001) : Shows (.int i) := (sm_int5 i h).shows (by decide) (by decide)
theorem sh_4096 : Shows (.int 4096) := (⟨by decide +kernel, by decide +kernel, by decide +kernel, by decide +kernel, by decide +kernel⟩ : Sm 1000 5 (.int 4096)).shows (by decide) (by decide)
theorem goes_tight (T : Tx P w K mg) {p : Int} {n m l : Nat} {rows : List (List (List Int))} (m1 : 1 ≤ m) (m6 : m ≤ 6) (l1 : 1 ≤ l) (l6 : l ≤ 6) (h : m * l < rows.length) : GoesT T p n rows (.int m) (.int l) (· = two "limit" (.str (reprD (.int l)))) :=
  goes_int T m1 m6 l1 l6 ⟨fun _ => ⟨_, pickL T (sh_int (by omega)), rfl⟩, fun z => by omega⟩
theorem goes_big (T : Tx P w K mg) {p : Int} {n m l : Nat} {rows : List (List (List Int))} (m1 : 1 ≤ m) (m6 : m ≤ 6) (l1 : 1 ≤ l) (l6 : l ≤ 6) (h : rows.length ≤ m * l) (hw : ((red p rows.flatten).length : Int) = n) (h2 : 4096 < m ^ rows.length) : GoesT T p n rows (.int m) (.int l) (· = two "limit" (.str (reprD (.int 4096)))) :=
  goes_int T m1 m6 l1 l6 ⟨fun z => by omega, fun _ => ⟨fun z => absurd hw z, fun _ => ⟨fun _ => ⟨_, pickL T sh_4096, rfl⟩, fun z => by omega⟩⟩⟩
theorem goes_done (T : Tx P w K mg) {p : Int} {n m l : Nat} {rows : List (List (List Int))} (m1 : 1 ≤ m) (m6 : m ≤ 6) (l1 : 1 ≤ l) (l6 : l ≤ 6) (h : rows.length ≤ m * l) (hw : ((red p rows.flatten).length : Int) = n) (h2 : m ^ rows.length ≤ 4096) (hf : (tups m rows.length).filter (fits l) ≠ []) : GoesT T p n rows (.int m) (.int l) (· = .lst [.str "done"]) :=
  goes_int T m1 m6 l1 l6 ⟨fun z => by omega, fun _ => ⟨fun z => absurd hw z, fun _ => ⟨fun z => by omega, fun _ => ⟨hf, rfl⟩⟩⟩⟩
theorem goes_lost (T : Tx P w K mg) {m l : Nat} (m1 : 2 ≤ m) (m6 : m ≤ 6) (l1 : 2 ≤ l) (l6 : l ≤ 6) : GoesT T 3 2 rowsB (.int m) (.int l) (· = two "lost" (tI [1, 1])) :=
  goes_int T (by omega) m6 (by omega) l6 ⟨fun z => absurd z (by show ¬ m * l < 3; have : 2 * 2 ≤ m * l := Nat.mul_le_mul m1 l1; omega), fun _ => ⟨fun _ => ⟨blB, fun d hd => by
    rw [zrB] at hd
    rw [List.mem_singleton.mp hd]
    exact ⟨_, pickO T, rfl⟩⟩, fun z => absurd z whB⟩⟩
end
end K36
set_option Elab.async false
set_option linter.all false
set_option maxRecDepth 100000
set_option maxHeartbeats 4000000
namespace K36
open PySem PySem.Spec PyProof.Rows L2 Pd Spc
theorem Src.at {P1 : Addr × Addr} {M : Ms} (h : Src P1 M) : SrcAt 2 M := by
  obtain ⟨n, s, rfl, a, b⟩ := h
  exact ⟨n, s, rfl, a, b⟩
theorem Src.cu {P1 : Addr × Addr} {M M' : Ms} (h : Src P1 M) (c : Cu 2 M M') : Src P1 M' := by
  obtain ⟨n, s, rfl, a, b⟩ := h
  obtain ⟨n', s', a', b', rfl⟩ := c
  exact ⟨n', s', rfl, a', b'⟩
theorem Src.tab1 {P1 : Addr × Addr} {M : Ms} (h : Src P1 M) : M[0]? = some (.tab P1.1 lq1) := by
  obtain ⟨n, s, rfl, _⟩ := h
  rfl
theorem Src.tab2 {P1 : Addr × Addr} {M : Ms} (h : Src P1 M) : M[1]? = some (.tab P1.2 lq2) := by
  obtain ⟨n, s, rfl, _⟩ := h
  rfl
theorem ap_two {a : Str} {d : D} (h : ∀ k, apart k d = true) : ∀ o, o = two a d → ∀ k, apart k o = true := by
  rintro o rfl k
  show (true && (apart k d && true)) = true
  rw [h k]; rfl
theorem kLL : okD (.lst [.str "lost", .str "lost"]) = true := by decide +kernel
theorem kBig : okD (.lst [two "limit" (.str "4096"), two "limit" (.str "4096")]) = true := by decide +kernel
theorem kDone : okD (.lst [.lst [.str "done"], .lst [.str "done"]]) = true := by decide +kernel
theorem apDone : ∀ o, o = D.lst [.str "done"] → ∀ k, apart k o = true := by rintro o rfl k; rfl
theorem log_small {i : Int} (h : i.natAbs ≤ 6) : i.natAbs.log2 < 1920 := Nat.lt_of_le_of_lt (Nat.log2_le_self _) (by omega)
section
variable {P : Program} {w : World} {K : PySem.W.Frag} {mg : Str → Option Value} {base : Heap}
def W_law (P1 P2 : Addr) : DC := fun ds M Q => ∃ ns : List Int, ds = [.lst (dI ns)] ∧ M = [.tab P1 lq1, .tab P2 lq2] ∧ Q (.bl true) [.tab P1 lq1, .tab P2 lq2]
theorem ok_law (T : Tx P w K mg) (TB1 : LamX.TabB base mg T.cl1 T.P1) (TB : LamX.TabB base mg T.cl2 T.P2) : FnG P w K mg base 16 T.a_law T.f_law ["_law_script"] (spD 1 (W_law T.P1 T.P2) K) := by
  refine pd_fnGC T.F_law sc_law T.hcl2 (fun A outer s H E hgu hr => ⟨_, (pdss_cons (pds_asg (pd_tup (pda_cons (pd_make T.m_Table (ok_Table_init T) (hr.mono (by decide)) (by rfl) T.g_Table T.b_Table_init (pda_cons pd_int (pda_cons pd_int (pda_cons (pd_lst (pda_cons (pd_lst (pda_cons (pd_tup (pda_cons pd_int (pda_cons pd_int pda_nil))) pda_nil)) (pda_cons (pd_lst (pda_cons (pd_tup (pda_cons pd_int (pda_cons pd_int pda_nil))) pda_nil)) (pda_cons (pd_lst (pda_cons (pd_tup (pda_cons pd_int (pda_cons pd_int pda_nil))) pda_nil)) pda_nil)))) pda_nil)))) (pda_cons (pd_make T.m_Table (ok_Table_init T) (hr.mono (by decide)) (by rfl) T.g_Table T.b_Table_init (pda_cons pd_int (pda_cons pd_int (pda_cons (pd_lst (pda_cons (pd_lst (pda_cons (pd_tup (pda_cons pd_int (pda_cons pd_int pda_nil))) pda_nil)) (pda_cons (pd_lst (pda_cons (pd_tup (pda_cons pd_int (pda_cons pd_int pda_nil))) pda_nil)) (pda_cons (pd_lst (pda_cons (pd_tup (pda_cons pd_int (pda_cons pd_int pda_nil))) pda_nil)) pda_nil)))) pda_nil)))) pda_nil))) (pdg_tup (n := 2) rfl (pdgs_cons (pdg_name 3 sc_law.nd) (pdgs_cons (pdg_name 4 sc_law.nd) pdgs_nil))))
      (pdss_cons (pds_set 1 sc_law.nd (pd_make T.m_Table (ok_Table_init T) (hr.mono (by decide)) (by rfl) T.g_Table T.b_Table_init (pda_cons pd_int (pda_cons pd_int (pda_cons (pd_repL (pda_cons (pd_lst (pda_cons (pd_tup (pda_cons pd_int pda_nil)) pda_nil)) pda_nil) pd_int) pda_nil)))))
      (pdss_cons (pds_for PassesOwn.never rfl (pdi_range1 (by rfl) T.n_range (pda_cons (pd_callB (call_max2 rfl) sc_max (by rfl) T.n_max (by decide +kernel) (pda_cons pd_int (pda_cons (pd_callB (call_min2 rfl) sc_min (by rfl) T.n_min (by decide +kernel) (pda_cons (pd_callB call_len_seq sc_len (by rfl) T.n_len (by decide +kernel) (pda_cons (pd_name 0) pda_nil)) (pda_cons pd_int pda_nil))) pda_nil))) pda_nil)) (pdg_name 2 sc_law.nd) (pdss_newN (i := 5) sc_law.nd (ok_law_source T) (hr.mono (by decide)) (by rfl) T.g_law_source T.F_law_source.kp T.b_law_source (pda_cons (pd_name 0) (pda_cons (pd_name 2) pda_nil))
      (pdss_cons (pds_for PassesOwn.never rfl (pdi_list (pd_lst (pda_cons pd_non (pda_cons pd_int (pda_cons pd_int (pda_cons (pd_un un_neg su_U pd_int) (pda_cons pd_bl (pda_cons pd_str (pda_cons (pd_lst (pda_cons pd_int pda_nil)) pda_nil))))))))) (pdg_name 6 sc_law.nd) (pdss_cons (pds_if (pdt_cmp (op_neD hr.units) sr_ne (pd_callG hgu (ok_law_doors T TB1) (hr.mono (by decide)) (by rfl) T.g_law_doors T.F_law_doors.kp T.b_law_doors (pda_cons (pd_name 4) (pda_cons (pd_name 6) (pda_cons pd_non pda_nil)))) (pd_repL (pda_cons (pd_lst (pda_cons pd_str (pda_cons (pd_callB (call_repr hgu hr.units) sc_repr (by rfl) T.n_repr (by decide +kernel) (pda_cons (pd_name 6) pda_nil)) pda_nil))) pda_nil) pd_int) (nomark _)) (pdss_one (pds_ret pd_bl)) pdss_nil)
      (pdss_one (pds_if (pdt_cmp (op_neD hr.units) sr_ne (pd_callG hgu (ok_law_doors T TB1) (hr.mono (by decide)) (by rfl) T.g_law_doors T.F_law_doors.kp T.b_law_doors (pda_cons (pd_name 4) (pda_cons pd_int (pda_cons (pd_name 6) pda_nil)))) (pd_repL (pda_cons (pd_lst (pda_cons pd_str (pda_cons (pd_callB (call_repr hgu hr.units) sc_repr (by rfl) T.n_repr (by decide +kernel) (pda_cons (pd_name 6) pda_nil)) pda_nil))) pda_nil) pd_int) (nomark _)) (pdss_one (pds_ret pd_bl)) pdss_nil))))
      (pdss_cons (pds_for PassesOwn.never rfl (pdi_list (pd_lst (pda_cons pd_non (pda_cons (pd_un un_neg su_U pd_int) (pda_cons pd_bl (pda_cons pd_str (pda_cons (pd_lst (pda_cons pd_int pda_nil)) pda_nil))))))) (pdg_name 6 sc_law.nd) (pdss_one (pds_if (pdt_cmp (op_neD hr.units) sr_ne (pd_saidR (k := 12) hgu T.F_law_said sc_law_said T.b_law_said rfl (said_hs T) (by rfl) T.g_law_said T.n_repr TB rfl (hr.mono (by decide)) (lamS_by (sc := defScope s_law) (by decide +kernel)) rfl (fun _ _ _ _ _ => rfl) (hbody := fun A outer s H E f c hr => (pdx_call (takes_of rfl rfl rfl rfl) (ok_is_barred T) (hr.mono (by decide)) (by rfl) T.g_is_barred T.F_is_barred.kp T.b_is_barred (pda_cons (pd_name 4) (pda_cons pd_int (pda_cons pd_int (pda_cons (pd_name 6) (pda_cons pd_non pda_nil)))))))) (pd_lst (pda_cons pd_str (pda_cons (pd_callB (call_repr hgu hr.units) sc_repr (by rfl) T.n_repr (by decide +kernel) (pda_cons (pd_name 6) pda_nil)) pda_nil))) (nomark _)) (pdss_one (pds_ret pd_bl)) pdss_nil)))
      (pdss_cons (pds_for PassesOwn.never rfl (pdi_list (pd_lst (pda_cons (pd_tup (pda_cons pd_int (pda_cons pd_int pda_nil))) (pda_cons (pd_tup (pda_cons pd_int (pda_cons pd_int pda_nil))) (pda_cons (pd_tup (pda_cons pd_int (pda_cons pd_int pda_nil))) pda_nil))))) (pdg_tup (n := 2) rfl (pdgs_cons (pdg_name 8 sc_law.nd) (pdgs_cons (pdg_name 9 sc_law.nd) pdgs_nil))) (pdss_one (pds_if (pdt_cmp (op_neD hr.units) sr_ne (pd_callG hgu (ok_law_doors T TB1) (hr.mono (by decide)) (by rfl) T.g_law_doors T.F_law_doors.kp T.b_law_doors (pda_cons (pd_name 4) (pda_cons (pd_name 8) (pda_cons (pd_name 9) pda_nil)))) (pd_repL (pda_cons (pd_lst (pda_cons pd_str (pda_cons (pd_callTy call_str_int sc_strI (by rfl) T.n_str (by decide +kernel) (pda_cons (pd_name 9) pda_nil)) pda_nil))) pda_nil) pd_int) (nomark _)) (pdss_one (pds_ret pd_bl)) pdss_nil)))
      (pdss_cons (pds_set 7 sc_law.nd (pd_callG hgu (ok_law_doors T TB1) (hr.mono (by decide)) (by rfl) T.g_law_doors T.F_law_doors.kp T.b_law_doors (pda_cons (pd_name 4) (pda_cons (pd_op op_add sr_I0i pd_int (pd_call (ok_law_draw T) (hr.mono (by decide)) (by rfl) T.g_law_draw T.F_law_draw.kp T.b_law_draw (pda_cons (pd_name 5) (pda_cons pd_int pda_nil)))) (pda_cons (pd_op op_add sr_I0i pd_int (pd_call (ok_law_draw T) (hr.mono (by decide)) (by rfl) T.g_law_draw T.F_law_draw.kp T.b_law_draw (pda_cons (pd_name 5) (pda_cons pd_int pda_nil)))) pda_nil)))))
      (pdss_cons (pds_if (pdt_w (pdw_or (pdt_cmp (op_neD hr.units) sr_ne (pd_lc [("_law_one", 10)] rfl sc_law.nd (pdi_list (pd_name 7)) (blkOk_by (N := ["_law_script", "_law_great", "_law_turn", "_law_table", "_law_lacking", "_law_source_here", "_law_odd", "_law_told", "_law_machines", "_law_limit", "_law_one"]) (sc := defScope s_law) (by decide +kernel)) (fun _ _ _ _ _ => (pdg_name 10 sc_law.nd)) (fun _ _ _ _ _ => pdts_nil) (fun _ _ _ _ _ => (pd_ix ix_list sr_ixL (pd_name 10) pd_int))) (pd_lst (pda_cons pd_str (pda_cons pd_str pda_nil))) (nomark _)) (pdw_or1 (pdt_not (pdt_val (pd_callB (cr_all rfl) sc_all (by rfl) T.n_all (by decide +kernel) (pda_cons (pd_lc [("_law_one", 10)] rfl sc_law.nd (pdi_list (pd_name 7)) (blkOk_by (N := ["_law_script", "_law_great", "_law_turn", "_law_table", "_law_lacking", "_law_source_here", "_law_odd", "_law_told", "_law_machines", "_law_limit", "_law_one"]) (sc := defScope s_law) (by decide +kernel)) (fun _ _ _ _ _ => (pdg_name 10 sc_law.nd)) (fun _ _ _ _ _ => pdts_nil) (fun _ _ _ _ _ => (pd_cmp (op_inS' hr.units) sr_inS (pd_ix ix_list sr_ixL (pd_name 10) pd_int) (pd_lst (pda_cons (pd_tup (pda_cons pd_int (pda_cons pd_int pda_nil))) (pda_cons (pd_tup (pda_cons pd_int (pda_cons pd_int pda_nil))) pda_nil))) (by rfl)))) pda_nil))))))) (pdss_one (pds_ret pd_bl)) pdss_nil)
      (pdss_cons (pds_if (pdt_w (pdw_or (pdt_cmp (op_neD hr.units) sr_ne (pd_callG hgu (ok_law_doors T TB1) (hr.mono (by decide)) (by rfl) T.g_law_doors T.F_law_doors.kp T.b_law_doors (pda_cons (pd_name 1) (pda_cons pd_int (pda_cons pd_int pda_nil)))) (pd_repL (pda_cons (pd_lst (pda_cons pd_str (pda_cons pd_str pda_nil))) pda_nil) pd_int) (nomark _)) (pdw_or1 (pdt_cmp (op_neD hr.units) sr_ne (pd_callG hgu (ok_law_doors T TB1) (hr.mono (by decide)) (by rfl) T.g_law_doors T.F_law_doors.kp T.b_law_doors (pda_cons (pd_name 1) (pda_cons pd_int (pda_cons pd_int pda_nil)))) (pd_repL (pda_cons (pd_lst (pda_cons pd_str (pda_cons pd_str pda_nil))) pda_nil) pd_int) (nomark _))))) (pdss_one (pds_ret pd_bl)) pdss_nil)
      (pdss_cons (pds_if (pdt_cmp (op_neD hr.units) sr_ne (pd_callG hgu (ok_law_doors T TB1) (hr.mono (by decide)) (by rfl) T.g_law_doors T.F_law_doors.kp T.b_law_doors (pda_cons (pd_name 3) (pda_cons (pd_op op_add sr_I0i pd_int (pd_call (ok_law_draw T) (hr.mono (by decide)) (by rfl) T.g_law_draw T.F_law_draw.kp T.b_law_draw (pda_cons (pd_name 5) (pda_cons pd_int pda_nil)))) (pda_cons pd_int pda_nil)))) (pd_repL (pda_cons (pd_lst (pda_cons pd_str pda_nil)) pda_nil) pd_int) (nomark _)) (pdss_one (pds_ret pd_bl)) pdss_nil)
      (pdss_one (pds_if (pdt_cmp (op_neD hr.units) sr_ne (pd_callG hgu (ok_law_doors T TB1) (hr.mono (by decide)) (by rfl) T.g_law_doors T.F_law_doors.kp T.b_law_doors (pda_cons (pd_name 1) (pda_cons pd_int (pda_cons pd_int pda_nil)))) (pd_repL (pda_cons (pd_lst (pda_cons pd_str pda_nil)) pda_nil) pd_int) (nomark _)) (pdss_one (pds_ret pd_bl)) pdss_nil)))))))))))
      (pdss_one (pds_ret pd_bl))))), fun ds M Q hl h => ?_⟩)
  obtain ⟨ns, rfl, rfl, q⟩ := h
  have hsl : sizeLine = 16777216 := by decide
  have l1 : (1 : Nat) ≤ sizeLine := by decide
  have l2 : (2 : Nat) ≤ sizeLine := by decide
  have l3 : (3 : Nat) ≤ sizeLine := by decide
  have ok0 : okM [MO.tab T.P1 lq1, .tab T.P2 lq2] := rfl
  refine ⟨l2, l1, l2, l1, l2, l1, l3, rfl, _, 2, 2, SP22, _, _, rowsA, rfl, .inl rfl, rfl, get_last _ _, okM_apI ok0, u22, rwA, [.tab T.P1 lq1, .tab T.P2 lq2], _, rfl, set_last _ _ _, rfl, ap_tb _ _ _ _ _, ok0, ?_⟩
  refine ⟨l2, l1, l2, l1, l2, l1, l3, rfl, _, 3, 2, SP32, _, _, rowsB, rfl, .inl rfl, rfl, get_last _ _, okM_apI ok0, u32, rwB, [.tab T.P1 lq1, .tab T.P2 lq2], _, rfl, set_last _ _ _, rfl, ap_tb _ _ _ _ _, ok0, l2, _, rfl, rfl, _, _, rfl, _, _, rfl, rfl, ?_⟩
  refine ⟨l1, l1, l1, 6, rfl, by decide, by decide, (by show 1 * 6 ≤ sizeLine; decide), rfl, _, 2, 1, SP21, _, _, rowsG, rfl, .inl rfl, rfl, get_last _ _, okM_apI ok0, u21, rwG, [.tab T.P1 lq1, .tab T.P2 lq2], _, rfl, set_last _ _ _, rfl, ap_tb _ _ _ _ _, ok0, ?_⟩
  have hr1 : ∀ n : Nat, -(2 ^ 62) ≤ (if (if (10 : Int) < (n : Int) then (10 : Int) else (n : Int)) > 1 then (if (10 : Int) < (n : Int) then (10 : Int) else (n : Int)) else 1) ∧ (if (if (10 : Int) < (n : Int) then (10 : Int) else (n : Int)) > 1 then (if (10 : Int) < (n : Int) then (10 : Int) else (n : Int)) else 1) < 2 ^ 62 := fun n => by
    constructor <;> (repeat' split) <;> omega
  refine ⟨_, rfl, dI ns, .inl rfl, _, _, rfl, _, _, rfl, _, rfl, (hr1 _).1, (hr1 _).2, ?_⟩
  refine for_ind (fun i ρ M => M = [.tab T.P1 lq1, .tab T.P2 lq2] ∧ ∃ x2 x5 x6 x7 x8 x9 x10, ρ = [some (.lst (dI ns)), some (dTab T.a_Sum T.a_Table 2 1 rowsG), x2, some (dTab T.a_Sum T.a_Table 2 2 rowsA), some (dTab T.a_Sum T.a_Table 3 2 rowsB), x5, x6, x7, x8, x9, x10]) _ ?_ ?_ ⟨rfl, none, none, none, none, none, none, none, rfl⟩
  · rintro i d ρ M N hd ⟨rfl, x2, x5, x6, x7, x8, x9, x10, rfl⟩ hN
    obtain ⟨kk, _, rfl⟩ := List.mem_map.mp (List.mem_of_getElem? hd)
    refine ⟨_, rfl, .int _, rfl, rfl, ns, _, rfl, by omega, fun n0 s0 h0 h1 => ⟨rfl, ?_⟩⟩
    have hs0 : Src (T.P1, T.P2) ([.tab T.P1 lq1, .tab T.P2 lq2] ++ [.lst [.int n0, .int s0]]) := ⟨n0, s0, rfl, h0, h1⟩
    generalize ([.tab T.P1 lq1, .tab T.P2 lq2] ++ [.lst [.int n0, .int s0]] : Ms) = M0 at hs0
    have hM0 := hs0.ok
    refine ⟨1, rfl, l1, (by show 7 ≤ sizeLine; decide), _, rfl, ?_⟩
    refine for_ind (fun i ρ M => M = M0 ∧ ∃ x6, ρ = [some (.lst (dI ns)), some (dTab T.a_Sum T.a_Table 2 1 rowsG), some (.int (0 + (kk : Int))), some (dTab T.a_Sum T.a_Table 2 2 rowsA), some (dTab T.a_Sum T.a_Table 3 2 rowsB), some (.mu 2), x6, x7, x8, x9, x10]) _ ?_ ?_ ⟨rfl, _, rfl⟩
    · rintro i d ρ M N2 hd ⟨rfl, x6, rfl⟩ hN2
      have B := oddMs_ok d (List.mem_of_getElem? hd)
      have sh : Shows d := B.sm.shows (by decide) (by decide)
      have k2 := okD_22 (a := "number") (by decide +kernel) B.sm.ok
      refine ⟨_, rfl, d, rfl, rfl, 0, 3, 2, SP32, rowsB, d, .non, _, rfl, hs0.tab1, hM0, u32, rwB, B.t, ⟨_, rfl⟩, goes_badM T B, ap_two (fun _ => rfl), fun o1 o2 h1 h2 => ?_⟩
      subst h1 h2
      refine ⟨d, rfl, d, rfl, sh, l2, l1, 2, rfl, by decide, by decide, (by show 1 * 2 ≤ sizeLine; decide), k2, k2, false, ne_same k2, iff0 ?_⟩
      refine ⟨_, rfl, d, rfl, rfl, 0, 3, 2, SP32, rowsB, .int 2, d, _, rfl, hs0.tab1, hM0, u32, rwB, ⟨_, rfl⟩, B.t, goes_badL T (m := 2) (by decide) (by decide) B, ap_two (fun _ => rfl), fun o1 o2 h1 h2 => ?_⟩
      subst h1 h2
      exact ⟨d, rfl, d, rfl, sh, l2, l1, 2, rfl, by decide, by decide, (by show 1 * 2 ≤ sizeLine; decide), k2, k2, false, ne_same k2, hN2 _ _ ⟨rfl, _, rfl⟩⟩
    rintro ρ M ⟨rfl, x6, rfl⟩
    refine ⟨2, rfl, l1, (by show 5 ≤ sizeLine; decide), _, rfl, ?_⟩
    refine for_ind (fun i ρ M' => M' = M ∧ ∃ x6, ρ = [some (.lst (dI ns)), some (dTab T.a_Sum T.a_Table 2 1 rowsG), some (.int (0 + (kk : Int))), some (dTab T.a_Sum T.a_Table 2 2 rowsA), some (dTab T.a_Sum T.a_Table 3 2 rowsB), some (.mu 2), x6, x7, x8, x9, x10]) _ ?_ ?_ ⟨rfl, _, rfl⟩
    · rintro i d ρ M' N2 hd ⟨rfl, x6, rfl⟩ hN2
      have B := oddSs_ok d (List.mem_of_getElem? hd)
      have sh : Shows d := B.sm.shows (by decide) (by decide)
      have k2 := okD_two (a := "number") (by decide +kernel) B.sm.ok
      refine ⟨⟨1, hs0.tab2⟩, _, rfl, d, rfl, rfl, 3, 2, SP32, rowsB, .int 1, .int 1, d, rfl, u32, rwB, hM0, ⟨_, rfl⟩, ⟨_, rfl⟩, B.t, ⟨fun z => absurd z (by decide), fun _ => ⟨fun z => absurd z (by decide), fun _ => ⟨fun _ => ⟨_, pickN T sh, ?_⟩, fun z => absurd z (by rw [B.no]; exact Bool.noConfusion)⟩⟩⟩⟩
      exact ⟨d, rfl, d, rfl, sh, l2, k2, k2, false, by rw [eqD_refl k2]; rfl, hN2 _ _ ⟨rfl, _, rfl⟩⟩
    rintro ρ M' ⟨rfl, x6, rfl⟩
    refine ⟨l2, l2, l2, l3, _, rfl, ?_⟩
    refine for_ind (fun i ρ M2 => M2 = M' ∧ ∃ x8 x9, ρ = [some (.lst (dI ns)), some (dTab T.a_Sum T.a_Table 2 1 rowsG), some (.int (0 + (kk : Int))), some (dTab T.a_Sum T.a_Table 2 2 rowsA), some (dTab T.a_Sum T.a_Table 3 2 rowsB), some (.mu 2), x6, x7, x8, x9, x10]) _ ?_ ?_ ⟨rfl, _, _, rfl⟩
    · rintro i d ρ M2 N2 hd ⟨rfl, x8, x9, rfl⟩ hN2
      obtain ⟨a, b, rfl, a1, a6, b1, b6, hab⟩ : ∃ a b : Nat, d = .tup [.int a, .int b] ∧ 1 ≤ a ∧ a ≤ 6 ∧ 1 ≤ b ∧ b ≤ 6 ∧ a * b < rowsB.length := by
        have := List.mem_of_getElem? hd
        simp only [List.mem_cons, List.not_mem_nil, or_false] at this
        rcases this with rfl | rfl | rfl
        · exact ⟨1, 1, rfl, by decide, by decide, by decide, by decide, by decide⟩
        · exact ⟨1, 2, rfl, by decide, by decide, by decide, by decide, by decide⟩
        · exact ⟨2, 1, rfl, by decide, by decide, by decide, by decide, by decide⟩
      have sm : Sm 5 0 (.int (b : Int)) := sm_int5 _ (by omega)
      have k2 := okD_22 (a := "limit") (by decide +kernel) sm.ok
      refine ⟨_, rfl, rfl, _, _, rfl, _, _, rfl, rfl, ?_⟩
      refine ⟨_, rfl, _, rfl, _, rfl, rfl, 0, 3, 2, SP32, rowsB, .int a, .int b, _, rfl, hs0.tab1, hM0, u32, rwB, ⟨_, rfl⟩, ⟨_, rfl⟩, goes_tight T a1 a6 b1 b6 hab, ap_two (fun _ => rfl), fun o1 o2 h1 h2 => ?_⟩
      subst h1 h2
      exact ⟨_, rfl, (b : Int), rfl, log_small (by omega), l2, l1, 2, rfl, by decide, by decide, (by show 1 * 2 ≤ sizeLine; decide), k2, k2, false, ne_same k2, hN2 _ _ ⟨rfl, _, _, rfl⟩⟩
    rintro ρ M2 ⟨rfl, x8, x9, rfl⟩
    refine ⟨_, rfl, .mu 2, rfl, rfl, 5, rfl, hs0.at, by decide, by decide, fun r M3 hc1 r0 r5 => ⟨2, r, rfl, rfl, ?_⟩⟩
    have hs1 := hs0.cu hc1
    refine ⟨.mu 2, rfl, rfl, 5, rfl, hs1.at, by decide, by decide, fun r' M4 hc2 r0' r5' => ⟨2, r', rfl, rfl, ?_⟩⟩
    have hs2 := hs1.cu hc2
    have hM2 := hs2.ok
    obtain ⟨m, em⟩ : ∃ m : Nat, 2 + r = (m : Int) := ⟨(2 + r).toNat, by omega⟩
    obtain ⟨l, el⟩ : ∃ l : Nat, 2 + r' = (l : Int) := ⟨(2 + r').toNat, by omega⟩
    refine ⟨rfl, 0, 3, 2, SP32, rowsB, .int (2 + r), .int (2 + r'), (· = two "lost" (tI [1, 1])), rfl, hs2.tab1, hM2, u32, rwB, ⟨_, rfl⟩, ⟨_, rfl⟩, (by rw [em, el]; exact goes_lost T (by omega) (by omega) (by omega) (by omega)), ap_two (d := tI [1, 1]) (fun k => rfl), fun o1 o2 h1 h2 => ?_⟩
    subst h1 h2
    refine ⟨_, rfl, _, rfl, lc_map (fun _ => D.str "lost") _ _ (fun e he R hR => ?_) (by show 0 + 2 ≤ sizeLine; decide) ?_⟩
    · obtain rfl : e = two "lost" (tI [1, 1]) := by simpa using he
      exact ⟨_, rfl, _, 0, _, rfl, rfl, ⟨by decide, rfl⟩, hR⟩
    refine ⟨l2, kLL, kLL, false, ne_same kLL, iff0 ?_⟩
    refine ⟨_, rfl, _, rfl, lc_map (fun _ => D.bl true) _ _ (fun e he R hR => ?_) (by show 0 + 2 ≤ sizeLine; decide) ?_⟩
    · obtain rfl : e = two "lost" (tI [1, 1]) := by simpa using he
      exact ⟨_, rfl, _, 1, _, rfl, rfl, ⟨by decide, rfl⟩, l2, l2, l2, _, .inl rfl, by decide +kernel, by decide +kernel, by decide +kernel, hR⟩
    refine ⟨[true, true], rfl, _, rfl, iff0 ?_⟩
    refine ⟨_, rfl, rfl, 0, 2, 1, SP21, rowsG, .int 5, .int 2, _, rfl, hs2.tab1, hM2, u21, rwG, ⟨_, rfl⟩, ⟨_, rfl⟩, goes_big T (m := 5) (l := 2) (by decide) (by decide) (by decide) (by decide) (by decide) whG (by decide), ap_two (fun _ => rfl), fun o1 o2 h1 h2 => ?_⟩
    subst h1 h2
    refine ⟨l2, l1, 2, rfl, by decide, by decide, (by show 1 * 2 ≤ sizeLine; decide), kBig, kBig, false, ne_same kBig, iff0 ?_⟩
    refine ⟨_, rfl, rfl, 0, 2, 1, SP21, rowsG, .int 6, .int 1, _, rfl, hs2.tab1, hM2, u21, rwG, ⟨_, rfl⟩, ⟨_, rfl⟩, goes_big T (m := 6) (l := 1) (by decide) (by decide) (by decide) (by decide) (by decide) whG (by decide), ap_two (fun _ => rfl), fun o1 o2 h1 h2 => ?_⟩
    subst h1 h2
    refine ⟨l2, l1, 2, rfl, by decide, by decide, (by show 1 * 2 ≤ sizeLine; decide), kBig, kBig, false, ne_same kBig, iff0 ?_⟩
    refine ⟨_, rfl, .mu 2, rfl, rfl, 3, rfl, hs2.at, by decide, by decide, fun r3 M5 hc3 s0 s3 => ⟨1, r3, rfl, rfl, ?_⟩⟩
    have hs3 := hs2.cu hc3
    have hM3 := hs3.ok
    obtain ⟨m3, em3⟩ : ∃ m : Nat, 1 + r3 = (m : Int) := ⟨(1 + r3).toNat, by omega⟩
    have hm3 : m3 = 1 ∨ m3 = 2 ∨ m3 = 3 := by omega
    refine ⟨rfl, 0, 2, 2, SP22, rowsA, .int (1 + r3), .int 3, (· = .lst [.str "done"]), rfl, hs3.tab1, hM3, u22, rwA, ⟨_, rfl⟩, ⟨_, rfl⟩, (by rw [em3]; exact goes_done T (m := m3) (l := 3) (by omega) (by omega) (by decide) (by decide) (by show 3 ≤ m3 * 3; omega) whA (by rcases hm3 with rfl | rfl | rfl <;> decide) (roomA m3 hm3)), apDone, fun o1 o2 h1 h2 => ?_⟩
    subst h1 h2
    refine ⟨l1, l1, 2, rfl, by decide, by decide, (by show 1 * 2 ≤ sizeLine; decide), kDone, kDone, false, ne_same kDone, iff0 ?_⟩
    refine ⟨_, rfl, rfl, 0, 2, 1, SP21, rowsG, .int 3, .int 2, _, rfl, hs3.tab1, hM3, u21, rwG, ⟨_, rfl⟩, ⟨_, rfl⟩, goes_done T (m := 3) (l := 2) (by decide) (by decide) (by decide) (by decide) (by decide) whG (by decide) roomG, apDone, fun o1 o2 h1 h2 => ?_⟩
    subst h1 h2
    refine ⟨l1, l1, 2, rfl, by decide, by decide, (by show 1 * 2 ≤ sizeLine; decide), kDone, kDone, false, ne_same kDone, iff0 ?_⟩
    obtain ⟨n5, s5, rfl, _, _⟩ := hs3
    refine ⟨[.tab T.P1 lq1, .tab T.P2 lq2], _, rfl, rfl, rfl, hN _ _ ⟨rfl, ?_⟩⟩
    have ec : ∀ r : Rho, clean 2 (some (.lst (dI ns)) :: some (dTab T.a_Sum T.a_Table 2 1 rowsG) :: some (.int (0 + (kk : Int))) :: some (dTab T.a_Sum T.a_Table 2 2 rowsA) :: some (dTab T.a_Sum T.a_Table 3 2 rowsB) :: r) = some (.lst (dI ns)) :: some (dTab T.a_Sum T.a_Table 2 1 rowsG) :: some (.int (0 + (kk : Int))) :: some (dTab T.a_Sum T.a_Table 2 2 rowsA) :: some (dTab T.a_Sum T.a_Table 3 2 rowsB) :: clean 2 r := fun r => by
      rw [clean_cons 2 (.lst (dI ns)) _ (apartA_ints 2 ns), clean_cons 2 (dTab T.a_Sum T.a_Table _ _ _) _ (show apart 2 (dTab T.a_Sum T.a_Table _ _ _) = true from ap_tb _ _ _ _ _), clean_cons 2 (.int _) _ rfl, clean_cons 2 (dTab T.a_Sum T.a_Table _ _ _) _ (show apart 2 (dTab T.a_Sum T.a_Table _ _ _) = true from ap_tb _ _ _ _ _), clean_cons 2 (dTab T.a_Sum T.a_Table _ _ _) _ (show apart 2 (dTab T.a_Sum T.a_Table _ _ _) = true from ap_tb _ _ _ _ _)]
    exact ⟨_, _, _, _, _, _, _, ec _⟩
  · rintro ρ M ⟨rfl, _⟩
    exact q
end
end K36
set_option Elab.async false
set_option linter.all false
set_option maxRecDepth 100000
set_option maxHeartbeats 4000000
namespace K36
open PySem PySem.Spec PyProof.Rows L2 Pd
theorem gs_dict {K : PySem.W.Frag} {P : Program} {w : World} {d : Addr} {h1 h2 h3 h4 : Int} {t1 t2 t3 t4 u1 u2 u3 u4 : Tok} {n0 : Nat}
    (l : K.lookup d = some ⟨.type "dict", none, .dict #[⟨h1, .int 2 t1, .int 6 u1⟩, ⟨h2, .int 3 t2, .int 6 u2⟩, ⟨h3, .int 5 t3, .int 5 u3⟩, ⟨h4, .int 7 t4, .int 4 u4⟩] n0, #[]⟩)
    (e : h1 = hashInt 2 ∧ h2 = hashInt 3 ∧ h3 = hashInt 5 ∧ h4 = hashInt 7) (o : (d == sysModules) = false) : IntD K P w d gsz := by
  obtain ⟨rfl, rfl, rfl, rfl⟩ := e
  refine ⟨⟨_, _, l, fun x hx => ?_, fun k => ?_⟩, o⟩
  · simp only [List.mem_toArray, List.mem_cons, List.not_mem_nil, or_false] at hx
    rcases hx with rfl | rfl | rfl | rfl
    · exact ⟨2, rfl, rfl⟩
    · exact ⟨3, rfl, rfl⟩
    · exact ⟨5, rfl, rfl⟩
    · exact ⟨7, rfl, rfl⟩
  · unfold findBy gsz
    simp only [List.find?_toArray, List.find?_cons, List.find?_nil, Value.isInt]
    by_cases e2 : k = 2
    · subst e2; exact .inr ⟨6, u1, rfl, rfl⟩
    by_cases e3 : k = 3
    · subst e3; exact .inr ⟨6, u2, rfl, rfl⟩
    by_cases e5 : k = 5
    · subst e5; exact .inr ⟨5, u3, rfl, rfl⟩
    by_cases e7 : k = 7
    · subst e7; exact .inr ⟨4, u4, rfl, rfl⟩
    rw [if_neg e2, if_neg e3, if_neg e5, if_neg e7]
    have f : ∀ a : Int, k ≠ a → (a == k) = false := fun a h => by simpa using fun z => h z.symm
    rw [f 2 e2, f 3 e3, f 5 e5, f 7 e7]
    exact .inl ⟨rfl, rfl⟩
theorem tab_mk {K : PySem.W.Frag} {x : Str} {f c P : Addr} {oc : Value} {od : Option Addr} {sl : Array (Option Value)} {fd : FuncData} {oc2 : Value} {od2 : Option Addr} {sl2 : Array (Option Value)} {vs : Array Value} (h1 : PySem.W.nsIn K mainGlobals x = some (some (.ref f)))
    (h2 : K.lookup f = some ⟨oc, od, .func fd, sl⟩) (h3 : fd.code = .ref c) (h4 : K.lookup c = some ⟨oc2, od2, .fields vs, sl2⟩) (h5 : vs[11]? = some (.ref P)) : PySem.W.tabIn K x = some (c, P) := by
  unfold PySem.W.tabIn
  rw [h1]; simp only; rw [h2]; simp only; rw [h3]; simp only; rw [h4]; simp only; rw [h5]
/-- what a code object's record must hold -/
def codeB (vs : Array Value) (c P : Addr) : Bool := ((((match vs.getD 18 Value.none with | .str _ _ => true | _ => false) && match vs.getD 7 Value.none with | .int _ _ => true | _ => false) && match vs.getD 9 Value.none with | .bool _ => true | _ => false) && match vs.getD 10 Value.none with | .int _ _ => true | _ => false) && c != P
theorem codeB_hd {K : PySem.W.Frag} {c P : Addr} {od : Option Addr} {sl : Array (Option Value)} {vs : Array Value} (h4 : K.lookup c = some ⟨.type "code", od, .fields vs, sl⟩) (h5 : vs[11]? = some (.ref P)) (h : codeB vs c P = true) : PySem.W.codeHdIn K c P = true := by
  unfold PySem.W.codeHdIn
  rw [h4]
  simp only [h5, beq_self_eq_true, Bool.true_and]
  exact h
theorem all_mk {l : PySem.W.OpenLaw} {w : World} {K : PySem.W.Frag} {h : Heap} {mg : Str → Option Value} {fa : Addr} (X : K.In h) (G : h.Ns mainGlobals mg) (hfa : mg "law" = some (.ref fa))
    {a_InvalidNumber a_LimitExceeded a_Lost a_Sum a_Space a_Placing a_Table a_is_integer a_is_between a_has_items a_all_between a_is_ascending a_are_pieces a_is_spot a_are_spots a_spots_of_parts a_power a_all_tuples a_all_groups a_InvalidNumber_init a_LimitExceeded_init a_Lost_init a_is_prime a_is_size a_is_data a_expect_prime_and_size a_is_sum a_Sum_init a_Sum_unit q_unit a_Sum_prime q_Sum_prime a_Sum_factors q_Sum_factors a_Sum_size q_Sum_size a_Sum_call a_minus a_remainder a_led_by_one a_reduced_rows a_zero_row a_zero_rows a_blind_for a_Space_init a_Space_prime q_Space_prime a_Space_size q_Space_size a_Space_reduced_sums q_Space_reduced_sums a_Space_is_whole q_Space_is_whole a_are_wishes a_least_losses a_fatal a_units_of a_Placing_init a_machines_of a_weakest a_expect_counts a_expect_room a_roomy_placings a_best_placing a_expect_pieces a_Table_init a_Table_prime q_Table_prime a_Table_size q_Table_size a_Table_pieces q_Table_pieces a_Table_is_whole q_Table_is_whole a_Table_len a_Table_space a_Table_spots_of a_is_barred a_law_source a_law_draw a_law_said a_law_doors a_law a_GS dT_Space_init dE_Space_init dT_Table_space cl1 P1 cl2 P2 : Addr}
    {od_is_integer an_is_integer od_is_between an_is_between od_has_items an_has_items od_all_between an_all_between od_is_ascending an_is_ascending od_are_pieces an_are_pieces od_is_spot an_is_spot od_are_spots an_are_spots od_spots_of_parts an_spots_of_parts od_power an_power od_all_tuples an_all_tuples od_all_groups an_all_groups od_InvalidNumber_init an_InvalidNumber_init od_LimitExceeded_init an_LimitExceeded_init od_Lost_init an_Lost_init od_is_prime an_is_prime od_is_size an_is_size od_is_data an_is_data od_expect_prime_and_size an_expect_prime_and_size od_is_sum an_is_sum od_Sum_init an_Sum_init od_Sum_unit an_Sum_unit od_Sum_prime an_Sum_prime od_Sum_factors an_Sum_factors od_Sum_size an_Sum_size od_Sum_call an_Sum_call od_minus an_minus od_remainder an_remainder od_led_by_one an_led_by_one od_reduced_rows an_reduced_rows od_zero_row an_zero_row od_zero_rows an_zero_rows od_blind_for an_blind_for od_Space_init an_Space_init od_Space_prime an_Space_prime od_Space_size an_Space_size od_Space_reduced_sums an_Space_reduced_sums od_Space_is_whole an_Space_is_whole od_are_wishes an_are_wishes od_least_losses an_least_losses od_fatal an_fatal od_units_of an_units_of od_Placing_init an_Placing_init od_machines_of an_machines_of od_weakest an_weakest od_expect_counts an_expect_counts od_expect_room an_expect_room od_roomy_placings an_roomy_placings od_best_placing an_best_placing od_expect_pieces an_expect_pieces od_Table_init an_Table_init od_Table_prime an_Table_prime od_Table_size an_Table_size od_Table_pieces an_Table_pieces od_Table_is_whole an_Table_is_whole od_Table_len an_Table_len od_Table_space an_Table_space od_Table_spots_of an_Table_spots_of od_is_barred an_is_barred od_law_source an_law_source od_law_draw an_law_draw od_law_said an_law_said od_law_doors an_law_doors od_law an_law : Option Addr}
    {sl_is_integer sl_is_between sl_has_items sl_all_between sl_is_ascending sl_are_pieces sl_is_spot sl_are_spots sl_spots_of_parts sl_power sl_all_tuples sl_all_groups sl_InvalidNumber_init sl_LimitExceeded_init sl_Lost_init sl_is_prime sl_is_size sl_is_data sl_expect_prime_and_size sl_is_sum sl_Sum_init sl_Sum_unit sl_Sum_prime sl_Sum_factors sl_Sum_size sl_Sum_call sl_minus sl_remainder sl_led_by_one sl_reduced_rows sl_zero_row sl_zero_rows sl_blind_for sl_Space_init sl_Space_prime sl_Space_size sl_Space_reduced_sums sl_Space_is_whole sl_are_wishes sl_least_losses sl_fatal sl_units_of sl_Placing_init sl_machines_of sl_weakest sl_expect_counts sl_expect_room sl_roomy_placings sl_best_placing sl_expect_pieces sl_Table_init sl_Table_prime sl_Table_size sl_Table_pieces sl_Table_is_whole sl_Table_len sl_Table_space sl_Table_spots_of sl_is_barred sl_law_source sl_law_draw sl_law_said sl_law_doors sl_law : Array (Option Value)}
    {oc_is_integer kV_is_integer dc_is_integer pm_is_integer cd_is_integer ct_is_integer oc_is_between kV_is_between dc_is_between pm_is_between cd_is_between ct_is_between oc_has_items kV_has_items dc_has_items pm_has_items cd_has_items ct_has_items oc_all_between kV_all_between dc_all_between pm_all_between cd_all_between ct_all_between oc_is_ascending kV_is_ascending dc_is_ascending pm_is_ascending cd_is_ascending ct_is_ascending oc_are_pieces kV_are_pieces dc_are_pieces pm_are_pieces cd_are_pieces ct_are_pieces oc_is_spot kV_is_spot dc_is_spot pm_is_spot cd_is_spot ct_is_spot oc_are_spots kV_are_spots dc_are_spots pm_are_spots cd_are_spots ct_are_spots oc_spots_of_parts kV_spots_of_parts dc_spots_of_parts pm_spots_of_parts cd_spots_of_parts ct_spots_of_parts oc_power kV_power dc_power pm_power cd_power ct_power oc_all_tuples kV_all_tuples dc_all_tuples pm_all_tuples cd_all_tuples ct_all_tuples oc_all_groups kV_all_groups dc_all_groups pm_all_groups cd_all_groups ct_all_groups oc_InvalidNumber_init kV_InvalidNumber_init dc_InvalidNumber_init pm_InvalidNumber_init cd_InvalidNumber_init ct_InvalidNumber_init oc_LimitExceeded_init kV_LimitExceeded_init dc_LimitExceeded_init pm_LimitExceeded_init cd_LimitExceeded_init ct_LimitExceeded_init oc_Lost_init kV_Lost_init dc_Lost_init pm_Lost_init cd_Lost_init ct_Lost_init oc_is_prime kV_is_prime dc_is_prime pm_is_prime cd_is_prime ct_is_prime oc_is_size kV_is_size dc_is_size pm_is_size cd_is_size ct_is_size oc_is_data kV_is_data dc_is_data pm_is_data cd_is_data ct_is_data oc_expect_prime_and_size kV_expect_prime_and_size dc_expect_prime_and_size pm_expect_prime_and_size cd_expect_prime_and_size ct_expect_prime_and_size oc_is_sum kV_is_sum dc_is_sum pm_is_sum cd_is_sum ct_is_sum oc_Sum_init kV_Sum_init dc_Sum_init pm_Sum_init cd_Sum_init ct_Sum_init oc_Sum_unit kV_Sum_unit dc_Sum_unit pm_Sum_unit cd_Sum_unit ct_Sum_unit oc_Sum_prime kV_Sum_prime dc_Sum_prime pm_Sum_prime cd_Sum_prime ct_Sum_prime oc_Sum_factors kV_Sum_factors dc_Sum_factors pm_Sum_factors cd_Sum_factors ct_Sum_factors oc_Sum_size kV_Sum_size dc_Sum_size pm_Sum_size cd_Sum_size ct_Sum_size oc_Sum_call kV_Sum_call dc_Sum_call pm_Sum_call cd_Sum_call ct_Sum_call oc_minus kV_minus dc_minus pm_minus cd_minus ct_minus oc_remainder kV_remainder dc_remainder pm_remainder cd_remainder ct_remainder oc_led_by_one kV_led_by_one dc_led_by_one pm_led_by_one cd_led_by_one ct_led_by_one oc_reduced_rows kV_reduced_rows dc_reduced_rows pm_reduced_rows cd_reduced_rows ct_reduced_rows oc_zero_row kV_zero_row dc_zero_row pm_zero_row cd_zero_row ct_zero_row oc_zero_rows kV_zero_rows dc_zero_rows pm_zero_rows cd_zero_rows ct_zero_rows oc_blind_for kV_blind_for dc_blind_for pm_blind_for cd_blind_for ct_blind_for oc_Space_init kV_Space_init dc_Space_init pm_Space_init cd_Space_init ct_Space_init oc_Space_prime kV_Space_prime dc_Space_prime pm_Space_prime cd_Space_prime ct_Space_prime oc_Space_size kV_Space_size dc_Space_size pm_Space_size cd_Space_size ct_Space_size oc_Space_reduced_sums kV_Space_reduced_sums dc_Space_reduced_sums pm_Space_reduced_sums cd_Space_reduced_sums ct_Space_reduced_sums oc_Space_is_whole kV_Space_is_whole dc_Space_is_whole pm_Space_is_whole cd_Space_is_whole ct_Space_is_whole oc_are_wishes kV_are_wishes dc_are_wishes pm_are_wishes cd_are_wishes ct_are_wishes oc_least_losses kV_least_losses dc_least_losses pm_least_losses cd_least_losses ct_least_losses oc_fatal kV_fatal dc_fatal pm_fatal cd_fatal ct_fatal oc_units_of kV_units_of dc_units_of pm_units_of cd_units_of ct_units_of oc_Placing_init kV_Placing_init dc_Placing_init pm_Placing_init cd_Placing_init ct_Placing_init oc_machines_of kV_machines_of dc_machines_of pm_machines_of cd_machines_of ct_machines_of oc_weakest kV_weakest dc_weakest pm_weakest cd_weakest ct_weakest oc_expect_counts kV_expect_counts dc_expect_counts pm_expect_counts cd_expect_counts ct_expect_counts oc_expect_room kV_expect_room dc_expect_room pm_expect_room cd_expect_room ct_expect_room oc_roomy_placings kV_roomy_placings dc_roomy_placings pm_roomy_placings cd_roomy_placings ct_roomy_placings oc_best_placing kV_best_placing dc_best_placing pm_best_placing cd_best_placing ct_best_placing oc_expect_pieces kV_expect_pieces dc_expect_pieces pm_expect_pieces cd_expect_pieces ct_expect_pieces oc_Table_init kV_Table_init dc_Table_init pm_Table_init cd_Table_init ct_Table_init oc_Table_prime kV_Table_prime dc_Table_prime pm_Table_prime cd_Table_prime ct_Table_prime oc_Table_size kV_Table_size dc_Table_size pm_Table_size cd_Table_size ct_Table_size oc_Table_pieces kV_Table_pieces dc_Table_pieces pm_Table_pieces cd_Table_pieces ct_Table_pieces oc_Table_is_whole kV_Table_is_whole dc_Table_is_whole pm_Table_is_whole cd_Table_is_whole ct_Table_is_whole oc_Table_len kV_Table_len dc_Table_len pm_Table_len cd_Table_len ct_Table_len oc_Table_space kV_Table_space dc_Table_space pm_Table_space cd_Table_space ct_Table_space oc_Table_spots_of kV_Table_spots_of dc_Table_spots_of pm_Table_spots_of cd_Table_spots_of ct_Table_spots_of oc_is_barred kV_is_barred dc_is_barred pm_is_barred cd_is_barred ct_is_barred oc_law_source kV_law_source dc_law_source pm_law_source cd_law_source ct_law_source oc_law_draw kV_law_draw dc_law_draw pm_law_draw cd_law_draw ct_law_draw oc_law_said kV_law_said dc_law_said pm_law_said cd_law_said ct_law_said oc_law_doors kV_law_doors dc_law_doors pm_law_doors cd_law_doors ct_law_doors oc_law kV_law dc_law pm_law cd_law ct_law : Value}
    {pr_unit pr_Sum_prime pr_Sum_factors pr_Sum_size pr_Space_prime pr_Space_size pr_Space_reduced_sums pr_Space_is_whole pr_Table_prime pr_Table_size pr_Table_pieces pr_Table_is_whole : List Value}
    {h1 h2 h3 h4 : Int} {t1 t2 t3 t4 u1 u2 u3 u4 : Tok} {n0 : Nat} {dC_Space_init dC_Table_space : Value} {dD_Space_init dD_Table_space : Option Addr} {dN_Space_init dN_Table_space : Nat} {dS_Space_init dS_Table_space : Array (Option Value)}
    {t_MOST_WISHES : Tok}
    {t_MOST_PIECES : Tok}
    {t_MOST_PARTS : Tok}
    {t_MOST_PARTS_IN_ALL : Tok}
    {t_MOST_MACHINES : Tok}
    {t_MOST_PLACINGS : Tok}
    {nm_InvalidNumber qn_InvalidNumber : Str} {N_InvalidNumber : Addr} {bs_InvalidNumber bm_InvalidNumber sub_InvalidNumber : List Value} {sn_InvalidNumber : List Str} {ab_InvalidNumber : Bool} {col_InvalidNumber : Option Bool} {dd_InvalidNumber : Option Addr} {k0_InvalidNumber k1_InvalidNumber k2_InvalidNumber k3_InvalidNumber k5_InvalidNumber : Option Value}
    {nm_LimitExceeded qn_LimitExceeded : Str} {N_LimitExceeded : Addr} {bs_LimitExceeded bm_LimitExceeded sub_LimitExceeded : List Value} {sn_LimitExceeded : List Str} {ab_LimitExceeded : Bool} {col_LimitExceeded : Option Bool} {dd_LimitExceeded : Option Addr} {k0_LimitExceeded k1_LimitExceeded k2_LimitExceeded k3_LimitExceeded k5_LimitExceeded : Option Value}
    {nm_Lost qn_Lost : Str} {N_Lost : Addr} {bs_Lost bm_Lost sub_Lost : List Value} {sn_Lost : List Str} {ab_Lost : Bool} {col_Lost : Option Bool} {dd_Lost : Option Addr} {k0_Lost k1_Lost k2_Lost k3_Lost k5_Lost : Option Value}
    {q : Program}
    {dr1 : DefRec} {odc1 : Option Addr} {vsc1 : Array Value} {slc1 : Array (Option Value)}
    {dr2 : DefRec} {odc2 : Option Addr} {vsc2 : Array Value} {slc2 : Array (Option Value)}
    (g_InvalidNumber : PySem.W.nsIn K mainGlobals "InvalidNumber" = some (some (.ref a_InvalidNumber)))
    (g_LimitExceeded : PySem.W.nsIn K mainGlobals "LimitExceeded" = some (some (.ref a_LimitExceeded)))
    (g_Lost : PySem.W.nsIn K mainGlobals "Lost" = some (some (.ref a_Lost)))
    (g_Sum : PySem.W.nsIn K mainGlobals "Sum" = some (some (.ref a_Sum)))
    (g_Space : PySem.W.nsIn K mainGlobals "Space" = some (some (.ref a_Space)))
    (g_Placing : PySem.W.nsIn K mainGlobals "Placing" = some (some (.ref a_Placing)))
    (g_Table : PySem.W.nsIn K mainGlobals "Table" = some (some (.ref a_Table)))
    (g_is_integer : PySem.W.nsIn K mainGlobals "is_integer" = some (some (.ref a_is_integer)))
    (i_is_integer : PySem.W.isFn K (.ref a_is_integer) = true)
    (l_is_integer : K.lookup a_is_integer = some ⟨oc_is_integer, od_is_integer, .func (PySem.W.fnOf "is_integer" "is_integer" (defArgs s_is_integer) (defBody s_is_integer) (defScope s_is_integer) .none kV_is_integer dc_is_integer pm_is_integer an_is_integer cd_is_integer ct_is_integer), sl_is_integer⟩)
    (c_is_integer : PySem.W.codeIn K cd_is_integer "is_integer" = true)
    (k_is_integer : PySem.W.keepIn K (.ref a_is_integer) = true)
    (g_is_between : PySem.W.nsIn K mainGlobals "is_between" = some (some (.ref a_is_between)))
    (i_is_between : PySem.W.isFn K (.ref a_is_between) = true)
    (l_is_between : K.lookup a_is_between = some ⟨oc_is_between, od_is_between, .func (PySem.W.fnOf "is_between" "is_between" (defArgs s_is_between) (defBody s_is_between) (defScope s_is_between) .none kV_is_between dc_is_between pm_is_between an_is_between cd_is_between ct_is_between), sl_is_between⟩)
    (c_is_between : PySem.W.codeIn K cd_is_between "is_between" = true)
    (k_is_between : PySem.W.keepIn K (.ref a_is_between) = true)
    (g_has_items : PySem.W.nsIn K mainGlobals "has_items" = some (some (.ref a_has_items)))
    (i_has_items : PySem.W.isFn K (.ref a_has_items) = true)
    (l_has_items : K.lookup a_has_items = some ⟨oc_has_items, od_has_items, .func (PySem.W.fnOf "has_items" "has_items" (defArgs s_has_items) (defBody s_has_items) (defScope s_has_items) .none kV_has_items dc_has_items pm_has_items an_has_items cd_has_items ct_has_items), sl_has_items⟩)
    (c_has_items : PySem.W.codeIn K cd_has_items "has_items" = true)
    (k_has_items : PySem.W.keepIn K (.ref a_has_items) = true)
    (g_all_between : PySem.W.nsIn K mainGlobals "all_between" = some (some (.ref a_all_between)))
    (i_all_between : PySem.W.isFn K (.ref a_all_between) = true)
    (l_all_between : K.lookup a_all_between = some ⟨oc_all_between, od_all_between, .func (PySem.W.fnOf "all_between" "all_between" (defArgs s_all_between) (defBody s_all_between) (defScope s_all_between) .none kV_all_between dc_all_between pm_all_between an_all_between cd_all_between ct_all_between), sl_all_between⟩)
    (c_all_between : PySem.W.codeIn K cd_all_between "all_between" = true)
    (k_all_between : PySem.W.keepIn K (.ref a_all_between) = true)
    (g_is_ascending : PySem.W.nsIn K mainGlobals "is_ascending" = some (some (.ref a_is_ascending)))
    (i_is_ascending : PySem.W.isFn K (.ref a_is_ascending) = true)
    (l_is_ascending : K.lookup a_is_ascending = some ⟨oc_is_ascending, od_is_ascending, .func (PySem.W.fnOf "is_ascending" "is_ascending" (defArgs s_is_ascending) (defBody s_is_ascending) (defScope s_is_ascending) .none kV_is_ascending dc_is_ascending pm_is_ascending an_is_ascending cd_is_ascending ct_is_ascending), sl_is_ascending⟩)
    (c_is_ascending : PySem.W.codeIn K cd_is_ascending "is_ascending" = true)
    (k_is_ascending : PySem.W.keepIn K (.ref a_is_ascending) = true)
    (g_are_pieces : PySem.W.nsIn K mainGlobals "are_pieces" = some (some (.ref a_are_pieces)))
    (i_are_pieces : PySem.W.isFn K (.ref a_are_pieces) = true)
    (l_are_pieces : K.lookup a_are_pieces = some ⟨oc_are_pieces, od_are_pieces, .func (PySem.W.fnOf "are_pieces" "are_pieces" (defArgs s_are_pieces) (defBody s_are_pieces) (defScope s_are_pieces) .none kV_are_pieces dc_are_pieces pm_are_pieces an_are_pieces cd_are_pieces ct_are_pieces), sl_are_pieces⟩)
    (c_are_pieces : PySem.W.codeIn K cd_are_pieces "are_pieces" = true)
    (k_are_pieces : PySem.W.keepIn K (.ref a_are_pieces) = true)
    (g_is_spot : PySem.W.nsIn K mainGlobals "is_spot" = some (some (.ref a_is_spot)))
    (i_is_spot : PySem.W.isFn K (.ref a_is_spot) = true)
    (l_is_spot : K.lookup a_is_spot = some ⟨oc_is_spot, od_is_spot, .func (PySem.W.fnOf "is_spot" "is_spot" (defArgs s_is_spot) (defBody s_is_spot) (defScope s_is_spot) .none kV_is_spot dc_is_spot pm_is_spot an_is_spot cd_is_spot ct_is_spot), sl_is_spot⟩)
    (c_is_spot : PySem.W.codeIn K cd_is_spot "is_spot" = true)
    (k_is_spot : PySem.W.keepIn K (.ref a_is_spot) = true)
    (g_are_spots : PySem.W.nsIn K mainGlobals "are_spots" = some (some (.ref a_are_spots)))
    (i_are_spots : PySem.W.isFn K (.ref a_are_spots) = true)
    (l_are_spots : K.lookup a_are_spots = some ⟨oc_are_spots, od_are_spots, .func (PySem.W.fnOf "are_spots" "are_spots" (defArgs s_are_spots) (defBody s_are_spots) (defScope s_are_spots) .none kV_are_spots dc_are_spots pm_are_spots an_are_spots cd_are_spots ct_are_spots), sl_are_spots⟩)
    (c_are_spots : PySem.W.codeIn K cd_are_spots "are_spots" = true)
    (k_are_spots : PySem.W.keepIn K (.ref a_are_spots) = true)
    (g_spots_of_parts : PySem.W.nsIn K mainGlobals "spots_of_parts" = some (some (.ref a_spots_of_parts)))
    (i_spots_of_parts : PySem.W.isFn K (.ref a_spots_of_parts) = true)
    (l_spots_of_parts : K.lookup a_spots_of_parts = some ⟨oc_spots_of_parts, od_spots_of_parts, .func (PySem.W.fnOf "spots_of_parts" "spots_of_parts" (defArgs s_spots_of_parts) (defBody s_spots_of_parts) (defScope s_spots_of_parts) .none kV_spots_of_parts dc_spots_of_parts pm_spots_of_parts an_spots_of_parts cd_spots_of_parts ct_spots_of_parts), sl_spots_of_parts⟩)
    (c_spots_of_parts : PySem.W.codeIn K cd_spots_of_parts "spots_of_parts" = true)
    (k_spots_of_parts : PySem.W.keepIn K (.ref a_spots_of_parts) = true)
    (g_power : PySem.W.nsIn K mainGlobals "power" = some (some (.ref a_power)))
    (i_power : PySem.W.isFn K (.ref a_power) = true)
    (l_power : K.lookup a_power = some ⟨oc_power, od_power, .func (PySem.W.fnOf "power" "power" (defArgs s_power) (defBody s_power) (defScope s_power) .none kV_power dc_power pm_power an_power cd_power ct_power), sl_power⟩)
    (c_power : PySem.W.codeIn K cd_power "power" = true)
    (k_power : PySem.W.keepIn K (.ref a_power) = true)
    (g_all_tuples : PySem.W.nsIn K mainGlobals "all_tuples" = some (some (.ref a_all_tuples)))
    (i_all_tuples : PySem.W.isFn K (.ref a_all_tuples) = true)
    (l_all_tuples : K.lookup a_all_tuples = some ⟨oc_all_tuples, od_all_tuples, .func (PySem.W.fnOf "all_tuples" "all_tuples" (defArgs s_all_tuples) (defBody s_all_tuples) (defScope s_all_tuples) .none kV_all_tuples dc_all_tuples pm_all_tuples an_all_tuples cd_all_tuples ct_all_tuples), sl_all_tuples⟩)
    (c_all_tuples : PySem.W.codeIn K cd_all_tuples "all_tuples" = true)
    (k_all_tuples : PySem.W.keepIn K (.ref a_all_tuples) = true)
    (g_all_groups : PySem.W.nsIn K mainGlobals "all_groups" = some (some (.ref a_all_groups)))
    (i_all_groups : PySem.W.isFn K (.ref a_all_groups) = true)
    (l_all_groups : K.lookup a_all_groups = some ⟨oc_all_groups, od_all_groups, .func (PySem.W.fnOf "all_groups" "all_groups" (defArgs s_all_groups) (defBody s_all_groups) (defScope s_all_groups) .none kV_all_groups dc_all_groups pm_all_groups an_all_groups cd_all_groups ct_all_groups), sl_all_groups⟩)
    (c_all_groups : PySem.W.codeIn K cd_all_groups "all_groups" = true)
    (k_all_groups : PySem.W.keepIn K (.ref a_all_groups) = true)
    (f_InvalidNumber_init : PySem.W.findIn K (.ref a_InvalidNumber) "__init__" = some (some (.ref a_InvalidNumber_init)))
    (i_InvalidNumber_init : PySem.W.isFn K (.ref a_InvalidNumber_init) = true)
    (l_InvalidNumber_init : K.lookup a_InvalidNumber_init = some ⟨oc_InvalidNumber_init, od_InvalidNumber_init, .func (PySem.W.fnOf "__init__" "InvalidNumber.__init__" (defArgs s_InvalidNumber_init) (defBody s_InvalidNumber_init) (defScope s_InvalidNumber_init) .none kV_InvalidNumber_init dc_InvalidNumber_init pm_InvalidNumber_init an_InvalidNumber_init cd_InvalidNumber_init ct_InvalidNumber_init), sl_InvalidNumber_init⟩)
    (c_InvalidNumber_init : PySem.W.codeIn K cd_InvalidNumber_init "InvalidNumber.__init__" = true)
    (k_InvalidNumber_init : PySem.W.keepIn K (.ref a_InvalidNumber_init) = true)
    (f_LimitExceeded_init : PySem.W.findIn K (.ref a_LimitExceeded) "__init__" = some (some (.ref a_LimitExceeded_init)))
    (i_LimitExceeded_init : PySem.W.isFn K (.ref a_LimitExceeded_init) = true)
    (l_LimitExceeded_init : K.lookup a_LimitExceeded_init = some ⟨oc_LimitExceeded_init, od_LimitExceeded_init, .func (PySem.W.fnOf "__init__" "LimitExceeded.__init__" (defArgs s_LimitExceeded_init) (defBody s_LimitExceeded_init) (defScope s_LimitExceeded_init) .none kV_LimitExceeded_init dc_LimitExceeded_init pm_LimitExceeded_init an_LimitExceeded_init cd_LimitExceeded_init ct_LimitExceeded_init), sl_LimitExceeded_init⟩)
    (c_LimitExceeded_init : PySem.W.codeIn K cd_LimitExceeded_init "LimitExceeded.__init__" = true)
    (k_LimitExceeded_init : PySem.W.keepIn K (.ref a_LimitExceeded_init) = true)
    (f_Lost_init : PySem.W.findIn K (.ref a_Lost) "__init__" = some (some (.ref a_Lost_init)))
    (i_Lost_init : PySem.W.isFn K (.ref a_Lost_init) = true)
    (l_Lost_init : K.lookup a_Lost_init = some ⟨oc_Lost_init, od_Lost_init, .func (PySem.W.fnOf "__init__" "Lost.__init__" (defArgs s_Lost_init) (defBody s_Lost_init) (defScope s_Lost_init) .none kV_Lost_init dc_Lost_init pm_Lost_init an_Lost_init cd_Lost_init ct_Lost_init), sl_Lost_init⟩)
    (c_Lost_init : PySem.W.codeIn K cd_Lost_init "Lost.__init__" = true)
    (k_Lost_init : PySem.W.keepIn K (.ref a_Lost_init) = true)
    (g_is_prime : PySem.W.nsIn K mainGlobals "is_prime" = some (some (.ref a_is_prime)))
    (i_is_prime : PySem.W.isFn K (.ref a_is_prime) = true)
    (l_is_prime : K.lookup a_is_prime = some ⟨oc_is_prime, od_is_prime, .func (PySem.W.fnOf "is_prime" "is_prime" (defArgs s_is_prime) (defBody s_is_prime) (defScope s_is_prime) .none kV_is_prime dc_is_prime pm_is_prime an_is_prime cd_is_prime ct_is_prime), sl_is_prime⟩)
    (c_is_prime : PySem.W.codeIn K cd_is_prime "is_prime" = true)
    (k_is_prime : PySem.W.keepIn K (.ref a_is_prime) = true)
    (g_is_size : PySem.W.nsIn K mainGlobals "is_size" = some (some (.ref a_is_size)))
    (i_is_size : PySem.W.isFn K (.ref a_is_size) = true)
    (l_is_size : K.lookup a_is_size = some ⟨oc_is_size, od_is_size, .func (PySem.W.fnOf "is_size" "is_size" (defArgs s_is_size) (defBody s_is_size) (defScope s_is_size) .none kV_is_size dc_is_size pm_is_size an_is_size cd_is_size ct_is_size), sl_is_size⟩)
    (c_is_size : PySem.W.codeIn K cd_is_size "is_size" = true)
    (k_is_size : PySem.W.keepIn K (.ref a_is_size) = true)
    (g_is_data : PySem.W.nsIn K mainGlobals "is_data" = some (some (.ref a_is_data)))
    (i_is_data : PySem.W.isFn K (.ref a_is_data) = true)
    (l_is_data : K.lookup a_is_data = some ⟨oc_is_data, od_is_data, .func (PySem.W.fnOf "is_data" "is_data" (defArgs s_is_data) (defBody s_is_data) (defScope s_is_data) .none kV_is_data dc_is_data pm_is_data an_is_data cd_is_data ct_is_data), sl_is_data⟩)
    (c_is_data : PySem.W.codeIn K cd_is_data "is_data" = true)
    (k_is_data : PySem.W.keepIn K (.ref a_is_data) = true)
    (g_expect_prime_and_size : PySem.W.nsIn K mainGlobals "expect_prime_and_size" = some (some (.ref a_expect_prime_and_size)))
    (i_expect_prime_and_size : PySem.W.isFn K (.ref a_expect_prime_and_size) = true)
    (l_expect_prime_and_size : K.lookup a_expect_prime_and_size = some ⟨oc_expect_prime_and_size, od_expect_prime_and_size, .func (PySem.W.fnOf "expect_prime_and_size" "expect_prime_and_size" (defArgs s_expect_prime_and_size) (defBody s_expect_prime_and_size) (defScope s_expect_prime_and_size) .none kV_expect_prime_and_size dc_expect_prime_and_size pm_expect_prime_and_size an_expect_prime_and_size cd_expect_prime_and_size ct_expect_prime_and_size), sl_expect_prime_and_size⟩)
    (c_expect_prime_and_size : PySem.W.codeIn K cd_expect_prime_and_size "expect_prime_and_size" = true)
    (k_expect_prime_and_size : PySem.W.keepIn K (.ref a_expect_prime_and_size) = true)
    (g_is_sum : PySem.W.nsIn K mainGlobals "is_sum" = some (some (.ref a_is_sum)))
    (i_is_sum : PySem.W.isFn K (.ref a_is_sum) = true)
    (l_is_sum : K.lookup a_is_sum = some ⟨oc_is_sum, od_is_sum, .func (PySem.W.fnOf "is_sum" "is_sum" (defArgs s_is_sum) (defBody s_is_sum) (defScope s_is_sum) .none kV_is_sum dc_is_sum pm_is_sum an_is_sum cd_is_sum ct_is_sum), sl_is_sum⟩)
    (c_is_sum : PySem.W.codeIn K cd_is_sum "is_sum" = true)
    (k_is_sum : PySem.W.keepIn K (.ref a_is_sum) = true)
    (f_Sum_init : PySem.W.findIn K (.ref a_Sum) "__init__" = some (some (.ref a_Sum_init)))
    (i_Sum_init : PySem.W.isFn K (.ref a_Sum_init) = true)
    (l_Sum_init : K.lookup a_Sum_init = some ⟨oc_Sum_init, od_Sum_init, .func (PySem.W.fnOf "__init__" "Sum.__init__" (defArgs s_Sum_init) (defBody s_Sum_init) (defScope s_Sum_init) .none kV_Sum_init dc_Sum_init pm_Sum_init an_Sum_init cd_Sum_init ct_Sum_init), sl_Sum_init⟩)
    (c_Sum_init : PySem.W.codeIn K cd_Sum_init "Sum.__init__" = true)
    (k_Sum_init : PySem.W.keepIn K (.ref a_Sum_init) = true)
    (sa_unit : PySem.W.findCls K (.ref a_Sum) (.type "type") "unit" = some (.get (.builtin "staticmethod.__get__") (.ref q_unit) .none (.ref a_Sum)))
    (sr_unit : PySem.W.readsIn K a_Sum (.type "type") = true)
    (sg_unit : PySem.W.specialIn K (.ref a_Sum) "__getattribute__" = some (some (.builtin "type.__getattribute__")))
    (sc_unit : PySem.W.recIn K q_unit "staticmethod" = some (.ref a_Sum_unit :: pr_unit))
    (i_Sum_unit : PySem.W.isFn K (.ref a_Sum_unit) = true)
    (l_Sum_unit : K.lookup a_Sum_unit = some ⟨oc_Sum_unit, od_Sum_unit, .func (PySem.W.fnOf "unit" "Sum.unit" (defArgs s_Sum_unit) (defBody s_Sum_unit) (defScope s_Sum_unit) .none kV_Sum_unit dc_Sum_unit pm_Sum_unit an_Sum_unit cd_Sum_unit ct_Sum_unit), sl_Sum_unit⟩)
    (c_Sum_unit : PySem.W.codeIn K cd_Sum_unit "Sum.unit" = true)
    (k_Sum_unit : PySem.W.keepIn K (.ref a_Sum_unit) = true)
    (pa_Sum_prime : PySem.W.findIn K (.ref a_Sum) "prime" = some (some (.ref q_Sum_prime)))
    (pg_Sum_prime : PySem.W.specialIn K (.ref q_Sum_prime) "__get__" = some (some (.builtin "property.__get__")))
    (pt_Sum_prime : PySem.W.takesIn K (.ref q_Sum_prime) = some true)
    (pc_Sum_prime : PySem.W.recIn K q_Sum_prime "property" = some (.ref a_Sum_prime :: pr_Sum_prime))
    (i_Sum_prime : PySem.W.isFn K (.ref a_Sum_prime) = true)
    (l_Sum_prime : K.lookup a_Sum_prime = some ⟨oc_Sum_prime, od_Sum_prime, .func (PySem.W.fnOf "prime" "Sum.prime" (defArgs s_Sum_prime) (defBody s_Sum_prime) (defScope s_Sum_prime) .none kV_Sum_prime dc_Sum_prime pm_Sum_prime an_Sum_prime cd_Sum_prime ct_Sum_prime), sl_Sum_prime⟩)
    (c_Sum_prime : PySem.W.codeIn K cd_Sum_prime "Sum.prime" = true)
    (k_Sum_prime : PySem.W.keepIn K (.ref a_Sum_prime) = true)
    (pa_Sum_factors : PySem.W.findIn K (.ref a_Sum) "factors" = some (some (.ref q_Sum_factors)))
    (pg_Sum_factors : PySem.W.specialIn K (.ref q_Sum_factors) "__get__" = some (some (.builtin "property.__get__")))
    (pt_Sum_factors : PySem.W.takesIn K (.ref q_Sum_factors) = some true)
    (pc_Sum_factors : PySem.W.recIn K q_Sum_factors "property" = some (.ref a_Sum_factors :: pr_Sum_factors))
    (i_Sum_factors : PySem.W.isFn K (.ref a_Sum_factors) = true)
    (l_Sum_factors : K.lookup a_Sum_factors = some ⟨oc_Sum_factors, od_Sum_factors, .func (PySem.W.fnOf "factors" "Sum.factors" (defArgs s_Sum_factors) (defBody s_Sum_factors) (defScope s_Sum_factors) .none kV_Sum_factors dc_Sum_factors pm_Sum_factors an_Sum_factors cd_Sum_factors ct_Sum_factors), sl_Sum_factors⟩)
    (c_Sum_factors : PySem.W.codeIn K cd_Sum_factors "Sum.factors" = true)
    (k_Sum_factors : PySem.W.keepIn K (.ref a_Sum_factors) = true)
    (pa_Sum_size : PySem.W.findIn K (.ref a_Sum) "size" = some (some (.ref q_Sum_size)))
    (pg_Sum_size : PySem.W.specialIn K (.ref q_Sum_size) "__get__" = some (some (.builtin "property.__get__")))
    (pt_Sum_size : PySem.W.takesIn K (.ref q_Sum_size) = some true)
    (pc_Sum_size : PySem.W.recIn K q_Sum_size "property" = some (.ref a_Sum_size :: pr_Sum_size))
    (i_Sum_size : PySem.W.isFn K (.ref a_Sum_size) = true)
    (l_Sum_size : K.lookup a_Sum_size = some ⟨oc_Sum_size, od_Sum_size, .func (PySem.W.fnOf "size" "Sum.size" (defArgs s_Sum_size) (defBody s_Sum_size) (defScope s_Sum_size) .none kV_Sum_size dc_Sum_size pm_Sum_size an_Sum_size cd_Sum_size ct_Sum_size), sl_Sum_size⟩)
    (c_Sum_size : PySem.W.codeIn K cd_Sum_size "Sum.size" = true)
    (k_Sum_size : PySem.W.keepIn K (.ref a_Sum_size) = true)
    (f_Sum_call : PySem.W.findIn K (.ref a_Sum) "__call__" = some (some (.ref a_Sum_call)))
    (i_Sum_call : PySem.W.isFn K (.ref a_Sum_call) = true)
    (l_Sum_call : K.lookup a_Sum_call = some ⟨oc_Sum_call, od_Sum_call, .func (PySem.W.fnOf "__call__" "Sum.__call__" (defArgs s_Sum_call) (defBody s_Sum_call) (defScope s_Sum_call) .none kV_Sum_call dc_Sum_call pm_Sum_call an_Sum_call cd_Sum_call ct_Sum_call), sl_Sum_call⟩)
    (c_Sum_call : PySem.W.codeIn K cd_Sum_call "Sum.__call__" = true)
    (k_Sum_call : PySem.W.keepIn K (.ref a_Sum_call) = true)
    (g_minus : PySem.W.nsIn K mainGlobals "minus" = some (some (.ref a_minus)))
    (i_minus : PySem.W.isFn K (.ref a_minus) = true)
    (l_minus : K.lookup a_minus = some ⟨oc_minus, od_minus, .func (PySem.W.fnOf "minus" "minus" (defArgs s_minus) (defBody s_minus) (defScope s_minus) .none kV_minus dc_minus pm_minus an_minus cd_minus ct_minus), sl_minus⟩)
    (c_minus : PySem.W.codeIn K cd_minus "minus" = true)
    (k_minus : PySem.W.keepIn K (.ref a_minus) = true)
    (g_remainder : PySem.W.nsIn K mainGlobals "remainder" = some (some (.ref a_remainder)))
    (i_remainder : PySem.W.isFn K (.ref a_remainder) = true)
    (l_remainder : K.lookup a_remainder = some ⟨oc_remainder, od_remainder, .func (PySem.W.fnOf "remainder" "remainder" (defArgs s_remainder) (defBody s_remainder) (defScope s_remainder) .none kV_remainder dc_remainder pm_remainder an_remainder cd_remainder ct_remainder), sl_remainder⟩)
    (c_remainder : PySem.W.codeIn K cd_remainder "remainder" = true)
    (k_remainder : PySem.W.keepIn K (.ref a_remainder) = true)
    (g_led_by_one : PySem.W.nsIn K mainGlobals "led_by_one" = some (some (.ref a_led_by_one)))
    (i_led_by_one : PySem.W.isFn K (.ref a_led_by_one) = true)
    (l_led_by_one : K.lookup a_led_by_one = some ⟨oc_led_by_one, od_led_by_one, .func (PySem.W.fnOf "led_by_one" "led_by_one" (defArgs s_led_by_one) (defBody s_led_by_one) (defScope s_led_by_one) .none kV_led_by_one dc_led_by_one pm_led_by_one an_led_by_one cd_led_by_one ct_led_by_one), sl_led_by_one⟩)
    (c_led_by_one : PySem.W.codeIn K cd_led_by_one "led_by_one" = true)
    (k_led_by_one : PySem.W.keepIn K (.ref a_led_by_one) = true)
    (g_reduced_rows : PySem.W.nsIn K mainGlobals "reduced_rows" = some (some (.ref a_reduced_rows)))
    (i_reduced_rows : PySem.W.isFn K (.ref a_reduced_rows) = true)
    (l_reduced_rows : K.lookup a_reduced_rows = some ⟨oc_reduced_rows, od_reduced_rows, .func (PySem.W.fnOf "reduced_rows" "reduced_rows" (defArgs s_reduced_rows) (defBody s_reduced_rows) (defScope s_reduced_rows) .none kV_reduced_rows dc_reduced_rows pm_reduced_rows an_reduced_rows cd_reduced_rows ct_reduced_rows), sl_reduced_rows⟩)
    (c_reduced_rows : PySem.W.codeIn K cd_reduced_rows "reduced_rows" = true)
    (k_reduced_rows : PySem.W.keepIn K (.ref a_reduced_rows) = true)
    (g_zero_row : PySem.W.nsIn K mainGlobals "zero_row" = some (some (.ref a_zero_row)))
    (i_zero_row : PySem.W.isFn K (.ref a_zero_row) = true)
    (l_zero_row : K.lookup a_zero_row = some ⟨oc_zero_row, od_zero_row, .func (PySem.W.fnOf "zero_row" "zero_row" (defArgs s_zero_row) (defBody s_zero_row) (defScope s_zero_row) .none kV_zero_row dc_zero_row pm_zero_row an_zero_row cd_zero_row ct_zero_row), sl_zero_row⟩)
    (c_zero_row : PySem.W.codeIn K cd_zero_row "zero_row" = true)
    (k_zero_row : PySem.W.keepIn K (.ref a_zero_row) = true)
    (g_zero_rows : PySem.W.nsIn K mainGlobals "zero_rows" = some (some (.ref a_zero_rows)))
    (i_zero_rows : PySem.W.isFn K (.ref a_zero_rows) = true)
    (l_zero_rows : K.lookup a_zero_rows = some ⟨oc_zero_rows, od_zero_rows, .func (PySem.W.fnOf "zero_rows" "zero_rows" (defArgs s_zero_rows) (defBody s_zero_rows) (defScope s_zero_rows) .none kV_zero_rows dc_zero_rows pm_zero_rows an_zero_rows cd_zero_rows ct_zero_rows), sl_zero_rows⟩)
    (c_zero_rows : PySem.W.codeIn K cd_zero_rows "zero_rows" = true)
    (k_zero_rows : PySem.W.keepIn K (.ref a_zero_rows) = true)
    (g_blind_for : PySem.W.nsIn K mainGlobals "blind_for" = some (some (.ref a_blind_for)))
    (i_blind_for : PySem.W.isFn K (.ref a_blind_for) = true)
    (l_blind_for : K.lookup a_blind_for = some ⟨oc_blind_for, od_blind_for, .func (PySem.W.fnOf "blind_for" "blind_for" (defArgs s_blind_for) (defBody s_blind_for) (defScope s_blind_for) .none kV_blind_for dc_blind_for pm_blind_for an_blind_for cd_blind_for ct_blind_for), sl_blind_for⟩)
    (c_blind_for : PySem.W.codeIn K cd_blind_for "blind_for" = true)
    (k_blind_for : PySem.W.keepIn K (.ref a_blind_for) = true)
    (f_Space_init : PySem.W.findIn K (.ref a_Space) "__init__" = some (some (.ref a_Space_init)))
    (i_Space_init : PySem.W.isFn K (.ref a_Space_init) = true)
    (l_Space_init : K.lookup a_Space_init = some ⟨oc_Space_init, od_Space_init, .func (PySem.W.fnOf "__init__" "Space.__init__" (defArgs s_Space_init) (defBody s_Space_init) (defScope s_Space_init) (.ref dT_Space_init) kV_Space_init dc_Space_init pm_Space_init an_Space_init cd_Space_init ct_Space_init), sl_Space_init⟩)
    (c_Space_init : PySem.W.codeIn K cd_Space_init "Space.__init__" = true)
    (k_Space_init : PySem.W.keepIn K (.ref a_Space_init) = true)
    (ld_Space_init : K.lookup dT_Space_init = some ⟨dC_Space_init, dD_Space_init, .seq #[.ref dE_Space_init] dN_Space_init, dS_Space_init⟩)
    (pa_Space_prime : PySem.W.findIn K (.ref a_Space) "prime" = some (some (.ref q_Space_prime)))
    (pg_Space_prime : PySem.W.specialIn K (.ref q_Space_prime) "__get__" = some (some (.builtin "property.__get__")))
    (pt_Space_prime : PySem.W.takesIn K (.ref q_Space_prime) = some true)
    (pc_Space_prime : PySem.W.recIn K q_Space_prime "property" = some (.ref a_Space_prime :: pr_Space_prime))
    (i_Space_prime : PySem.W.isFn K (.ref a_Space_prime) = true)
    (l_Space_prime : K.lookup a_Space_prime = some ⟨oc_Space_prime, od_Space_prime, .func (PySem.W.fnOf "prime" "Space.prime" (defArgs s_Space_prime) (defBody s_Space_prime) (defScope s_Space_prime) .none kV_Space_prime dc_Space_prime pm_Space_prime an_Space_prime cd_Space_prime ct_Space_prime), sl_Space_prime⟩)
    (c_Space_prime : PySem.W.codeIn K cd_Space_prime "Space.prime" = true)
    (k_Space_prime : PySem.W.keepIn K (.ref a_Space_prime) = true)
    (pa_Space_size : PySem.W.findIn K (.ref a_Space) "size" = some (some (.ref q_Space_size)))
    (pg_Space_size : PySem.W.specialIn K (.ref q_Space_size) "__get__" = some (some (.builtin "property.__get__")))
    (pt_Space_size : PySem.W.takesIn K (.ref q_Space_size) = some true)
    (pc_Space_size : PySem.W.recIn K q_Space_size "property" = some (.ref a_Space_size :: pr_Space_size))
    (i_Space_size : PySem.W.isFn K (.ref a_Space_size) = true)
    (l_Space_size : K.lookup a_Space_size = some ⟨oc_Space_size, od_Space_size, .func (PySem.W.fnOf "size" "Space.size" (defArgs s_Space_size) (defBody s_Space_size) (defScope s_Space_size) .none kV_Space_size dc_Space_size pm_Space_size an_Space_size cd_Space_size ct_Space_size), sl_Space_size⟩)
    (c_Space_size : PySem.W.codeIn K cd_Space_size "Space.size" = true)
    (k_Space_size : PySem.W.keepIn K (.ref a_Space_size) = true)
    (pa_Space_reduced_sums : PySem.W.findIn K (.ref a_Space) "reduced_sums" = some (some (.ref q_Space_reduced_sums)))
    (pg_Space_reduced_sums : PySem.W.specialIn K (.ref q_Space_reduced_sums) "__get__" = some (some (.builtin "property.__get__")))
    (pt_Space_reduced_sums : PySem.W.takesIn K (.ref q_Space_reduced_sums) = some true)
    (pc_Space_reduced_sums : PySem.W.recIn K q_Space_reduced_sums "property" = some (.ref a_Space_reduced_sums :: pr_Space_reduced_sums))
    (i_Space_reduced_sums : PySem.W.isFn K (.ref a_Space_reduced_sums) = true)
    (l_Space_reduced_sums : K.lookup a_Space_reduced_sums = some ⟨oc_Space_reduced_sums, od_Space_reduced_sums, .func (PySem.W.fnOf "reduced_sums" "Space.reduced_sums" (defArgs s_Space_reduced_sums) (defBody s_Space_reduced_sums) (defScope s_Space_reduced_sums) .none kV_Space_reduced_sums dc_Space_reduced_sums pm_Space_reduced_sums an_Space_reduced_sums cd_Space_reduced_sums ct_Space_reduced_sums), sl_Space_reduced_sums⟩)
    (c_Space_reduced_sums : PySem.W.codeIn K cd_Space_reduced_sums "Space.reduced_sums" = true)
    (k_Space_reduced_sums : PySem.W.keepIn K (.ref a_Space_reduced_sums) = true)
    (pa_Space_is_whole : PySem.W.findIn K (.ref a_Space) "is_whole" = some (some (.ref q_Space_is_whole)))
    (pg_Space_is_whole : PySem.W.specialIn K (.ref q_Space_is_whole) "__get__" = some (some (.builtin "property.__get__")))
    (pt_Space_is_whole : PySem.W.takesIn K (.ref q_Space_is_whole) = some true)
    (pc_Space_is_whole : PySem.W.recIn K q_Space_is_whole "property" = some (.ref a_Space_is_whole :: pr_Space_is_whole))
    (i_Space_is_whole : PySem.W.isFn K (.ref a_Space_is_whole) = true)
    (l_Space_is_whole : K.lookup a_Space_is_whole = some ⟨oc_Space_is_whole, od_Space_is_whole, .func (PySem.W.fnOf "is_whole" "Space.is_whole" (defArgs s_Space_is_whole) (defBody s_Space_is_whole) (defScope s_Space_is_whole) .none kV_Space_is_whole dc_Space_is_whole pm_Space_is_whole an_Space_is_whole cd_Space_is_whole ct_Space_is_whole), sl_Space_is_whole⟩)
    (c_Space_is_whole : PySem.W.codeIn K cd_Space_is_whole "Space.is_whole" = true)
    (k_Space_is_whole : PySem.W.keepIn K (.ref a_Space_is_whole) = true)
    (g_are_wishes : PySem.W.nsIn K mainGlobals "are_wishes" = some (some (.ref a_are_wishes)))
    (i_are_wishes : PySem.W.isFn K (.ref a_are_wishes) = true)
    (l_are_wishes : K.lookup a_are_wishes = some ⟨oc_are_wishes, od_are_wishes, .func (PySem.W.fnOf "are_wishes" "are_wishes" (defArgs s_are_wishes) (defBody s_are_wishes) (defScope s_are_wishes) .none kV_are_wishes dc_are_wishes pm_are_wishes an_are_wishes cd_are_wishes ct_are_wishes), sl_are_wishes⟩)
    (c_are_wishes : PySem.W.codeIn K cd_are_wishes "are_wishes" = true)
    (k_are_wishes : PySem.W.keepIn K (.ref a_are_wishes) = true)
    (g_least_losses : PySem.W.nsIn K mainGlobals "least_losses" = some (some (.ref a_least_losses)))
    (i_least_losses : PySem.W.isFn K (.ref a_least_losses) = true)
    (l_least_losses : K.lookup a_least_losses = some ⟨oc_least_losses, od_least_losses, .func (PySem.W.fnOf "least_losses" "least_losses" (defArgs s_least_losses) (defBody s_least_losses) (defScope s_least_losses) .none kV_least_losses dc_least_losses pm_least_losses an_least_losses cd_least_losses ct_least_losses), sl_least_losses⟩)
    (c_least_losses : PySem.W.codeIn K cd_least_losses "least_losses" = true)
    (k_least_losses : PySem.W.keepIn K (.ref a_least_losses) = true)
    (g_fatal : PySem.W.nsIn K mainGlobals "fatal" = some (some (.ref a_fatal)))
    (i_fatal : PySem.W.isFn K (.ref a_fatal) = true)
    (l_fatal : K.lookup a_fatal = some ⟨oc_fatal, od_fatal, .func (PySem.W.fnOf "fatal" "fatal" (defArgs s_fatal) (defBody s_fatal) (defScope s_fatal) .none kV_fatal dc_fatal pm_fatal an_fatal cd_fatal ct_fatal), sl_fatal⟩)
    (c_fatal : PySem.W.codeIn K cd_fatal "fatal" = true)
    (k_fatal : PySem.W.keepIn K (.ref a_fatal) = true)
    (g_units_of : PySem.W.nsIn K mainGlobals "units_of" = some (some (.ref a_units_of)))
    (i_units_of : PySem.W.isFn K (.ref a_units_of) = true)
    (l_units_of : K.lookup a_units_of = some ⟨oc_units_of, od_units_of, .func (PySem.W.fnOf "units_of" "units_of" (defArgs s_units_of) (defBody s_units_of) (defScope s_units_of) .none kV_units_of dc_units_of pm_units_of an_units_of cd_units_of ct_units_of), sl_units_of⟩)
    (c_units_of : PySem.W.codeIn K cd_units_of "units_of" = true)
    (k_units_of : PySem.W.keepIn K (.ref a_units_of) = true)
    (f_Placing_init : PySem.W.findIn K (.ref a_Placing) "__init__" = some (some (.ref a_Placing_init)))
    (i_Placing_init : PySem.W.isFn K (.ref a_Placing_init) = true)
    (l_Placing_init : K.lookup a_Placing_init = some ⟨oc_Placing_init, od_Placing_init, .func (PySem.W.fnOf "__init__" "Placing.__init__" (defArgs s_Placing_init) (defBody s_Placing_init) (defScope s_Placing_init) .none kV_Placing_init dc_Placing_init pm_Placing_init an_Placing_init cd_Placing_init ct_Placing_init), sl_Placing_init⟩)
    (c_Placing_init : PySem.W.codeIn K cd_Placing_init "Placing.__init__" = true)
    (k_Placing_init : PySem.W.keepIn K (.ref a_Placing_init) = true)
    (g_machines_of : PySem.W.nsIn K mainGlobals "machines_of" = some (some (.ref a_machines_of)))
    (i_machines_of : PySem.W.isFn K (.ref a_machines_of) = true)
    (l_machines_of : K.lookup a_machines_of = some ⟨oc_machines_of, od_machines_of, .func (PySem.W.fnOf "machines_of" "machines_of" (defArgs s_machines_of) (defBody s_machines_of) (defScope s_machines_of) .none kV_machines_of dc_machines_of pm_machines_of an_machines_of cd_machines_of ct_machines_of), sl_machines_of⟩)
    (c_machines_of : PySem.W.codeIn K cd_machines_of "machines_of" = true)
    (k_machines_of : PySem.W.keepIn K (.ref a_machines_of) = true)
    (g_weakest : PySem.W.nsIn K mainGlobals "weakest" = some (some (.ref a_weakest)))
    (i_weakest : PySem.W.isFn K (.ref a_weakest) = true)
    (l_weakest : K.lookup a_weakest = some ⟨oc_weakest, od_weakest, .func (PySem.W.fnOf "weakest" "weakest" (defArgs s_weakest) (defBody s_weakest) (defScope s_weakest) .none kV_weakest dc_weakest pm_weakest an_weakest cd_weakest ct_weakest), sl_weakest⟩)
    (c_weakest : PySem.W.codeIn K cd_weakest "weakest" = true)
    (k_weakest : PySem.W.keepIn K (.ref a_weakest) = true)
    (g_expect_counts : PySem.W.nsIn K mainGlobals "expect_counts" = some (some (.ref a_expect_counts)))
    (i_expect_counts : PySem.W.isFn K (.ref a_expect_counts) = true)
    (l_expect_counts : K.lookup a_expect_counts = some ⟨oc_expect_counts, od_expect_counts, .func (PySem.W.fnOf "expect_counts" "expect_counts" (defArgs s_expect_counts) (defBody s_expect_counts) (defScope s_expect_counts) .none kV_expect_counts dc_expect_counts pm_expect_counts an_expect_counts cd_expect_counts ct_expect_counts), sl_expect_counts⟩)
    (c_expect_counts : PySem.W.codeIn K cd_expect_counts "expect_counts" = true)
    (k_expect_counts : PySem.W.keepIn K (.ref a_expect_counts) = true)
    (g_expect_room : PySem.W.nsIn K mainGlobals "expect_room" = some (some (.ref a_expect_room)))
    (i_expect_room : PySem.W.isFn K (.ref a_expect_room) = true)
    (l_expect_room : K.lookup a_expect_room = some ⟨oc_expect_room, od_expect_room, .func (PySem.W.fnOf "expect_room" "expect_room" (defArgs s_expect_room) (defBody s_expect_room) (defScope s_expect_room) .none kV_expect_room dc_expect_room pm_expect_room an_expect_room cd_expect_room ct_expect_room), sl_expect_room⟩)
    (c_expect_room : PySem.W.codeIn K cd_expect_room "expect_room" = true)
    (k_expect_room : PySem.W.keepIn K (.ref a_expect_room) = true)
    (g_roomy_placings : PySem.W.nsIn K mainGlobals "roomy_placings" = some (some (.ref a_roomy_placings)))
    (i_roomy_placings : PySem.W.isFn K (.ref a_roomy_placings) = true)
    (l_roomy_placings : K.lookup a_roomy_placings = some ⟨oc_roomy_placings, od_roomy_placings, .func (PySem.W.fnOf "roomy_placings" "roomy_placings" (defArgs s_roomy_placings) (defBody s_roomy_placings) (defScope s_roomy_placings) .none kV_roomy_placings dc_roomy_placings pm_roomy_placings an_roomy_placings cd_roomy_placings ct_roomy_placings), sl_roomy_placings⟩)
    (c_roomy_placings : PySem.W.codeIn K cd_roomy_placings "roomy_placings" = true)
    (k_roomy_placings : PySem.W.keepIn K (.ref a_roomy_placings) = true)
    (g_best_placing : PySem.W.nsIn K mainGlobals "best_placing" = some (some (.ref a_best_placing)))
    (i_best_placing : PySem.W.isFn K (.ref a_best_placing) = true)
    (l_best_placing : K.lookup a_best_placing = some ⟨oc_best_placing, od_best_placing, .func (PySem.W.fnOf "best_placing" "best_placing" (defArgs s_best_placing) (defBody s_best_placing) (defScope s_best_placing) .none kV_best_placing dc_best_placing pm_best_placing an_best_placing cd_best_placing ct_best_placing), sl_best_placing⟩)
    (c_best_placing : PySem.W.codeIn K cd_best_placing "best_placing" = true)
    (k_best_placing : PySem.W.keepIn K (.ref a_best_placing) = true)
    (g_expect_pieces : PySem.W.nsIn K mainGlobals "expect_pieces" = some (some (.ref a_expect_pieces)))
    (i_expect_pieces : PySem.W.isFn K (.ref a_expect_pieces) = true)
    (l_expect_pieces : K.lookup a_expect_pieces = some ⟨oc_expect_pieces, od_expect_pieces, .func (PySem.W.fnOf "expect_pieces" "expect_pieces" (defArgs s_expect_pieces) (defBody s_expect_pieces) (defScope s_expect_pieces) .none kV_expect_pieces dc_expect_pieces pm_expect_pieces an_expect_pieces cd_expect_pieces ct_expect_pieces), sl_expect_pieces⟩)
    (c_expect_pieces : PySem.W.codeIn K cd_expect_pieces "expect_pieces" = true)
    (k_expect_pieces : PySem.W.keepIn K (.ref a_expect_pieces) = true)
    (f_Table_init : PySem.W.findIn K (.ref a_Table) "__init__" = some (some (.ref a_Table_init)))
    (i_Table_init : PySem.W.isFn K (.ref a_Table_init) = true)
    (l_Table_init : K.lookup a_Table_init = some ⟨oc_Table_init, od_Table_init, .func (PySem.W.fnOf "__init__" "Table.__init__" (defArgs s_Table_init) (defBody s_Table_init) (defScope s_Table_init) .none kV_Table_init dc_Table_init pm_Table_init an_Table_init cd_Table_init ct_Table_init), sl_Table_init⟩)
    (c_Table_init : PySem.W.codeIn K cd_Table_init "Table.__init__" = true)
    (k_Table_init : PySem.W.keepIn K (.ref a_Table_init) = true)
    (pa_Table_prime : PySem.W.findIn K (.ref a_Table) "prime" = some (some (.ref q_Table_prime)))
    (pg_Table_prime : PySem.W.specialIn K (.ref q_Table_prime) "__get__" = some (some (.builtin "property.__get__")))
    (pt_Table_prime : PySem.W.takesIn K (.ref q_Table_prime) = some true)
    (pc_Table_prime : PySem.W.recIn K q_Table_prime "property" = some (.ref a_Table_prime :: pr_Table_prime))
    (i_Table_prime : PySem.W.isFn K (.ref a_Table_prime) = true)
    (l_Table_prime : K.lookup a_Table_prime = some ⟨oc_Table_prime, od_Table_prime, .func (PySem.W.fnOf "prime" "Table.prime" (defArgs s_Table_prime) (defBody s_Table_prime) (defScope s_Table_prime) .none kV_Table_prime dc_Table_prime pm_Table_prime an_Table_prime cd_Table_prime ct_Table_prime), sl_Table_prime⟩)
    (c_Table_prime : PySem.W.codeIn K cd_Table_prime "Table.prime" = true)
    (k_Table_prime : PySem.W.keepIn K (.ref a_Table_prime) = true)
    (pa_Table_size : PySem.W.findIn K (.ref a_Table) "size" = some (some (.ref q_Table_size)))
    (pg_Table_size : PySem.W.specialIn K (.ref q_Table_size) "__get__" = some (some (.builtin "property.__get__")))
    (pt_Table_size : PySem.W.takesIn K (.ref q_Table_size) = some true)
    (pc_Table_size : PySem.W.recIn K q_Table_size "property" = some (.ref a_Table_size :: pr_Table_size))
    (i_Table_size : PySem.W.isFn K (.ref a_Table_size) = true)
    (l_Table_size : K.lookup a_Table_size = some ⟨oc_Table_size, od_Table_size, .func (PySem.W.fnOf "size" "Table.size" (defArgs s_Table_size) (defBody s_Table_size) (defScope s_Table_size) .none kV_Table_size dc_Table_size pm_Table_size an_Table_size cd_Table_size ct_Table_size), sl_Table_size⟩)
    (c_Table_size : PySem.W.codeIn K cd_Table_size "Table.size" = true)
    (k_Table_size : PySem.W.keepIn K (.ref a_Table_size) = true)
    (pa_Table_pieces : PySem.W.findIn K (.ref a_Table) "pieces" = some (some (.ref q_Table_pieces)))
    (pg_Table_pieces : PySem.W.specialIn K (.ref q_Table_pieces) "__get__" = some (some (.builtin "property.__get__")))
    (pt_Table_pieces : PySem.W.takesIn K (.ref q_Table_pieces) = some true)
    (pc_Table_pieces : PySem.W.recIn K q_Table_pieces "property" = some (.ref a_Table_pieces :: pr_Table_pieces))
    (i_Table_pieces : PySem.W.isFn K (.ref a_Table_pieces) = true)
    (l_Table_pieces : K.lookup a_Table_pieces = some ⟨oc_Table_pieces, od_Table_pieces, .func (PySem.W.fnOf "pieces" "Table.pieces" (defArgs s_Table_pieces) (defBody s_Table_pieces) (defScope s_Table_pieces) .none kV_Table_pieces dc_Table_pieces pm_Table_pieces an_Table_pieces cd_Table_pieces ct_Table_pieces), sl_Table_pieces⟩)
    (c_Table_pieces : PySem.W.codeIn K cd_Table_pieces "Table.pieces" = true)
    (k_Table_pieces : PySem.W.keepIn K (.ref a_Table_pieces) = true)
    (pa_Table_is_whole : PySem.W.findIn K (.ref a_Table) "is_whole" = some (some (.ref q_Table_is_whole)))
    (pg_Table_is_whole : PySem.W.specialIn K (.ref q_Table_is_whole) "__get__" = some (some (.builtin "property.__get__")))
    (pt_Table_is_whole : PySem.W.takesIn K (.ref q_Table_is_whole) = some true)
    (pc_Table_is_whole : PySem.W.recIn K q_Table_is_whole "property" = some (.ref a_Table_is_whole :: pr_Table_is_whole))
    (i_Table_is_whole : PySem.W.isFn K (.ref a_Table_is_whole) = true)
    (l_Table_is_whole : K.lookup a_Table_is_whole = some ⟨oc_Table_is_whole, od_Table_is_whole, .func (PySem.W.fnOf "is_whole" "Table.is_whole" (defArgs s_Table_is_whole) (defBody s_Table_is_whole) (defScope s_Table_is_whole) .none kV_Table_is_whole dc_Table_is_whole pm_Table_is_whole an_Table_is_whole cd_Table_is_whole ct_Table_is_whole), sl_Table_is_whole⟩)
    (c_Table_is_whole : PySem.W.codeIn K cd_Table_is_whole "Table.is_whole" = true)
    (k_Table_is_whole : PySem.W.keepIn K (.ref a_Table_is_whole) = true)
    (f_Table_len : PySem.W.findIn K (.ref a_Table) "__len__" = some (some (.ref a_Table_len)))
    (i_Table_len : PySem.W.isFn K (.ref a_Table_len) = true)
    (l_Table_len : K.lookup a_Table_len = some ⟨oc_Table_len, od_Table_len, .func (PySem.W.fnOf "__len__" "Table.__len__" (defArgs s_Table_len) (defBody s_Table_len) (defScope s_Table_len) .none kV_Table_len dc_Table_len pm_Table_len an_Table_len cd_Table_len ct_Table_len), sl_Table_len⟩)
    (c_Table_len : PySem.W.codeIn K cd_Table_len "Table.__len__" = true)
    (k_Table_len : PySem.W.keepIn K (.ref a_Table_len) = true)
    (f_Table_space : PySem.W.findIn K (.ref a_Table) "space" = some (some (.ref a_Table_space)))
    (i_Table_space : PySem.W.isFn K (.ref a_Table_space) = true)
    (l_Table_space : K.lookup a_Table_space = some ⟨oc_Table_space, od_Table_space, .func (PySem.W.fnOf "space" "Table.space" (defArgs s_Table_space) (defBody s_Table_space) (defScope s_Table_space) (.ref dT_Table_space) kV_Table_space dc_Table_space pm_Table_space an_Table_space cd_Table_space ct_Table_space), sl_Table_space⟩)
    (c_Table_space : PySem.W.codeIn K cd_Table_space "Table.space" = true)
    (k_Table_space : PySem.W.keepIn K (.ref a_Table_space) = true)
    (ld_Table_space : K.lookup dT_Table_space = some ⟨dC_Table_space, dD_Table_space, .seq #[.none] dN_Table_space, dS_Table_space⟩)
    (f_Table_spots_of : PySem.W.findIn K (.ref a_Table) "spots_of" = some (some (.ref a_Table_spots_of)))
    (i_Table_spots_of : PySem.W.isFn K (.ref a_Table_spots_of) = true)
    (l_Table_spots_of : K.lookup a_Table_spots_of = some ⟨oc_Table_spots_of, od_Table_spots_of, .func (PySem.W.fnOf "spots_of" "Table.spots_of" (defArgs s_Table_spots_of) (defBody s_Table_spots_of) (defScope s_Table_spots_of) .none kV_Table_spots_of dc_Table_spots_of pm_Table_spots_of an_Table_spots_of cd_Table_spots_of ct_Table_spots_of), sl_Table_spots_of⟩)
    (c_Table_spots_of : PySem.W.codeIn K cd_Table_spots_of "Table.spots_of" = true)
    (k_Table_spots_of : PySem.W.keepIn K (.ref a_Table_spots_of) = true)
    (g_is_barred : PySem.W.nsIn K mainGlobals "is_barred" = some (some (.ref a_is_barred)))
    (i_is_barred : PySem.W.isFn K (.ref a_is_barred) = true)
    (l_is_barred : K.lookup a_is_barred = some ⟨oc_is_barred, od_is_barred, .func (PySem.W.fnOf "is_barred" "is_barred" (defArgs s_is_barred) (defBody s_is_barred) (defScope s_is_barred) .none kV_is_barred dc_is_barred pm_is_barred an_is_barred cd_is_barred ct_is_barred), sl_is_barred⟩)
    (c_is_barred : PySem.W.codeIn K cd_is_barred "is_barred" = true)
    (k_is_barred : PySem.W.keepIn K (.ref a_is_barred) = true)
    (g_law_source : PySem.W.nsIn K mainGlobals "_law_source" = some (some (.ref a_law_source)))
    (i_law_source : PySem.W.isFn K (.ref a_law_source) = true)
    (l_law_source : K.lookup a_law_source = some ⟨oc_law_source, od_law_source, .func (PySem.W.fnOf "_law_source" "_law_source" (defArgs s_law_source) (defBody s_law_source) (defScope s_law_source) .none kV_law_source dc_law_source pm_law_source an_law_source cd_law_source ct_law_source), sl_law_source⟩)
    (c_law_source : PySem.W.codeIn K cd_law_source "_law_source" = true)
    (k_law_source : PySem.W.keepIn K (.ref a_law_source) = true)
    (g_law_draw : PySem.W.nsIn K mainGlobals "_law_draw" = some (some (.ref a_law_draw)))
    (i_law_draw : PySem.W.isFn K (.ref a_law_draw) = true)
    (l_law_draw : K.lookup a_law_draw = some ⟨oc_law_draw, od_law_draw, .func (PySem.W.fnOf "_law_draw" "_law_draw" (defArgs s_law_draw) (defBody s_law_draw) (defScope s_law_draw) .none kV_law_draw dc_law_draw pm_law_draw an_law_draw cd_law_draw ct_law_draw), sl_law_draw⟩)
    (c_law_draw : PySem.W.codeIn K cd_law_draw "_law_draw" = true)
    (k_law_draw : PySem.W.keepIn K (.ref a_law_draw) = true)
    (g_law_said : PySem.W.nsIn K mainGlobals "_law_said" = some (some (.ref a_law_said)))
    (i_law_said : PySem.W.isFn K (.ref a_law_said) = true)
    (l_law_said : K.lookup a_law_said = some ⟨oc_law_said, od_law_said, .func (PySem.W.fnOf "_law_said" "_law_said" (defArgs s_law_said) (defBody s_law_said) (defScope s_law_said) .none kV_law_said dc_law_said pm_law_said an_law_said cd_law_said ct_law_said), sl_law_said⟩)
    (c_law_said : PySem.W.codeIn K cd_law_said "_law_said" = true)
    (k_law_said : PySem.W.keepIn K (.ref a_law_said) = true)
    (g_law_doors : PySem.W.nsIn K mainGlobals "_law_doors" = some (some (.ref a_law_doors)))
    (i_law_doors : PySem.W.isFn K (.ref a_law_doors) = true)
    (l_law_doors : K.lookup a_law_doors = some ⟨oc_law_doors, od_law_doors, .func (PySem.W.fnOf "_law_doors" "_law_doors" (defArgs s_law_doors) (defBody s_law_doors) (defScope s_law_doors) .none kV_law_doors dc_law_doors pm_law_doors an_law_doors cd_law_doors ct_law_doors), sl_law_doors⟩)
    (c_law_doors : PySem.W.codeIn K cd_law_doors "_law_doors" = true)
    (k_law_doors : PySem.W.keepIn K (.ref a_law_doors) = true)
    (g_law : PySem.W.nsIn K mainGlobals "law" = some (some (.ref a_law)))
    (i_law : PySem.W.isFn K (.ref a_law) = true)
    (l_law : K.lookup a_law = some ⟨oc_law, od_law, .func (PySem.W.fnOf "law" "law" (defArgs s_law) (defBody s_law) (defScope s_law) .none kV_law dc_law pm_law an_law cd_law ct_law), sl_law⟩)
    (c_law : PySem.W.codeIn K cd_law "law" = true)
    (k_law : PySem.W.keepIn K (.ref a_law) = true)
    (n_isinstance : PySem.W.nsIn K mainGlobals "isinstance" = some none)
    (n_repr : PySem.W.nsIn K mainGlobals "repr" = some none)
    (n_str : PySem.W.nsIn K mainGlobals "str" = some none)
    (n_int : PySem.W.nsIn K mainGlobals "int" = some none)
    (n_bool : PySem.W.nsIn K mainGlobals "bool" = some none)
    (n_list : PySem.W.nsIn K mainGlobals "list" = some none)
    (n_tuple : PySem.W.nsIn K mainGlobals "tuple" = some none)
    (n_len : PySem.W.nsIn K mainGlobals "len" = some none)
    (n_all : PySem.W.nsIn K mainGlobals "all" = some none)
    (n_any : PySem.W.nsIn K mainGlobals "any" = some none)
    (n_sum : PySem.W.nsIn K mainGlobals "sum" = some none)
    (n_zip : PySem.W.nsIn K mainGlobals "zip" = some none)
    (n_max : PySem.W.nsIn K mainGlobals "max" = some none)
    (n_min : PySem.W.nsIn K mainGlobals "min" = some none)
    (n_range : PySem.W.nsIn K mainGlobals "range" = some none)
    (n_sorted : PySem.W.nsIn K mainGlobals "sorted" = some none)
    (n_enumerate : PySem.W.nsIn K mainGlobals "enumerate" = some none)
    (n_reversed : PySem.W.nsIn K mainGlobals "reversed" = some none)
    (n_iter : PySem.W.nsIn K mainGlobals "iter" = some none)
    (n_set : PySem.W.nsIn K mainGlobals "set" = some none)
    (pgSum : PySem.W.plainGet K a_Sum Str.empty = true)
    (hdSum : PySem.W.hasDictIn K a_Sum = true)
    (poSum : PySem.W.plainOver K a_Sum = true)
    (saSum : PySem.W.findIn K (.ref a_Sum) "__setattr__" = some (some (.builtin "object.__setattr__")))
    (mkSum : PySem.W.makesIn K a_Sum = true)
    (kpSum : PySem.W.keepIn K (.ref a_Sum) = true)
    (clSum : PySem.W.findIn K (.ref a_Sum) "__class__" = some (some (.builtin "object.__class__")))
    (gtSum : PySem.W.specialIn K (.builtin "object.__class__") "__get__" = some (some (.builtin "getset_descriptor.__get__")))
    (tkSum : PySem.W.takesIn K (.builtin "object.__class__") = some true)
    (moSum : PySem.W.mroIn K a_Sum (.type "object") = some true)
    (na_Sum_prime : PySem.W.findIn K (.ref a_Sum) "_prime" = some none)
    (na_Sum_factors : PySem.W.findIn K (.ref a_Sum) "_factors" = some none)
    (pgSpace : PySem.W.plainGet K a_Space Str.empty = true)
    (hdSpace : PySem.W.hasDictIn K a_Space = true)
    (poSpace : PySem.W.plainOver K a_Space = true)
    (saSpace : PySem.W.findIn K (.ref a_Space) "__setattr__" = some (some (.builtin "object.__setattr__")))
    (mkSpace : PySem.W.makesIn K a_Space = true)
    (kpSpace : PySem.W.keepIn K (.ref a_Space) = true)
    (clSpace : PySem.W.findIn K (.ref a_Space) "__class__" = some (some (.builtin "object.__class__")))
    (gtSpace : PySem.W.specialIn K (.builtin "object.__class__") "__get__" = some (some (.builtin "getset_descriptor.__get__")))
    (tkSpace : PySem.W.takesIn K (.builtin "object.__class__") = some true)
    (moSpace : PySem.W.mroIn K a_Space (.type "object") = some true)
    (na_Space_prime : PySem.W.findIn K (.ref a_Space) "_prime" = some none)
    (na_Space_size : PySem.W.findIn K (.ref a_Space) "_size" = some none)
    (na_Space_rows : PySem.W.findIn K (.ref a_Space) "_rows" = some none)
    (na_Space_reduced : PySem.W.findIn K (.ref a_Space) "_reduced" = some none)
    (pgTable : PySem.W.plainGet K a_Table Str.empty = true)
    (hdTable : PySem.W.hasDictIn K a_Table = true)
    (poTable : PySem.W.plainOver K a_Table = true)
    (saTable : PySem.W.findIn K (.ref a_Table) "__setattr__" = some (some (.builtin "object.__setattr__")))
    (mkTable : PySem.W.makesIn K a_Table = true)
    (kpTable : PySem.W.keepIn K (.ref a_Table) = true)
    (clTable : PySem.W.findIn K (.ref a_Table) "__class__" = some (some (.builtin "object.__class__")))
    (gtTable : PySem.W.specialIn K (.builtin "object.__class__") "__get__" = some (some (.builtin "getset_descriptor.__get__")))
    (tkTable : PySem.W.takesIn K (.builtin "object.__class__") = some true)
    (moTable : PySem.W.mroIn K a_Table (.type "object") = some true)
    (na_Table_prime : PySem.W.findIn K (.ref a_Table) "_prime" = some none)
    (na_Table_size : PySem.W.findIn K (.ref a_Table) "_size" = some none)
    (na_Table_pieces : PySem.W.findIn K (.ref a_Table) "_pieces" = some none)
    (na_Table_spots : PySem.W.findIn K (.ref a_Table) "_spots" = some none)
    (na_Table_sums : PySem.W.findIn K (.ref a_Table) "_sums" = some none)
    (na_Table_whole : PySem.W.findIn K (.ref a_Table) "_whole" = some none)
    (pgPlacing : PySem.W.plainGet K a_Placing Str.empty = true)
    (hdPlacing : PySem.W.hasDictIn K a_Placing = true)
    (poPlacing : PySem.W.plainOver K a_Placing = true)
    (saPlacing : PySem.W.findIn K (.ref a_Placing) "__setattr__" = some (some (.builtin "object.__setattr__")))
    (mkPlacing : PySem.W.makesIn K a_Placing = true)
    (kpPlacing : PySem.W.keepIn K (.ref a_Placing) = true)
    (clPlacing : PySem.W.findIn K (.ref a_Placing) "__class__" = some (some (.builtin "object.__class__")))
    (gtPlacing : PySem.W.specialIn K (.builtin "object.__class__") "__get__" = some (some (.builtin "getset_descriptor.__get__")))
    (tkPlacing : PySem.W.takesIn K (.builtin "object.__class__") = some true)
    (moPlacing : PySem.W.mroIn K a_Placing (.type "object") = some true)
    (na_Placing_machines : PySem.W.findIn K (.ref a_Placing) "_machines" = some none)
    (na_Placing_where : PySem.W.findIn K (.ref a_Placing) "_where" = some none)
    (gc_MOST_WISHES : PySem.W.nsIn K mainGlobals "MOST_WISHES" = some (some (.int 10 t_MOST_WISHES)))
    (gc_MOST_PIECES : PySem.W.nsIn K mainGlobals "MOST_PIECES" = some (some (.int 6 t_MOST_PIECES)))
    (gc_MOST_PARTS : PySem.W.nsIn K mainGlobals "MOST_PARTS" = some (some (.int 3 t_MOST_PARTS)))
    (gc_MOST_PARTS_IN_ALL : PySem.W.nsIn K mainGlobals "MOST_PARTS_IN_ALL" = some (some (.int 10 t_MOST_PARTS_IN_ALL)))
    (gc_MOST_MACHINES : PySem.W.nsIn K mainGlobals "MOST_MACHINES" = some (some (.int 6 t_MOST_MACHINES)))
    (gc_MOST_PLACINGS : PySem.W.nsIn K mainGlobals "MOST_PLACINGS" = some (some (.int 4096 t_MOST_PLACINGS)))
    (lx_InvalidNumber : K.lookup a_InvalidNumber = some (PySem.excClassObj nm_InvalidNumber qn_InvalidNumber a_InvalidNumber N_InvalidNumber bs_InvalidNumber bm_InvalidNumber true sn_InvalidNumber sub_InvalidNumber ab_InvalidNumber col_InvalidNumber dd_InvalidNumber k0_InvalidNumber k1_InvalidNumber k2_InvalidNumber k3_InvalidNumber k5_InvalidNumber "Exception.__new__"))
    (lr_InvalidNumber : RefsT [.type "Exception", .type "BaseException", .type "object"] bm_InvalidNumber)
    (sa_InvalidNumber : PySem.W.findIn K (.ref a_InvalidNumber) "__setattr__" = some (some (.builtin "object.__setattr__")))
    (ty_InvalidNumber : PySem.W.typeIn K (.ref a_InvalidNumber) = some (.type "type"))
    (kp_InvalidNumber : PySem.W.keepIn K (.ref a_InvalidNumber) = true)
    (t_InvalidNumber : PySem.W.typeIn K (.ref a_InvalidNumber_init) = some (.type "function"))
    (h_InvalidNumber : PySem.W.findIn K (.ref a_InvalidNumber) "value" = some none)
    (lx_LimitExceeded : K.lookup a_LimitExceeded = some (PySem.excClassObj nm_LimitExceeded qn_LimitExceeded a_LimitExceeded N_LimitExceeded bs_LimitExceeded bm_LimitExceeded true sn_LimitExceeded sub_LimitExceeded ab_LimitExceeded col_LimitExceeded dd_LimitExceeded k0_LimitExceeded k1_LimitExceeded k2_LimitExceeded k3_LimitExceeded k5_LimitExceeded "Exception.__new__"))
    (lr_LimitExceeded : RefsT [.type "Exception", .type "BaseException", .type "object"] bm_LimitExceeded)
    (sa_LimitExceeded : PySem.W.findIn K (.ref a_LimitExceeded) "__setattr__" = some (some (.builtin "object.__setattr__")))
    (ty_LimitExceeded : PySem.W.typeIn K (.ref a_LimitExceeded) = some (.type "type"))
    (kp_LimitExceeded : PySem.W.keepIn K (.ref a_LimitExceeded) = true)
    (t_LimitExceeded : PySem.W.typeIn K (.ref a_LimitExceeded_init) = some (.type "function"))
    (h_LimitExceeded : PySem.W.findIn K (.ref a_LimitExceeded) "limit" = some none)
    (lx_Lost : K.lookup a_Lost = some (PySem.excClassObj nm_Lost qn_Lost a_Lost N_Lost bs_Lost bm_Lost true sn_Lost sub_Lost ab_Lost col_Lost dd_Lost k0_Lost k1_Lost k2_Lost k3_Lost k5_Lost "Exception.__new__"))
    (lr_Lost : RefsT [.type "Exception", .type "BaseException", .type "object"] bm_Lost)
    (sa_Lost : PySem.W.findIn K (.ref a_Lost) "__setattr__" = some (some (.builtin "object.__setattr__")))
    (ty_Lost : PySem.W.typeIn K (.ref a_Lost) = some (.type "type"))
    (kp_Lost : PySem.W.keepIn K (.ref a_Lost) = true)
    (t_Lost : PySem.W.typeIn K (.ref a_Lost_init) = some (.type "function"))
    (h_Lost : PySem.W.findIn K (.ref a_Lost) "blind" = some none)
    (hg_InvalidNumber : PySem.W.findIn K (.ref a_InvalidNumber) "__getattribute__" = some (some (.builtin "BaseException.__getattribute__")))
    (hk_InvalidNumber : PySem.W.findIn K (.ref a_InvalidNumber) "__getattr__" = some none)
    (hs_InvalidNumber : PySem.W.subIn K (.ref a_InvalidNumber) (.type "BaseException") = some true)
    (hd_InvalidNumber : PySem.W.hasDictIn K a_InvalidNumber = true)
    (z_InvalidNumber : PySem.W.findIn K (.ref a_InvalidNumber) "value" = some none)
    (e_InvalidNumber_InvalidNumber : PySem.W.exmOne K (.ref a_InvalidNumber) (.ref a_InvalidNumber) = some true)
    (e_InvalidNumber_LimitExceeded : PySem.W.exmOne K (.ref a_InvalidNumber) (.ref a_LimitExceeded) = some false)
    (e_InvalidNumber_Lost : PySem.W.exmOne K (.ref a_InvalidNumber) (.ref a_Lost) = some false)
    (hg_LimitExceeded : PySem.W.findIn K (.ref a_LimitExceeded) "__getattribute__" = some (some (.builtin "BaseException.__getattribute__")))
    (hk_LimitExceeded : PySem.W.findIn K (.ref a_LimitExceeded) "__getattr__" = some none)
    (hs_LimitExceeded : PySem.W.subIn K (.ref a_LimitExceeded) (.type "BaseException") = some true)
    (hd_LimitExceeded : PySem.W.hasDictIn K a_LimitExceeded = true)
    (z_LimitExceeded : PySem.W.findIn K (.ref a_LimitExceeded) "limit" = some none)
    (e_LimitExceeded_InvalidNumber : PySem.W.exmOne K (.ref a_LimitExceeded) (.ref a_InvalidNumber) = some false)
    (e_LimitExceeded_LimitExceeded : PySem.W.exmOne K (.ref a_LimitExceeded) (.ref a_LimitExceeded) = some true)
    (e_LimitExceeded_Lost : PySem.W.exmOne K (.ref a_LimitExceeded) (.ref a_Lost) = some false)
    (hg_Lost : PySem.W.findIn K (.ref a_Lost) "__getattribute__" = some (some (.builtin "BaseException.__getattribute__")))
    (hk_Lost : PySem.W.findIn K (.ref a_Lost) "__getattr__" = some none)
    (hs_Lost : PySem.W.subIn K (.ref a_Lost) (.type "BaseException") = some true)
    (hd_Lost : PySem.W.hasDictIn K a_Lost = true)
    (z_Lost : PySem.W.findIn K (.ref a_Lost) "blind" = some none)
    (e_Lost_InvalidNumber : PySem.W.exmOne K (.ref a_Lost) (.ref a_InvalidNumber) = some false)
    (e_Lost_LimitExceeded : PySem.W.exmOne K (.ref a_Lost) (.ref a_LimitExceeded) = some false)
    (e_Lost_Lost : PySem.W.exmOne K (.ref a_Lost) (.ref a_Lost) = some true)
    (nsC : PySem.W.notFirst K a_Sum (.ref a_Sum) = true)
    (ksC : PySem.W.kitOne K (.ref a_Sum) (.ref a_Sum) = some true)
    (gG : PySem.W.nsIn K mainGlobals "GREATEST_SIZES" = some (some (.ref a_GS)))
    (lG : K.lookup a_GS = some ⟨.type "dict", none, .dict #[⟨h1, .int 2 t1, .int 6 u1⟩, ⟨h2, .int 3 t2, .int 6 u2⟩, ⟨h3, .int 5 t3, .int 5 u3⟩, ⟨h4, .int 7 t4, .int 4 u4⟩] n0, #[]⟩)
    (eG : h1 = hashInt 2 ∧ h2 = hashInt 3 ∧ h3 = hashInt 5 ∧ h4 = hashInt 7)
    (oG : (a_GS == sysModules) = false)
    (fiC : PySem.W.fnIn K a_Sum_call = true)
    (ksP : PySem.W.kitOne K (.ref a_Placing) (.ref a_Placing) = some true)
    (ktNoneType : PySem.W.kitOne K (.type "NoneType") (.ref a_Sum) = some false)
    (ktint : PySem.W.kitOne K (.type "int") (.ref a_Sum) = some false)
    (ktstr : PySem.W.kitOne K (.type "str") (.ref a_Sum) = some false)
    (kttuple : PySem.W.kitOne K (.type "tuple") (.ref a_Sum) = some false)
    (ktlist : PySem.W.kitOne K (.type "list") (.ref a_Sum) = some false)
    (hcl1 : cd_law_doors = .ref cl1)
    (lkc1 : K.lookup cl1 = some ⟨.type "code", odc1, .fields vsc1, slc1⟩)
    (v111 : vsc1[11]? = some (.ref P1))
    (vck1 : codeB vsc1 cl1 P1 = true)
    (lkP1 : K.lookup P1 = none)
    (rcP1 : (recsOf q).find? (fun e => e.name == ("_law_doors" : Str)) = some dr1)
    (hcl2 : cd_law = .ref cl2)
    (lkc2 : K.lookup cl2 = some ⟨.type "code", odc2, .fields vsc2, slc2⟩)
    (v112 : vsc2[11]? = some (.ref P2))
    (vck2 : codeB vsc2 cl2 P2 = true)
    (lkP2 : K.lookup P2 = none)
    (rcP2 : (recsOf q).find? (fun e => e.name == ("law" : Str)) = some dr2)
    (nP12 : P1 ≠ P2) :
    ∃ (fd : FuncData) (cs : List (Addr × Addr × Str)) (W : Pd.DC), (∀ t ∈ cs, K.lookup t.2.1 = none ∧ PySem.W.codeHdIn K t.1 t.2.1 = true ∧ ∃ (y : Str) (d' : DefRec), (recsOf q).find? (fun e => e.name == y) = some d' ∧ PySem.W.tabIn K y = some (t.1, t.2.1)) ∧ (cs.map (·.2.1)).Nodup ∧ (∀ (s : Shared) (u : Value), BindsTo s fd ⟨[u], []⟩ [("_law_script", u)]) ∧ (∀ ns : List Int, ns.length ≤ 63 → W [.lst (Pd.dI ns)] (Pd.tabsM cs) fun d _ => d = .bl true) ∧ ∀ base : Heap, K.In base → base.Ns mainGlobals mg → (∀ t ∈ cs, LamX.TabB base mg t.1 t.2.1) → FnG l.prog w K mg base 16 fa fd ["_law_script"] (spD 1 W K) := by
  have e := hfa.symm.trans (PySem.W.mg_of X G g_law)
  have e2 : a_law = fa := by cases e; rfl
  obtain ⟨dv_Table_space, bv_Table_space, bd_Table_space⟩ := (funD_mkN (st := s_Table_space) l_Table_space c_Table_space k_Table_space ld_Table_space).binds1 (ps := ["self", "spots"]) 1 0 (by simp) rfl fun T kV doc pm an cdv ct us its h1 h2 => match us, its, h1, h2 with | [_], [_], _, _ => ⟨_, rfl, rfl⟩
  let T : Tx l.prog w K mg := {
    a_InvalidNumber := a_InvalidNumber
    g_InvalidNumber := PySem.W.mg_of X G g_InvalidNumber
    a_LimitExceeded := a_LimitExceeded
    g_LimitExceeded := PySem.W.mg_of X G g_LimitExceeded
    a_Lost := a_Lost
    g_Lost := PySem.W.mg_of X G g_Lost
    a_Sum := a_Sum
    g_Sum := PySem.W.mg_of X G g_Sum
    a_Space := a_Space
    g_Space := PySem.W.mg_of X G g_Space
    a_Placing := a_Placing
    g_Placing := PySem.W.mg_of X G g_Placing
    a_Table := a_Table
    g_Table := PySem.W.mg_of X G g_Table
    a_is_integer := a_is_integer
    f_is_integer := _
    F_is_integer := fun_mk (st := s_is_integer) l_is_integer c_is_integer k_is_integer
    b_is_integer := (fun_mk (st := s_is_integer) l_is_integer c_is_integer k_is_integer).binds fun _ _ _ _ _ _ us hl => match us, hl with | [_], _ => rfl
    g_is_integer := PySem.W.mg_of X G g_is_integer
    a_is_between := a_is_between
    f_is_between := _
    F_is_between := fun_mk (st := s_is_between) l_is_between c_is_between k_is_between
    b_is_between := (fun_mk (st := s_is_between) l_is_between c_is_between k_is_between).binds fun _ _ _ _ _ _ us hl => match us, hl with | [_, _, _], _ => rfl
    g_is_between := PySem.W.mg_of X G g_is_between
    a_has_items := a_has_items
    f_has_items := _
    F_has_items := fun_mk (st := s_has_items) l_has_items c_has_items k_has_items
    b_has_items := (fun_mk (st := s_has_items) l_has_items c_has_items k_has_items).binds fun _ _ _ _ _ _ us hl => match us, hl with | [_, _, _], _ => rfl
    g_has_items := PySem.W.mg_of X G g_has_items
    a_all_between := a_all_between
    f_all_between := _
    F_all_between := fun_mk (st := s_all_between) l_all_between c_all_between k_all_between
    b_all_between := (fun_mk (st := s_all_between) l_all_between c_all_between k_all_between).binds fun _ _ _ _ _ _ us hl => match us, hl with | [_, _, _], _ => rfl
    g_all_between := PySem.W.mg_of X G g_all_between
    a_is_ascending := a_is_ascending
    f_is_ascending := _
    F_is_ascending := fun_mk (st := s_is_ascending) l_is_ascending c_is_ascending k_is_ascending
    b_is_ascending := (fun_mk (st := s_is_ascending) l_is_ascending c_is_ascending k_is_ascending).binds fun _ _ _ _ _ _ us hl => match us, hl with | [_], _ => rfl
    g_is_ascending := PySem.W.mg_of X G g_is_ascending
    a_are_pieces := a_are_pieces
    f_are_pieces := _
    F_are_pieces := fun_mk (st := s_are_pieces) l_are_pieces c_are_pieces k_are_pieces
    b_are_pieces := (fun_mk (st := s_are_pieces) l_are_pieces c_are_pieces k_are_pieces).binds fun _ _ _ _ _ _ us hl => match us, hl with | [_, _], _ => rfl
    g_are_pieces := PySem.W.mg_of X G g_are_pieces
    a_is_spot := a_is_spot
    f_is_spot := _
    F_is_spot := fun_mk (st := s_is_spot) l_is_spot c_is_spot k_is_spot
    b_is_spot := (fun_mk (st := s_is_spot) l_is_spot c_is_spot k_is_spot).binds fun _ _ _ _ _ _ us hl => match us, hl with | [_, _], _ => rfl
    g_is_spot := PySem.W.mg_of X G g_is_spot
    a_are_spots := a_are_spots
    f_are_spots := _
    F_are_spots := fun_mk (st := s_are_spots) l_are_spots c_are_spots k_are_spots
    b_are_spots := (fun_mk (st := s_are_spots) l_are_spots c_are_spots k_are_spots).binds fun _ _ _ _ _ _ us hl => match us, hl with | [_, _], _ => rfl
    g_are_spots := PySem.W.mg_of X G g_are_spots
    a_spots_of_parts := a_spots_of_parts
    f_spots_of_parts := _
    F_spots_of_parts := fun_mk (st := s_spots_of_parts) l_spots_of_parts c_spots_of_parts k_spots_of_parts
    b_spots_of_parts := (fun_mk (st := s_spots_of_parts) l_spots_of_parts c_spots_of_parts k_spots_of_parts).binds fun _ _ _ _ _ _ us hl => match us, hl with | [_], _ => rfl
    g_spots_of_parts := PySem.W.mg_of X G g_spots_of_parts
    a_power := a_power
    f_power := _
    F_power := fun_mk (st := s_power) l_power c_power k_power
    b_power := (fun_mk (st := s_power) l_power c_power k_power).binds fun _ _ _ _ _ _ us hl => match us, hl with | [_, _], _ => rfl
    g_power := PySem.W.mg_of X G g_power
    a_all_tuples := a_all_tuples
    f_all_tuples := _
    F_all_tuples := fun_mk (st := s_all_tuples) l_all_tuples c_all_tuples k_all_tuples
    b_all_tuples := (fun_mk (st := s_all_tuples) l_all_tuples c_all_tuples k_all_tuples).binds fun _ _ _ _ _ _ us hl => match us, hl with | [_, _], _ => rfl
    g_all_tuples := PySem.W.mg_of X G g_all_tuples
    a_all_groups := a_all_groups
    f_all_groups := _
    F_all_groups := fun_mk (st := s_all_groups) l_all_groups c_all_groups k_all_groups
    b_all_groups := (fun_mk (st := s_all_groups) l_all_groups c_all_groups k_all_groups).binds fun _ _ _ _ _ _ us hl => match us, hl with | [_], _ => rfl
    g_all_groups := PySem.W.mg_of X G g_all_groups
    a_InvalidNumber_init := a_InvalidNumber_init
    f_InvalidNumber_init := _
    F_InvalidNumber_init := fun_mk (st := s_InvalidNumber_init) l_InvalidNumber_init c_InvalidNumber_init k_InvalidNumber_init
    b_InvalidNumber_init := (fun_mk (st := s_InvalidNumber_init) l_InvalidNumber_init c_InvalidNumber_init k_InvalidNumber_init).binds fun _ _ _ _ _ _ us hl => match us, hl with | [_, _], _ => rfl
    a_LimitExceeded_init := a_LimitExceeded_init
    f_LimitExceeded_init := _
    F_LimitExceeded_init := fun_mk (st := s_LimitExceeded_init) l_LimitExceeded_init c_LimitExceeded_init k_LimitExceeded_init
    b_LimitExceeded_init := (fun_mk (st := s_LimitExceeded_init) l_LimitExceeded_init c_LimitExceeded_init k_LimitExceeded_init).binds fun _ _ _ _ _ _ us hl => match us, hl with | [_, _], _ => rfl
    a_Lost_init := a_Lost_init
    f_Lost_init := _
    F_Lost_init := fun_mk (st := s_Lost_init) l_Lost_init c_Lost_init k_Lost_init
    b_Lost_init := (fun_mk (st := s_Lost_init) l_Lost_init c_Lost_init k_Lost_init).binds fun _ _ _ _ _ _ us hl => match us, hl with | [_, _], _ => rfl
    a_is_prime := a_is_prime
    f_is_prime := _
    F_is_prime := fun_mk (st := s_is_prime) l_is_prime c_is_prime k_is_prime
    b_is_prime := (fun_mk (st := s_is_prime) l_is_prime c_is_prime k_is_prime).binds fun _ _ _ _ _ _ us hl => match us, hl with | [_], _ => rfl
    g_is_prime := PySem.W.mg_of X G g_is_prime
    a_is_size := a_is_size
    f_is_size := _
    F_is_size := fun_mk (st := s_is_size) l_is_size c_is_size k_is_size
    b_is_size := (fun_mk (st := s_is_size) l_is_size c_is_size k_is_size).binds fun _ _ _ _ _ _ us hl => match us, hl with | [_, _], _ => rfl
    g_is_size := PySem.W.mg_of X G g_is_size
    a_is_data := a_is_data
    f_is_data := _
    F_is_data := fun_mk (st := s_is_data) l_is_data c_is_data k_is_data
    b_is_data := (fun_mk (st := s_is_data) l_is_data c_is_data k_is_data).binds fun _ _ _ _ _ _ us hl => match us, hl with | [_, _, _], _ => rfl
    g_is_data := PySem.W.mg_of X G g_is_data
    a_expect_prime_and_size := a_expect_prime_and_size
    f_expect_prime_and_size := _
    F_expect_prime_and_size := fun_mk (st := s_expect_prime_and_size) l_expect_prime_and_size c_expect_prime_and_size k_expect_prime_and_size
    b_expect_prime_and_size := (fun_mk (st := s_expect_prime_and_size) l_expect_prime_and_size c_expect_prime_and_size k_expect_prime_and_size).binds fun _ _ _ _ _ _ us hl => match us, hl with | [_, _], _ => rfl
    g_expect_prime_and_size := PySem.W.mg_of X G g_expect_prime_and_size
    a_is_sum := a_is_sum
    f_is_sum := _
    F_is_sum := fun_mk (st := s_is_sum) l_is_sum c_is_sum k_is_sum
    b_is_sum := (fun_mk (st := s_is_sum) l_is_sum c_is_sum k_is_sum).binds fun _ _ _ _ _ _ us hl => match us, hl with | [_, _, _], _ => rfl
    g_is_sum := PySem.W.mg_of X G g_is_sum
    a_Sum_init := a_Sum_init
    f_Sum_init := _
    F_Sum_init := fun_mk (st := s_Sum_init) l_Sum_init c_Sum_init k_Sum_init
    b_Sum_init := (fun_mk (st := s_Sum_init) l_Sum_init c_Sum_init k_Sum_init).binds fun _ _ _ _ _ _ us hl => match us, hl with | [_, _, _], _ => rfl
    a_Sum_unit := a_Sum_unit
    f_Sum_unit := _
    F_Sum_unit := fun_mk (st := s_Sum_unit) l_Sum_unit c_Sum_unit k_Sum_unit
    b_Sum_unit := (fun_mk (st := s_Sum_unit) l_Sum_unit c_Sum_unit k_Sum_unit).binds fun _ _ _ _ _ _ us hl => match us, hl with | [_, _, _], _ => rfl
    a_Sum_prime := a_Sum_prime
    f_Sum_prime := _
    F_Sum_prime := fun_mk (st := s_Sum_prime) l_Sum_prime c_Sum_prime k_Sum_prime
    b_Sum_prime := (fun_mk (st := s_Sum_prime) l_Sum_prime c_Sum_prime k_Sum_prime).binds fun _ _ _ _ _ _ us hl => match us, hl with | [_], _ => rfl
    a_Sum_factors := a_Sum_factors
    f_Sum_factors := _
    F_Sum_factors := fun_mk (st := s_Sum_factors) l_Sum_factors c_Sum_factors k_Sum_factors
    b_Sum_factors := (fun_mk (st := s_Sum_factors) l_Sum_factors c_Sum_factors k_Sum_factors).binds fun _ _ _ _ _ _ us hl => match us, hl with | [_], _ => rfl
    a_Sum_size := a_Sum_size
    f_Sum_size := _
    F_Sum_size := fun_mk (st := s_Sum_size) l_Sum_size c_Sum_size k_Sum_size
    b_Sum_size := (fun_mk (st := s_Sum_size) l_Sum_size c_Sum_size k_Sum_size).binds fun _ _ _ _ _ _ us hl => match us, hl with | [_], _ => rfl
    a_Sum_call := a_Sum_call
    f_Sum_call := _
    F_Sum_call := fun_mk (st := s_Sum_call) l_Sum_call c_Sum_call k_Sum_call
    b_Sum_call := (fun_mk (st := s_Sum_call) l_Sum_call c_Sum_call k_Sum_call).binds fun _ _ _ _ _ _ us hl => match us, hl with | [_, _], _ => rfl
    a_minus := a_minus
    f_minus := _
    F_minus := fun_mk (st := s_minus) l_minus c_minus k_minus
    b_minus := (fun_mk (st := s_minus) l_minus c_minus k_minus).binds fun _ _ _ _ _ _ us hl => match us, hl with | [_, _, _, _], _ => rfl
    g_minus := PySem.W.mg_of X G g_minus
    a_remainder := a_remainder
    f_remainder := _
    F_remainder := fun_mk (st := s_remainder) l_remainder c_remainder k_remainder
    b_remainder := (fun_mk (st := s_remainder) l_remainder c_remainder k_remainder).binds fun _ _ _ _ _ _ us hl => match us, hl with | [_, _, _], _ => rfl
    g_remainder := PySem.W.mg_of X G g_remainder
    a_led_by_one := a_led_by_one
    f_led_by_one := _
    F_led_by_one := fun_mk (st := s_led_by_one) l_led_by_one c_led_by_one k_led_by_one
    b_led_by_one := (fun_mk (st := s_led_by_one) l_led_by_one c_led_by_one k_led_by_one).binds fun _ _ _ _ _ _ us hl => match us, hl with | [_, _], _ => rfl
    g_led_by_one := PySem.W.mg_of X G g_led_by_one
    a_reduced_rows := a_reduced_rows
    f_reduced_rows := _
    F_reduced_rows := fun_mk (st := s_reduced_rows) l_reduced_rows c_reduced_rows k_reduced_rows
    b_reduced_rows := (fun_mk (st := s_reduced_rows) l_reduced_rows c_reduced_rows k_reduced_rows).binds fun _ _ _ _ _ _ us hl => match us, hl with | [_, _], _ => rfl
    g_reduced_rows := PySem.W.mg_of X G g_reduced_rows
    a_zero_row := a_zero_row
    f_zero_row := _
    F_zero_row := fun_mk (st := s_zero_row) l_zero_row c_zero_row k_zero_row
    b_zero_row := (fun_mk (st := s_zero_row) l_zero_row c_zero_row k_zero_row).binds fun _ _ _ _ _ _ us hl => match us, hl with | [_, _, _, _], _ => rfl
    g_zero_row := PySem.W.mg_of X G g_zero_row
    a_zero_rows := a_zero_rows
    f_zero_rows := _
    F_zero_rows := fun_mk (st := s_zero_rows) l_zero_rows c_zero_rows k_zero_rows
    b_zero_rows := (fun_mk (st := s_zero_rows) l_zero_rows c_zero_rows k_zero_rows).binds fun _ _ _ _ _ _ us hl => match us, hl with | [_, _, _], _ => rfl
    g_zero_rows := PySem.W.mg_of X G g_zero_rows
    a_blind_for := a_blind_for
    f_blind_for := _
    F_blind_for := fun_mk (st := s_blind_for) l_blind_for c_blind_for k_blind_for
    b_blind_for := (fun_mk (st := s_blind_for) l_blind_for c_blind_for k_blind_for).binds fun _ _ _ _ _ _ us hl => match us, hl with | [_, _], _ => rfl
    g_blind_for := PySem.W.mg_of X G g_blind_for
    dE_Space_init := dE_Space_init
    a_Space_init := a_Space_init
    f_Space_init := _
    F_Space_init := (funD_mk (st := s_Space_init) l_Space_init c_Space_init k_Space_init ld_Space_init)
    b_Space_init := binds_all (funD_mk (st := s_Space_init) l_Space_init c_Space_init k_Space_init ld_Space_init) 4 rfl fun T kV doc pm an cdv ct us its h1 h2 => match us, its, h1, h2 with | [_, _, _, _], [_], _, _ => ⟨_, rfl, rfl⟩
    a_Space_prime := a_Space_prime
    f_Space_prime := _
    F_Space_prime := fun_mk (st := s_Space_prime) l_Space_prime c_Space_prime k_Space_prime
    b_Space_prime := (fun_mk (st := s_Space_prime) l_Space_prime c_Space_prime k_Space_prime).binds fun _ _ _ _ _ _ us hl => match us, hl with | [_], _ => rfl
    a_Space_size := a_Space_size
    f_Space_size := _
    F_Space_size := fun_mk (st := s_Space_size) l_Space_size c_Space_size k_Space_size
    b_Space_size := (fun_mk (st := s_Space_size) l_Space_size c_Space_size k_Space_size).binds fun _ _ _ _ _ _ us hl => match us, hl with | [_], _ => rfl
    a_Space_reduced_sums := a_Space_reduced_sums
    f_Space_reduced_sums := _
    F_Space_reduced_sums := fun_mk (st := s_Space_reduced_sums) l_Space_reduced_sums c_Space_reduced_sums k_Space_reduced_sums
    b_Space_reduced_sums := (fun_mk (st := s_Space_reduced_sums) l_Space_reduced_sums c_Space_reduced_sums k_Space_reduced_sums).binds fun _ _ _ _ _ _ us hl => match us, hl with | [_], _ => rfl
    a_Space_is_whole := a_Space_is_whole
    f_Space_is_whole := _
    F_Space_is_whole := fun_mk (st := s_Space_is_whole) l_Space_is_whole c_Space_is_whole k_Space_is_whole
    b_Space_is_whole := (fun_mk (st := s_Space_is_whole) l_Space_is_whole c_Space_is_whole k_Space_is_whole).binds fun _ _ _ _ _ _ us hl => match us, hl with | [_], _ => rfl
    a_are_wishes := a_are_wishes
    f_are_wishes := _
    F_are_wishes := fun_mk (st := s_are_wishes) l_are_wishes c_are_wishes k_are_wishes
    b_are_wishes := (fun_mk (st := s_are_wishes) l_are_wishes c_are_wishes k_are_wishes).binds fun _ _ _ _ _ _ us hl => match us, hl with | [_, _], _ => rfl
    g_are_wishes := PySem.W.mg_of X G g_are_wishes
    a_least_losses := a_least_losses
    f_least_losses := _
    F_least_losses := fun_mk (st := s_least_losses) l_least_losses c_least_losses k_least_losses
    b_least_losses := (fun_mk (st := s_least_losses) l_least_losses c_least_losses k_least_losses).binds fun _ _ _ _ _ _ us hl => match us, hl with | [_, _, _], _ => rfl
    g_least_losses := PySem.W.mg_of X G g_least_losses
    a_fatal := a_fatal
    f_fatal := _
    F_fatal := fun_mk (st := s_fatal) l_fatal c_fatal k_fatal
    b_fatal := (fun_mk (st := s_fatal) l_fatal c_fatal k_fatal).binds fun _ _ _ _ _ _ us hl => match us, hl with | [_, _], _ => rfl
    g_fatal := PySem.W.mg_of X G g_fatal
    a_units_of := a_units_of
    f_units_of := _
    F_units_of := fun_mk (st := s_units_of) l_units_of c_units_of k_units_of
    b_units_of := (fun_mk (st := s_units_of) l_units_of c_units_of k_units_of).binds fun _ _ _ _ _ _ us hl => match us, hl with | [_], _ => rfl
    g_units_of := PySem.W.mg_of X G g_units_of
    a_Placing_init := a_Placing_init
    f_Placing_init := _
    F_Placing_init := fun_mk (st := s_Placing_init) l_Placing_init c_Placing_init k_Placing_init
    b_Placing_init := (fun_mk (st := s_Placing_init) l_Placing_init c_Placing_init k_Placing_init).binds fun _ _ _ _ _ _ us hl => match us, hl with | [_, _, _], _ => rfl
    a_machines_of := a_machines_of
    f_machines_of := _
    F_machines_of := fun_mk (st := s_machines_of) l_machines_of c_machines_of k_machines_of
    b_machines_of := (fun_mk (st := s_machines_of) l_machines_of c_machines_of k_machines_of).binds fun _ _ _ _ _ _ us hl => match us, hl with | [_, _], _ => rfl
    g_machines_of := PySem.W.mg_of X G g_machines_of
    a_weakest := a_weakest
    f_weakest := _
    F_weakest := fun_mk (st := s_weakest) l_weakest c_weakest k_weakest
    b_weakest := (fun_mk (st := s_weakest) l_weakest c_weakest k_weakest).binds fun _ _ _ _ _ _ us hl => match us, hl with | [_, _], _ => rfl
    g_weakest := PySem.W.mg_of X G g_weakest
    a_expect_counts := a_expect_counts
    f_expect_counts := _
    F_expect_counts := fun_mk (st := s_expect_counts) l_expect_counts c_expect_counts k_expect_counts
    b_expect_counts := (fun_mk (st := s_expect_counts) l_expect_counts c_expect_counts k_expect_counts).binds fun _ _ _ _ _ _ us hl => match us, hl with | [_, _], _ => rfl
    g_expect_counts := PySem.W.mg_of X G g_expect_counts
    a_expect_room := a_expect_room
    f_expect_room := _
    F_expect_room := fun_mk (st := s_expect_room) l_expect_room c_expect_room k_expect_room
    b_expect_room := (fun_mk (st := s_expect_room) l_expect_room c_expect_room k_expect_room).binds fun _ _ _ _ _ _ us hl => match us, hl with | [_, _, _], _ => rfl
    g_expect_room := PySem.W.mg_of X G g_expect_room
    a_roomy_placings := a_roomy_placings
    f_roomy_placings := _
    F_roomy_placings := fun_mk (st := s_roomy_placings) l_roomy_placings c_roomy_placings k_roomy_placings
    b_roomy_placings := (fun_mk (st := s_roomy_placings) l_roomy_placings c_roomy_placings k_roomy_placings).binds fun _ _ _ _ _ _ us hl => match us, hl with | [_, _, _], _ => rfl
    g_roomy_placings := PySem.W.mg_of X G g_roomy_placings
    a_best_placing := a_best_placing
    f_best_placing := _
    F_best_placing := fun_mk (st := s_best_placing) l_best_placing c_best_placing k_best_placing
    b_best_placing := (fun_mk (st := s_best_placing) l_best_placing c_best_placing k_best_placing).binds fun _ _ _ _ _ _ us hl => match us, hl with | [_, _, _], _ => rfl
    g_best_placing := PySem.W.mg_of X G g_best_placing
    a_expect_pieces := a_expect_pieces
    f_expect_pieces := _
    F_expect_pieces := fun_mk (st := s_expect_pieces) l_expect_pieces c_expect_pieces k_expect_pieces
    b_expect_pieces := (fun_mk (st := s_expect_pieces) l_expect_pieces c_expect_pieces k_expect_pieces).binds fun _ _ _ _ _ _ us hl => match us, hl with | [_, _, _], _ => rfl
    g_expect_pieces := PySem.W.mg_of X G g_expect_pieces
    a_Table_init := a_Table_init
    f_Table_init := _
    F_Table_init := fun_mk (st := s_Table_init) l_Table_init c_Table_init k_Table_init
    b_Table_init := (fun_mk (st := s_Table_init) l_Table_init c_Table_init k_Table_init).binds fun _ _ _ _ _ _ us hl => match us, hl with | [_, _, _, _], _ => rfl
    a_Table_prime := a_Table_prime
    f_Table_prime := _
    F_Table_prime := fun_mk (st := s_Table_prime) l_Table_prime c_Table_prime k_Table_prime
    b_Table_prime := (fun_mk (st := s_Table_prime) l_Table_prime c_Table_prime k_Table_prime).binds fun _ _ _ _ _ _ us hl => match us, hl with | [_], _ => rfl
    a_Table_size := a_Table_size
    f_Table_size := _
    F_Table_size := fun_mk (st := s_Table_size) l_Table_size c_Table_size k_Table_size
    b_Table_size := (fun_mk (st := s_Table_size) l_Table_size c_Table_size k_Table_size).binds fun _ _ _ _ _ _ us hl => match us, hl with | [_], _ => rfl
    a_Table_pieces := a_Table_pieces
    f_Table_pieces := _
    F_Table_pieces := fun_mk (st := s_Table_pieces) l_Table_pieces c_Table_pieces k_Table_pieces
    b_Table_pieces := (fun_mk (st := s_Table_pieces) l_Table_pieces c_Table_pieces k_Table_pieces).binds fun _ _ _ _ _ _ us hl => match us, hl with | [_], _ => rfl
    a_Table_is_whole := a_Table_is_whole
    f_Table_is_whole := _
    F_Table_is_whole := fun_mk (st := s_Table_is_whole) l_Table_is_whole c_Table_is_whole k_Table_is_whole
    b_Table_is_whole := (fun_mk (st := s_Table_is_whole) l_Table_is_whole c_Table_is_whole k_Table_is_whole).binds fun _ _ _ _ _ _ us hl => match us, hl with | [_], _ => rfl
    a_Table_len := a_Table_len
    f_Table_len := _
    F_Table_len := fun_mk (st := s_Table_len) l_Table_len c_Table_len k_Table_len
    b_Table_len := (fun_mk (st := s_Table_len) l_Table_len c_Table_len k_Table_len).binds fun _ _ _ _ _ _ us hl => match us, hl with | [_], _ => rfl
    a_Table_space := a_Table_space
    f_Table_space := _
    F_Table_space := (funD_mkN (st := s_Table_space) l_Table_space c_Table_space k_Table_space ld_Table_space)
    b_Table_space := binds_all (funD_mkN (st := s_Table_space) l_Table_space c_Table_space k_Table_space ld_Table_space) 2 rfl fun T kV doc pm an cdv ct us its h1 h2 => match us, its, h1, h2 with | [_, _], [_], _, _ => ⟨_, rfl, rfl⟩
    a_Table_spots_of := a_Table_spots_of
    f_Table_spots_of := _
    F_Table_spots_of := fun_mk (st := s_Table_spots_of) l_Table_spots_of c_Table_spots_of k_Table_spots_of
    b_Table_spots_of := (fun_mk (st := s_Table_spots_of) l_Table_spots_of c_Table_spots_of k_Table_spots_of).binds fun _ _ _ _ _ _ us hl => match us, hl with | [_, _], _ => rfl
    a_is_barred := a_is_barred
    f_is_barred := _
    F_is_barred := fun_mk (st := s_is_barred) l_is_barred c_is_barred k_is_barred
    b_is_barred := (fun_mk (st := s_is_barred) l_is_barred c_is_barred k_is_barred).binds fun _ _ _ _ _ _ us hl => match us, hl with | [_, _, _, _, _], _ => rfl
    g_is_barred := PySem.W.mg_of X G g_is_barred
    a_law_source := a_law_source
    f_law_source := _
    F_law_source := fun_mk (st := s_law_source) l_law_source c_law_source k_law_source
    b_law_source := (fun_mk (st := s_law_source) l_law_source c_law_source k_law_source).binds fun _ _ _ _ _ _ us hl => match us, hl with | [_, _], _ => rfl
    g_law_source := PySem.W.mg_of X G g_law_source
    a_law_draw := a_law_draw
    f_law_draw := _
    F_law_draw := fun_mk (st := s_law_draw) l_law_draw c_law_draw k_law_draw
    b_law_draw := (fun_mk (st := s_law_draw) l_law_draw c_law_draw k_law_draw).binds fun _ _ _ _ _ _ us hl => match us, hl with | [_, _], _ => rfl
    g_law_draw := PySem.W.mg_of X G g_law_draw
    a_law_said := a_law_said
    f_law_said := _
    F_law_said := fun_mk (st := s_law_said) l_law_said c_law_said k_law_said
    b_law_said := (fun_mk (st := s_law_said) l_law_said c_law_said k_law_said).binds fun _ _ _ _ _ _ us hl => match us, hl with | [_], _ => rfl
    g_law_said := PySem.W.mg_of X G g_law_said
    a_law_doors := a_law_doors
    f_law_doors := _
    F_law_doors := fun_mk (st := s_law_doors) l_law_doors c_law_doors k_law_doors
    b_law_doors := (fun_mk (st := s_law_doors) l_law_doors c_law_doors k_law_doors).binds fun _ _ _ _ _ _ us hl => match us, hl with | [_, _, _], _ => rfl
    g_law_doors := PySem.W.mg_of X G g_law_doors
    a_law := a_law
    f_law := _
    F_law := fun_mk (st := s_law) l_law c_law k_law
    b_law := (fun_mk (st := s_law) l_law c_law k_law).binds fun _ _ _ _ _ _ us hl => match us, hl with | [_], _ => rfl
    g_law := PySem.W.mg_of X G g_law
    n_isinstance := PySem.W.mg_none_of X G n_isinstance
    n_repr := PySem.W.mg_none_of X G n_repr
    n_str := PySem.W.mg_none_of X G n_str
    n_int := PySem.W.mg_none_of X G n_int
    n_bool := PySem.W.mg_none_of X G n_bool
    n_list := PySem.W.mg_none_of X G n_list
    n_tuple := PySem.W.mg_none_of X G n_tuple
    n_len := PySem.W.mg_none_of X G n_len
    n_all := PySem.W.mg_none_of X G n_all
    n_any := PySem.W.mg_none_of X G n_any
    n_sum := PySem.W.mg_none_of X G n_sum
    n_zip := PySem.W.mg_none_of X G n_zip
    n_max := PySem.W.mg_none_of X G n_max
    n_min := PySem.W.mg_none_of X G n_min
    n_range := PySem.W.mg_none_of X G n_range
    n_sorted := PySem.W.mg_none_of X G n_sorted
    n_enumerate := PySem.W.mg_none_of X G n_enumerate
    n_reversed := PySem.W.mg_none_of X G n_reversed
    n_iter := PySem.W.mg_none_of X G n_iter
    n_set := PySem.W.mg_none_of X G n_set
    c_Sum := ⟨⟨pgSum, hdSum, poSum, saSum⟩, clSum, gtSum, tkSum, moSum⟩
    m_Sum := ⟨mkSum, f_Sum_init, i_Sum_init, kpSum⟩
    c_Space := ⟨⟨pgSpace, hdSpace, poSpace, saSpace⟩, clSpace, gtSpace, tkSpace, moSpace⟩
    m_Space := ⟨mkSpace, f_Space_init, i_Space_init, kpSpace⟩
    c_Table := ⟨⟨pgTable, hdTable, poTable, saTable⟩, clTable, gtTable, tkTable, moTable⟩
    m_Table := ⟨mkTable, f_Table_init, i_Table_init, kpTable⟩
    c_Placing := ⟨⟨pgPlacing, hdPlacing, poPlacing, saPlacing⟩, clPlacing, gtPlacing, tkPlacing, moPlacing⟩
    m_Placing := ⟨mkPlacing, f_Placing_init, i_Placing_init, kpPlacing⟩
    t_MOST_WISHES := t_MOST_WISHES
    g_MOST_WISHES := PySem.W.mg_of X G gc_MOST_WISHES
    t_MOST_PIECES := t_MOST_PIECES
    g_MOST_PIECES := PySem.W.mg_of X G gc_MOST_PIECES
    t_MOST_PARTS := t_MOST_PARTS
    g_MOST_PARTS := PySem.W.mg_of X G gc_MOST_PARTS
    t_MOST_PARTS_IN_ALL := t_MOST_PARTS_IN_ALL
    g_MOST_PARTS_IN_ALL := PySem.W.mg_of X G gc_MOST_PARTS_IN_ALL
    t_MOST_MACHINES := t_MOST_MACHINES
    g_MOST_MACHINES := PySem.W.mg_of X G gc_MOST_MACHINES
    t_MOST_PLACINGS := t_MOST_PLACINGS
    g_MOST_PLACINGS := PySem.W.mg_of X G gc_MOST_PLACINGS
    x_InvalidNumber := ⟨⟨_, _, _, _, _, _, _, _, _, _, _, _, _, _, _, lx_InvalidNumber, lr_InvalidNumber⟩, sa_InvalidNumber, hs_InvalidNumber, ty_InvalidNumber, kp_InvalidNumber⟩
    i_InvalidNumber := f_InvalidNumber_init
    t_InvalidNumber := t_InvalidNumber
    h_InvalidNumber := h_InvalidNumber
    x_LimitExceeded := ⟨⟨_, _, _, _, _, _, _, _, _, _, _, _, _, _, _, lx_LimitExceeded, lr_LimitExceeded⟩, sa_LimitExceeded, hs_LimitExceeded, ty_LimitExceeded, kp_LimitExceeded⟩
    i_LimitExceeded := f_LimitExceeded_init
    t_LimitExceeded := t_LimitExceeded
    h_LimitExceeded := h_LimitExceeded
    x_Lost := ⟨⟨_, _, _, _, _, _, _, _, _, _, _, _, _, _, _, lx_Lost, lr_Lost⟩, sa_Lost, hs_Lost, ty_Lost, kp_Lost⟩
    i_Lost := f_Lost_init
    t_Lost := t_Lost
    h_Lost := h_Lost
    y_InvalidNumber := ⟨hg_InvalidNumber, hk_InvalidNumber, hs_InvalidNumber, hd_InvalidNumber⟩
    z_InvalidNumber := z_InvalidNumber
    e_InvalidNumber_InvalidNumber := e_InvalidNumber_InvalidNumber
    e_InvalidNumber_LimitExceeded := e_InvalidNumber_LimitExceeded
    e_InvalidNumber_Lost := e_InvalidNumber_Lost
    y_LimitExceeded := ⟨hg_LimitExceeded, hk_LimitExceeded, hs_LimitExceeded, hd_LimitExceeded⟩
    z_LimitExceeded := z_LimitExceeded
    e_LimitExceeded_InvalidNumber := e_LimitExceeded_InvalidNumber
    e_LimitExceeded_LimitExceeded := e_LimitExceeded_LimitExceeded
    e_LimitExceeded_Lost := e_LimitExceeded_Lost
    y_Lost := ⟨hg_Lost, hk_Lost, hs_Lost, hd_Lost⟩
    z_Lost := z_Lost
    e_Lost_InvalidNumber := e_Lost_InvalidNumber
    e_Lost_LimitExceeded := e_Lost_LimitExceeded
    e_Lost_Lost := e_Lost_Lost
    nf_Sum := nsC
    kt_Sum := ksC
    call_Sum := ⟨f_Sum_call, i_Sum_call, fiC⟩
    me_space := ⟨f_Table_space, i_Table_space, k_Table_space⟩
    me_spots_of := ⟨f_Table_spots_of, i_Table_spots_of, k_Table_spots_of⟩
    kt_Placing := ksP
    mc := .type "type"
    q_unit := q_unit
    sm_unit := ⟨sr_unit, sg_unit, sa_unit, ⟨_, sc_unit⟩, k_Sum_unit⟩
    ln_Table := f_Table_len
    lf_Table := i_Table_len
    a_GS := a_GS
    g_GS := PySem.W.mg_of X G gG
    d_GS := gs_dict lG eG oG
    dv_Table_space := dv_Table_space
    bd_Table_space := bd_Table_space
    bv_Table_space := bv_Table_space
    kt_NoneType := ktNoneType
    kt_int := ktint
    kt_str := ktstr
    kt_tuple := kttuple
    kt_list := ktlist
    np_machines := na_Placing_machines
    np_where := na_Placing_where
    na_prime := na_Sum_prime
    na_factors := na_Sum_factors
    ns_prime := na_Space_prime
    ns_size := na_Space_size
    ns_rows := na_Space_rows
    ns_reduced := na_Space_reduced
    nb_prime := na_Table_prime
    nb_size := na_Table_size
    nb_pieces := na_Table_pieces
    nb_spots := na_Table_spots
    nb_sums := na_Table_sums
    nb_whole := na_Table_whole
    q_Sum_prime := q_Sum_prime
    pp_Sum_prime := ⟨pa_Sum_prime, pg_Sum_prime, pt_Sum_prime, ⟨_, pc_Sum_prime⟩⟩
    q_Sum_factors := q_Sum_factors
    pp_Sum_factors := ⟨pa_Sum_factors, pg_Sum_factors, pt_Sum_factors, ⟨_, pc_Sum_factors⟩⟩
    q_Sum_size := q_Sum_size
    pp_Sum_size := ⟨pa_Sum_size, pg_Sum_size, pt_Sum_size, ⟨_, pc_Sum_size⟩⟩
    q_Space_prime := q_Space_prime
    pp_Space_prime := ⟨pa_Space_prime, pg_Space_prime, pt_Space_prime, ⟨_, pc_Space_prime⟩⟩
    q_Space_size := q_Space_size
    pp_Space_size := ⟨pa_Space_size, pg_Space_size, pt_Space_size, ⟨_, pc_Space_size⟩⟩
    q_Space_reduced_sums := q_Space_reduced_sums
    pp_Space_reduced_sums := ⟨pa_Space_reduced_sums, pg_Space_reduced_sums, pt_Space_reduced_sums, ⟨_, pc_Space_reduced_sums⟩⟩
    q_Space_is_whole := q_Space_is_whole
    pp_Space_is_whole := ⟨pa_Space_is_whole, pg_Space_is_whole, pt_Space_is_whole, ⟨_, pc_Space_is_whole⟩⟩
    q_Table_prime := q_Table_prime
    pp_Table_prime := ⟨pa_Table_prime, pg_Table_prime, pt_Table_prime, ⟨_, pc_Table_prime⟩⟩
    q_Table_size := q_Table_size
    pp_Table_size := ⟨pa_Table_size, pg_Table_size, pt_Table_size, ⟨_, pc_Table_size⟩⟩
    q_Table_pieces := q_Table_pieces
    pp_Table_pieces := ⟨pa_Table_pieces, pg_Table_pieces, pt_Table_pieces, ⟨_, pc_Table_pieces⟩⟩
    q_Table_is_whole := q_Table_is_whole
    pp_Table_is_whole := ⟨pa_Table_is_whole, pg_Table_is_whole, pt_Table_is_whole, ⟨_, pc_Table_is_whole⟩⟩
    cl1 := cl1
    P1 := P1
    hcl1 := hcl1
    cl2 := cl2
    P2 := P2
    hcl2 := hcl2 }
  refine ⟨T.f_law, [(cl1, P1, lq1), (cl2, P2, lq2)], W_law P1 P2, fun t ht => ?_, ?_, fun s v => .of_eq rfl, fun ns _ => ⟨ns, rfl, rfl, rfl⟩, fun base _ _ hTB => ?_⟩
  · simp only [List.mem_cons, List.not_mem_nil, or_false] at ht
    rcases ht with rfl | rfl
    · exact ⟨lkP1, codeB_hd lkc1 v111 vck1, "_law_doors", dr1, rcP1, tab_mk g_law_doors l_law_doors hcl1 lkc1 v111⟩
    · exact ⟨lkP2, codeB_hd lkc2 v112 vck2, "law", dr2, rcP2, tab_mk g_law l_law hcl2 lkc2 v112⟩
  · simp [nP12]
  · rw [← e2]
    exact ok_law T (hTB _ List.mem_cons_self) (hTB _ (List.mem_cons_of_mem _ List.mem_cons_self))
end K36
section
open PySem PySem.W PyProof.Rows
local macro_rules | `(tactic| o_headL $H:term) => `(tactic| (have _hk := $H; assumption))
theorem Hk36.frag (h : (OpenLaw.row PySem.Challenge.rw_leastreads_k36_errors_of_placings).Holds) : (OpenLaw.row PySem.Challenge.rw_leastreads_k36_errors_of_placings).Holds := by
  k_headL
end
namespace Hk36
open PySem PySem.W PyProof.Rows
abbrev R : OpenRow := OpenLaw.row PySem.Challenge.rw_leastreads_k36_errors_of_placings
def qv : Program := view R.prog [82, 83]
def lo0 : List PySem.Str := [⟨⟨[95, 119, 97, 108, 108]⟩⟩, ⟨⟨[77, 79, 83, 84, 95, 80, 73, 69, 67, 69, 83]⟩⟩, ⟨⟨[77, 79, 83, 84, 95, 80, 65, 82, 84, 83]⟩⟩, ⟨⟨[105, 115, 95, 105, 110, 116, 101, 103, 101, 114]⟩⟩, ⟨⟨[105, 115, 95, 98, 101, 116, 119, 101, 101, 110]⟩⟩, ⟨⟨[104, 97, 115, 95, 105, 116, 101, 109, 115]⟩⟩, ⟨⟨[97, 108, 108, 95, 98, 101, 116, 119, 101, 101, 110]⟩⟩, ⟨⟨[105, 115, 95, 97, 115, 99, 101, 110, 100, 105, 110, 103]⟩⟩, ⟨⟨[97, 114, 101, 95, 112, 105, 101, 99, 101, 115]⟩⟩, ⟨⟨[105, 115, 95, 115, 112, 111, 116]⟩⟩, ⟨⟨[97, 114, 101, 95, 115, 112, 111, 116, 115]⟩⟩, ⟨⟨[115, 112, 111, 116, 115, 95, 111, 102, 95, 112, 97, 114, 116, 115]⟩⟩, ⟨⟨[112, 111, 119, 101, 114]⟩⟩, ⟨⟨[97, 108, 108, 95, 116, 117, 112, 108, 101, 115]⟩⟩, ⟨⟨[97, 108, 108, 95, 103, 114, 111, 117, 112, 115]⟩⟩, ⟨⟨[76, 101, 97, 115, 116, 69, 114, 114, 111, 114]⟩⟩, ⟨⟨[73, 110, 118, 97, 108, 105, 100, 83, 117, 109]⟩⟩, ⟨⟨[73, 110, 118, 97, 108, 105, 100, 68, 97, 116, 97]⟩⟩, ⟨⟨[73, 110, 118, 97, 108, 105, 100, 84, 97, 98, 108, 101]⟩⟩, ⟨⟨[73, 110, 118, 97, 108, 105, 100, 83, 112, 111, 116, 115]⟩⟩, ⟨⟨[73, 110, 118, 97, 108, 105, 100, 80, 105, 101, 99, 101, 115]⟩⟩, ⟨⟨[73, 110, 118, 97, 108, 105, 100, 87, 105, 115, 104, 101, 115]⟩⟩, ⟨⟨[73, 110, 118, 97, 108, 105, 100, 83, 116, 111, 114, 101, 100]⟩⟩, ⟨⟨[73, 110, 118, 97, 108, 105, 100, 80, 108, 97, 99, 105, 110, 103]⟩⟩, ⟨⟨[73, 110, 118, 97, 108, 105, 100, 79, 112, 101, 114, 97, 110, 100]⟩⟩, ⟨⟨[73, 110, 118, 97, 108, 105, 100, 78, 117, 109, 98, 101, 114]⟩⟩, ⟨⟨[76, 105, 109, 105, 116, 69, 120, 99, 101, 101, 100, 101, 100]⟩⟩, ⟨⟨[76, 111, 115, 116]⟩⟩, ⟨⟨[71, 82, 69, 65, 84, 69, 83, 84, 95, 83, 73, 90, 69, 83]⟩⟩, ⟨⟨[105, 115, 95, 112, 114, 105, 109, 101]⟩⟩, ⟨⟨[105, 115, 95, 115, 105, 122, 101]⟩⟩, ⟨⟨[105, 115, 95, 100, 97, 116, 97]⟩⟩, ⟨⟨[101, 120, 112, 101, 99, 116, 95, 112, 114, 105, 109, 101, 95, 97, 110, 100, 95, 115, 105, 122, 101]⟩⟩, ⟨⟨[105, 115, 95, 115, 117, 109]⟩⟩, ⟨⟨[83, 117, 109]⟩⟩, ⟨⟨[109, 105, 110, 117, 115]⟩⟩, ⟨⟨[114, 101, 109, 97, 105, 110, 100, 101, 114]⟩⟩, ⟨⟨[108, 101, 100, 95, 98, 121, 95, 111, 110, 101]⟩⟩, ⟨⟨[114, 101, 100, 117, 99, 101, 100, 95, 114, 111, 119, 115]⟩⟩, ⟨⟨[122, 101, 114, 111, 95, 114, 111, 119]⟩⟩]
def lo1 : List PySem.Str := [⟨⟨[122, 101, 114, 111, 95, 114, 111, 119, 115]⟩⟩, ⟨⟨[103, 105, 118, 101, 110, 95, 114, 111, 119, 115]⟩⟩, ⟨⟨[98, 108, 105, 110, 100, 95, 102, 111, 114]⟩⟩, ⟨⟨[83, 112, 97, 99, 101]⟩⟩, ⟨⟨[77, 79, 83, 84, 95, 87, 73, 83, 72, 69, 83]⟩⟩, ⟨⟨[105, 115, 95, 98, 108, 105, 110, 100]⟩⟩, ⟨⟨[97, 114, 101, 95, 119, 105, 115, 104, 101, 115]⟩⟩, ⟨⟨[108, 101, 97, 115, 116, 95, 108, 111, 115, 115, 101, 115]⟩⟩, ⟨⟨[102, 97, 116, 97, 108]⟩⟩, ⟨⟨[117, 110, 105, 116, 115, 95, 111, 102]⟩⟩, ⟨⟨[77, 79, 83, 84, 95, 77, 65, 67, 72, 73, 78, 69, 83]⟩⟩, ⟨⟨[77, 79, 83, 84, 95, 80, 76, 65, 67, 73, 78, 71, 83]⟩⟩, ⟨⟨[80, 108, 97, 99, 105, 110, 103]⟩⟩, ⟨⟨[109, 97, 99, 104, 105, 110, 101, 115, 95, 111, 102]⟩⟩, ⟨⟨[119, 101, 97, 107, 101, 115, 116]⟩⟩, ⟨⟨[101, 120, 112, 101, 99, 116, 95, 99, 111, 117, 110, 116, 115]⟩⟩, ⟨⟨[101, 120, 112, 101, 99, 116, 95, 114, 111, 111, 109]⟩⟩, ⟨⟨[114, 111, 111, 109, 121, 95, 112, 108, 97, 99, 105, 110, 103, 115]⟩⟩, ⟨⟨[98, 101, 115, 116, 95, 112, 108, 97, 99, 105, 110, 103]⟩⟩, ⟨⟨[71, 82, 69, 65, 84, 69, 83, 84, 95, 86, 65, 76, 85, 69]⟩⟩, ⟨⟨[97, 114, 101, 95, 118, 97, 108, 117, 101, 115]⟩⟩, ⟨⟨[83, 116, 111, 114, 101, 100]⟩⟩, ⟨⟨[77, 79, 83, 84, 95, 80, 65, 82, 84, 83, 95, 73, 78, 95, 65, 76, 76]⟩⟩, ⟨⟨[101, 120, 112, 101, 99, 116, 95, 112, 105, 101, 99, 101, 115]⟩⟩, ⟨⟨[84, 97, 98, 108, 101]⟩⟩, ⟨⟨[105, 115, 95, 114, 111, 119]⟩⟩, ⟨⟨[105, 115, 95, 98, 97, 114]⟩⟩, ⟨⟨[105, 115, 95, 98, 97, 114, 114, 101, 100]⟩⟩, ⟨⟨[95, 108, 97, 119, 95, 115, 111, 117, 114, 99, 101]⟩⟩, ⟨⟨[95, 108, 97, 119, 95, 100, 114, 97, 119]⟩⟩, ⟨⟨[95, 108, 97, 119, 95, 112, 105, 99, 107]⟩⟩, ⟨⟨[95, 108, 97, 119, 95, 115, 97, 105, 100]⟩⟩]
def lo : List PySem.Str := lo0 ++ lo1
def as0 : List Addr := [2, 3, 15, 17, 18, 20, 21, 22, 24, 25, 27, 28, 29, 31, 32, 34, 35, 36, 38, 39, 41, 42, 43, 46, 47, 48, 51, 52, 53, 55, 56, 58, 59, 60, 62, 63, 65, 66, 67, 70]
def as1 : List Addr := [71, 72, 75, 76, 77, 79, 80, 82, 83, 84, 87, 88, 89, 92, 93, 94, 101, 102, 103, 104, 107, 114, 116, 117, 119, 120, 121, 122, 123, 126, 133, 135, 136, 138, 139, 140, 141, 142, 145, 152]
def as2 : List Addr := [154, 155, 157, 158, 159, 160, 161, 164, 171, 173, 174, 176, 177, 178, 179, 180, 183, 190, 192, 193, 195, 196, 197, 198, 199, 202, 209, 211, 212, 214, 215, 216, 217, 218, 221, 228, 230, 231, 233, 234]
def as3 : List Addr := [235, 236, 237, 240, 247, 249, 250, 252, 253, 254, 255, 256, 259, 266, 268, 269, 271, 272, 273, 274, 275, 278, 285, 287, 288, 290, 291, 292, 293, 294, 297, 304, 306, 307, 309, 310, 311, 312, 313, 316]
def as4 : List Addr := [323, 325, 326, 328, 329, 330, 331, 332, 335, 336, 338, 339, 341, 342, 343, 345, 346, 348, 349, 350, 352, 353, 355, 356, 357, 359, 360, 362, 363, 364, 366, 367, 369, 370, 378, 380, 381, 383, 384, 385]
def as5 : List Addr := [388, 389, 390, 391, 392, 393, 395, 396, 398, 399, 400, 401, 403, 404, 406, 407, 408, 409, 411, 412, 414, 415, 416, 417, 419, 420, 422, 423, 424, 425, 428, 429, 430, 433, 434, 435, 438, 439, 440, 443]
def as6 : List Addr := [444, 445, 448, 449, 450, 452, 453, 455, 456, 457, 458, 459, 460, 461, 464, 467, 468, 469, 471, 472, 474, 475, 476, 479, 480, 481, 484, 485, 486, 489, 490, 491, 494, 495, 496, 499, 500, 501, 504, 505]
def as7 : List Addr := [513, 514, 515, 518, 519, 520, 522, 523, 525, 526, 527, 528, 530, 531, 533, 534, 535, 536, 538, 539, 541, 542, 543, 544, 546, 547, 549, 550, 551, 552, 554, 555, 557, 558, 559, 561, 562, 564, 565, 566]
def as8 : List Addr := [568, 569, 571, 572, 573, 575, 576, 578, 579, 580, 583, 584, 585, 587, 588, 590, 591, 592, 595, 596, 597, 599, 600, 602, 603, 604, 606, 607, 609, 610, 611, 613, 614, 616, 617, 618, 619, 620, 621, 622]
def as9 : List Addr := [625, 628, 629, 630, 633, 634, 635, 638, 639, 640, 643, 644, 645, 648, 649, 657, 660, 661, 662, 664, 665, 667, 668, 669, 670, 672, 673, 675, 676, 677, 678, 680, 681, 683, 684, 685, 687, 688, 690, 691]
def as10 : List Addr := [692, 695, 696, 697, 699, 700, 702, 703, 704, 706, 707, 709, 710, 711, 713, 714, 716, 717, 718, 719, 720, 721, 722, 725, 728, 729, 730, 733, 734, 735, 737, 738, 740, 741, 742, 744, 745, 747, 748, 749]
def as11 : List Addr := [752, 753, 754, 757, 758, 759, 761, 762, 764, 765, 773, 776, 777, 778, 780, 781, 783, 784, 785, 786, 789, 790, 791, 792, 794, 795, 797, 798, 799, 801, 802, 804, 805, 806, 808, 809, 811, 812, 813, 815]
def as12 : List Addr := [816, 818, 819, 820, 822, 823, 825, 826, 827, 829, 830, 832, 833, 834, 836, 837, 839, 840, 841, 844, 845, 846, 848, 849, 851, 852, 853, 854, 855, 856, 857, 860, 863, 864, 872, 875, 876, 877, 879, 880]
def as13 : List Addr := [882, 883, 884, 885, 887, 888, 890, 891, 892, 893, 895, 896, 898, 899, 900, 901, 903, 904, 906, 907, 908, 909, 911, 912, 914, 915, 916, 918, 919, 921, 922, 923, 925, 926, 928, 929, 930, 932, 933, 935]
def as14 : List Addr := [936, 937, 939, 940, 942, 943, 944, 947, 948, 949, 950, 953, 954, 955, 958, 959, 960, 962, 963, 965, 966, 967, 968, 969, 970, 971, 974, 976, 977, 979, 980, 981, 984, 985, 986, 989, 990, 991, 993, 994]
def as15 : List Addr := [996, 997, 998, 1000, 1001, 1003, 1004, 1012, 1014, 1015, 1017, 1018, 1019, 1021, 1022, 1024, 1025, 1026, 1029, 1030]
def asL : List Addr := as0 ++ as1 ++ as2 ++ as3 ++ as4 ++ as5 ++ as6 ++ as7 ++ as8 ++ as9 ++ as10 ++ as11 ++ as12 ++ as13 ++ as14 ++ as15
theorem ek (P : Params) : asL = (Hk36.frag.heap_1 P).map (·.1) := by kernel_rfl
def Runs (w : World) : Prop := ∀ os : OsState, (HeadRun.endF (HeadRun.stepQ (HeadRun.denQ HeadRun.tabQ) R.prog w) 17426 R.prog w os).map (fun s => (HeadRun.looksF R.prog (boot_heap w.params) s.abs, HeadRun.seenQ qv lo (importedModules R.prog.main.body) (fun s => xlAt qv [] s && recOk (RowW.records (OpenRow.toRowW R)) s) s.abs, asL.map (HeadRun.getT s))) = some (true, openGood qv lo, (Hk36.frag.heap_1 w.params).map fun x => some x.2)
set_option maxRecDepth 100000
theorem runf (w : World) : Runs (w.withFollow "special-get-raises" false) := by
  intro os
  kernel_rfl
theorem runt (w : World) : Runs (w.withFollow "special-get-raises" true) := by
  intro os
  kernel_rfl
theorem run (w : World) : Runs w := byRow2 "special-get-raises" (P := Runs) runf runt w
theorem left : LeftO R.prog qv lo (fun s => xlAt qv [] s && recOk (RowW.records (OpenRow.toRowW R)) s) (Hook.obs (kHook Hk36.frag.heap_1 asL ek)) (Hook.val (kHook Hk36.frag.heap_1 asL ek)) 18126 true :=
  HeadRun.left_oneK (M := 17426) (by kernel_rfl) (by rfl) (fun s => by kernel_rfl) (by rfl) run
end Hk36
open PySem PySem.W PyProof.Rows
set_option maxRecDepth 100000 in
set_option maxHeartbeats 0 in
theorem PySem.Challenge.cw_leastreads_k36_errors_of_placings_holds : PySem.Challenge.rw_leastreads_k36_errors_of_placings.Holds := by
  w_on; o_law
  refine holds_open (d := HandSHeadRun.topDef Hk36.R.prog 83) (kwd := []) (q := Hk36.qv) (loose := Hk36.lo) (Xt := fun s => xlAt Hk36.qv [] s && recOk (RowW.records (OpenRow.toRowW Hk36.R)) s) (XP := XL Hk36.qv []) (Yf := Hook.obs (kHook Hk36.frag.heap_1 Hk36.asL Hk36.ek)) (Ya := Hook.val (kHook Hk36.frag.heap_1 Hk36.asL Hk36.ek)) (YP := Hook.says (kHook Hk36.frag.heap_1 Hk36.asL Hk36.ek)) (N := 18126) Hk36.left (Hook.of (kHook Hk36.frag.heap_1 Hk36.asL Hk36.ek)) (Hook.keeps (kHook Hk36.frag.heap_1 Hk36.asL Hk36.ek)) (fun s e => xl_of s (Bool.and_eq_true_iff.mp e).1) XL.keeps (by kernel_rfl) (by kernel_rfl) (by kernel_rfl) (fun s e => recFacts_of (Bool.and_eq_true_iff.mp e).2) (by rfl) (by first | assumption | decide +kernel) (by decide +kernel) ⟨rfl, rfl, rfl, rfl, rfl, by decide +kernel⟩ ?hw ?hc
  case hw => w_witness2
  case' hc => k_fill
  refine Pd.walk_ofT (l := PySem.Challenge.rw_leastreads_k36_errors_of_placings) (n := 63) (k := 16) (x := "_law_script") (W := fun _ _ => K36.W_law 0 0) rfl (by decide) (by kernel_rfl) ⟨rfl, by decide, by decide⟩ (fun w h Y => PySem.W.kIn_of Y) ?F
  case F =>
    intro w mg fa h KX G hmg0
    have hmg : mg ("law" : PySem.Str) = some (.ref fa) := by
      have e : (HandSHeadRun.topDef Hk36.R.prog 83).name = ("law" : PySem.Str) := by kernel_rfl
      rw [← e]
      exact hmg0
    refine' K36.all_mk KX G hmg ?g_InvalidNumber ?g_LimitExceeded ?g_Lost ?g_Sum ?g_Space ?g_Placing ?g_Table ?g_is_integer ?i_is_integer ?l_is_integer ?c_is_integer ?k_is_integer ?g_is_between ?i_is_between ?l_is_between ?c_is_between ?k_is_between ?g_has_items ?i_has_items ?l_has_items ?c_has_items ?k_has_items ?g_all_between ?i_all_between ?l_all_between ?c_all_between ?k_all_between ?g_is_ascending ?i_is_ascending ?l_is_ascending ?c_is_ascending ?k_is_ascending ?g_are_pieces ?i_are_pieces ?l_are_pieces ?c_are_pieces ?k_are_pieces ?g_is_spot ?i_is_spot ?l_is_spot ?c_is_spot ?k_is_spot ?g_are_spots ?i_are_spots ?l_are_spots ?c_are_spots ?k_are_spots ?g_spots_of_parts ?i_spots_of_parts ?l_spots_of_parts ?c_spots_of_parts ?k_spots_of_parts ?g_power ?i_power ?l_power ?c_power ?k_power ?g_all_tuples ?i_all_tuples ?l_all_tuples ?c_all_tuples ?k_all_tuples ?g_all_groups ?i_all_groups ?l_all_groups ?c_all_groups ?k_all_groups ?f_InvalidNumber_init ?i_InvalidNumber_init ?l_InvalidNumber_init ?c_InvalidNumber_init ?k_InvalidNumber_init ?f_LimitExceeded_init ?i_LimitExceeded_init ?l_LimitExceeded_init ?c_LimitExceeded_init ?k_LimitExceeded_init ?f_Lost_init ?i_Lost_init ?l_Lost_init ?c_Lost_init ?k_Lost_init ?g_is_prime ?i_is_prime ?l_is_prime ?c_is_prime ?k_is_prime ?g_is_size ?i_is_size ?l_is_size ?c_is_size ?k_is_size ?g_is_data ?i_is_data ?l_is_data ?c_is_data ?k_is_data ?g_expect_prime_and_size ?i_expect_prime_and_size ?l_expect_prime_and_size ?c_expect_prime_and_size ?k_expect_prime_and_size ?g_is_sum ?i_is_sum ?l_is_sum ?c_is_sum ?k_is_sum ?f_Sum_init ?i_Sum_init ?l_Sum_init ?c_Sum_init ?k_Sum_init ?sa_unit ?sr_unit ?sg_unit ?sc_unit ?i_Sum_unit ?l_Sum_unit ?c_Sum_unit ?k_Sum_unit ?pa_Sum_prime ?pg_Sum_prime ?pt_Sum_prime ?pc_Sum_prime ?i_Sum_prime ?l_Sum_prime ?c_Sum_prime ?k_Sum_prime ?pa_Sum_factors ?pg_Sum_factors ?pt_Sum_factors ?pc_Sum_factors ?i_Sum_factors ?l_Sum_factors ?c_Sum_factors ?k_Sum_factors ?pa_Sum_size ?pg_Sum_size ?pt_Sum_size ?pc_Sum_size ?i_Sum_size ?l_Sum_size ?c_Sum_size ?k_Sum_size ?f_Sum_call ?i_Sum_call ?l_Sum_call ?c_Sum_call ?k_Sum_call ?g_minus ?i_minus ?l_minus ?c_minus ?k_minus ?g_remainder ?i_remainder ?l_remainder ?c_remainder ?k_remainder ?g_led_by_one ?i_led_by_one ?l_led_by_one ?c_led_by_one ?k_led_by_one ?g_reduced_rows ?i_reduced_rows ?l_reduced_rows ?c_reduced_rows ?k_reduced_rows ?g_zero_row ?i_zero_row ?l_zero_row ?c_zero_row ?k_zero_row ?g_zero_rows ?i_zero_rows ?l_zero_rows ?c_zero_rows ?k_zero_rows ?g_blind_for ?i_blind_for ?l_blind_for ?c_blind_for ?k_blind_for ?f_Space_init ?i_Space_init ?l_Space_init ?c_Space_init ?k_Space_init ?ld_Space_init ?pa_Space_prime ?pg_Space_prime ?pt_Space_prime ?pc_Space_prime ?i_Space_prime ?l_Space_prime ?c_Space_prime ?k_Space_prime ?pa_Space_size ?pg_Space_size ?pt_Space_size ?pc_Space_size ?i_Space_size ?l_Space_size ?c_Space_size ?k_Space_size ?pa_Space_reduced_sums ?pg_Space_reduced_sums ?pt_Space_reduced_sums ?pc_Space_reduced_sums ?i_Space_reduced_sums ?l_Space_reduced_sums ?c_Space_reduced_sums ?k_Space_reduced_sums ?pa_Space_is_whole ?pg_Space_is_whole ?pt_Space_is_whole ?pc_Space_is_whole ?i_Space_is_whole ?l_Space_is_whole ?c_Space_is_whole ?k_Space_is_whole ?g_are_wishes ?i_are_wishes ?l_are_wishes ?c_are_wishes ?k_are_wishes ?g_least_losses ?i_least_losses ?l_least_losses ?c_least_losses ?k_least_losses ?g_fatal ?i_fatal ?l_fatal ?c_fatal ?k_fatal ?g_units_of ?i_units_of ?l_units_of ?c_units_of ?k_units_of ?f_Placing_init ?i_Placing_init ?l_Placing_init ?c_Placing_init ?k_Placing_init ?g_machines_of ?i_machines_of ?l_machines_of ?c_machines_of ?k_machines_of ?g_weakest ?i_weakest ?l_weakest ?c_weakest ?k_weakest ?g_expect_counts ?i_expect_counts ?l_expect_counts ?c_expect_counts ?k_expect_counts ?g_expect_room ?i_expect_room ?l_expect_room ?c_expect_room ?k_expect_room ?g_roomy_placings ?i_roomy_placings ?l_roomy_placings ?c_roomy_placings ?k_roomy_placings ?g_best_placing ?i_best_placing ?l_best_placing ?c_best_placing ?k_best_placing ?g_expect_pieces ?i_expect_pieces ?l_expect_pieces ?c_expect_pieces ?k_expect_pieces ?f_Table_init ?i_Table_init ?l_Table_init ?c_Table_init ?k_Table_init ?pa_Table_prime ?pg_Table_prime ?pt_Table_prime ?pc_Table_prime ?i_Table_prime ?l_Table_prime ?c_Table_prime ?k_Table_prime ?pa_Table_size ?pg_Table_size ?pt_Table_size ?pc_Table_size ?i_Table_size ?l_Table_size ?c_Table_size ?k_Table_size ?pa_Table_pieces ?pg_Table_pieces ?pt_Table_pieces ?pc_Table_pieces ?i_Table_pieces ?l_Table_pieces ?c_Table_pieces ?k_Table_pieces ?pa_Table_is_whole ?pg_Table_is_whole ?pt_Table_is_whole ?pc_Table_is_whole ?i_Table_is_whole ?l_Table_is_whole ?c_Table_is_whole ?k_Table_is_whole ?f_Table_len ?i_Table_len ?l_Table_len ?c_Table_len ?k_Table_len ?f_Table_space ?i_Table_space ?l_Table_space ?c_Table_space ?k_Table_space ?ld_Table_space ?f_Table_spots_of ?i_Table_spots_of ?l_Table_spots_of ?c_Table_spots_of ?k_Table_spots_of ?g_is_barred ?i_is_barred ?l_is_barred ?c_is_barred ?k_is_barred ?g_law_source ?i_law_source ?l_law_source ?c_law_source ?k_law_source ?g_law_draw ?i_law_draw ?l_law_draw ?c_law_draw ?k_law_draw ?g_law_said ?i_law_said ?l_law_said ?c_law_said ?k_law_said ?g_law_doors ?i_law_doors ?l_law_doors ?c_law_doors ?k_law_doors ?g_law ?i_law ?l_law ?c_law ?k_law ?n_isinstance ?n_repr ?n_str ?n_int ?n_bool ?n_list ?n_tuple ?n_len ?n_all ?n_any ?n_sum ?n_zip ?n_max ?n_min ?n_range ?n_sorted ?n_enumerate ?n_reversed ?n_iter ?n_set ?pgSum ?hdSum ?poSum ?saSum ?mkSum ?kpSum ?clSum ?gtSum ?tkSum ?moSum ?na_Sum_prime ?na_Sum_factors ?pgSpace ?hdSpace ?poSpace ?saSpace ?mkSpace ?kpSpace ?clSpace ?gtSpace ?tkSpace ?moSpace ?na_Space_prime ?na_Space_size ?na_Space_rows ?na_Space_reduced ?pgTable ?hdTable ?poTable ?saTable ?mkTable ?kpTable ?clTable ?gtTable ?tkTable ?moTable ?na_Table_prime ?na_Table_size ?na_Table_pieces ?na_Table_spots ?na_Table_sums ?na_Table_whole ?pgPlacing ?hdPlacing ?poPlacing ?saPlacing ?mkPlacing ?kpPlacing ?clPlacing ?gtPlacing ?tkPlacing ?moPlacing ?na_Placing_machines ?na_Placing_where ?gc_MOST_WISHES ?gc_MOST_PIECES ?gc_MOST_PARTS ?gc_MOST_PARTS_IN_ALL ?gc_MOST_MACHINES ?gc_MOST_PLACINGS ?lx_InvalidNumber ?lr_InvalidNumber ?sa_InvalidNumber ?ty_InvalidNumber ?kp_InvalidNumber ?t_InvalidNumber ?h_InvalidNumber ?lx_LimitExceeded ?lr_LimitExceeded ?sa_LimitExceeded ?ty_LimitExceeded ?kp_LimitExceeded ?t_LimitExceeded ?h_LimitExceeded ?lx_Lost ?lr_Lost ?sa_Lost ?ty_Lost ?kp_Lost ?t_Lost ?h_Lost ?hg_InvalidNumber ?hk_InvalidNumber ?hs_InvalidNumber ?hd_InvalidNumber ?z_InvalidNumber ?e_InvalidNumber_InvalidNumber ?e_InvalidNumber_LimitExceeded ?e_InvalidNumber_Lost ?hg_LimitExceeded ?hk_LimitExceeded ?hs_LimitExceeded ?hd_LimitExceeded ?z_LimitExceeded ?e_LimitExceeded_InvalidNumber ?e_LimitExceeded_LimitExceeded ?e_LimitExceeded_Lost ?hg_Lost ?hk_Lost ?hs_Lost ?hd_Lost ?z_Lost ?e_Lost_InvalidNumber ?e_Lost_LimitExceeded ?e_Lost_Lost ?nsC ?ksC ?gG ?lG ?eG ?oG ?fiC ?ksP ?ktNoneType ?ktint ?ktstr ?kttuple ?ktlist ?hcl1 ?lkc1 ?v111 ?vck1 ?lkP1 ?rcP1 ?hcl2 ?lkc2 ?v112 ?vck2 ?lkP2 ?rcP2 ?nP12
    (case g_InvalidNumber => k_is)
    (case g_LimitExceeded => k_is)
    (case g_Lost => k_is)
    (case g_Sum => k_is)
    (case g_Space => k_is)
    (case g_Placing => k_is)
    (case g_Table => k_is)
    (case g_is_integer => k_is)
    (case i_is_integer => k_is)
    (case l_is_integer => k_is)
    (case c_is_integer => k_is)
    (case k_is_integer => k_is)
    (case g_is_between => k_is)
    (case i_is_between => k_is)
    (case l_is_between => k_is)
    (case c_is_between => k_is)
    (case k_is_between => k_is)
    (case g_has_items => k_is)
    (case i_has_items => k_is)
    (case l_has_items => k_is)
    (case c_has_items => k_is)
    (case k_has_items => k_is)
    (case g_all_between => k_is)
    (case i_all_between => k_is)
    (case l_all_between => k_is)
    (case c_all_between => k_is)
    (case k_all_between => k_is)
    (case g_is_ascending => k_is)
    (case i_is_ascending => k_is)
    (case l_is_ascending => k_is)
    (case c_is_ascending => k_is)
    (case k_is_ascending => k_is)
    (case g_are_pieces => k_is)
    (case i_are_pieces => k_is)
    (case l_are_pieces => k_is)
    (case c_are_pieces => k_is)
    (case k_are_pieces => k_is)
    (case g_is_spot => k_is)
    (case i_is_spot => k_is)
    (case l_is_spot => k_is)
    (case c_is_spot => k_is)
    (case k_is_spot => k_is)
    (case g_are_spots => k_is)
    (case i_are_spots => k_is)
    (case l_are_spots => k_is)
    (case c_are_spots => k_is)
    (case k_are_spots => k_is)
    (case g_spots_of_parts => k_is)
    (case i_spots_of_parts => k_is)
    (case l_spots_of_parts => k_is)
    (case c_spots_of_parts => k_is)
    (case k_spots_of_parts => k_is)
    (case g_power => k_is)
    (case i_power => k_is)
    (case l_power => k_is)
    (case c_power => k_is)
    (case k_power => k_is)
    (case g_all_tuples => k_is)
    (case i_all_tuples => k_is)
    (case l_all_tuples => k_is)
    (case c_all_tuples => k_is)
    (case k_all_tuples => k_is)
    (case g_all_groups => k_is)
    (case i_all_groups => k_is)
    (case l_all_groups => k_is)
    (case c_all_groups => k_is)
    (case k_all_groups => k_is)
    (case f_InvalidNumber_init => k_is)
    (case i_InvalidNumber_init => k_is)
    (case l_InvalidNumber_init => k_is)
    (case c_InvalidNumber_init => k_is)
    (case k_InvalidNumber_init => k_is)
    (case f_LimitExceeded_init => k_is)
    (case i_LimitExceeded_init => k_is)
    (case l_LimitExceeded_init => k_is)
    (case c_LimitExceeded_init => k_is)
    (case k_LimitExceeded_init => k_is)
    (case f_Lost_init => k_is)
    (case i_Lost_init => k_is)
    (case l_Lost_init => k_is)
    (case c_Lost_init => k_is)
    (case k_Lost_init => k_is)
    (case g_is_prime => k_is)
    (case i_is_prime => k_is)
    (case l_is_prime => k_is)
    (case c_is_prime => k_is)
    (case k_is_prime => k_is)
    (case g_is_size => k_is)
    (case i_is_size => k_is)
    (case l_is_size => k_is)
    (case c_is_size => k_is)
    (case k_is_size => k_is)
    (case g_is_data => k_is)
    (case i_is_data => k_is)
    (case l_is_data => k_is)
    (case c_is_data => k_is)
    (case k_is_data => k_is)
    (case g_expect_prime_and_size => k_is)
    (case i_expect_prime_and_size => k_is)
    (case l_expect_prime_and_size => k_is)
    (case c_expect_prime_and_size => k_is)
    (case k_expect_prime_and_size => k_is)
    (case g_is_sum => k_is)
    (case i_is_sum => k_is)
    (case l_is_sum => k_is)
    (case c_is_sum => k_is)
    (case k_is_sum => k_is)
    (case f_Sum_init => k_is)
    (case i_Sum_init => k_is)
    (case l_Sum_init => k_is)
    (case c_Sum_init => k_is)
    (case k_Sum_init => k_is)
    (case sa_unit => k_is)
    (case sr_unit => k_is)
    (case sg_unit => k_is)
    (case sc_unit => k_is)
    (case i_Sum_unit => k_is)
    (case l_Sum_unit => k_is)
    (case c_Sum_unit => k_is)
    (case k_Sum_unit => k_is)
    (case pa_Sum_prime => k_is)
    (case pg_Sum_prime => k_is)
    (case pt_Sum_prime => k_is)
    (case pc_Sum_prime => k_is)
    (case i_Sum_prime => k_is)
    (case l_Sum_prime => k_is)
    (case c_Sum_prime => k_is)
    (case k_Sum_prime => k_is)
    (case pa_Sum_factors => k_is)
    (case pg_Sum_factors => k_is)
    (case pt_Sum_factors => k_is)
    (case pc_Sum_factors => k_is)
    (case i_Sum_factors => k_is)
    (case l_Sum_factors => k_is)
    (case c_Sum_factors => k_is)
    (case k_Sum_factors => k_is)
    (case pa_Sum_size => k_is)
    (case pg_Sum_size => k_is)
    (case pt_Sum_size => k_is)
    (case pc_Sum_size => k_is)
    (case i_Sum_size => k_is)
    (case l_Sum_size => k_is)
    (case c_Sum_size => k_is)
    (case k_Sum_size => k_is)
    (case f_Sum_call => k_is)
    (case i_Sum_call => k_is)
    (case l_Sum_call => k_is)
    (case c_Sum_call => k_is)
    (case k_Sum_call => k_is)
    (case g_minus => k_is)
    (case i_minus => k_is)
    (case l_minus => k_is)
    (case c_minus => k_is)
    (case k_minus => k_is)
    (case g_remainder => k_is)
    (case i_remainder => k_is)
    (case l_remainder => k_is)
    (case c_remainder => k_is)
    (case k_remainder => k_is)
    (case g_led_by_one => k_is)
    (case i_led_by_one => k_is)
    (case l_led_by_one => k_is)
    (case c_led_by_one => k_is)
    (case k_led_by_one => k_is)
    (case g_reduced_rows => k_is)
    (case i_reduced_rows => k_is)
    (case l_reduced_rows => k_is)
    (case c_reduced_rows => k_is)
    (case k_reduced_rows => k_is)
    (case g_zero_row => k_is)
    (case i_zero_row => k_is)
    (case l_zero_row => k_is)
    (case c_zero_row => k_is)
    (case k_zero_row => k_is)
    (case g_zero_rows => k_is)
    (case i_zero_rows => k_is)
    (case l_zero_rows => k_is)
    (case c_zero_rows => k_is)
    (case k_zero_rows => k_is)
    (case g_blind_for => k_is)
    (case i_blind_for => k_is)
    (case l_blind_for => k_is)
    (case c_blind_for => k_is)
    (case k_blind_for => k_is)
    (case f_Space_init => k_is)
    (case i_Space_init => k_is)
    (case l_Space_init => k_is)
    (case c_Space_init => k_is)
    (case k_Space_init => k_is)
    (case ld_Space_init => k_is)
    (case pa_Space_prime => k_is)
    (case pg_Space_prime => k_is)
    (case pt_Space_prime => k_is)
    (case pc_Space_prime => k_is)
    (case i_Space_prime => k_is)
    (case l_Space_prime => k_is)
    (case c_Space_prime => k_is)
    (case k_Space_prime => k_is)
    (case pa_Space_size => k_is)
    (case pg_Space_size => k_is)
    (case pt_Space_size => k_is)
    (case pc_Space_size => k_is)
    (case i_Space_size => k_is)
    (case l_Space_size => k_is)
    (case c_Space_size => k_is)
    (case k_Space_size => k_is)
    (case pa_Space_reduced_sums => k_is)
    (case pg_Space_reduced_sums => k_is)
    (case pt_Space_reduced_sums => k_is)
    (case pc_Space_reduced_sums => k_is)
    (case i_Space_reduced_sums => k_is)
    (case l_Space_reduced_sums => k_is)
    (case c_Space_reduced_sums => k_is)
    (case k_Space_reduced_sums => k_is)
    (case pa_Space_is_whole => k_is)
    (case pg_Space_is_whole => k_is)
    (case pt_Space_is_whole => k_is)
    (case pc_Space_is_whole => k_is)
    (case i_Space_is_whole => k_is)
    (case l_Space_is_whole => k_is)
    (case c_Space_is_whole => k_is)
    (case k_Space_is_whole => k_is)
    (case g_are_wishes => k_is)
    (case i_are_wishes => k_is)
    (case l_are_wishes => k_is)
    (case c_are_wishes => k_is)
    (case k_are_wishes => k_is)
    (case g_least_losses => k_is)
    (case i_least_losses => k_is)
    (case l_least_losses => k_is)
    (case c_least_losses => k_is)
    (case k_least_losses => k_is)
    (case g_fatal => k_is)
    (case i_fatal => k_is)
    (case l_fatal => k_is)
    (case c_fatal => k_is)
    (case k_fatal => k_is)
    (case g_units_of => k_is)
    (case i_units_of => k_is)
    (case l_units_of => k_is)
    (case c_units_of => k_is)
    (case k_units_of => k_is)
    (case f_Placing_init => k_is)
    (case i_Placing_init => k_is)
    (case l_Placing_init => k_is)
    (case c_Placing_init => k_is)
    (case k_Placing_init => k_is)
    (case g_machines_of => k_is)
    (case i_machines_of => k_is)
    (case l_machines_of => k_is)
    (case c_machines_of => k_is)
    (case k_machines_of => k_is)
    (case g_weakest => k_is)
    (case i_weakest => k_is)
    (case l_weakest => k_is)
    (case c_weakest => k_is)
    (case k_weakest => k_is)
    (case g_expect_counts => k_is)
    (case i_expect_counts => k_is)
    (case l_expect_counts => k_is)
    (case c_expect_counts => k_is)
    (case k_expect_counts => k_is)
    (case g_expect_room => k_is)
    (case i_expect_room => k_is)
    (case l_expect_room => k_is)
    (case c_expect_room => k_is)
    (case k_expect_room => k_is)
    (case g_roomy_placings => k_is)
    (case i_roomy_placings => k_is)
    (case l_roomy_placings => k_is)
    (case c_roomy_placings => k_is)
    (case k_roomy_placings => k_is)
    (case g_best_placing => k_is)
    (case i_best_placing => k_is)
    (case l_best_placing => k_is)
    (case c_best_placing => k_is)
    (case k_best_placing => k_is)
    (case g_expect_pieces => k_is)
    (case i_expect_pieces => k_is)
    (case l_expect_pieces => k_is)
    (case c_expect_pieces => k_is)
    (case k_expect_pieces => k_is)
    (case f_Table_init => k_is)
    (case i_Table_init => k_is)
    (case l_Table_init => k_is)
    (case c_Table_init => k_is)
    (case k_Table_init => k_is)
    (case pa_Table_prime => k_is)
    (case pg_Table_prime => k_is)
    (case pt_Table_prime => k_is)
    (case pc_Table_prime => k_is)
    (case i_Table_prime => k_is)
    (case l_Table_prime => k_is)
    (case c_Table_prime => k_is)
    (case k_Table_prime => k_is)
    (case pa_Table_size => k_is)
    (case pg_Table_size => k_is)
    (case pt_Table_size => k_is)
    (case pc_Table_size => k_is)
    (case i_Table_size => k_is)
    (case l_Table_size => k_is)
    (case c_Table_size => k_is)
    (case k_Table_size => k_is)
    (case pa_Table_pieces => k_is)
    (case pg_Table_pieces => k_is)
    (case pt_Table_pieces => k_is)
    (case pc_Table_pieces => k_is)
    (case i_Table_pieces => k_is)
    (case l_Table_pieces => k_is)
    (case c_Table_pieces => k_is)
    (case k_Table_pieces => k_is)
    (case pa_Table_is_whole => k_is)
    (case pg_Table_is_whole => k_is)
    (case pt_Table_is_whole => k_is)
    (case pc_Table_is_whole => k_is)
    (case i_Table_is_whole => k_is)
    (case l_Table_is_whole => k_is)
    (case c_Table_is_whole => k_is)
    (case k_Table_is_whole => k_is)
    (case f_Table_len => k_is)
    (case i_Table_len => k_is)
    (case l_Table_len => k_is)
    (case c_Table_len => k_is)
    (case k_Table_len => k_is)
    (case f_Table_space => k_is)
    (case i_Table_space => k_is)
    (case l_Table_space => k_is)
    (case c_Table_space => k_is)
    (case k_Table_space => k_is)
    (case ld_Table_space => k_is)
    (case f_Table_spots_of => k_is)
    (case i_Table_spots_of => k_is)
    (case l_Table_spots_of => k_is)
    (case c_Table_spots_of => k_is)
    (case k_Table_spots_of => k_is)
    (case g_is_barred => k_is)
    (case i_is_barred => k_is)
    (case l_is_barred => k_is)
    (case c_is_barred => k_is)
    (case k_is_barred => k_is)
    (case g_law_source => k_is)
    (case i_law_source => k_is)
    (case l_law_source => k_is)
    (case c_law_source => k_is)
    (case k_law_source => k_is)
    (case g_law_draw => k_is)
    (case i_law_draw => k_is)
    (case l_law_draw => k_is)
    (case c_law_draw => k_is)
    (case k_law_draw => k_is)
    (case g_law_said => k_is)
    (case i_law_said => k_is)
    (case l_law_said => k_is)
    (case c_law_said => k_is)
    (case k_law_said => k_is)
    (case g_law_doors => k_is)
    (case i_law_doors => k_is)
    (case l_law_doors => k_is)
    (case c_law_doors => k_is)
    (case k_law_doors => k_is)
    (case g_law => k_is)
    (case i_law => k_is)
    (case l_law => k_is)
    (case c_law => k_is)
    (case k_law => k_is)
    (case n_isinstance => k_is)
    (case n_repr => k_is)
    (case n_str => k_is)
    (case n_int => k_is)
    (case n_bool => k_is)
    (case n_list => k_is)
    (case n_tuple => k_is)
    (case n_len => k_is)
    (case n_all => k_is)
    (case n_any => k_is)
    (case n_sum => k_is)
    (case n_zip => k_is)
    (case n_max => k_is)
    (case n_min => k_is)
    (case n_range => k_is)
    (case n_sorted => k_is)
    (case n_enumerate => k_is)
    (case n_reversed => k_is)
    (case n_iter => k_is)
    (case n_set => k_is)
    (case pgSum => k_is)
    (case hdSum => k_is)
    (case poSum => k_is)
    (case saSum => k_is)
    (case mkSum => k_is)
    (case kpSum => k_is)
    (case clSum => k_is)
    (case gtSum => k_is)
    (case tkSum => k_is)
    (case moSum => k_is)
    (case na_Sum_prime => k_is)
    (case na_Sum_factors => k_is)
    (case pgSpace => k_is)
    (case hdSpace => k_is)
    (case poSpace => k_is)
    (case saSpace => k_is)
    (case mkSpace => k_is)
    (case kpSpace => k_is)
    (case clSpace => k_is)
    (case gtSpace => k_is)
    (case tkSpace => k_is)
    (case moSpace => k_is)
    (case na_Space_prime => k_is)
    (case na_Space_size => k_is)
    (case na_Space_rows => k_is)
    (case na_Space_reduced => k_is)
    (case pgTable => k_is)
    (case hdTable => k_is)
    (case poTable => k_is)
    (case saTable => k_is)
    (case mkTable => k_is)
    (case kpTable => k_is)
    (case clTable => k_is)
    (case gtTable => k_is)
    (case tkTable => k_is)
    (case moTable => k_is)
    (case na_Table_prime => k_is)
    (case na_Table_size => k_is)
    (case na_Table_pieces => k_is)
    (case na_Table_spots => k_is)
    (case na_Table_sums => k_is)
    (case na_Table_whole => k_is)
    (case pgPlacing => k_is)
    (case hdPlacing => k_is)
    (case poPlacing => k_is)
    (case saPlacing => k_is)
    (case mkPlacing => k_is)
    (case kpPlacing => k_is)
    (case clPlacing => k_is)
    (case gtPlacing => k_is)
    (case tkPlacing => k_is)
    (case moPlacing => k_is)
    (case na_Placing_machines => k_is)
    (case na_Placing_where => k_is)
    (case gc_MOST_WISHES => k_is)
    (case gc_MOST_PIECES => k_is)
    (case gc_MOST_PARTS => k_is)
    (case gc_MOST_PARTS_IN_ALL => k_is)
    (case gc_MOST_MACHINES => k_is)
    (case gc_MOST_PLACINGS => k_is)
    (case lx_InvalidNumber => k_is)
    (case lr_InvalidNumber => first | exact .tl | exact .ref _ .tl | exact .ref _ (.ref _ .tl))
    (case sa_InvalidNumber => k_is)
    (case ty_InvalidNumber => k_is)
    (case kp_InvalidNumber => k_is)
    (case t_InvalidNumber => k_is)
    (case h_InvalidNumber => k_is)
    (case lx_LimitExceeded => k_is)
    (case lr_LimitExceeded => first | exact .tl | exact .ref _ .tl | exact .ref _ (.ref _ .tl))
    (case sa_LimitExceeded => k_is)
    (case ty_LimitExceeded => k_is)
    (case kp_LimitExceeded => k_is)
    (case t_LimitExceeded => k_is)
    (case h_LimitExceeded => k_is)
    (case lx_Lost => k_is)
    (case lr_Lost => first | exact .tl | exact .ref _ .tl | exact .ref _ (.ref _ .tl))
    (case sa_Lost => k_is)
    (case ty_Lost => k_is)
    (case kp_Lost => k_is)
    (case t_Lost => k_is)
    (case h_Lost => k_is)
    (case hg_InvalidNumber => k_is)
    (case hk_InvalidNumber => k_is)
    (case hs_InvalidNumber => k_is)
    (case hd_InvalidNumber => k_is)
    (case z_InvalidNumber => k_is)
    (case e_InvalidNumber_InvalidNumber => kts_exm)
    (case e_InvalidNumber_LimitExceeded => kts_exm)
    (case e_InvalidNumber_Lost => kts_exm)
    (case hg_LimitExceeded => k_is)
    (case hk_LimitExceeded => k_is)
    (case hs_LimitExceeded => k_is)
    (case hd_LimitExceeded => k_is)
    (case z_LimitExceeded => k_is)
    (case e_LimitExceeded_InvalidNumber => kts_exm)
    (case e_LimitExceeded_LimitExceeded => kts_exm)
    (case e_LimitExceeded_Lost => kts_exm)
    (case hg_Lost => k_is)
    (case hk_Lost => k_is)
    (case hs_Lost => k_is)
    (case hd_Lost => k_is)
    (case z_Lost => k_is)
    (case e_Lost_InvalidNumber => kts_exm)
    (case e_Lost_LimitExceeded => kts_exm)
    (case e_Lost_Lost => kts_exm)
    (case nsC => k_is)
    (case ksC => kit_is)
    (case gG => k_is)
    (case lG => k_is)
    (case eG => exact ⟨by decide +kernel, by decide +kernel, by decide +kernel, by decide +kernel⟩)
    (case oG => decide +kernel)
    (case fiC => k_is)
    (case ksP => kit_is)
    (case ktNoneType => kit_is)
    (case ktint => kit_is)
    (case ktstr => kit_is)
    (case kttuple => kit_is)
    (case ktlist => kit_is)
    (case hcl1 => rfl)
    (case lkc1 => k_is)
    (case v111 => rfl)
    (case vck1 => rfl)
    (case lkP1 => rfl)
    (case rcP1 => rfl)
    (case hcl2 => rfl)
    (case lkc2 => k_is)
    (case v112 => rfl)
    (case vck2 => rfl)
    (case lkP2 => rfl)
    (case rcP2 => rfl)
    (case nP12 => decide)
