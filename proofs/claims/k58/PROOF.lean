import PyProof.Rows.All
import Wide.All
import OpenK.AllK
import Wide.FinOn
import PyProof.EqAt
import PyProof.EqKinds
import PyProof.TupleCall
import HandS.ForMost
import HandS.Property
import HandS.Star
import HandS.IsInst
import HandS.Zip
import HandS.ExcInit
import HandS.ExcValue
import HandS.Lambda
import HandS.SlotsOwn
import HandS.ClsMeth
import KE.GoesMore
import HandS.TupAny
import HandS.TupMul
import KE.KDictZip
import HandS.Style
import HandS.ExcField
import HandS.ExcIs
import KE.KExcInit
import KE.KExcIs
import HandS.MakeKw
import HandS.MakeKwOnly
import HandS.Ends
import HandS.Iter
import HandS.Wide
import HandS.RaiseMore
import HandS.TryMany
import HandS.WordsExc
import HandS.EndTab
import OpenK.KMeth
import OpenK.KOps
import PyProof.P3In
import HandS.Deep
import HandS.GenBody
import HandS.GenYield
import HandS.GenCall
import HandS.GenList
import PyProof.StrOps2
import HandS.SetFor
import HandS.Strs
import HandS.SortKw
import HandS.Rev
import HandS.DictComp
import KE.DatumIndex
import KE.SortData
import HandS.TupSets
import KE.DatumOrd
import HandS.Conv
import HandS.IterVal
import HandS.OwnIter
import KE.KStar
import HandS.DictTup
import KE.GoesEnum
import KE.SortKeyHeap
import PyProof.Rows.Tup
import PyProof.TupleOfGen
import HandS.List
import HandS.Defaults
import KE.SortLaws
import KE.KRevSl
import KE.DataMinMax
import PyProof.SetRoads
import HandS.OwnEq
import HandS.SetKeys
import HandS.Flow
import HandS.Small
import HandS.More
import KE.DataCmp
import PySem.Challenge.RW_leastreads_k58_nets_refused
import KE.RegKIsAll
import KE.RegKTryMore
import KE.OsRunLaw
import HandS.Head2
set_option Elab.async false
set_option linter.all false
set_option maxRecDepth 100000
set_option maxHeartbeats 4000000
section
open PySem PySem.W PyProof.Rows
local macro_rules | `(tactic| o_headL $H:term) => `(tactic| (have _hk := $H; assumption))
theorem Hk58.frag (h : (OpenLaw.row PySem.Challenge.rw_leastreads_k58_nets_refused).Holds) : (OpenLaw.row PySem.Challenge.rw_leastreads_k58_nets_refused).Holds := by
  k_headL
end
namespace Hk58
open PySem PySem.W PyProof.Rows
abbrev R : OpenRow := OpenLaw.row PySem.Challenge.rw_leastreads_k58_nets_refused
def qv : Program := view R.prog [36]
def lo0 : List PySem.Str := [⟨⟨[95, 119, 97, 108, 108]⟩⟩, ⟨⟨[77, 79, 83, 84, 95, 80, 73, 69, 67, 69, 83]⟩⟩, ⟨⟨[77, 79, 83, 84, 95, 80, 65, 82, 84, 83]⟩⟩, ⟨⟨[105, 115, 95, 105, 110, 116, 101, 103, 101, 114]⟩⟩, ⟨⟨[105, 115, 95, 98, 101, 116, 119, 101, 101, 110]⟩⟩, ⟨⟨[104, 97, 115, 95, 105, 116, 101, 109, 115]⟩⟩, ⟨⟨[97, 108, 108, 95, 98, 101, 116, 119, 101, 101, 110]⟩⟩, ⟨⟨[105, 115, 95, 97, 115, 99, 101, 110, 100, 105, 110, 103]⟩⟩, ⟨⟨[105, 115, 95, 115, 112, 111, 116]⟩⟩, ⟨⟨[97, 114, 101, 95, 115, 112, 111, 116, 115]⟩⟩, ⟨⟨[115, 112, 111, 116, 115, 95, 111, 102, 95, 112, 97, 114, 116, 115]⟩⟩, ⟨⟨[97, 108, 108, 95, 103, 114, 111, 117, 112, 115]⟩⟩, ⟨⟨[76, 101, 97, 115, 116, 69, 114, 114, 111, 114]⟩⟩, ⟨⟨[73, 110, 118, 97, 108, 105, 100, 83, 112, 111, 116, 115]⟩⟩, ⟨⟨[73, 110, 118, 97, 108, 105, 100, 67, 111, 115, 116]⟩⟩, ⟨⟨[71, 82, 69, 65, 84, 69, 83, 84, 95, 80, 82, 73, 67, 69]⟩⟩, ⟨⟨[97, 114, 101, 95, 112, 114, 105, 99, 101, 115]⟩⟩, ⟨⟨[80, 114, 105, 99, 101, 115]⟩⟩, ⟨⟨[71, 82, 69, 65, 84, 69, 83, 84, 95, 82, 65, 67, 75]⟩⟩, ⟨⟨[77, 79, 83, 84, 95, 76, 73, 78, 75, 83]⟩⟩, ⟨⟨[105, 115, 95, 114, 97, 99, 107]⟩⟩, ⟨⟨[105, 115, 95, 108, 105, 110, 107]⟩⟩, ⟨⟨[97, 114, 101, 95, 108, 105, 110, 107, 115]⟩⟩, ⟨⟨[114, 101, 97, 99, 104, 101, 100]⟩⟩, ⟨⟨[108, 101, 97, 115, 116, 95, 116, 114, 101, 101, 115]⟩⟩, ⟨⟨[78, 101, 116]⟩⟩, ⟨⟨[95, 108, 97, 119, 95, 115, 111, 117, 114, 99, 101]⟩⟩, ⟨⟨[95, 108, 97, 119, 95, 100, 114, 97, 119]⟩⟩, ⟨⟨[95, 108, 97, 119, 95, 112, 105, 99, 107]⟩⟩, ⟨⟨[95, 108, 97, 119, 95, 115, 97, 105, 100]⟩⟩, ⟨⟨[95, 108, 97, 119, 95, 111, 100, 100]⟩⟩]
def lo : List PySem.Str := lo0
def as0 : List Addr := [2, 3, 15, 17, 18, 20, 21, 22, 24, 25, 27, 28, 29, 31, 32, 34, 35, 36, 38, 39, 41, 42, 43, 46, 47, 48, 51, 52, 53, 55, 56, 58, 59, 60, 63, 64, 65, 68, 69, 70]
def as1 : List Addr := [73, 74, 75, 82, 83, 84, 85, 88, 95, 97, 98, 100, 101, 102, 103, 104, 107, 114, 116, 117, 119, 120, 121, 122, 123, 126, 128, 129, 131, 132, 140, 143, 144, 145, 147, 148, 150, 151, 152, 153]
def as2 : List Addr := [155, 156, 158, 159, 160, 161, 163, 164, 166, 167, 168, 169, 171, 172, 174, 175, 176, 179, 180, 181, 184, 185, 186, 188, 189, 191, 192, 193, 195, 196, 198, 199, 200, 201, 202, 203, 204, 207, 209, 210]
def as3 : List Addr := [212, 213, 214, 216, 217, 219, 220, 221, 224, 225, 226, 228, 229, 231, 232, 233, 236, 237, 245, 247, 248, 250, 251, 252, 254, 255, 257, 258, 259, 260, 262, 263, 265, 266, 267, 268, 270, 271, 273, 274]
def as4 : List Addr := [275, 276, 278, 279, 281, 282, 283, 284, 286, 287, 289, 290, 291, 293, 294, 296, 297, 298, 300, 301, 303, 304, 305, 308, 309, 310, 312, 313, 315, 316, 317, 318, 319, 320, 321, 324, 326, 327, 329, 330]
def as5 : List Addr := [331, 333, 334, 336, 337, 338, 340, 341, 343, 344, 345, 347, 348, 350, 351, 352, 355, 356, 357, 360, 361]
def asL : List Addr := as0 ++ as1 ++ as2 ++ as3 ++ as4 ++ as5
theorem ek (P : Params) : asL = (Hk58.frag.heap_1 P).map (·.1) := by kernel_rfl
def Runs (w : World) : Prop := ∀ os : OsState, (HeadRun.endF (HeadRun.stepQ (HeadRun.denQ HeadRun.tabQ) R.prog w) 5740 R.prog w os).map (fun s => (HeadRun.looksF R.prog (boot_heap w.params) s.abs, HeadRun.seenQ qv lo (importedModules R.prog.main.body) (fun s => xlAt qv [] s && recOk (RowW.records (OpenRow.toRowW R)) s) s.abs, asL.map (HeadRun.getT s))) = some (true, openGood qv lo, (Hk58.frag.heap_1 w.params).map fun x => some x.2)
set_option maxRecDepth 100000
theorem run (w : World) : Runs w := by
  intro os
  kernel_rfl
theorem left : LeftO R.prog qv lo (fun s => xlAt qv [] s && recOk (RowW.records (OpenRow.toRowW R)) s) (Hook.obs (kHook Hk58.frag.heap_1 asL ek)) (Hook.val (kHook Hk58.frag.heap_1 asL ek)) 6440 true :=
  HeadRun.left_oneK (M := 5740) (by kernel_rfl) (by rfl) (fun s => by kernel_rfl) (by rfl) run
end Hk58
set_option Elab.async false
set_option linter.all false
set_option maxRecDepth 100000
namespace Pd
open PySem PySem.Spec PyProof.Rows L2
/-- data; mut k is the k-th changeable object; ob a an object of the text (a class, a def) -/
inductive D where
  | non | bl (b : Bool) | int (i : Int) | str (x : Str) | lst (ds : List D) | tup (ds : List D) | ins (C : Addr) (fs : List (Str × D)) | mu (k : Nat) | ob (a : Addr)
  | ty (n : String) | exc (C : Addr) (fs : List (Str × D)) | dic (ks : List Key) (ds : List D) | dit (ks : List (List Key)) (ds : List D) | tfz (ns : List Int) | tnw (ns : List Int) | dx (ks : List (List Int)) (ds : List D)
/-- the dict at a, its entries as they are -/
def dxO (a : Addr) (es : Array DictEntry) : HO := .ext fun h => ∃ o ep, h.get? a = some o ∧ o.ExactDict ∧ o.data = .dict es ep
def hshI (ns : List Int) : Int := reduceHash (Builtin.Tuple.tupleHashOf (ns.map hashInt))
def entI (x : List Int × Addr × Value) : DictEntry := ⟨hshI x.1, .ref x.2.1, x.2.2⟩
/-- entries with these tuples of ints as keys -/
structure DxOk (K : PySem.W.Frag) (H : Hp) (a : Addr) (es : Array DictEntry) (xs : List (List Int × Addr × Value)) : Prop where
  ent : es.toList = xs.map entI
  nd : (xs.map (·.1)).Nodup
  sy : (a == sysModules) = false
  sz : xs.length ≤ sizeLine
  key : ∀ x ∈ xs, SqT K H x.2.1 (x.1.map V.int)
/-- what a changeable object holds -/
inductive MO where
  | lst (ds : List D) | ins (C : Addr) (fs : List (Str × D)) | tab (P : Addr) (q : Str) | dic (ks : List Key) (ds : List D) | dit (ks : List (List Key)) (ds : List D)
abbrev Ms := List MO
abbrev Rho := List (Option D)
section
variable (K : PySem.W.Frag) (as : List Addr) (H : Hp)
mutual
inductive Rp : V → D → Prop
  | non : Rp .non .non
  | bl (b : Bool) : Rp (.bl b) (.bl b)
  | int (i : Int) : Rp (.int i) (.int i)
  | str (x : Str) : Rp (.str x) (.str x)
  | lst {a : Addr} {xs : List V} {ds : List D} : SqL K H a xs → RpA xs ds → Rp (.ref a) (.lst ds)
  | tup {a : Addr} {xs : List V} {ds : List D} : SqT K H a xs → RpA xs ds → Rp (.ref a) (.tup ds)
  | ins {a C dx : Addr} {fs : List (Str × V)} {gs : List (Str × D)} : H a = some (.ins C dx fs) → RpF fs gs → Rp (.ref a) (.ins C gs)
  | mu {a : Addr} {k : Nat} : as[k]? = some a → Rp (.ref a) (.mu k)
  | ob (a : Addr) : Rp (.ref a) (.ob a)
  | ty (n : String) : Rp (.ty n) (.ty n)
  | exc {a C dx : Addr} {fs : List (Str × V)} {gs : List (Str × D)} : H a = some (exo a C (some dx)) → H dx = some (exd dx fs) → RpF fs gs → Rp (.ref a) (.exc C gs)
  | exc0 {a C : Addr} : H a = some (ExO (.ref C) a) → Rp (.ref a) (.exc C [])
  | dic {a : Addr} {ks : List Key} {vs : List V} {ds : List D} : (∃ o, H a = some (.frz o (.dK (ks.zip vs)))) → ks.length = vs.length → RpA vs ds → Rp (.ref a) (.dic ks ds)
  | dit {a : Addr} {ks : List (List Key)} {vs : List V} {ds : List D} : (∃ o, H a = some (.frz o (.dT (ks.zip vs)))) → ks.length = vs.length → RpA vs ds → Rp (.ref a) (.dit ks ds)
  | tfz {a : Addr} {ns : List Int} : (∃ o, H a = some (.frz o (.tup (ns.map V.int))) ∧ o.cls = .type "tuple" ∧ o.dict = none) → Rp (.ref a) (.tfz ns)
  | tnw {a : Addr} {ns : List Int} : H a = some (.tup (ns.map V.int)) → Rp (.ref a) (.tnw ns)
  | dx {a : Addr} {es : Array DictEntry} {xs : List (List Int × Addr × Value)} {ks : List (List Int)} {vs : List V} {ds : List D} : H a = some (dxO a es) → DxOk K H a es xs → ks = xs.map (·.1) → Vals vs (xs.map (·.2.2)) → RpA vs ds → Rp (.ref a) (.dx ks ds)
inductive RpA : List V → List D → Prop
  | nil : RpA [] []
  | cons {v : V} {vs : List V} {d : D} {ds : List D} : Rp v d → RpA vs ds → RpA (v :: vs) (d :: ds)
inductive RpF : List (Str × V) → List (Str × D) → Prop
  | nil : RpF [] []
  | cons {f : Str} {v : V} {fs : List (Str × V)} {d : D} {gs : List (Str × D)} : Rp v d → RpF fs gs → RpF ((f, v) :: fs) ((f, d) :: gs)
end
end
/-- all that is known stays -/
def Ex (H H' : Hp) : Prop := ∀ a o, H a = some o → H' a = some o
theorem Ex.refl (H : Hp) : Ex H H := fun _ _ h => h
theorem Ex.trans {H H1 H2 : Hp} (a : Ex H H1) (b : Ex H1 H2) : Ex H H2 := fun x o h => b x o (a x o h)
theorem Ex.new {H : Hp} {p : Addr} {o : HO} (h : H p = none) : Ex H (upd H p o) := fun a u e => by
  rw [upd_ne (ne_of_none e h)]
  exact e
theorem ex_rd {H H' : Hp} {a : Addr} {u : HO} (e : Ex H H') (h : Rd H a u) : Rd H' a u := by
  rcases h with h | ⟨o, h⟩
  · exact Or.inl (e a _ h)
  · exact Or.inr ⟨o, e a _ h⟩
theorem ex_l {K : PySem.W.Frag} {H H' : Hp} {a : Addr} {xs : List V} (e : Ex H H') (h : SqL K H a xs) : SqL K H' a xs := by
  rcases h with h | h
  · exact Or.inl (ex_rd e h)
  · exact Or.inr h
theorem ex_t {K : PySem.W.Frag} {H H' : Hp} {a : Addr} {xs : List V} (e : Ex H H') (h : SqT K H a xs) : SqT K H' a xs := by
  rcases h with h | h
  · exact Or.inl (ex_rd e h)
  · exact Or.inr h
theorem DxOk.mono {K : PySem.W.Frag} {H H' : Hp} {a : Addr} {es : Array DictEntry} {xs : List (List Int × Addr × Value)} (h : DxOk K H a es xs) (e : Ex H H') : DxOk K H' a es xs :=
  ⟨h.ent, h.nd, h.sy, h.sz, fun x hx => ex_t e (h.key x hx)⟩
section
variable {K : PySem.W.Frag} {as bs : List Addr} {H H' : Hp}
/-- more changeable objects stand behind -/
def Pre (as bs : List Addr) : Prop := ∀ (k : Nat) (a : Addr), as[k]? = some a → bs[k]? = some a
theorem Pre.refl (as : List Addr) : Pre as as := fun _ _ h => h
theorem Pre.trans {as bs cs : List Addr} (a : Pre as bs) (b : Pre bs cs) : Pre as cs := fun k x h => b k x (a k x h)
mutual
theorem Rp.mono (e : Ex H H') (p : Pre as bs) : ∀ {v : V} {d : D}, Rp K as H v d → Rp K bs H' v d
  | _, _, .non => .non
  | _, _, .bl b => .bl b
  | _, _, .int i => .int i
  | _, _, .str x => .str x
  | _, _, .lst h r => .lst (ex_l e h) (RpA.mono e p r)
  | _, _, .tup h r => .tup (ex_t e h) (RpA.mono e p r)
  | _, _, .ins h r => .ins (e _ _ h) (RpF.mono e p r)
  | _, _, .mu h => .mu (p _ _ h)
  | _, _, .ob a => .ob a
  | _, _, .ty n => .ty n
  | _, _, .exc h1 h2 r => .exc (e _ _ h1) (e _ _ h2) (RpF.mono e p r)
  | _, _, .exc0 h => .exc0 (e _ _ h)
  | _, _, .dic h l r => .dic (let ⟨o, q⟩ := h; ⟨o, e _ _ q⟩) l (RpA.mono e p r)
  | _, _, .dit h l r => .dit (let ⟨o, q⟩ := h; ⟨o, e _ _ q⟩) l (RpA.mono e p r)
  | _, _, .tfz h => .tfz (let ⟨o, q, n⟩ := h; ⟨o, e _ _ q, n⟩)
  | _, _, .tnw h => .tnw (e _ _ h)
  | _, _, .dx h o k v r => .dx (e _ _ h) (o.mono e) k v (RpA.mono e p r)
theorem RpA.mono (e : Ex H H') (p : Pre as bs) : ∀ {vs : List V} {ds : List D}, RpA K as H vs ds → RpA K bs H' vs ds
  | _, _, .nil => .nil
  | _, _, .cons r t => .cons (Rp.mono e p r) (RpA.mono e p t)
theorem RpF.mono (e : Ex H H') (p : Pre as bs) : ∀ {fs : List (Str × V)} {gs : List (Str × D)}, RpF K as H fs gs → RpF K bs H' fs gs
  | _, _, .nil => .nil
  | _, _, .cons r t => .cons (Rp.mono e p r) (RpF.mono e p t)
end
theorem RpA.length : ∀ {vs : List V} {ds : List D}, RpA K as H vs ds → vs.length = ds.length
  | _, _, .nil => rfl
  | _, _, .cons _ t => congrArg (· + 1) t.length
theorem RpA.get : ∀ {vs : List V} {ds : List D} {i : Nat} {d : D}, RpA K as H vs ds → ds[i]? = some d → ∃ v, vs[i]? = some v ∧ Rp K as H v d
  | _, _, _, _, .nil, e => by simp at e
  | _, _, 0, _, .cons r _, e => by simp at e; subst e; exact ⟨_, rfl, r⟩
  | _, _, i + 1, d, .cons _ t, e => by
    obtain ⟨v, h1, h2⟩ := RpA.get (i := i) (d := d) t (by simpa using e)
    exact ⟨v, by simpa using h1, h2⟩
theorem RpA.getV : ∀ {vs : List V} {ds : List D} {i : Nat} {v : V}, RpA K as H vs ds → vs[i]? = some v → ∃ d, ds[i]? = some d ∧ Rp K as H v d
  | _, _, _, _, .nil, e => by simp at e
  | _, _, 0, _, .cons r _, e => by simp at e; subst e; exact ⟨_, rfl, r⟩
  | _, _, i + 1, d, .cons _ t, e => by
    obtain ⟨v, h1, h2⟩ := RpA.getV (i := i) (v := d) t (by simpa using e)
    exact ⟨v, by simpa using h1, h2⟩
theorem RpA.append : ∀ {vs ws : List V} {ds es : List D}, RpA K as H vs ds → RpA K as H ws es → RpA K as H (vs ++ ws) (ds ++ es)
  | _, _, _, _, .nil, s => s
  | _, _, _, _, .cons r t, s => .cons r (RpA.append t s)
theorem RpA.one {v : V} {d : D} (r : Rp K as H v d) : RpA K as H [v] [d] := .cons r .nil
theorem RpF.look : ∀ {fs : List (Str × V)} {gs : List (Str × D)} {f : Str} {d : D}, RpF K as H fs gs → gs.lookup f = some d → ∃ v, fs.lookup f = some v ∧ Rp K as H v d
  | _, _, _, _, .nil, e => by simp at e
  | (g, v) :: fs, _, f, d, .cons (gs := gs) (d := dd) r t, e => by
    rw [List.lookup_cons] at e ⊢
    cases q : f == g with
    | true => rw [q] at e; cases e; exact ⟨_, rfl, r⟩
    | false => rw [q] at e; exact RpF.look t e
theorem RpF.lookN : ∀ {fs : List (Str × V)} {gs : List (Str × D)} {f : Str}, RpF K as H fs gs → gs.lookup f = none → fs.lookup f = none
  | _, _, _, .nil, e => rfl
  | (g, v) :: fs, _, f, .cons (gs := gs) (d := dd) r t, e => by
    rw [List.lookup_cons] at e ⊢
    cases q : f == g with
    | true => rw [q] at e; cases e
    | false => rw [q] at e; exact RpF.lookN t e
theorem RpF.length : ∀ {fs : List (Str × V)} {gs : List (Str × D)}, RpF K as H fs gs → fs.length = gs.length
  | _, _, .nil => rfl
  | _, _, .cons _ t => congrArg (· + 1) t.length
end
/-- the object at o holds m -/
inductive Ro (K : PySem.W.Frag) (as : List Addr) (H : Hp) : HO → MO → Prop
  | lst {xs : List V} {ds : List D} : RpA K as H xs ds → Ro K as H (.lst xs) (.lst ds)
  | ins {C dx : Addr} {fs : List (Str × V)} {gs : List (Str × D)} : RpF K as H fs gs → Ro K as H (.ins C dx fs) (.ins C gs)
  | tab {ps : Array Value} {P : Addr} {q : Str} : Ro K as H (.tbl ps) (.tab P q)
  | dic {ks : List Key} {vs : List V} {ds : List D} : ks.length = vs.length → RpA K as H vs ds → Ro K as H (.dK (ks.zip vs)) (.dic ks ds)
  | dit {ks : List (List Key)} {vs : List V} {ds : List D} : ks.length = vs.length → RpA K as H vs ds → Ro K as H (.dT (ks.zip vs)) (.dit ks ds)
theorem Ro.mono {K : PySem.W.Frag} {as bs : List Addr} {H H' : Hp} {o : HO} {m : MO} (e : Ex H H') (p : Pre as bs) (r : Ro K as H o m) : Ro K bs H' o m := by
  cases r with
  | lst r => exact .lst (r.mono e p)
  | ins r => exact .ins (r.mono e p)
  | tab => exact .tab
  | dic l r => exact .dic l (r.mono e p)
  | dit l r => exact .dit l (r.mono e p)
/-- the table of code objects at a: what it tells bears the name q -/
def TabOk (H : Hp) (a : Addr) : HO → MO → Prop
  | .tbl ps, .tab P q => a = P ∧ TriplesOk ps.toList ∧ ∀ (pos : Pos) (cv : Value), codeAmong pos ps.toList = some cv → ∃ c, cv = .ref c ∧ H c = some (LamX.CodeO c q)
  | _, _ => True
/-- code objects stay -/
def KeepC (H H' : Hp) : Prop := ∀ c q, H c = some (LamX.CodeO c q) → H' c = some (LamX.CodeO c q)
theorem KeepC.refl (H : Hp) : KeepC H H := fun _ _ h => h
theorem KeepC.trans {H H1 H2 : Hp} (a : KeepC H H1) (b : KeepC H1 H2) : KeepC H H2 := fun c q h => b c q (a c q h)
theorem KeepC.of {H H' : Hp} (e : ∀ a o, H a = some o → H' a = some o) : KeepC H H' := fun c q h => e c _ h
theorem KeepC.new {H : Hp} {p : Addr} {o : HO} (h : H p = none) : KeepC H (upd H p o) := fun c q e => by
  rw [upd_ne (ne_of_none e h)]; exact e
def isExt : HO → Bool | .ext _ => true | _ => false
theorem KeepC.over {H : Hp} {p : Addr} {o u : HO} (h : H p = some u) (n : isExt u = false) : KeepC H (upd H p o) := fun c q e => by
  refine (upd_ne fun z => ?_).trans e
  rw [z, h] at e
  cases e
  cases n
theorem TabOk.keep {H H' : Hp} {a : Addr} {o : HO} {m : MO} (k : KeepC H H') (h : TabOk H a o m) : TabOk H' a o m := by
  cases o with
  | tbl ps =>
    cases m with
    | tab P q =>
      obtain ⟨h1, h2, h3⟩ := h
      refine ⟨h1, h2, fun pos cv hc => ?_⟩
      obtain ⟨c, h4, h5⟩ := h3 pos cv hc
      exact ⟨c, h4, k _ _ h5⟩
    | _ => trivial
  | _ => trivial
theorem Ro.noExt {K : PySem.W.Frag} {as : List Addr} {H : Hp} {o : HO} {m : MO} (r : Ro K as H o m) : isExt o = false := by cases r <;> rfl
def NoTab (L : Hp) : Prop := ∀ a ps, L a ≠ some (.tbl ps)
theorem NoTab.new {L : Hp} {p : Addr} {o : HO} (n : NoTab L) (h : ∀ ps, o ≠ .tbl ps) : NoTab (upd L p o) := fun a ps e => by
  by_cases z : a = p
  · rw [z, upd_same] at e; cases e; exact h ps rfl
  · rw [upd_ne z] at e; exact n a ps e
/-- L: what is known for good; H: the heap; as: where the changeable objects stand, M: what they hold -/
structure At (K : PySem.W.Frag) (as : List Addr) (M : Ms) (L H : Hp) : Prop where
  low : Ex L H
  len : as.length = M.length
  nd : as.Nodup
  mo : ∀ (k : Nat) (a : Addr) (m : MO), as[k]? = some a → M[k]? = some m → L a = none ∧ ∃ o, H a = some o ∧ Ro K as L o m ∧ TabOk H a o m
  nt : NoTab L
theorem At.held {K : PySem.W.Frag} {as : List Addr} {M : Ms} {L H : Hp} (A : At K as M L H) {a : Addr} (h : a ∈ as) : L a = none ∧ H a ≠ none := by
  obtain ⟨k, hk, e⟩ := List.getElem_of_mem h
  have e1 : as[k]? = some a := by rw [List.getElem?_eq_getElem hk, e]
  have hm : k < M.length := by rw [← A.len]; exact hk
  obtain ⟨h1, o, h2, _⟩ := A.mo k a _ e1 (List.getElem?_eq_getElem hm)
  exact ⟨h1, by rw [h2]; simp⟩
/-- a step: known things stay, hidden things stay hidden; bs: the changeable objects behind it -/
structure Step (as : List Addr) (L H : Hp) (bs : List Addr) (L' H' : Hp) : Prop where
  up : ∀ a o, a ∉ as → H a = some o → H' a = some o
  k : Ex L L'
  hid : ∀ a, L a = none → H a ≠ none → L' a = none
  pre : Pre as bs
  new : ∀ a ∈ bs, a ∈ as ∨ H a = none
theorem Step.refl {as : List Addr} {L H : Hp} : Step as L H as L H := ⟨fun _ _ _ h => h, Ex.refl _, fun _ h _ => h, Pre.refl _, fun _ h => .inl h⟩
theorem Step.trans {K : PySem.W.Frag} {as bs cs : List Addr} {M1 : Ms} {L H L1 H1 L2 H2 : Hp} (s : Step as L H bs L1 H1) (A1 : At K bs M1 L1 H1) (t : Step bs L1 H1 cs L2 H2) : Step as L H cs L2 H2 := by
  have there : ∀ a, H a ≠ none → H1 a ≠ none := fun a h => by
    by_cases ha : a ∈ as
    · obtain ⟨k, hk, e⟩ := List.getElem_of_mem ha
      have e1 : as[k]? = some a := by rw [List.getElem?_eq_getElem hk, e]
      have e2 := s.pre k a e1
      exact (A1.held (List.mem_of_getElem? e2)).2
    · cases q : H a with
      | none => exact absurd q h
      | some o => rw [s.up a o ha q]; simp
  refine ⟨fun a o ha h => ?_, s.k.trans t.k, fun a h h' => t.hid a (s.hid a h h') (there a h'), s.pre.trans t.pre, fun a ha => ?_⟩
  · have h1 := s.up a o ha h
    refine t.up a o (fun hb => ?_) h1
    rcases s.new a hb with z | z
    · exact ha z
    · rw [h] at z; cases z
  · rcases t.new a ha with z | z
    · exact s.new a z
    · right
      cases q : H a with
      | none => rfl
      | some o => exact absurd z (there a (by rw [q]; simp))
theorem Step.sub {as bs : List Addr} {L H L1 H1 : Hp} (s : Step as L H bs L1 H1) : Step as L H as L1 H1 := ⟨s.up, s.k, s.hid, Pre.refl _, fun _ h => .inl h⟩
/-- a new thing that is known for good -/
theorem At.know {K : PySem.W.Frag} {as : List Addr} {M : Ms} {L H : Hp} {p : Addr} {o : HO} (A : At K as M L H) (hp : H p = none) (ho : ∀ ps, o ≠ .tbl ps := by first | (intro ps z; cases z) | (intro ps z; unfold exo at z; cases z) | (intro ps z; unfold exd at z; cases z) | (intro ps z; unfold ExO at z; cases z)) : At K as M (upd L p o) (upd H p o) := by
  refine ⟨fun a u h => ?_, A.len, A.nd, fun k a m h1 h2 => ?_, A.nt.new ho⟩
  · by_cases e : a = p
    · subst e; rw [upd_same] at h ⊢; exact h
    · rw [upd_ne e] at h ⊢; exact A.low a u h
  · obtain ⟨h3, o', h4, h5⟩ := A.mo k a m h1 h2
    have e : a ≠ p := ne_of_none h4 hp
    have lp : L p = none := by
      cases q : L p with
      | none => rfl
      | some u => rw [A.low p u q] at hp; cases hp
    exact ⟨by rw [upd_ne e]; exact h3, o', by rw [upd_ne e]; exact h4, h5.1.mono (Ex.new lp) (Pre.refl _), h5.2.keep (KeepC.new hp)⟩
theorem Step.know {K : PySem.W.Frag} {as : List Addr} {M : Ms} {L H : Hp} {p : Addr} {o : HO} (A : At K as M L H) (hp : H p = none) : Step as L H as (upd L p o) (upd H p o) := by
  have lp : L p = none := by
    cases q : L p with
    | none => rfl
    | some u => rw [A.low p u q] at hp; cases hp
  refine ⟨fun a u _ h => ?_, Ex.new lp, fun a h h' => ?_, Pre.refl _, fun _ h => .inl h⟩
  · rw [upd_ne (ne_of_none h hp)]; exact h
  · have e : a ≠ p := fun z => h' (by rw [z]; exact hp)
    rw [upd_ne e]; exact h
/-- the slots -/
structure En (K : PySem.W.Frag) (as : List Addr) (L : Hp) (σ : L2.St) (ρ : Rho) : Prop where
  len : σ.length = ρ.length
  at_ : ∀ (i : Nat) (d : D), ρ[i]? = some (some d) → ∃ v, σ[i]? = some (some v) ∧ Rp K as L v d
theorem En.mono {K : PySem.W.Frag} {as bs : List Addr} {L L' : Hp} {σ : L2.St} {ρ : Rho} (e : Ex L L') (p : Pre as bs) (h : En K as L σ ρ) : En K bs L' σ ρ :=
  ⟨h.len, fun i d q => let ⟨v, h1, h2⟩ := h.at_ i d q; ⟨v, h1, h2.mono e p⟩⟩
theorem En.set {K : PySem.W.Frag} {as : List Addr} {L : Hp} {σ : L2.St} {ρ : Rho} {v : V} {d : D} (i : Nat) (h : En K as L σ ρ) (r : Rp K as L v d) : En K as L (σ.set i (some v)) (ρ.set i (some d)) := by
  refine ⟨by rw [List.length_set, List.length_set]; exact h.len, fun j e q => ?_⟩
  rw [List.getElem?_set] at q ⊢
  by_cases hj : i = j
  · subst hj
    rw [if_pos rfl] at q ⊢
    rw [h.len]
    split at q
    · rename_i hl
      rw [if_pos hl]
      cases q
      exact ⟨v, rfl, r⟩
    · cases q
  · rw [if_neg hj] at q ⊢
    exact h.at_ j e q
abbrev DE := Rho → Ms → (D → Ms → Prop) → Prop
abbrev DT := Rho → Ms → (Bool → Ms → Prop) → Prop
abbrev DA := Rho → Ms → (List D → Ms → Prop) → Prop
def SimE (K : PySem.W.Frag) (te : TE) (t : DE) : Prop := ∀ as σ ρ L H M P Q, En K as L σ ρ → At K as M L H → t ρ M P →
  (∀ v d L' H' M', Step as L H as L' H' → At K as M' L' H' → P d M' → Rp K as L' v d → Q v H') → te σ H Q
def SimT (K : PySem.W.Frag) (te : TT) (t : DT) : Prop := ∀ as σ ρ L H M P Q, En K as L σ ρ → At K as M L H → t ρ M P →
  (∀ b L' H' M', Step as L H as L' H' → At K as M' L' H' → P b M' → Q b H') → te σ H Q
def SimA (K : PySem.W.Frag) (te : TA) (t : DA) : Prop := ∀ as σ ρ L H M P Q, En K as L σ ρ → At K as M L H → t ρ M P →
  (∀ vs ds L' H' M', Step as L H as L' H' → At K as M' L' H' → P ds M' → RpA K as L' vs ds → Q vs H') → te σ H Q
structure PD (X : Cx) (e : Expr) (t : DE) : Prop where
  ex : ∃ te, PE X e te ∧ SimE X.K te t
structure PDT (X : Cx) (e : Expr) (t : DT) : Prop where
  ex : ∃ te, PT X e te ∧ SimT X.K te t
structure PDW (X : Cx) (e : Expr) (t : DT) : Prop where
  ex : ∃ te, PW X e te ∧ SimT X.K te t
structure PDA (X : Cx) (es : List Expr) (t : DA) : Prop where
  ex : ∃ te, PA X es te ∧ SimA X.K te t
section
variable {X : Cx} {a b c e : Expr} {es : List Expr} {ta tb tc : DE} {pos : Pos}
@[simp] def dVar (i : Nat) : DE := fun ρ M P => ∃ d, ρ[i]? = some (some d) ∧ P d M
theorem pd_name (i : Nat) {x : Str} (hN : X.N[i]? = some x := by rfl) (hv : Vis X.env.scope x := by first | exact Or.inl rfl | exact Or.inr (Or.inl rfl) | exact Or.inr (Or.inr rfl)) (hd : (x == ("__debug__" : Str)) = false := by decide)
    (hcd : (x == ("__classdict__" : Str)) = false := by decide) : PD X (.Name x pos) (dVar i) :=
  ⟨_, pv i hN hv hd hcd, fun as σ ρ L H M P Q hE A ⟨d, hd, p⟩ q => by
    obtain ⟨v, h1, h2⟩ := hE.at_ i d hd
    exact ⟨v, h1, q v d L H M .refl A p h2⟩⟩
@[simp] def dC (d : D) : DE := fun _ M P => P d M
theorem pd_int {i j} : PD X (.Constant (.int i) j pos) (dC (.int i)) := ⟨_, pe_int, fun as σ ρ L H M P Q hE A p q => q _ _ L H M .refl A p (.int i)⟩
theorem pd_bl {b j} : PD X (.Constant (.bool b) j pos) (dC (.bl b)) := ⟨_, pe_bl, fun as σ ρ L H M P Q hE A p q => q _ _ L H M .refl A p (.bl b)⟩
theorem pd_non {j} : PD X (.Constant .none j pos) (dC .non) := ⟨_, pe_non, fun as σ ρ L H M P Q hE A p q => q _ _ L H M .refl A p .non⟩
theorem pd_str {x j} : PD X (.Constant (.str x) j pos) (dC (.str x)) := ⟨_, pe_str, fun as σ ρ L H M P Q hE A p q => q _ _ L H M .refl A p (.str x)⟩
abbrev D2 := D → D → Ms → (D → Ms → Prop) → Prop
abbrev D1 := D → Ms → (D → Ms → Prop) → Prop
abbrev DC := List D → Ms → (D → Ms → Prop) → Prop
def SimR (K : PySem.W.Frag) (r : R2) (o : D2) : Prop := ∀ as L H M x y d e P Q, At K as M L H → Rp K as L x d → Rp K as L y e → o d e M P →
  (∀ v z L' H' M', Step as L H as L' H' → At K as M' L' H' → P z M' → Rp K as L' v z → Q v H') → r x y H Q
def SimU (K : PySem.W.Frag) (r : V → Hp → VK → Prop) (o : D1) : Prop := ∀ as L H M x d P Q, At K as M L H → Rp K as L x d → o d M P →
  (∀ v z L' H' M', Step as L H as L' H' → At K as M' L' H' → P z M' → Rp K as L' v z → Q v H') → r x H Q
def SimC (K : PySem.W.Frag) (r : List V → Hp → VK → Prop) (o : DC) : Prop := ∀ as L H M xs ds P Q, At K as M L H → RpA K as L xs ds → o ds M P →
  (∀ v z L' H' M', Step as L H as L' H' → At K as M' L' H' → P z M' → Rp K as L' v z → Q v H') → r xs H Q
@[simp] def d2 (o : D2) (ta tb : DE) : DE := fun ρ M P => ta ρ M fun x M1 => tb ρ M1 fun y M2 => o x y M2 P
@[simp] def d1 (o : D1) (ta : DE) : DE := fun ρ M P => ta ρ M fun x M1 => o x M1 P
theorem sim_op {K : PySem.W.Frag} {r : R2} {o : D2} {ua ub : TE} (hr : SimR K r o) (ha : SimE K ua ta) (hb : SimE K ub tb) : SimE K (tOp r ua ub) (d2 o ta tb) := by
  intro as σ ρ L H M P Q hE A h q
  refine ha as σ ρ L H M _ _ hE A h fun x d L1 H1 M1 s1 A1 h1 r1 => ?_
  refine hb as σ ρ L1 H1 M1 _ _ (hE.mono s1.k s1.pre) A1 h1 fun y e L2 H2 M2 s2 A2 h2 r2 => ?_
  refine hr as L2 H2 M2 x y d e P Q A2 (r1.mono s2.k s2.pre) r2 h2 fun v z L3 H3 M3 s3 A3 h3 r3 => ?_
  exact q v z L3 H3 M3 (s1.trans A1 (s2.trans A2 s3)) A3 h3 r3
theorem sim_un {K : PySem.W.Frag} {r : V → Hp → VK → Prop} {o : D1} {ua : TE} (hr : SimU K r o) (ha : SimE K ua ta) : SimE K (tUn r ua) (d1 o ta) := by
  intro as σ ρ L H M P Q hE A h q
  refine ha as σ ρ L H M _ _ hE A h fun x d L1 H1 M1 s1 A1 h1 r1 => ?_
  refine hr as L1 H1 M1 x d P Q A1 r1 h1 fun v z L3 H3 M3 s3 A3 h3 r3 => ?_
  exact q v z L3 H3 M3 (s1.trans A1 s3) A3 h3 r3
theorem pd_op {op : Operator} {r : R2} {o : D2} (ho : OpR X (binaryOp op) r) (hr : SimR X.K r o) (ha : PD X a ta) (hb : PD X b tb) : PD X (.BinOp a op b pos) (d2 o ta tb) := by
  obtain ⟨ua, pa, sa⟩ := ha.ex
  obtain ⟨ub, pb, sb⟩ := hb.ex
  exact ⟨_, pe_op ho pa pb, sim_op hr sa sb⟩
theorem pd_un {op : UnaryOp} {r : V → Hp → VK → Prop} {o : D1} (ho : UnR X (unaryOp op) r) (hr : SimU X.K r o) (ha : PD X a ta) : PD X (.UnaryOp op a pos) (d1 o ta) := by
  obtain ⟨ua, pa, sa⟩ := ha.ex
  exact ⟨_, pe_un ho pa, sim_un hr sa⟩
theorem pd_cmp {op : CmpOp} {r : R2} {o : D2} (ho : OpR X (compareOp op) r) (hr : SimR X.K r o) (ha : PD X a ta) (hb : PD X b tb) (hm : behindInMarks op b = false) : PD X (.Compare a [op] [b] pos) (d2 o ta tb) := by
  obtain ⟨ua, pa, sa⟩ := ha.ex
  obtain ⟨ub, pb, sb⟩ := hb.ex
  exact ⟨_, pe_cmpR ho pa pb hm, sim_op hr sa sb⟩
/-- as a test -/
@[simp] def dTest (t : DE) : DT := fun ρ M P => t ρ M fun x M1 => ∃ k, x = .bl k ∧ P k M1
theorem sim_test {K : PySem.W.Frag} {u : TE} {t : DE} (h : SimE K u t) : SimT K (tTest u) (dTest t) := by
  intro as σ ρ L H M P Q hE A h1 q
  refine h as σ ρ L H M _ _ hE A h1 fun x d L1 H1 M1 s1 A1 h2 r1 => ?_
  obtain ⟨k, rfl, p⟩ := h2
  cases r1
  exact ⟨k, rfl, q k L1 H1 M1 s1 A1 p⟩
theorem pdt_cmp {op : CmpOp} {r : R2} {o : D2} (ho : OpR X (compareOp op) r) (hr : SimR X.K r o) (ha : PD X a ta) (hb : PD X b tb) (hm : behindInMarks op b = false) : PDT X (.Compare a [op] [b] pos) (dTest (d2 o ta tb)) := by
  obtain ⟨ua, pa, sa⟩ := ha.ex
  obtain ⟨ub, pb, sb⟩ := hb.ex
  exact ⟨_, pt_cmpR ho pa pb hm, sim_test (sim_op hr sa sb)⟩
theorem pdt_val {t : DE} (h : PD X e t) (he : ∀ whole, isTrue e X.env whole = (do let v ← whole; standAt e.pos; holding [v] (truthy v)) := by intro _; rfl) : PDT X e (dTest t) := by
  obtain ⟨u, p, s⟩ := h.ex
  exact ⟨_, pt_val p he, sim_test s⟩
/-- a < b < c -/
@[simp] def dChain (o o' : D2) (ta tb tc : DE) : DE := fun ρ M P => ta ρ M fun x M1 => tb ρ M1 fun y M2 => o x y M2 fun z M3 => ∃ k, z = .bl k ∧ if k = true then tc ρ M3 fun w M4 => o' y w M4 P else P (.bl false) M3
end
end Pd
set_option Elab.async false
set_option linter.all false
set_option maxRecDepth 100000
namespace Pd
open PySem PySem.Spec PyProof.Rows L2
section
variable {X : Cx} {a b c e : Expr} {es : List Expr} {ta tb tc t : DE} {tA tB' : DT} {tl : DA} {pos : Pos}
theorem pd_chain {op op' : CmpOp} {r r' : R2} {o o' : D2} (ho : OpR X (compareOp op) r) (hr : SimR X.K r o) (ho' : OpR X (compareOp op') r') (hr' : SimR X.K r' o') (ha : PD X a ta) (hb : PD X b tb) (hc : PD X c tc)
    (hm : lastMarks [op, op'] [b, c] = false := by with_unfolding_all rfl) : PD X (.Compare a [op, op'] [b, c] pos) (dChain o o' ta tb tc) := by
  obtain ⟨ua, pa, sa⟩ := ha.ex
  obtain ⟨ub, pb, sb⟩ := hb.ex
  obtain ⟨uc, pc, sc⟩ := hc.ex
  refine ⟨_, pe_chain ho ho' pa pb pc hm, ?_⟩
  intro as σ ρ L H M P Q hE A h q
  refine sa as σ ρ L H M _ _ hE A h fun x d L1 H1 M1 s1 A1 h1 r1 => ?_
  refine sb as σ ρ L1 H1 M1 _ _ (hE.mono s1.k s1.pre) A1 h1 fun y e L2 H2 M2 s2 A2 h2 r2 => ?_
  refine hr as L2 H2 M2 x y d e _ _ A2 (r1.mono s2.k s2.pre) r2 h2 fun v z L3 H3 M3 s3 A3 h3 r3 => ?_
  obtain ⟨k, rfl, h3⟩ := h3
  cases r3
  have s13 := s1.trans A1 (s2.trans A2 s3)
  refine ⟨k, rfl, ?_⟩
  cases k with
  | false =>
    rw [if_neg Bool.false_ne_true] at h3 ⊢
    exact q _ _ L3 H3 M3 s13 A3 h3 (.bl false)
  | true =>
    rw [if_pos rfl] at h3 ⊢
    refine sc as σ ρ L3 H3 M3 _ _ (hE.mono s13.k s13.pre) A3 h3 fun w' f L4 H4 M4 s4 A4 h4 r4 => ?_
    refine hr' as L4 H4 M4 y w' e f P Q A4 (r2.mono (s3.k.trans s4.k) (s3.pre.trans s4.pre)) r4 h4 fun v z L5 H5 M5 s5 A5 h5 r5 => ?_
    exact q v z L5 H5 M5 (s13.trans A3 (s4.trans A4 s5)) A5 h5 r5
@[simp] def dAnd (t u : DT) : DT := fun ρ M P => t ρ M fun c M1 => if c = true then u ρ M1 P else P false M1
@[simp] def dOr (t u : DT) : DT := fun ρ M P => t ρ M fun c M1 => if c = true then P true M1 else u ρ M1 P
@[simp] def dNot (t : DT) : DT := fun ρ M P => t ρ M fun c M1 => P (!c) M1
theorem pdw_or1 (ha : PDT X a tA) : PDW X (.BoolOp .Or [a] pos) tA := by
  obtain ⟨u, p, s⟩ := ha.ex
  exact ⟨u, pw_or1 p, s⟩
theorem pdw_or {rest : List Expr} (ha : PDT X a tA) (hb : PDW X (.BoolOp .Or (b :: rest) pos) tB') : PDW X (.BoolOp .Or (a :: b :: rest) pos) (dOr tA tB') := by
  obtain ⟨u, p, s⟩ := ha.ex
  obtain ⟨u', p', s'⟩ := hb.ex
  refine ⟨_, pw_or p p', ?_⟩
  intro as σ ρ L H M P Q hE A h q
  refine s as σ ρ L H M _ _ hE A h fun k L1 H1 M1 s1 A1 h1 => ?_
  cases k with
  | true =>
    rw [if_pos rfl] at h1 ⊢
    exact q true L1 H1 M1 s1 A1 h1
  | false =>
    rw [if_neg Bool.false_ne_true] at h1 ⊢
    exact s' as σ ρ L1 H1 M1 _ _ (hE.mono s1.k s1.pre) A1 h1 fun b L2 H2 M2 s2 A2 h2 => q b L2 H2 M2 (s1.trans A1 s2) A2 h2
theorem pdt_w (h : PDW X e tA) : PDT X e tA := by
  obtain ⟨u, p, s⟩ := h.ex
  exact ⟨u, p.pt, s⟩
theorem pdt_not (ha : PDT X a tA) : PDT X (.UnaryOp .Not a pos) (dNot tA) := by
  obtain ⟨u, p, s⟩ := ha.ex
  refine ⟨_, pt_not p, ?_⟩
  intro as σ ρ L H M P Q hE A h q
  exact s as σ ρ L H M _ _ hE A h fun k L1 H1 M1 s1 A1 h1 => q (!k) L1 H1 M1 s1 A1 h1
@[simp] def dAndV (ta tb : DE) : DE := fun ρ M P => ta ρ M fun x M1 => ∃ c, x = .bl c ∧ if c = true then tb ρ M1 P else P (.bl false) M1
@[simp] def dOrV (ta tb : DE) : DE := fun ρ M P => ta ρ M fun x M1 => ∃ c, x = .bl c ∧ if c = true then P (.bl true) M1 else tb ρ M1 P
@[simp] def dNotV (ta : DE) : DE := fun ρ M P => ta ρ M fun x M1 => ∃ c, x = .bl c ∧ P (.bl (!c)) M1
theorem pd_one {op} (h : PD X a t) : PD X (.BoolOp op [a] pos) t := by
  obtain ⟨u, p, s⟩ := h.ex
  exact ⟨u, pe_one p, s⟩
theorem pd_and {rest : List Expr} (ha : PD X a ta) (hb : PD X (.BoolOp .And (b :: rest) pos) tb) : PD X (.BoolOp .And (a :: b :: rest) pos) (dAndV ta tb) := by
  obtain ⟨u, p, s⟩ := ha.ex
  obtain ⟨u', p', s'⟩ := hb.ex
  refine ⟨_, pe_and p p', ?_⟩
  intro as σ ρ L H M P Q hE A h q
  refine s as σ ρ L H M _ _ hE A h fun x d L1 H1 M1 s1 A1 h1 r1 => ?_
  obtain ⟨k, rfl, h1⟩ := h1
  cases r1
  refine ⟨k, rfl, ?_⟩
  cases k with
  | true =>
    rw [if_pos rfl] at h1 ⊢
    exact s' as σ ρ L1 H1 M1 _ _ (hE.mono s1.k s1.pre) A1 h1 fun v z L2 H2 M2 s2 A2 h2 => q v z L2 H2 M2 (s1.trans A1 s2) A2 h2
  | false =>
    rw [if_neg Bool.false_ne_true] at h1 ⊢
    exact q _ _ L1 H1 M1 s1 A1 h1 (.bl false)
theorem pd_not (ha : PD X a ta) : PD X (.UnaryOp .Not a pos) (dNotV ta) := by
  obtain ⟨u, p, s⟩ := ha.ex
  refine ⟨_, pe_not p, ?_⟩
  intro as σ ρ L H M P Q hE A h q
  refine s as σ ρ L H M _ _ hE A h fun x d L1 H1 M1 s1 A1 h1 r1 => ?_
  obtain ⟨k, rfl, h1⟩ := h1
  cases r1
  exact ⟨k, rfl, q _ _ L1 H1 M1 s1 A1 h1 (.bl (!k))⟩
@[simp] def dIf (t : DT) (ta tb : DE) : DE := fun ρ M P => t ρ M fun c M1 => if c = true then ta ρ M1 P else tb ρ M1 P
theorem pd_ifExp (hc : PDT X c tA) (ha : PD X a ta) (hb : PD X b tb) : PD X (.IfExp c a b pos) (dIf tA ta tb) := by
  obtain ⟨u, p, s⟩ := hc.ex
  obtain ⟨u1, p1, s1⟩ := ha.ex
  obtain ⟨u2, p2, s2⟩ := hb.ex
  refine ⟨_, pe_ifExp p p1 p2, ?_⟩
  intro as σ ρ L H M P Q hE A h q
  refine s as σ ρ L H M _ _ hE A h fun k L1 H1 M1 st A1 h1 => ?_
  cases k with
  | true =>
    rw [if_pos rfl] at h1 ⊢
    exact s1 as σ ρ L1 H1 M1 _ _ (hE.mono st.k st.pre) A1 h1 fun v z L2 H2 M2 s2 A2 h2 => q v z L2 H2 M2 (st.trans A1 s2) A2 h2
  | false =>
    rw [if_neg Bool.false_ne_true] at h1 ⊢
    exact s2 as σ ρ L1 H1 M1 _ _ (hE.mono st.k st.pre) A1 h1 fun v z L2 H2 M2 s2 A2 h2 => q v z L2 H2 M2 (st.trans A1 s2) A2 h2
@[simp] def dNil : DA := fun _ M P => P [] M
@[simp] def dCons (ta : DE) (tl : DA) : DA := fun ρ M P => ta ρ M fun x M1 => tl ρ M1 fun xs M2 => P (x :: xs) M2
theorem pda_nil : PDA X [] dNil := ⟨_, pa_nil, fun as σ ρ L H M P Q hE A h q => q [] [] L H M .refl A h .nil⟩
theorem pda_cons (ha : PD X e ta) (hr : PDA X es tl) (hs : starEach (e :: es) X.env = (false, eval e X.env) :: starEach es X.env := by rfl) : PDA X (e :: es) (dCons ta tl) := by
  obtain ⟨u, p, s⟩ := ha.ex
  obtain ⟨u', p', s'⟩ := hr.ex
  refine ⟨_, pa_cons p p' hs, ?_⟩
  intro as σ ρ L H M P Q hE A h q
  refine s as σ ρ L H M _ _ hE A h fun x d L1 H1 M1 s1 A1 h1 r1 => ?_
  exact s' as σ ρ L1 H1 M1 _ _ (hE.mono s1.k s1.pre) A1 h1 fun vs ds L2 H2 M2 s2 A2 h2 r2 => q _ _ L2 H2 M2 (s1.trans A1 s2) A2 h2 (.cons (r1.mono s2.k s2.pre) r2)
@[simp] def dTup (tl : DA) : DE := fun ρ M P => tl ρ M fun ds M1 => ds.length ≤ sizeLine ∧ P (.tup ds) M1
@[simp] def dLst (tl : DA) : DE := fun ρ M P => tl ρ M fun ds M1 => ds.length ≤ sizeLine ∧ P (.lst ds) M1
theorem lowfree {K : PySem.W.Frag} {as : List Addr} {M : Ms} {L H : Hp} {p : Addr} (A : At K as M L H) (hp : H p = none) : L p = none := by
  cases q : L p with
  | none => rfl
  | some u => rw [A.low p u q] at hp; cases hp
theorem pd_tup {x1} (h : PDA X es tl) : PD X (.Tuple es x1 pos) (dTup tl) := by
  obtain ⟨u, p, s⟩ := h.ex
  refine ⟨_, pe_tup p, ?_⟩
  intro as σ ρ L H M P Q hE A h q
  refine s as σ ρ L H M _ _ hE A h fun vs ds L1 H1 M1 s1 A1 h1 r1 => ⟨by rw [r1.length]; exact h1.1, fun p hp => ?_⟩
  exact q _ _ _ _ M1 (s1.trans A1 (Step.know A1 hp)) (A1.know hp) h1.2 (.tup (.inl (.inl upd_same)) (r1.mono (Ex.new (lowfree A1 hp)) (Pre.refl _)))
theorem pd_lst (h : PDA X es tl) : PD X (.List es pos) (dLst tl) := by
  obtain ⟨u, p, s⟩ := h.ex
  refine ⟨_, pe_lst p, ?_⟩
  intro as σ ρ L H M P Q hE A h q
  refine s as σ ρ L H M _ _ hE A h fun vs ds L1 H1 M1 s1 A1 h1 r1 => ⟨by rw [r1.length]; exact h1.1, fun p hp => ?_⟩
  exact q _ _ _ _ M1 (s1.trans A1 (Step.know A1 hp)) (A1.know hp) h1.2 (.lst (.inl (.inl upd_same)) (r1.mono (Ex.new (lowfree A1 hp)) (Pre.refl _)))
/-- what a def promises, over data -/
def spD (n : Nat) (W : DC) : PySem.W.Frag → Sp := fun K vs H Q _ => vs.length = n ∧ ∃ as M L ds P, RpA K as L vs ds ∧ At K as M L H ∧ W ds M P ∧
  ∀ v d L' H' M', Step as L H as L' H' → At K as M' L' H' → P d M' → Rp K as L' v d → Q v H'
@[simp] def dCall (n : Nat) (W : DC) (tl : DA) : DE := fun ρ M P => tl ρ M fun ds M1 => ds.length = n ∧ W ds M1 P
theorem sim_call {n : Nat} {W : DC} {u : TA} {K : PySem.W.Frag} {E : XK} (s : SimA K u tl) : SimE K (tCall (spD n W K) [] E u) (dCall n W tl) := by
  intro as σ ρ L H M P Q hE A h q
  refine s as σ ρ L H M _ _ hE A h fun vs ds L1 H1 M1 s1 A1 h1 r1 => ?_
  rw [List.append_nil]
  exact ⟨by rw [r1.length]; exact h1.1, as, M1, L1, ds, P, r1, A1, h1.2, fun v d L2 H2 M2 s2 A2 h2 r2 => q v d L2 H2 M2 (s1.trans A1 s2) A2 h2 r2⟩
theorem pd_call {k : Nat} {f : Addr} {fd : FuncData} {ps : List Str} {n : Nat} {W : DC} {x : Str} {p : Pos} (F : FnOk X.prog X.w X.K X.mg X.base CX0 k f fd ps (spD n W X.K)) (hr : Room k X.A) (hg : Gl X x) (hm : X.mg x = some (.ref f)) (hk : PySem.W.keepIn X.K (.ref f) = true)
    (hb : Binds X.K fd ps []) (ha : PDA X (e :: es) tl) (hdb : (x == ("__debug__" : Str)) = false := by decide) (he : starEach (e :: es) X.env = (false, eval e X.env) :: starEach es X.env := by rfl) (hpl : (backTo pos (starEach es X.env)).any (·.1) = false := by rfl) :
    PD X (.Call (.Name x p) (e :: es) [] pos) (dCall n W tl) := by
  obtain ⟨u, pa, s⟩ := ha.ex
  exact ⟨_, pe_call F hr hg hm hk hb .nil pass0 pa hdb he hpl, sim_call s⟩
@[simp] def dCB (o : DC) (tl : DA) : DE := fun ρ M P => tl ρ M fun ds M1 => o ds M1 P
theorem sim_cb {r : List V → Hp → VK → Prop} {o : DC} {u : TA} {K : PySem.W.Frag} (hr : SimC K r o) (s : SimA K u tl) : SimE K (tCB r u) (dCB o tl) := by
  intro as σ ρ L H M P Q hE A h q
  refine s as σ ρ L H M _ _ hE A h fun vs ds L1 H1 M1 s1 A1 h1 r1 => ?_
  exact hr as L1 H1 M1 vs ds P Q A1 r1 h1 fun v z L2 H2 M2 s2 A2 h2 r2 => q v z L2 H2 M2 (s1.trans A1 s2) A2 h2 r2
theorem pd_callB {id : String} {r : List V → Hp → VK → Prop} {o : DC} {x : Str} {p : Pos} (hc : CallR X (.builtin id) r) (hs : SimC X.K r o) (hg : Gl X x) (hm : X.mg x = none) (hv : bootBuiltins x = some (.builtin id)) (ha : PDA X (e :: es) tl) (hn : x ≠ "__name__" := by decide)
    (hdb : (x == ("__debug__" : Str)) = false := by decide) (he : starEach (e :: es) X.env = (false, eval e X.env) :: starEach es X.env := by rfl) (hpl : (backTo pos (starEach es X.env)).any (·.1) = false := by rfl) : PD X (.Call (.Name x p) (e :: es) [] pos) (dCB o tl) := by
  obtain ⟨u, pa, s⟩ := ha.ex
  exact ⟨_, pe_callB hc hg hm hv pa hn hdb he hpl, sim_cb hs s⟩
theorem pd_callTy {T : String} {r : List V → Hp → VK → Prop} {o : DC} {x : Str} {p : Pos} (hc : CallR X (.type T) r) (hs : SimC X.K r o) (hg : Gl X x) (hm : X.mg x = none) (hv : bootBuiltins x = some (.type T)) (ha : PDA X (e :: es) tl) (hn : x ≠ "__name__" := by decide)
    (hdb : (x == ("__debug__" : Str)) = false := by decide) (he : starEach (e :: es) X.env = (false, eval e X.env) :: starEach es X.env := by rfl) (hpl : (backTo pos (starEach es X.env)).any (·.1) = false := by rfl) : PD X (.Call (.Name x p) (e :: es) [] pos) (dCB o tl) := by
  obtain ⟨u, pa, s⟩ := ha.ex
  exact ⟨_, pe_callTy hc hg hm hv pa hn hdb he hpl, sim_cb hs s⟩
theorem pd_ix {r : R2} {o : D2} (hi : IxR X r) (hr : SimR X.K r o) (ha : PD X a ta) (hb : PD X b tb) (hs : PlainIx b := by exact fun _ _ => rfl) : PD X (.Subscript a b pos) (d2 o ta tb) := by
  obtain ⟨ua, pa, sa⟩ := ha.ex
  obtain ⟨ub, pb, sb⟩ := hb.ex
  exact ⟨_, pe_ix hi pa pb hs, sim_op hr sa sb⟩
structure DEnds where
  nx : Rho → Ms → Prop
  rt : D → Ms → Prop
  bk : Rho → Ms → Prop := fun _ _ => False
  ct : Rho → Ms → Prop := fun _ _ => False
abbrev DS := DEnds → Rho → Ms → Prop
def EndN (K : PySem.W.Frag) (as : List Addr) (L H : Hp) (d : Rho → Ms → Prop) (v : L2.St → Hp → Prop) : Prop := ∀ σ' ρ' L' H' M', Step as L H as L' H' → At K as M' L' H' → En K as L' σ' ρ' → d ρ' M' → v σ' H'
structure Comp (K : PySem.W.Frag) (as : List Addr) (L H : Hp) (De : DEnds) (D : Ends) : Prop where
  nx : EndN K as L H De.nx D.nx
  rt : ∀ v d L' H' M', Step as L H as L' H' → At K as M' L' H' → De.rt d M' → Rp K as L' v d → D.rt v H'
  bk : EndN K as L H De.bk D.bk
  ct : EndN K as L H De.ct D.ct
theorem EndN.step {K : PySem.W.Frag} {as : List Addr} {L H L1 H1 : Hp} {M1 : Ms} {d : Rho → Ms → Prop} {v : L2.St → Hp → Prop} (s : Step as L H as L1 H1) (A1 : At K as M1 L1 H1) (h : EndN K as L H d v) : EndN K as L1 H1 d v :=
  fun σ' ρ' L' H' M' s' A' e' q => h σ' ρ' L' H' M' (s.trans A1 s') A' e' q
theorem Comp.step {K : PySem.W.Frag} {as : List Addr} {L H L1 H1 : Hp} {M1 : Ms} {De : DEnds} {D : Ends} (s : Step as L H as L1 H1) (A1 : At K as M1 L1 H1) (h : Comp K as L H De D) : Comp K as L1 H1 De D :=
  ⟨h.nx.step s A1, fun v d L' H' M' s' A' q r => h.rt v d L' H' M' (s.trans A1 s') A' q r, h.bk.step s A1, h.ct.step s A1⟩
def SimS (K : PySem.W.Frag) (ts : TS) (t : DS) : Prop := ∀ as σ ρ L H M De D, En K as L σ ρ → At K as M L H → t De ρ M → Comp K as L H De D → ts D σ H
structure PDS (X : Cx) (st : Stmt) (t : DS) : Prop where
  ex : ∃ ts, PS X st ts ∧ SimS X.K ts t
structure PDSs (X : Cx) (st : List Stmt) (t : DS) : Prop where
  ex : ∃ ts, PSs X st ts ∧ SimS X.K ts t
variable {st : Stmt} {sts : List Stmt} {s1 s2 : DS}
@[simp] def sNext : DS := fun D ρ M => D.nx ρ M
@[simp] def sSeq (t u : DS) : DS := fun D ρ M => t { D with nx := fun ρ' M' => u D ρ' M' } ρ M
theorem pdss_nil : PDSs X [] sNext := ⟨_, pss_nil, fun as σ ρ L H M De D hE A h c => c.nx σ ρ L H M .refl A hE h⟩
theorem pdss_cons (h1 : PDS X st s1) (h2 : PDSs X sts s2) : PDSs X (st :: sts) (sSeq s1 s2) := by
  obtain ⟨u, p, s⟩ := h1.ex
  obtain ⟨u', p', s'⟩ := h2.ex
  refine ⟨_, pss_cons p p', ?_⟩
  intro as σ ρ L H M De D hE A h c
  refine s as σ ρ L H M _ _ hE A h ⟨fun σ1 ρ1 L1 H1 M1 st1 A1 e1 q1 => ?_, c.rt, c.bk, c.ct⟩
  exact s' as σ1 ρ1 L1 H1 M1 De D e1 A1 q1 (c.step st1 A1)
theorem pdss_one (h1 : PDS X st s1) : PDSs X [st] s1 := by
  obtain ⟨u, p, s⟩ := h1.ex
  exact ⟨_, pss_one p, s⟩
@[simp] def sDrop (t : DE) : DS := fun D ρ M => t ρ M fun _ M1 => D.nx ρ M1
theorem pds_expr (he : PD X e t) (hs : swapsWith e none pos.line X.env = pure false := by rfl) : PDS X (.Expr e pos) (sDrop t) := by
  obtain ⟨u, p, s⟩ := he.ex
  exact ⟨_, ps_expr p hs, fun as σ ρ L H M De D hE A h c => s as σ ρ L H M _ _ hE A h fun v d L1 H1 M1 st A1 q _ => c.nx σ ρ L1 H1 M1 st A1 (hE.mono st.k st.pre) q⟩
@[simp] def sRet (t : DE) : DS := fun D ρ M => t ρ M D.rt
theorem pds_ret (he : PD X e t) : PDS X (.Return (some e) pos) (sRet t) := by
  obtain ⟨u, p, s⟩ := he.ex
  exact ⟨_, ps_ret p, fun as σ ρ L H M De D hE A h c => s as σ ρ L H M _ _ hE A h fun v d L1 H1 M1 st A1 q r => c.rt v d L1 H1 M1 st A1 q r⟩
@[simp] def sIf (c : DT) (t u : DS) : DS := fun D ρ M => c ρ M fun b M1 => if b = true then t D ρ M1 else u D ρ M1
theorem pds_if {a b : List Stmt} (hc : PDT X c tA) (ha : PDSs X a s1) (hb : PDSs X b s2) : PDS X (.If c a b pos) (sIf tA s1 s2) := by
  obtain ⟨u, p, s⟩ := hc.ex
  obtain ⟨u1, p1, z1⟩ := ha.ex
  obtain ⟨u2, p2, z2⟩ := hb.ex
  refine ⟨_, ps_if p p1 p2, ?_⟩
  intro as σ ρ L H M De D hE A h c
  refine s as σ ρ L H M _ _ hE A h fun k L1 H1 M1 st A1 h1 => ?_
  cases k with
  | true =>
    rw [if_pos rfl] at h1 ⊢
    exact z1 as σ ρ L1 H1 M1 De D (hE.mono st.k st.pre) A1 h1 (c.step st A1)
  | false =>
    rw [if_neg Bool.false_ne_true] at h1 ⊢
    exact z2 as σ ρ L1 H1 M1 De D (hE.mono st.k st.pre) A1 h1 (c.step st A1)
@[simp] def sNever : DS := fun _ _ _ => False
theorem pds_never : PDS X st sNever := ⟨_, ps_never, fun _ _ _ _ _ _ _ _ _ _ h _ => h.elim⟩
theorem pdss_never : PDSs X sts sNever := ⟨_, pss_never, fun _ _ _ _ _ _ _ _ _ _ h _ => h.elim⟩
abbrev DG := D → Rho → (Rho → Prop) → Prop
abbrev DGs := List D → Rho → (Rho → Prop) → Prop
/-- ts: the slots that are stored -/
def SimG (K : PySem.W.Frag) (g : TG) (t : DG) (ts : List Nat) : Prop := ∀ as L H v d σ ρ M P Q, En K as L σ ρ → At K as M L H → Rp K as L v d → t d ρ P →
  (∀ σ' ρ', En K as L σ' ρ' → P ρ' → (∀ vs, (∀ i ∈ ts, i ∈ vs) → wipe σ' vs = wipe σ vs) → Q σ' H) → g v σ H Q
def SimGs (K : PySem.W.Frag) (g : TGs) (t : DGs) (ts : List Nat) : Prop := ∀ as L H vs ds σ ρ M P Q, En K as L σ ρ → At K as M L H → RpA K as L vs ds → t ds ρ P →
  (∀ σ' ρ', En K as L σ' ρ' → P ρ' → (∀ vs, (∀ i ∈ ts, i ∈ vs) → wipe σ' vs = wipe σ vs) → Q σ' H) → g vs σ H Q
structure PDG (X : Cx) (tg : Expr) (t : DG) (ts : List Nat) : Prop where
  ex : ∃ g, PG X tg g ∧ SimG X.K g t ts
structure PDGs (X : Cx) (tg : List Expr) (t : DGs) (ts : List Nat) : Prop where
  ex : ∃ g, PGs X tg g ∧ SimGs X.K g t ts
theorem wipe_set {σ : L2.St} {i : Nat} {x : Option V} : ∀ {vs : List Nat}, i ∈ vs → wipe (σ.set i x) vs = wipe σ vs
  | [], h => by simp at h
  | v :: vs, h => by
    unfold wipe
    by_cases hi : i ∈ vs
    · rw [wipe_set hi]
    · have e : i = v := by
        rcases List.mem_cons.mp h with z | z
        · exact z
        · exact absurd z hi
      subst e
      have : ∀ {us : List Nat}, i ∉ us → wipe (σ.set i x) us = (wipe σ us).set i x := by
        intro us
        induction us with
        | nil => intro _; rfl
        | cons u us ih =>
          intro hu
          unfold wipe
          have h1 : i ≠ u := fun z => hu (by rw [z]; exact List.mem_cons_self)
          rw [ih fun z => hu (List.mem_cons_of_mem _ z), List.set_comm _ _ h1]
      rw [this hi, List.set_set]
@[simp] def gN (i : Nat) : DG := fun d ρ P => P (ρ.set i (some d))
theorem sim_gN {K : PySem.W.Frag} (i : Nat) : SimG K (gName i) (gN i) [i] := fun as L H v d σ ρ M P Q hE A r p q => q _ _ (hE.set i r) p fun vs h => wipe_set (h i List.mem_cons_self)
theorem pdg_name (i : Nat) {x : Str} (hN : X.N.Nodup) (hi : X.N[i]? = some x := by rfl) (hx : Loc X.env.scope x := by first | exact Or.inl rfl | exact Or.inr rfl) (hf : X.fn x = true ∨ X.env.scope.names.lookup x = some .local := by first | exact .inl rfl | exact .inr rfl | assumption) : PDG X (.Name x pos) (gN i) [i] :=
  ⟨_, pg_name hN hi hx hf, sim_gN i⟩
@[simp] def gNi : DGs := fun ds ρ P => ds = [] ∧ P ρ
@[simp] def gCo (t : DG) (u : DGs) : DGs := fun ds ρ P => ∃ d r, ds = d :: r ∧ t d ρ fun ρ' => u r ρ' P
theorem pdgs_nil : PDGs X [] gNi [] := ⟨_, pgs_nil, fun as L H vs ds σ ρ M P Q hE A r ⟨e, p⟩ q => by
  subst e
  cases r
  exact ⟨rfl, q σ ρ hE p fun _ _ => rfl⟩⟩
theorem pdgs_cons {t : DG} {u : DGs} {us vs : List Nat} (h1 : PDG X e t us) (h2 : PDGs X es u vs) (hs : (assignEach (e :: es) X.env).map (·.2) = assign e X.env :: (assignEach es X.env).map (·.2) := by rfl) : PDGs X (e :: es) (gCo t u) (us ++ vs) := by
  obtain ⟨g, p, s⟩ := h1.ex
  obtain ⟨g', p', s'⟩ := h2.ex
  refine ⟨_, pgs_cons p p' hs, ?_⟩
  intro as L H ws ds σ ρ M P Q hE A r h q
  obtain ⟨d, rr, rfl, h⟩ := h
  cases r with
  | cons r1 r2 =>
    refine ⟨_, _, rfl, s as L H _ _ σ ρ M _ _ hE A r1 h fun σ1 ρ1 e1 h1 w1 => ?_⟩
    exact s' as L H _ _ σ1 ρ1 M _ _ e1 A r2 h1 fun σ2 ρ2 e2 h2 w2 => q σ2 ρ2 e2 h2 fun vs hv => (w2 vs fun i hi => hv i (List.mem_append_right _ hi)).trans (w1 vs fun i hi => hv i (List.mem_append_left _ hi))
@[simp] def gTu (n : Nat) (t : DGs) : DG := fun d ρ P => ∃ ds, d = .tup ds ∧ ds.length = n ∧ t ds ρ P
theorem pdg_tup {k : Nat} {t : DGs} {n : Nat} {us : List Nat} (hc : X.calm = true) (h : PDGs X es t us)
    (hn : (assignEach es X.env).length = n := by rfl) (hst : (assignEach es X.env).findIdx? (·.1) = none := by rfl) : PDG X (.Tuple es k pos) (gTu n t) us := by
  obtain ⟨g, p, s⟩ := h.ex
  refine ⟨_, pg_tup hc p hn hst, ?_⟩
  intro as L H v d σ ρ M P Q hE A r h q
  obtain ⟨ds, rfl, hl, h⟩ := h
  cases r with
  | tup hs ra => exact ⟨_, _, rfl, ex_t A.low hs, by rw [ra.length]; exact hl, s as L H _ _ σ ρ M _ _ hE A ra h q⟩
@[simp] def sAsg (t : DE) (g : DG) : DS := fun D ρ M => t ρ M fun d M1 => g d ρ fun ρ' => D.nx ρ' M1
theorem sim_asg {K : PySem.W.Frag} {u : TE} {g : TG} {t : DE} {dg : DG} {us : List Nat} (s : SimE K u t) (sg : SimG K g dg us) : SimS K (tAsg u g) (sAsg t dg) := by
  intro as σ ρ L H M De D hE A h c
  refine s as σ ρ L H M _ _ hE A h fun v d L1 H1 M1 s1 A1 h1 r1 => ?_
  exact sg as L1 H1 v d σ ρ M1 _ _ (hE.mono s1.k s1.pre) A1 r1 h1 fun σ' ρ' e' p' _ => c.nx σ' ρ' L1 H1 M1 s1 A1 e' p'
theorem pds_set (i : Nat) {x : Str} {p' : Pos} (hN : X.N.Nodup) (he : PD X e t) (hi : X.N[i]? = some x := by rfl) (hx : Loc X.env.scope x := by first | exact Or.inl rfl | exact Or.inr rfl) (hs : swapsWith e (some (.Name x p')) pos.line X.env = pure false := by rfl)
    (hf : X.fn x = true ∨ X.env.scope.names.lookup x = some .local := by first | exact .inl rfl | exact .inr rfl | assumption) : PDS X (.Assign [.Name x p'] e pos) (sAsg t (gN i)) := by
  obtain ⟨u, p, s⟩ := he.ex
  exact ⟨_, ps_set hN hi hx p hs hf, sim_asg s (sim_gN i)⟩
end
/-- J gives the items ds, one after the other, wherever L is known -/
def Walks (K : PySem.W.Frag) (J : It) (as : List Addr) (L0 : Hp) (ds : List D) : Prop := ∀ L H M, Ex L0 L → At K as M L H →
  (∀ i, i < ds.length → J.go i H ∧ ∀ x H', J.yld i H x H' → ∃ d L', ds[i]? = some d ∧ Step as L H as L' H' ∧ At K as M L' H' ∧ Rp K as L' x d) ∧ J.stop ds.length H
def SimI (K : PySem.W.Frag) (wi : TI) (t : DA) : Prop := ∀ as σ ρ L H M P R, En K as L σ ρ → At K as M L H → t ρ M P →
  (∀ J ds L' H' M', Step as L H as L' H' → At K as M' L' H' → P ds M' → Walks K J as L' ds → R J H') → wi σ H R
structure PDI (X : Cx) (tg iter : Expr) (t : DA) : Prop where
  ex : ∃ wi, PI X tg iter wi ∧ SimI X.K wi t
section
variable {X : Cx} {tg iter e : Expr} {es : List Expr} {t : DE} {tl : DA} {pos : Pos} {K : PySem.W.Frag}
/-- over a list; over a tuple -/
@[simp] def iLst (t : DE) : DA := fun ρ M P => t ρ M fun d M1 => ∃ ds, d = .lst ds ∧ P ds M1
@[simp] def iTpl (t : DE) : DA := fun ρ M P => t ρ M fun d M1 => ∃ ds, d = .tup ds ∧ P ds M1
theorem walks_list {as : List Addr} {L0 : Hp} {a : Addr} {xs : List V} {ds : List D} (hs : SqL K L0 a xs) (r : RpA K as L0 xs ds) : Walks K (Itl K a) as L0 ds := by
  intro L H M e A
  have h1 : SqL K H a xs := ex_l (e.trans A.low) hs
  refine ⟨fun i hi => ⟨?_, fun x H' y => ?_⟩, xs, h1, by rw [r.length]; exact Nat.le_refl _⟩
  · have hx : i < xs.length := by rw [r.length]; exact hi
    exact ⟨xs, xs[i], h1, List.getElem?_eq_getElem hx⟩
  · obtain ⟨rfl, hy⟩ := y
    obtain ⟨d, hd, rd⟩ := r.getV (hy xs h1)
    exact ⟨d, L, hd, .refl, A, rd.mono e (Pre.refl _)⟩
theorem walks_tup {as : List Addr} {L0 : Hp} {a : Addr} {xs : List V} {ds : List D} (hs : SqT K L0 a xs) (r : RpA K as L0 xs ds) : Walks K (Itt K a) as L0 ds := by
  intro L H M e A
  have h1 : SqT K H a xs := ex_t (e.trans A.low) hs
  refine ⟨fun i hi => ⟨?_, fun x H' y => ?_⟩, xs, h1, by rw [r.length]; exact Nat.le_refl _⟩
  · have hx : i < xs.length := by rw [r.length]; exact hi
    exact ⟨xs, xs[i], h1, List.getElem?_eq_getElem hx⟩
  · obtain ⟨rfl, hy⟩ := y
    obtain ⟨d, hd, rd⟩ := r.getV (hy xs h1)
    exact ⟨d, L, hd, .refl, A, rd.mono e (Pre.refl _)⟩
theorem pdi_list (h : PD X e t) : PDI X tg e (iLst t) := by
  obtain ⟨u, p, s⟩ := h.ex
  refine ⟨_, pi_list p, ?_⟩
  intro as σ ρ L H M P R hE A h q
  refine s as σ ρ L H M _ _ hE A h fun v d L1 H1 M1 s1 A1 h1 r1 => ?_
  obtain ⟨ds, rfl, h1⟩ := h1
  cases r1 with
  | lst hs ra => exact ⟨_, rfl, ⟨_, ex_l A1.low hs⟩, q _ ds L1 H1 M1 s1 A1 h1 (walks_list hs ra)⟩
theorem pdi_tup (h : PD X e t) : PDI X tg e (iTpl t) := by
  obtain ⟨u, p, s⟩ := h.ex
  refine ⟨_, pi_tup p, ?_⟩
  intro as σ ρ L H M P R hE A h q
  refine s as σ ρ L H M _ _ hE A h fun v d L1 H1 M1 s1 A1 h1 r1 => ?_
  obtain ⟨ds, rfl, h1⟩ := h1
  cases r1 with
  | tup hs ra => exact ⟨_, rfl, ⟨_, ex_t A1.low hs⟩, q _ ds L1 H1 M1 s1 A1 h1 (walks_tup hs ra)⟩
/-- lo, lo + 1, .. -/
def rng (lo : Int) (n : Nat) : List D := (List.range n).map fun i => .int (lo + (i : Nat))
theorem rng_len (lo : Int) (n : Nat) : (rng lo n).length = n := by unfold rng; rw [List.length_map, List.length_range]
theorem walks_range {as : List Addr} {L0 : Hp} (lo : Int) (n : Nat) : Walks K (Itr lo n) as L0 (rng lo n) := by
  intro L H M e A
  rw [rng_len]
  refine ⟨fun i hi => ⟨hi, fun x H' y => ?_⟩, Nat.le_refl _⟩
  obtain ⟨rfl, rfl⟩ := y
  refine ⟨.int (lo + i), L, ?_, .refl, A, .int _⟩
  unfold rng
  rw [List.getElem?_map, List.getElem?_range hi]
  rfl
@[simp] def iR1 (tl : DA) : DA := fun ρ M P => tl ρ M fun ds M1 => ∃ j : Int, ds = [.int j] ∧ -(2 ^ 62) ≤ j ∧ j < 2 ^ 62 ∧ P (rng 0 j.toNat) M1
theorem pdi_range1 {p : Pos} (hg : Gl X "range") (hm : X.mg "range" = none) (ha : PDA X [e] tl) (hs : starEach [e] X.env = [(false, eval e X.env)] := by rfl) : PDI X tg (.Call (.Name "range" p) [e] [] pos) (iR1 tl) := by
  obtain ⟨u, pa, s⟩ := ha.ex
  refine ⟨_, pi_range1 hg hm pa (hs := hs), ?_⟩
  intro as σ ρ L H M P R hE A h q
  refine s as σ ρ L H M _ _ hE A h fun vs ds L1 H1 M1 s1 A1 h1 r1 => ?_
  obtain ⟨j, rfl, h2, h3, h1⟩ := h1
  cases r1 with
  | cons r2 r3 =>
    cases r2
    cases r3
    exact ⟨j, rfl, h2, h3, q _ _ L1 H1 M1 s1 A1 h1 (walks_range 0 _)⟩
@[simp] def iR2 (tl : DA) : DA := fun ρ M P => tl ρ M fun ds M1 => ∃ i j : Int, ds = [.int i, .int j] ∧ (-(2 ^ 62) ≤ i ∧ i < 2 ^ 62 ∧ -(2 ^ 62) ≤ j ∧ j < 2 ^ 62) ∧ P (rng i (j - i).toNat) M1
theorem pdi_range2 {e2 : Expr} {p : Pos} (hg : Gl X "range") (hm : X.mg "range" = none) (ha : PDA X [e, e2] tl) (hs : starEach [e, e2] X.env = [(false, eval e X.env), (false, eval e2 X.env)] := by rfl) (hs2 : starEach [e2] X.env = [(false, eval e2 X.env)] := by rfl) : PDI X tg (.Call (.Name "range" p) [e, e2] [] pos) (iR2 tl) := by
  obtain ⟨u, pa, s⟩ := ha.ex
  refine ⟨_, pi_range2 hg hm pa (hs := hs) (hs2 := hs2), ?_⟩
  intro as σ ρ L H M P R hE A h q
  refine s as σ ρ L H M _ _ hE A h fun vs ds L1 H1 M1 s1 A1 h1 r1 => ?_
  obtain ⟨i, j, rfl, h2, h1⟩ := h1
  cases r1 with
  | cons r2 r3 =>
    cases r2
    cases r3 with
    | cons r4 r5 =>
      cases r4
      cases r5
      exact ⟨i, j, rfl, h2, q _ _ L1 H1 M1 s1 A1 h1 (walks_range i _)⟩
def forRun (g : DG) (body : DS) (De : DEnds) : List D → Rho → Ms → Prop
  | [], ρ, M => De.nx ρ M
  | d :: r, ρ, M => g d ρ fun ρ' => body { De with nx := fun ρ2 M2 => forRun g body De r ρ2 M2, ct := fun ρ2 M2 => forRun g body De r ρ2 M2, bk := De.nx } ρ' M
@[simp] def sFor (it : DA) (g : DG) (body : DS) : DS := fun D ρ M => it ρ M fun ds M1 => forRun g body D ds ρ M1
theorem pds_for {body : List Stmt} {it : DA} {g : DG} {us : List Nat} {tb : DS} (hp : PassesOwn (model X.prog X.w) X.A X.env X.xe) (hc : X.calm = true) (hi : PDI X tg iter it) (hg : PDG X tg g us) (hb : PDSs X body tb)
    (hs : ∀ x, foldedSetIterable iter X.env x = pure x := by intro _; rfl) : PDS X (.For tg iter body [] pos) (sFor it g tb) := by
  obtain ⟨wi, p, s⟩ := hi.ex
  obtain ⟨g', pg, sg⟩ := hg.ex
  obtain ⟨ub, pb, sb⟩ := hb.ex
  refine ⟨_, ps_for hp hc p pg pb hs, ?_⟩
  intro as σ ρ L H M De D hE A h c
  refine s as σ ρ L H M _ _ hE A h fun J ds L1 H1 M1 s1 A1 h1 w1 => ?_
  refine ⟨fun i m σ H => m = ds.length - i ∧ i ≤ ds.length ∧ ∃ ρ L M, Step as L1 H1 as L H ∧ At X.K as M L H ∧ En X.K as L σ ρ ∧ forRun g tb De (ds.drop i) ρ M, ⟨ds.length, by simp, Nat.zero_le _, ρ, L1, M1, .refl, A1, hE.mono s1.k s1.pre, h1⟩, ?_⟩
  rintro i m σ H ⟨rfl, hi, ρ, L, M, st, A, hE, hf⟩
  obtain ⟨wg, ws⟩ := w1 L H M st.k A
  by_cases hlt : i < ds.length
  · obtain ⟨go, wy⟩ := wg i hlt
    rw [List.drop_eq_getElem_cons hlt] at hf
    refine .inr ⟨go, fun σ' H' => ∃ ρ L M, Step as L1 H1 as L H' ∧ At X.K as M L H' ∧ En X.K as L σ' ρ ∧ forRun g tb De (ds.drop (i + 1)) ρ M, fun σ' H' q => ⟨ds.length - (i + 1), by omega, rfl, hlt, q⟩, fun x H' y => ?_⟩
    obtain ⟨d, L', hd, s2, A2, r2⟩ := wy x H' y
    rw [List.getElem?_eq_getElem hlt] at hd
    cases hd
    refine sg as L' H' x _ σ ρ M _ _ (hE.mono s2.k s2.pre) A2 r2 hf fun σ2 ρ2 e2 p2 _ => ?_
    have s12 := st.trans A s2
    have c2 := (c.step s1 A1).step s12 A2
    refine sb as σ2 ρ2 L' H' M _ _ e2 A2 p2 ⟨fun σ3 ρ3 L3 H3 M3 s3 A3 e3 q3 => ⟨ρ3, L3, M3, s12.trans A2 s3, A3, e3, q3⟩, c2.rt, c2.nx, fun σ3 ρ3 L3 H3 M3 s3 A3 e3 q3 => ⟨ρ3, L3, M3, s12.trans A2 s3, A3, e3, q3⟩⟩
  · have e : i = ds.length := by omega
    subst e
    rw [List.drop_length] at hf
    exact .inl ⟨ws, (c.step s1 A1).nx σ ρ L H M st A hE hf⟩
end
abbrev wipeS := @L2.wipe
theorem wipe_wipe (σ : L2.St) (us : List Nat) : L2.wipe (L2.wipe σ us) us = L2.wipe σ us := by
  have : ∀ (τ : L2.St) (ts : List Nat), (∀ i ∈ ts, i ∈ us) → L2.wipe (L2.wipe τ ts) us = L2.wipe τ us := by
    intro τ ts
    induction ts with
    | nil => intro _; rfl
    | cons t ts ih =>
      intro ht
      show L2.wipe ((L2.wipe τ ts).set t none) us = _
      rw [wipe_set (ht t List.mem_cons_self), ih fun i hi => ht i (List.mem_cons_of_mem _ hi)]
  exact this σ us fun _ h => h
def wipeR (ρ : Rho) : List Nat → Rho
  | [] => ρ
  | v :: vs => (wipeR ρ vs).set v none
theorem En.unset {K : PySem.W.Frag} {as : List Addr} {L : Hp} {σ : L2.St} {ρ : Rho} (i : Nat) (h : En K as L σ ρ) : En K as L (σ.set i none) (ρ.set i none) := by
  refine ⟨by rw [List.length_set, List.length_set]; exact h.len, fun j e q => ?_⟩
  rw [List.getElem?_set] at q ⊢
  by_cases hj : i = j
  · subst hj
    rw [if_pos rfl] at q
    split at q <;> cases q
  · rw [if_neg hj] at q ⊢
    exact h.at_ j e q
theorem En.wipe {K : PySem.W.Frag} {as : List Addr} {L : Hp} {σ : L2.St} {ρ : Rho} (h : En K as L σ ρ) : ∀ vs : List Nat, En K as L (wipeS σ vs) (wipeR ρ vs)
  | [] => h
  | v :: vs => (En.wipe h vs).unset v
structure PDTs (X : Cx) (es : List Expr) (t : DT) : Prop where
  ex : ∃ te, PTs X es te ∧ SimT X.K te t
@[simp] def dYes : DT := fun _ M P => P true M
def lcRun (g : DG) (tt : DT) (te : DE) (ρ : Rho) (P : D → Ms → Prop) : List D → List D → Ms → Prop
  | [], acc, M => P (.lst acc) M
  | d :: r, acc, M => g d ρ fun ρ' => tt ρ' M fun b M1 => if b = true then te ρ' M1 fun y M2 => acc.length < sizeLine ∧ lcRun g tt te ρ P r (acc ++ [y]) M2 else lcRun g tt te ρ P r acc M1
@[simp] def dLc (it : DA) (g : DG) (tt : DT) (te : DE) (vs : List Nat) : DE := fun ρ M P => it ρ M fun ds M1 => lcRun g tt te (wipeR ρ vs) P ds [] M1
theorem sim_lc {K : PySem.W.Frag} {wi : TI} {it : DA} {g' : TG} {g : DG} {us : List Nat} {ut : TT} {tt : DT} {ue : TE} {te : DE} {vs : List Nat} (hus : ∀ i ∈ us, i ∈ vs) (s : SimI K wi it) (sg : SimG K g' g us) (st : SimT K ut tt) (se : SimE K ue te) :
    SimE K (tLc wi g' ut ue vs) (dLc it g tt te vs) := by
  intro as σ ρ L H M P Q hE A h q
  refine s as σ ρ L H M _ _ hE A h fun J ds L1 H1 M1 s1 A1 h1 w1 => ?_
  intro D hD
  -- D stays hidden while it grows
  have base : ∀ {L' H' : Hp} {M' : Ms} {acc : List V}, At K as M' L' H' → H' D = some (.lst acc) → L' D = none → D ∉ as → ∀ acc', At K as M' L' (upd H' D (.lst acc')) := by
    intro L' H' M' acc A' hd hl hn acc'
    refine ⟨fun a o h => ?_, A'.len, A'.nd, fun k a m e1 e2 => ?_, A'.nt⟩
    · have e : a ≠ D := fun z => by rw [z, hl] at h; cases h
      rw [upd_ne e]; exact A'.low a o h
    · obtain ⟨h3, o, h4, h5⟩ := A'.mo k a m e1 e2
      have e : a ≠ D := fun z => hn (by rw [← z]; exact List.mem_of_getElem? e1)
      exact ⟨h3, o, by rw [upd_ne e]; exact h4, h5.1, h5.2.keep (KeepC.over hd rfl)⟩
  have dn : D ∉ as := fun z => (A1.held z).2 hD
  have ld : L1 D = none := lowfree A1 hD
  refine ⟨fun i m H' => m = ds.length - i ∧ i ≤ ds.length ∧ ∃ L' M' xs acc, Step as L1 H1 as L' H' ∧ At K as M' L' H' ∧ H' D = some (.lst xs) ∧ L' D = none ∧ RpA K as L' xs acc ∧ lcRun g tt te (wipeR ρ vs) P (ds.drop i) acc M',
    ⟨ds.length, by simp, Nat.zero_le _, L1, M1, [], [], ⟨fun a o _ h => ?_, Ex.refl _, fun _ h _ => h, Pre.refl _, fun _ h => .inl h⟩, ?_, upd_same, ld, .nil, h1⟩, ?_⟩
  · rw [upd_ne (ne_of_none h hD)]; exact h
  · refine ⟨fun a o h => ?_, A1.len, A1.nd, fun k a m e1 e2 => ?_, A1.nt⟩
    · rw [upd_ne (ne_of_none (A1.low a o h) hD)]; exact A1.low a o h
    · obtain ⟨h3, o, h4, h5⟩ := A1.mo k a m e1 e2
      exact ⟨h3, o, by rw [upd_ne (ne_of_none h4 hD)]; exact h4, h5.1, h5.2.keep (KeepC.new hD)⟩
  rintro i m H' ⟨rfl, hi, L', M', xs, acc, s', A', hd', ld', ra, hf⟩
  obtain ⟨wg, ws⟩ := w1 L' H' M' s'.k A'
  have upD : ∀ {L2 H2 : Hp} {M2 : Ms}, Step as L1 H1 as L2 H2 → At K as M2 L2 H2 → ∀ acc', Step as L1 H1 as L2 (upd H2 D (.lst acc')) := by
    intro L2 H2 M2 s2 A2 acc'
    exact ⟨fun a o ha h => by rw [upd_ne (ne_of_none h hD)]; exact s2.up a o ha h, s2.k, s2.hid, s2.pre, s2.new⟩
  by_cases hlt : i < ds.length
  · obtain ⟨go, wy⟩ := wg i hlt
    rw [List.drop_eq_getElem_cons hlt] at hf
    refine .inr ⟨go, fun H2 => ∃ L' M' xs acc, Step as L1 H1 as L' H2 ∧ At K as M' L' H2 ∧ H2 D = some (.lst xs) ∧ L' D = none ∧ RpA K as L' xs acc ∧ lcRun g tt te (wipeR ρ vs) P (ds.drop (i + 1)) acc M', fun H2 q => ⟨ds.length - (i + 1), by omega, rfl, hlt, q⟩, fun x H2 y => ?_⟩
    obtain ⟨d, L2, hd, s2, A2, r2⟩ := wy x H2 y
    rw [List.getElem?_eq_getElem hlt] at hd
    cases hd
    have hE2 : En K as L2 (wipeS σ vs) (wipeR ρ vs) := ((hE.mono (s1.k.trans (s'.k.trans s2.k)) (Pre.refl _)).wipe vs)
    have hd2 : H2 D = some (.lst xs) := s2.up D _ dn hd'
    have ld2 : L2 D = none := s2.hid D ld' (by rw [hd']; simp)
    refine sg as L2 H2 x _ _ _ M' _ _ hE2 A2 r2 hf fun σ3 ρ3 e3 p3 wp => ⟨?_, ?_⟩
    · have z := wp vs hus
      rw [z, wipe_wipe]
    · refine st as σ3 ρ3 L2 H2 M' _ _ e3 A2 p3 fun b L3 H3 M3 s3 A3 h3 => ?_
      have s13 := (s'.trans A' s2).trans A2 s3
      have hd3 : H3 D = some (.lst xs) := s3.up D _ dn hd2
      have ld3 : L3 D = none := s3.hid D ld2 (by rw [hd2]; simp)
      cases b with
      | false =>
        rw [if_neg Bool.false_ne_true] at h3 ⊢
        exact ⟨L3, M3, xs, acc, s13, A3, hd3, ld3, ra.mono (s2.k.trans s3.k) (Pre.refl _), h3⟩
      | true =>
        rw [if_pos rfl] at h3 ⊢
        refine se as σ3 ρ3 L3 H3 M3 _ _ (e3.mono s3.k s3.pre) A3 h3 fun v z L4 H4 M4 s4 A4 h4 r4 => ?_
        have hd4 : H4 D = some (.lst xs) := s4.up D _ dn hd3
        have ld4 : L4 D = none := s4.hid D ld3 (by rw [hd3]; simp)
        have s14 := s13.trans A3 s4
        have ra4 := ra.mono (s2.k.trans (s3.k.trans s4.k)) (Pre.refl as)
        refine ⟨xs, hd4, by rw [ra4.length]; exact h4.1, L4, M4, xs ++ [v], acc ++ [z], upD s14 A4 _, base A4 hd4 ld4 dn _, upd_same, ld4, ra4.append (.one r4), h4.2⟩
  · have e : i = ds.length := by omega
    subst e
    rw [List.drop_length] at hf
    -- the list is known for good
    refine .inl ⟨ws, q _ _ (upd L' D (.lst xs)) H' M' (s1.trans A1 ⟨s'.up, s'.k.trans (Ex.new ld'), fun a h h' => ?_, Pre.refl _, fun _ h => .inl h⟩) ⟨fun a o h => ?_, A'.len, A'.nd, fun k a m e1 e2 => ?_, A'.nt.new (fun ps z => by cases z)⟩ hf (.lst (.inl (.inl upd_same)) (ra.mono (Ex.new ld') (Pre.refl _)))⟩
    · have e : a ≠ D := fun z => h' (by rw [z]; exact hD)
      rw [upd_ne e]; exact s'.hid a h h'
    · by_cases e : a = D
      · subst e; rw [upd_same] at h; rw [hd']; exact h
      · rw [upd_ne e] at h; exact A'.low a o h
    · obtain ⟨h3, o, h4, h5⟩ := A'.mo k a m e1 e2
      have e : a ≠ D := fun z => dn (by rw [← z]; exact List.mem_of_getElem? e1)
      exact ⟨by rw [upd_ne e]; exact h3, o, h4, h5.1.mono (Ex.new ld') (Pre.refl _), h5.2⟩
end Pd
set_option Elab.async false
set_option linter.all false
set_option maxRecDepth 100000
namespace Pd
open PySem PySem.Spec PyProof.Rows L2
def upE (K : PySem.W.Frag) (t : DE) : TE := fun σ H Q => ∃ as ρ L M P, En K as L σ ρ ∧ At K as M L H ∧ t ρ M P ∧ ∀ v d L' H' M', Step as L H as L' H' → At K as M' L' H' → P d M' → Rp K as L' v d → Q v H'
def upT (K : PySem.W.Frag) (t : DT) : TT := fun σ H Q => ∃ as ρ L M P, En K as L σ ρ ∧ At K as M L H ∧ t ρ M P ∧ ∀ b L' H' M', Step as L H as L' H' → At K as M' L' H' → P b M' → Q b H'
def upG (K : PySem.W.Frag) (t : DG) (ts : List Nat) : TG := fun v σ H Q => ∃ as L d ρ M P, En K as L σ ρ ∧ At K as M L H ∧ Rp K as L v d ∧ t d ρ P ∧ ∀ σ' ρ', En K as L σ' ρ' → P ρ' → (∀ vs, (∀ i ∈ ts, i ∈ vs) → L2.wipe σ' vs = L2.wipe σ vs) → Q σ' H
theorem sim_upE {K : PySem.W.Frag} (t : DE) : SimE K (upE K t) t := fun as σ ρ L H M P Q hE A h q => ⟨as, ρ, L, M, P, hE, A, h, q⟩
theorem sim_upT {K : PySem.W.Frag} (t : DT) : SimT K (upT K t) t := fun as σ ρ L H M P Q hE A h q => ⟨as, ρ, L, M, P, hE, A, h, q⟩
theorem sim_upG {K : PySem.W.Frag} (t : DG) (ts : List Nat) : SimG K (upG K t ts) t ts := fun as L H v d σ ρ M P Q hE A r h q => ⟨as, L, d, ρ, M, P, hE, A, r, h, q⟩
theorem PD.up {X : Cx} {e : Expr} {t : DE} (h : PD X e t) : PE X e (upE X.K t) := by
  obtain ⟨u, p, s⟩ := h.ex
  exact ⟨fun pins sh σ H Q I ⟨as, ρ, L, M, P, hE, A, h, q⟩ => p.run pins sh σ H Q I (s as σ ρ L H M P Q hE A h q)⟩
theorem PDTs.up {X : Cx} {es : List Expr} {t : DT} (h : PDTs X es t) : PTs X es (upT X.K t) := by
  obtain ⟨u, p, s⟩ := h.ex
  exact ⟨fun pins sh σ H Q I ⟨as, ρ, L, M, P, hE, A, h, q⟩ => p.run pins sh σ H Q I (s as σ ρ L H M P Q hE A h q)⟩
theorem PDG.up {X : Cx} {tg : Expr} {t : DG} {ts : List Nat} (h : PDG X tg t ts) : PG X tg (upG X.K t ts) := by
  obtain ⟨g, p, s⟩ := h.ex
  exact ⟨fun pins sh σ H v u Q I r ⟨as, L, d, ρ, M, P, hE, A, rp, h, q⟩ => p.run pins sh σ H v u Q I r (s as L H v d σ ρ M P Q hE A rp h q)⟩
theorem pdts_nil {X : Cx} : PDTs X [] dYes := ⟨_, pts_nil, fun as σ ρ L H M P Q hE A h q => q true L H M .refl A h⟩
theorem pdts_one {X : Cx} {c : Expr} {t : DT} (h : PDT X c t) : PDTs X [c] t := by
  obtain ⟨u, p, s⟩ := h.ex
  exact ⟨_, pts_one p, s⟩
section
variable {X : Cx}
theorem pd_lc {elt tg iter : Expr} {ifs : List Expr} {scope : Scope} (own : List (Str × Nat)) {pos : Pos} {it : DA} {g : DG} {us : List Nat} {tt : DT} {te : DE} (hc : X.calm = true) (hN : X.N.Nodup) (hi : PDI X tg iter it) (ok : BlkOk X.N X.env.scope scope own)
    (hg : ∀ (s : Shared) (H : Hp) (C : Addr) (cl : List (Str × Addr)) (fp : List Addr), PDG (X.blk s H scope (compEnvC scope cl C X.env) fp) tg g us) (ht : ∀ (s : Shared) (H : Hp) (C : Addr) (cl : List (Str × Addr)) (fp : List Addr), PDTs (X.blk s H scope (compEnvC scope cl C X.env) fp) ifs tt)
    (he : ∀ (s : Shared) (H : Hp) (C : Addr) (cl : List (Str × Addr)) (fp : List Addr), PD (X.blk s H scope (compEnvC scope cl C X.env) fp) elt te) (hu : ∀ i ∈ us, i ∈ own.map (·.2) := by decide) (hs : ∀ x, foldedSetIterable iter X.env x = pure x := by intro _; rfl) :
    PD X (.ListComp elt [⟨tg, iter, ifs, 0⟩] scope pos) (dLc it g tt te (own.map (·.2))) := by
  obtain ⟨wi, p, s⟩ := hi.ex
  exact ⟨_, pe_lc hc hN p ok (fun a b c d e => (hg a b c d e).up) (fun a b c d e => (ht a b c d e).up) (fun a b c d e => (he a b c d e).up) hs, sim_lc hu s (sim_upG g us) (sim_upT tt) (sim_upE te)⟩
/-- y = [..], y a local -/
theorem pds_setLc (i : Nat) {y : Str} {py : Pos} {elt tg iter : Expr} {ifs : List Expr} {scope : Scope} (own : List (Str × Nat)) {pos spos : Pos} {it : DA} {g : DG} {us : List Nat} {tt : DT} {te : DE} (hc : X.calm = true) (hN : X.N.Nodup) (hy : X.N[i]? = some y) (hyl : X.env.scope.names.lookup y = some .local)
    (hsw : swapsWith (.ListComp elt [⟨tg, iter, ifs, 0⟩] scope pos) (some (.Name y py)) spos.line X.env = pure true) (hi : PDI X tg iter it) (ok : BlkOk X.N X.env.scope scope own)
    (hg : ∀ (s : Shared) (H : Hp) (C : Addr) (cl : List (Str × Addr)) (fp : List Addr), PDG (X.blk s H scope (compEnvC scope cl C X.env) fp) tg g us) (ht : ∀ (s : Shared) (H : Hp) (C : Addr) (cl : List (Str × Addr)) (fp : List Addr), PDTs (X.blk s H scope (compEnvC scope cl C X.env) fp) ifs tt)
    (he : ∀ (s : Shared) (H : Hp) (C : Addr) (cl : List (Str × Addr)) (fp : List Addr), PD (X.blk s H scope (compEnvC scope cl C X.env) fp) elt te) (hu : ∀ i ∈ us, i ∈ own.map (·.2) := by decide) (hs : ∀ x, foldedSetIterable iter X.env x = pure x := by intro _; rfl) :
    PDS X (.Assign [.Name y py] (.ListComp elt [⟨tg, iter, ifs, 0⟩] scope pos) spos) (sAsg (dLc it g tt te (own.map (·.2))) (gN i)) := by
  obtain ⟨wi, p, s⟩ := hi.ex
  exact ⟨_, ps_setLc (i := i) hc hN hy hyl hsw p ok (fun a b c d e => (hg a b c d e).up) (fun a b c d e => (ht a b c d e).up) (fun a b c d e => (he a b c d e).up) hs, sim_asg (sim_lc hu s (sim_upG g us) (sim_upT tt) (sim_upE te)) (sim_gN i)⟩
end
def startD (N : List Str) (ds : List D) : Rho := ds.map some ++ List.replicate (N.length - ds.length) none
theorem en_start {K : PySem.W.Frag} {as : List Addr} {L : Hp} {N : List Str} {vs : List V} {ds : List D} (r : RpA K as L vs ds) : En K as L (L2.start N vs) (startD N ds) := by
  refine ⟨?_, fun i d h => ?_⟩
  · unfold L2.start startD
    rw [List.length_append, List.length_append, List.length_map, List.length_map, List.length_replicate, List.length_replicate, r.length]
  · unfold startD at h
    unfold L2.start
    by_cases hi : i < ds.length
    · rw [List.getElem?_append_left (by simpa using hi), List.getElem?_map] at h
      cases e : ds[i]? with
      | none => rw [e] at h; cases h
      | some d' =>
        rw [e] at h
        cases h
        obtain ⟨v, h1, h2⟩ := r.get e
        refine ⟨v, ?_, h2⟩
        rw [List.getElem?_append_left (by rw [List.length_map, r.length]; exact hi), List.getElem?_map, h1]
        rfl
    · rw [List.getElem?_append_right (by simpa using hi), List.getElem?_replicate] at h
      split at h <;> cases h
section
variable {P : Program} {w : World} {K : PySem.W.Frag} {mg : Str → Option Value} {base : Heap}
theorem pd_fn {x qual : Str} {st : Stmt} {f : Addr} {fd : FuncData} {N ps : List Str} {k : Nat} {W : DC} (F : Fun K x qual st f fd) (S : FnScope N ps (defScope st))
    (hbody : ∀ (cdv : Value) (A : Around) (outer : List Env) (s : Shared) (H : Hp) (E : XK), Room k (A.deeper (envOfC qual (defScope st) s.heap.objs.size f cdv)) →
      ∃ t, PDSs (cxOf CX0 P w K mg base N qual (defScope st) f cdv A outer s H E).nox (defBody st) t ∧ ∀ ds M Q, ds.length = ps.length → W ds M Q → t { nx := fun _ M' => Q .non M', rt := Q } (startD N ds) M) :
    FnOk P w K mg base CX0 (k + 1) f fd ps (spD ps.length W K) := by
  refine F.ok S (fun vs H Q E h => h.1) (fun cdv A outer s H vs Q E hr h => ?_)
  obtain ⟨hl, as, M, L, ds, P', r, A0, hw, q⟩ := h
  obtain ⟨t, ht, hb⟩ := hbody cdv A outer s H E hr
  obtain ⟨ts, pt, st'⟩ := ht.ex
  refine ⟨ts, pt, st' as (L2.start N vs) (startD N ds) L H M _ _ (en_start r) A0 (hb ds M P' (by rw [← r.length]; exact hl) hw) ⟨?_, ?_, ?_, ?_⟩⟩
  · exact fun σ' ρ' L' H' M' s1 A1 _ p => q .non .non L' H' M' s1 A1 p .non
  · exact fun v d L' H' M' s1 A1 p r => q v d L' H' M' s1 A1 p r
  · exact fun _ _ _ _ _ _ _ _ p => p.elim
  · exact fun _ _ _ _ _ _ _ _ p => p.elim
end
section
variable {K : PySem.W.Frag}
@[simp] def oI0 (g : Int → Int → D) : D2 := fun x y M P => ∃ i j, x = .int i ∧ y = .int j ∧ P (g i j) M
@[simp] def oI (C : Int → Int → Prop) (g : Int → Int → D) : D2 := fun x y M P => ∃ i j, x = .int i ∧ y = .int j ∧ C i j ∧ P (g i j) M
@[simp] def oU (g : Int → D) : D1 := fun x M P => ∃ i, x = .int i ∧ P (g i) M
theorem sr_I0i {g : Int → Int → Int} : SimR K (rI0 fun i j => .int (g i j)) (oI0 fun i j => .int (g i j)) := by
  intro as L H M x y d e P Q A r1 r2 ⟨i, j, h1, h2, p⟩ q
  subst h1; subst h2
  cases r1; cases r2
  exact ⟨i, j, rfl, rfl, q _ _ L H M .refl A p (.int _)⟩
theorem sr_I0b {g : Int → Int → Bool} : SimR K (rI0 fun i j => .bl (g i j)) (oI0 fun i j => .bl (g i j)) := by
  intro as L H M x y d e P Q A r1 r2 ⟨i, j, h1, h2, p⟩ q
  subst h1; subst h2
  cases r1; cases r2
  exact ⟨i, j, rfl, rfl, q _ _ L H M .refl A p (.bl _)⟩
theorem sr_I {C : Int → Int → Prop} {g : Int → Int → Int} : SimR K (rI C fun i j => .int (g i j)) (oI C fun i j => .int (g i j)) := by
  intro as L H M x y d e P Q A r1 r2 ⟨i, j, h1, h2, c, p⟩ q
  subst h1; subst h2
  cases r1; cases r2
  exact ⟨i, j, rfl, rfl, c, q _ _ L H M .refl A p (.int _)⟩
theorem su_U {g : Int → Int} : SimU K (rU fun i => .int (g i)) (oU fun i => .int (g i)) := by
  intro as L H M x d P Q A r1 ⟨i, h1, p⟩ q
  subst h1
  cases r1
  exact ⟨i, rfl, q _ _ L H M .refl A p (.int _)⟩
mutual
def plain : D → Bool
  | .non => true | .bl _ => true | .int _ => true | .str _ => true
  | .lst ds => plainA ds | .tup ds => plainA ds | .tfz _ => true | .tnw _ => true
  | _ => false
def plainA : List D → Bool
  | [] => true
  | d :: ds => plain d && plainA ds
end
def keyP : Key → PyData
  | .inl i => .int i
  | .inr x => .str x
mutual
def toP : D → PyData
  | .non => .none | .bl b => .bool b | .int i => .int i | .str x => .str x
  | .lst ds => .list (toPA ds) | .tup ds => .tuple (toPA ds)
  | .dic ks ds => .dict ((ks.map keyP).zip (toPA ds))
  | .tfz ns => .tuple (ns.map PyData.int) | .tnw ns => .tuple (ns.map PyData.int)
  | _ => .none
def toPA : List D → List PyData
  | [] => []
  | d :: ds => toP d :: toPA ds
end
theorem dp_ints {K : PySem.W.Frag} {H : Hp} : ∀ ns : List Int, DpAll K H (ns.map V.int) (ns.map PyData.int)
  | [] => .nil
  | n :: ns => .cons (.int n) (dp_ints ns)
mutual
theorem Rp.dp' {as : List Addr} {L H : Hp} (e : Ex L H) : ∀ (d : D) (v : V), Rp K as L v d → plain d = true → Dp K H v (toP d)
  | .non, _, h, _ => by cases h; exact .non
  | .bl b, _, h, _ => by cases h; exact .bl b
  | .int i, _, h, _ => by cases h; exact .int i
  | .str x, _, h, _ => by cases h; exact .str x
  | .lst ds, _, h, p => by
    cases h with
    | lst h1 r => exact .lst (ex_l e h1) (RpA.dp' e ds _ r p)
  | .tup ds, _, h, p => by
    cases h with
    | tup h1 r => exact .tup (ex_t e h1) (RpA.dp' e ds _ r p)
  | .ins _ _, _, _, p => by cases p
  | .mu _, _, _, p => by cases p
  | .ob _, _, _, p => by cases p
  | .ty _, _, _, p => by cases p
  | .exc _ _, _, _, p => by cases p
  | .dic _ _, _, _, p => by cases p
  | .dit _ _, _, _, p => by cases p
  | .tfz ns, _, h, _ => by
    cases h with
    | tfz h => obtain ⟨o, h, _⟩ := h; exact .tup (.inl (.inr ⟨o, e _ _ h⟩)) (dp_ints ns)
  | .dx _ _, _, _, p => by cases p
  | .tnw ns, _, h, _ => by
    cases h with
    | tnw h => exact .tup (.inl (.inl (e _ _ h))) (dp_ints ns)
theorem RpA.dp' {as : List Addr} {L H : Hp} (e : Ex L H) : ∀ (ds : List D) (vs : List V), RpA K as L vs ds → plainA ds = true → DpAll K H vs (toPA ds)
  | [], _, h, _ => by cases h; exact .nil
  | d :: ds, _, h, p => by
    cases h with
    | cons r t =>
      have p' := Bool.and_eq_true_iff.mp p
      exact .cons (Rp.dp' e d _ r p'.1) (RpA.dp' e ds _ t p'.2)
end
theorem Rp.dp {as : List Addr} {L H : Hp} (e : Ex L H) {v : V} {d : D} (r : Rp K as L v d) (p : plain d = true) : Dp K H v (toP d) := Rp.dp' e d v r p
def eqD (d e : D) : Bool := PyData.eqv (toP d) (toP e)
def okD (d : D) : Bool := plain d && SeqAt.shaped (toP d)
@[simp] def oEq : D2 := fun x y M P => okD x = true ∧ okD y = true ∧ P (.bl (eqD x y)) M
@[simp] def oNe : D2 := fun x y M P => okD x = true ∧ okD y = true ∧ P (.bl (!eqD x y)) M
theorem sr_eq : SimR K (rEqD K) oEq := by
  intro as L H M x y d e P Q A r1 r2 ⟨h1, h2, p⟩ q
  have g1 := Bool.and_eq_true_iff.mp h1
  have g2 := Bool.and_eq_true_iff.mp h2
  exact ⟨_, _, Rp.dp A.low r1 g1.1, Rp.dp A.low r2 g2.1, g1.2, g2.2, q _ _ L H M .refl A p (.bl _)⟩
theorem sr_ne : SimR K (rNeD K) oNe := by
  intro as L H M x y d e P Q A r1 r2 ⟨h1, h2, p⟩ q
  have g1 := Bool.and_eq_true_iff.mp h1
  have g2 := Bool.and_eq_true_iff.mp h2
  exact ⟨_, _, Rp.dp A.low r1 g1.1, Rp.dp A.low r2 g2.1, g1.2, g2.2, q _ _ L H M .refl A p (.bl _)⟩
theorem eqD_refl {d : D} (h : okD d = true) : eqD d d = true := SeqAt.eqv_refl _ (SeqAt.canLay_of_shaped (Bool.and_eq_true_iff.mp h).2)
@[simp] def oIxL : D2 := fun x y M P => ∃ ds i v, x = .lst ds ∧ y = .int i ∧ (0 ≤ i ∧ ds[i.toNat]? = some v) ∧ P v M
@[simp] def oIxT : D2 := fun x y M P => ∃ ds i v, x = .tup ds ∧ y = .int i ∧ (0 ≤ i ∧ ds[i.toNat]? = some v) ∧ P v M
theorem at_in {as : List Addr} {L : Hp} {xs : List V} {ds : List D} {i : Int} {d : D} (r : RpA K as L xs ds) (h : 0 ≤ i ∧ ds[i.toNat]? = some d) : ∃ v, atI xs i = some v ∧ Rp K as L v d := by
  obtain ⟨v, h1, h2⟩ := r.get h.2
  exact ⟨v, at_of (by omega) h1, h2⟩
theorem sr_ixL : SimR K (rIxL K) oIxL := by
  intro as L H M x y d e P Q A r1 r2 ⟨ds, i, v, h1, h2, h3, p⟩ q
  subst h1; subst h2
  cases r2
  cases r1 with
  | lst hs ra =>
    obtain ⟨z, h4, h5⟩ := at_in ra h3
    exact ⟨_, _, i, z, rfl, rfl, ex_l A.low hs, h4, q _ _ L H M .refl A p h5⟩
theorem sr_ixT : SimR K (rIxT K) oIxT := by
  intro as L H M x y d e P Q A r1 r2 ⟨ds, i, v, h1, h2, h3, p⟩ q
  subst h1; subst h2
  cases r2
  cases r1 with
  | tup hs ra =>
    obtain ⟨z, h4, h5⟩ := at_in ra h3
    exact ⟨_, _, i, z, rfl, rfl, ex_t A.low hs, h4, q _ _ L H M .refl A p h5⟩
@[simp] def oLen : DC := fun xs M P => ∃ ds, (xs = [.lst ds] ∨ xs = [.tup ds]) ∧ P (.int ds.length) M
theorem sc_len : SimC K (fun xs H Q => ∃ p ys, xs = [.ref p] ∧ (SqL K H p ys ∨ SqT K H p ys) ∧ Q (.int ys.length) H) oLen := by
  intro as L H M xs ds P Q A r ⟨es, h, p⟩ q
  rcases h with h | h
  · subst h
    cases r with
    | cons r1 r2 =>
      cases r2
      cases r1 with
      | lst hs ra =>
        refine ⟨_, _, rfl, .inl (ex_l A.low hs), ?_⟩
        rw [ra.length]
        exact q _ _ L H M .refl A p (.int _)
  · subst h
    cases r with
    | cons r1 r2 =>
      cases r2
      cases r1 with
      | tup hs ra =>
        refine ⟨_, _, rfl, .inr (ex_t A.low hs), ?_⟩
        rw [ra.length]
        exact q _ _ L H M .refl A p (.int _)
theorem RpA.ints {as : List Addr} {L : Hp} : ∀ {xs : List V} {ns : List Int}, RpA K as L xs (ns.map D.int) → xs = ns.map V.int
  | _, [], .nil => rfl
  | [], _ :: _, h => by cases h
  | x :: xs, n :: ns, .cons r t => by
    cases r
    rw [RpA.ints t]
    rfl
theorem RpA.bls {as : List Addr} {L : Hp} : ∀ {xs : List V} {bs : List Bool}, RpA K as L xs (bs.map D.bl) → xs = bs.map V.bl
  | _, [], .nil => rfl
  | [], _ :: _, h => by cases h
  | x :: xs, n :: ns, .cons r t => by
    cases r
    rw [RpA.bls t]
    rfl
@[simp] def oSum : DC := fun xs M P => ∃ ns : List Int, xs = [.lst (ns.map D.int)] ∧ P (.int ns.sum) M
theorem sc_sum : SimC K (rSum K) oSum := by
  intro as L H M xs ds P Q A r ⟨ns, h, p⟩ q
  subst h
  cases r with
  | cons r1 r2 =>
    cases r2
    cases r1 with
    | lst hs ra =>
      have e := ra.ints
      subst e
      exact ⟨_, ns, rfl, ex_l A.low hs, q _ _ L H M .refl A p (.int _)⟩
@[simp] def oAll : DC := fun xs M P => ∃ bs : List Bool, xs = [.lst (bs.map D.bl)] ∧ P (.bl (bs.all id)) M
@[simp] def oAny : DC := fun xs M P => ∃ bs : List Bool, xs = [.lst (bs.map D.bl)] ∧ P (.bl (bs.any id)) M
theorem sc_all : SimC K (rAll K) oAll := by
  intro as L H M xs ds P Q A r ⟨ns, h, p⟩ q
  subst h
  cases r with
  | cons r1 r2 =>
    cases r2
    cases r1 with
    | lst hs ra =>
      have e := ra.bls
      subst e
      exact ⟨_, ns, rfl, ex_l A.low hs, q _ _ L H M .refl A p (.bl _)⟩
@[simp] def oInt : DC := fun xs M P => (∃ i, xs = [.int i] ∧ P (.int i) M) ∨ ∃ b, xs = [.bl b] ∧ P (.int (if b then 1 else 0)) M
theorem sc_int : SimC K (fun xs H Q => (∃ i, xs = [.int i] ∧ Q (.int i) H) ∨ ∃ k, xs = [.bl k] ∧ Q (.int (if k then 1 else 0)) H) oInt := by
  intro as L H M xs ds P Q A r h q
  rcases h with ⟨i, h, p⟩ | ⟨b, h, p⟩
  · subst h
    cases r with
    | cons r1 r2 => cases r2; cases r1; exact .inl ⟨i, rfl, q _ _ L H M .refl A p (.int _)⟩
  · subst h
    cases r with
    | cons r1 r2 => cases r2; cases r1; exact .inr ⟨b, rfl, q _ _ L H M .refl A p (.int _)⟩
@[simp] def oMax : DC := fun xs M P => ∃ i j, xs = [.int i, .int j] ∧ P (.int (if j > i then j else i)) M
@[simp] def oMin : DC := fun xs M P => ∃ i j, xs = [.int i, .int j] ∧ P (.int (if j < i then j else i)) M
theorem sc_max : SimC K (fun xs H Q => ∃ i j, xs = [.int i, .int j] ∧ Q (.int (if j > i then j else i)) H) oMax := by
  intro as L H M xs ds P Q A r ⟨i, j, h, p⟩ q
  subst h
  cases r with
  | cons r1 r2 => cases r1; cases r2 with | cons r3 r4 => cases r3; cases r4; exact ⟨i, j, rfl, q _ _ L H M .refl A p (.int _)⟩
theorem sc_min : SimC K (fun xs H Q => ∃ i j, xs = [.int i, .int j] ∧ Q (.int (if j < i then j else i)) H) oMin := by
  intro as L H M xs ds P Q A r ⟨i, j, h, p⟩ q
  subst h
  cases r with
  | cons r1 r2 => cases r1; cases r2 with | cons r3 r4 => cases r3; cases r4; exact ⟨i, j, rfl, q _ _ L H M .refl A p (.int _)⟩
end
end Pd
set_option Elab.async false
set_option linter.all false
set_option maxRecDepth 100000
namespace Pd
open PySem PySem.Spec PyProof.Rows L2
theorem At.lst {K : PySem.W.Frag} {as : List Addr} {M : Ms} {L H : Hp} {k : Nat} {a : Addr} {ds : List D} (A : At K as M L H) (h : as[k]? = some a) (hm : M[k]? = some (.lst ds)) : ∃ xs, H a = some (.lst xs) ∧ RpA K as L xs ds := by
  obtain ⟨_, o, h1, h2, _⟩ := A.mo k a _ h hm
  cases h2 with
  | lst r => exact ⟨_, h1, r⟩
theorem At.ins {K : PySem.W.Frag} {as : List Addr} {M : Ms} {L H : Hp} {k : Nat} {a C : Addr} {gs : List (Str × D)} (A : At K as M L H) (h : as[k]? = some a) (hm : M[k]? = some (.ins C gs)) : ∃ dx fs, H a = some (.ins C dx fs) ∧ RpF K as L fs gs := by
  obtain ⟨_, o, h1, h2, _⟩ := A.mo k a _ h hm
  cases h2 with
  | ins r => exact ⟨_, _, h1, r⟩
/-- the k-th object is changed -/
theorem At.put {K : PySem.W.Frag} {as : List Addr} {M : Ms} {L H : Hp} {k : Nat} {a : Addr} {o : HO} {m : MO} (A : At K as M L H) (h : as[k]? = some a) (r : Ro K as L o m) (tb : TabOk (upd H a o) a o m := by trivial) : At K as (M.set k m) L (upd H a o) := by
  have hk : k < as.length := (List.getElem?_eq_some_iff.mp h).1
  have hl := A.held (List.mem_of_getElem? h)
  have kc : KeepC H (upd H a o) := by
    have hk2 : k < M.length := by rw [← A.len]; exact hk
    obtain ⟨_, u, h2, h3, _⟩ := A.mo k a _ h (List.getElem?_eq_getElem hk2)
    exact KeepC.over h2 h3.noExt
  refine ⟨fun b u e => ?_, by rw [List.length_set]; exact A.len, A.nd, fun j b m' e1 e2 => ?_, A.nt⟩
  · have : b ≠ a := fun z => by rw [z, hl.1] at e; cases e
    rw [upd_ne this]; exact A.low b u e
  · by_cases hj : j = k
    · subst hj
      rw [h] at e1
      cases e1
      rw [List.getElem?_set, if_pos rfl] at e2
      split at e2
      · cases e2; exact ⟨hl.1, o, upd_same, r, tb⟩
      · cases e2
    · rw [List.getElem?_set, if_neg (fun z => hj z.symm)] at e2
      obtain ⟨h3, o', h4, h5⟩ := A.mo j b m' e1 e2
      have hb : b ≠ a := fun z => by
        subst z
        have := (List.getElem?_inj (List.getElem?_eq_some_iff.mp e1).1 A.nd).mp (e1.trans h.symm)
        exact hj this
      exact ⟨h3, o', by rw [upd_ne hb]; exact h4, h5.1, h5.2.keep kc⟩
theorem Step.put {as : List Addr} {L H : Hp} {a : Addr} {o : HO} (h : a ∈ as) : Step as L H as L (upd H a o) :=
  ⟨fun b u hb e => by rw [upd_ne (fun z => hb (by rw [z]; exact h))]; exact e, Ex.refl _, fun _ e _ => e, Pre.refl _, fun _ e => .inl e⟩
section
variable {K : PySem.W.Frag}
@[simp] def oIxM : D2 := fun x y M P => ∃ k ds i v, x = .mu k ∧ y = .int i ∧ M[k]? = some (.lst ds) ∧ (0 ≤ i ∧ ds[i.toNat]? = some v) ∧ P v M
theorem sr_ixM : SimR K (rIxL K) oIxM := by
  intro as L H M x y d e P Q A r1 r2 ⟨k, ds, i, v, h1, h2, hm, h3, p⟩ q
  subst h1; subst h2
  cases r2
  cases r1 with
  | mu hs =>
    obtain ⟨xs, h4, ra⟩ := A.lst hs hm
    obtain ⟨z, h5, h6⟩ := at_in ra h3
    exact ⟨_, xs, i, z, rfl, rfl, .inl (.inl h4), h5, q _ _ L H M .refl A p h6⟩
end
section
variable {X : Cx} {a b c e o i value : Expr} {es : List Expr} {t ta tb tc to ti tv : DE} {tl : DA} {pos pos' : Pos}
/-- o[i] = e, o a changeable list -/
@[simp] def sSetI (to ti te : DE) : DS := fun De ρ M => te ρ M fun v M1 => to ρ M1 fun x M2 => ti ρ M2 fun y M3 => ∃ k ds i, x = .mu k ∧ y = .int i ∧ M3[k]? = some (.lst ds) ∧ (0 ≤ i ∧ i.toNat < ds.length) ∧ De.nx ρ (M3.set k (.lst (ds.set i.toNat v)))
theorem RpA.set {K : PySem.W.Frag} {as : List Addr} {L : Hp} {v : V} {d : D} (r : Rp K as L v d) : ∀ {xs : List V} {ds : List D} (i : Nat), RpA K as L xs ds → RpA K as L (xs.set i v) (ds.set i d)
  | _, _, _, .nil => .nil
  | _, _, 0, .cons _ t => .cons r t
  | _, _, i + 1, .cons q t => .cons q (RpA.set r i t)
theorem pds_setItem (he : PD X value tv) (ho : PD X o to) (hi : PD X i ti) (ha : ∀ v, assign (.Subscript o i pos') X.env v = (do
      let ov ← holding [v] (eval o X.env)
      let iv ← holding [v, ov] (eval i X.env)
      standAt pos'
      holding [v, ov, iv] (setItem ov iv v)
      release [v, ov, iv] []) := by intro _; rfl) (hs : swapsWithSole [.Subscript o i pos'] value pos.line X.env = pure false := by rfl) (hw : swappedStores [.Subscript o i pos'] value X.env = pure none := by rfl)
    (h1 : (assignEach [.Subscript o i pos'] X.env).map (·.2) = [assign (.Subscript o i pos') X.env] := by rfl) : PDS X (.Assign [.Subscript o i pos'] value pos) (sSetI to ti tv) := by
  obtain ⟨u, p, s⟩ := he.ex
  obtain ⟨u1, p1, s1⟩ := ho.ex
  obtain ⟨u2, p2, s2⟩ := hi.ex
  refine ⟨_, ps_asg p (pg_sub p1 p2 set_list ha) hs hw h1, ?_⟩
  intro as σ ρ L H M De D hE A h c
  refine s as σ ρ L H M _ _ hE A h fun v d L1 H1 M1 t1 A1 h1 r1 => ?_
  refine s1 as σ ρ L1 H1 M1 _ _ (hE.mono t1.k t1.pre) A1 h1 fun x d2 L2 H2 M2 t2 A2 h2 r2 => ?_
  refine s2 as σ ρ L2 H2 M2 _ _ (hE.mono (t1.k.trans t2.k) (Pre.refl _)) A2 h2 fun y d3 L3 H3 M3 t3 A3 h3 r3 => ?_
  obtain ⟨k, ds, i, rfl, rfl, hm, hi, p⟩ := h3
  cases r3
  cases r2 with
  | mu hk =>
    obtain ⟨xs, g1, g2⟩ := A3.lst hk hm
    refine ⟨_, xs, i, i.toNat, rfl, rfl, g1, ?_, ?_⟩
    · unfold ixN
      rw [if_pos hi.1, if_pos (by rw [g2.length]; omega)]
    · have r1' := r1.mono (t2.k.trans t3.k) (Pre.refl as)
      refine c.nx σ ρ L3 _ _ ((t1.trans A1 (t2.trans A2 t3)).trans A3 (Step.put (List.mem_of_getElem? hk))) (A3.put hk (.lst (g2.set r1' _))) (hE.mono (t1.k.trans (t2.k.trans t3.k)) (Pre.refl _)) p
theorem pd_glob {x : Str} {v : V} {u : Value} {d : D} (hg : Gl X x) (hm : X.mg x = some u) (r : RelV v u) (hd : ∀ as L, Rp X.K as L v d) (hdb : (x == ("__debug__" : Str)) = false := by decide) : PD X (.Name x pos) (dC d) :=
  ⟨_, pe_glob hg hm r hdb, fun as σ ρ L H M P Q hE A p q => q _ _ L H M .refl A p (hd as L)⟩
theorem pd_bltn {x : Str} {v : V} {u : Value} {d : D} (hg : Gl X x) (hm : X.mg x = none) (hv : bootBuiltins x = some u) (r : RelV v u) (hd : ∀ as L, Rp X.K as L v d) (hn : x ≠ "__name__" := by decide) (hdb : (x == ("__debug__" : Str)) = false := by decide) : PD X (.Name x pos) (dC d) :=
  ⟨_, pe_bltn hg hm hv r hn hdb, fun as σ ρ L H M P Q hE A p q => q _ _ L H M .refl A p (hd as L)⟩
/-- what isinstance asks of an own class -/
structure ClsI (K : PySem.W.Frag) (C : Addr) : Prop where
  cl : Cls K C
  ha : PySem.W.findIn K (.ref C) "__class__" = some (some (.builtin "object.__class__"))
  hn : PySem.W.specialIn K (.builtin "object.__class__") "__get__" = some (some (.builtin "getset_descriptor.__get__"))
  htk : PySem.W.takesIn K (.builtin "object.__class__") = some true
  hm : PySem.W.mroIn K C (.type "object") = some true
/-- the type of data -/
inductive DTy (K : PySem.W.Frag) : D → Value → Prop
  | non : DTy K .non (.type "NoneType")
  | bl (b : Bool) : DTy K (.bl b) (.type "bool")
  | int (i : Int) : DTy K (.int i) (.type "int")
  | str (x : Str) : DTy K (.str x) (.type "str")
  | lst (ds : List D) : DTy K (.lst ds) (.type "list")
  | tup (ds : List D) : DTy K (.tup ds) (.type "tuple")
  | ins {C : Addr} {fs : List (Str × D)} (h : ClsI K C) : DTy K (.ins C fs) (.ref C)
  | dic (ks : List Key) (ds : List D) : DTy K (.dic ks ds) (.type "dict")
  | tfz (ns : List Int) : DTy K (.tfz ns) (.type "tuple")
  | tnw (ns : List Int) : DTy K (.tnw ns) (.type "tuple")
inductive DCl : D → V → Value → Prop
  | ty (n : String) : DCl (.ty n) (.ty n) (.type n)
  | ob (C : Addr) : DCl (.ob C) (.ref C) (.ref C)
theorem DTy.ty {K : PySem.W.Frag} {as : List Addr} {M : Ms} {L H : Hp} {v : V} {d : D} {t : Value} (A : At K as M L H) (r : Rp K as L v d) (h : DTy K d t) : TyX K H v t := by
  cases h with
  | non => cases r; exact .base .non
  | bl b => cases r; exact .base (.bl b)
  | int b => cases r; exact .base (.int b)
  | str b => cases r; exact .base (.str b)
  | lst ds =>
    cases r with
    | lst hs _ =>
      rcases ex_l A.low hs with (h | ⟨o, h⟩) | ⟨o, its, n, h1, h2, _⟩
      · exact .base (.lst h)
      · exact .base (.frz h)
      · exact .kList h1 h2
  | tup ds =>
    cases r with
    | tup hs _ =>
      rcases ex_t A.low hs with (h | ⟨o, h⟩) | ⟨o, its, n, h1, h2, _⟩
      · exact .base (.tup h)
      · exact .fTuple h
      · exact .kTuple h1 h2
  | ins h =>
    cases r with
    | ins hs _ => exact .base (.ins (A.low _ _ hs) h.cl h.ha h.hn h.htk h.hm)
  | dic ks ds =>
    cases r with
    | dic hs _ _ =>
      rcases ex_rd A.low (.inr hs) with h | ⟨o, h⟩
      · exact .base (.dK h)
      · exact .fDict h
  | tfz ns =>
    cases r with
    | tfz h => obtain ⟨o, h, _⟩ := h; exact .fTuple (A.low _ _ h)
  | tnw ns =>
    cases r with
    | tnw h => exact .base (.tup (A.low _ _ h))
@[simp] def oIsi (K : PySem.W.Frag) : DC := fun xs M P => ∃ x c t v u b, xs = [x, c] ∧ DTy K x t ∧ DCl c v u ∧ PySem.W.kitOne K t u = some b ∧ P (.bl b) M
theorem sc_isi {K : PySem.W.Frag} : SimC K (rIsi K) (oIsi K) := by
  intro as L H M xs ds P Q A r ⟨x, c, t, v, u, b, h, ht, hc, hk, p⟩ q
  subst h
  cases r with
  | cons r1 r2 =>
    cases r2 with
    | cons r3 r4 =>
      cases r4
      cases hc with
      | ty n => cases r3; exact ⟨_, _, t, _, b, rfl, .ty n, DTy.ty A r1 ht, hk, q _ _ L H M .refl A p (.bl b)⟩
      | ob C => cases r3; exact ⟨_, _, t, _, b, rfl, .own C, DTy.ty A r1 ht, hk, q _ _ L H M .refl A p (.bl b)⟩
/-- isinstance(e, (T1, T2)) -/
@[simp] def dIsi2 (K : PySem.W.Frag) (te : DE) (n1 n2 : String) : DE := fun ρ M P => te ρ M fun x M1 => ∃ t b, DTy K x t ∧ PySem.W.kitAny K t [.type n1, .type n2] = some b ∧ P (.bl b) M1
theorem pd_isi2 {n1 n2 : Str} {T1 T2 : String} {p p1 p2 tp : Pos} {k : Nat} {te : DE} (hg : Gl X "isinstance") (hm : X.mg "isinstance" = none) (he : PD X e te) (g1 : Gl X n1) (m1 : X.mg n1 = none) (v1 : bootBuiltins n1 = some (.type T1)) (g2 : Gl X n2) (m2 : X.mg n2 = none) (v2 : bootBuiltins n2 = some (.type T2))
    (d1 : n1 ≠ "__name__" := by decide) (d2 : n2 ≠ "__name__" := by decide) (e1 : (n1 == ("__debug__" : Str)) = false := by decide) (e2 : (n2 == ("__debug__" : Str)) = false := by decide)
    (hs1 : starEach [e, .Tuple [.Name n1 p1, .Name n2 p2] k tp] X.env = (false, eval e X.env) :: starEach [.Tuple [.Name n1 p1, .Name n2 p2] k tp] X.env := by rfl) (hs2 : starEach [.Tuple [.Name n1 p1, .Name n2 p2] k tp] X.env = (false, eval (.Tuple [.Name n1 p1, .Name n2 p2] k tp) X.env) :: starEach [] X.env := by rfl)
    (hs3 : starEach [.Name n1 p1, .Name n2 p2] X.env = (false, eval (.Name n1 p1) X.env) :: starEach [.Name n2 p2] X.env := by rfl) (hs4 : starEach [.Name n2 p2] X.env = (false, eval (.Name n2 p2) X.env) :: starEach [] X.env := by rfl)
    (hpl : (backTo pos (starEach [.Tuple [.Name n1 p1, .Name n2 p2] k tp] X.env)).any (·.1) = false := by rfl) (hb : bootBuiltins "isinstance" = some (.builtin "isinstance") := by decide +kernel) :
    PD X (.Call (.Name "isinstance" p) [e, .Tuple [.Name n1 p1, .Name n2 p2] k tp] [] pos) (dIsi2 X.K te T1 T2) := by
  obtain ⟨u, pe, s⟩ := he.ex
  refine ⟨_, pe_callB call_isiT hg hm hb (pa_cons pe (pa_cons (pe_tup (pa_cons (pe_bltn (v := .ty T1) g1 m1 v1 rfl d1 e1) (pa_cons (pe_bltn (v := .ty T2) g2 m2 v2 rfl d2 e2) pa_nil hs4) hs3)) pa_nil hs2) hs1) (by decide) (by decide) hs1 hpl, ?_⟩
  intro as σ ρ L H M P Q hE A h q
  refine s as σ ρ L H M _ _ hE A h fun v d L1 H1 M1 s1 A1 h1 r1 => ?_
  obtain ⟨t, b, ht, hk, p⟩ := h1
  refine ⟨by show 2 ≤ sizeLine; decide, fun pT hT => ?_⟩
  have A2 := A1.know (o := .tup [.ty T1, .ty T2]) hT
  have s2 := Step.know (o := .tup [.ty T1, .ty T2]) A1 hT
  exact ⟨v, pT, _, t, _, b, rfl, upd_same, .cons (.ty T1) (.cons (.ty T2) .nil), DTy.ty A2 (r1.mono s2.k (Pre.refl _)) ht, hk, q _ _ _ _ M1 (s1.trans A1 s2) A2 p (.bl b)⟩
@[simp] def dFld (K : PySem.W.Frag) (t : DE) (f : Str) : DE := fun ρ M P => t ρ M fun x M1 => ∃ C fs v, x = .ins C fs ∧ Cls K C ∧ NoAttr K C f ∧ fs.lookup f = some v ∧ P v M1
theorem pd_fld {f : Str} (he : PD X e t) (hb : attributeBase e f X.env (eval e X.env) = eval e X.env := by rfl) : PD X (.Attribute e f pos) (dFld X.K t f) := by
  obtain ⟨u, p, s⟩ := he.ex
  refine ⟨_, pe_fld p hb, ?_⟩
  intro as σ ρ L H M P Q hE A h q
  refine s as σ ρ L H M _ _ hE A h fun v d L1 H1 M1 s1 A1 h1 r1 => ?_
  obtain ⟨C, fs, w, rfl, c, n, hl, p⟩ := h1
  cases r1 with
  | ins hs rf =>
    obtain ⟨z, h2, h3⟩ := rf.look hl
    exact ⟨_, C, _, _, z, rfl, A1.low _ _ hs, c, n, h2, q _ _ L1 H1 M1 s1 A1 p h3⟩
/-- a property -/
@[simp] def dProp (C : Addr) (W : DC) (t : DE) : DE := fun ρ M P => t ρ M fun x M1 => ∃ fs, x = .ins C fs ∧ W [x] M1 P
theorem pd_prop {C p g : Addr} {k : Nat} {f : Str} {fd : FuncData} {ps : List Str} {W : DC} (he : PD X e t) (c : Cls X.K C) (hp : PropOf X.K C f p g) (F : FnOk X.prog X.w X.K X.mg X.base CX0 k g fd ps (spD 1 W X.K)) (hr : Room (k + 1) X.A) (hb : Binds X.K fd ps [])
    (hab : attributeBase e f X.env (eval e X.env) = eval e X.env := by rfl) : PD X (.Attribute e f pos) (dProp C W t) := by
  obtain ⟨u, pp, s⟩ := he.ex
  refine ⟨_, pe_prop pp c hp F hr hb .nil (E := E0) (pass0 (X := X.nox)) hab, ?_⟩
  intro as σ ρ L H M P Q hE A h q
  refine s as σ ρ L H M _ _ hE A h fun v d L1 H1 M1 s1 A1 h1 r1 => ?_
  obtain ⟨fs, rfl, hw⟩ := h1
  have r1' := r1
  cases r1 with
  | ins hs rf => exact ⟨_, _, _, rfl, A1.low _ _ hs, rfl, as, M1, L1, _, P, .cons r1' .nil, A1, hw, fun v z L2 H2 M2 s2 A2 h2 r2 => q v z L2 H2 M2 (s1.trans A1 s2) A2 h2 r2⟩
mutual
/-- the k-th changeable object is not within -/
def apart (k : Nat) : D → Bool
  | .lst ds => apartA k ds | .tup ds => apartA k ds | .ins _ fs => apartF k fs | .exc _ fs => apartF k fs | .dic _ ds => apartA k ds | .dit _ ds => apartA k ds | .dx _ ds => apartA k ds | .mu j => decide (j < k)
  | _ => true
def apartA (k : Nat) : List D → Bool
  | [] => true
  | d :: ds => apart k d && apartA k ds
def apartF (k : Nat) : List (Str × D) → Bool
  | [] => true
  | (_, d) :: fs => apart k d && apartF k fs
end
def apartM (k : Nat) (M : Ms) : Bool := M.all fun m => match m with
  | .lst ds => apartA k ds
  | .ins _ fs => apartF k fs
  | .tab _ _ => true
  | .dic _ ds => apartA k ds
  | .dit _ ds => apartA k ds
section
variable {K : PySem.W.Frag} {as : List Addr} {x : Addr} {L : Hp}
mutual
theorem Rp.cut : ∀ {v : V} {d : D}, Rp K (as ++ [x]) L v d → apart as.length d = true → Rp K as L v d
  | _, _, .non, _ => .non
  | _, _, .bl b, _ => .bl b
  | _, _, .int i, _ => .int i
  | _, _, .str z, _ => .str z
  | _, _, .lst h r, p => .lst h (RpA.cut r p)
  | _, _, .tup h r, p => .tup h (RpA.cut r p)
  | _, _, .ins h r, p => .ins h (RpF.cut r p)
  | _, _, .mu (k := k) h, p => .mu (by rw [List.getElem?_append_left (of_decide_eq_true p)] at h; exact h)
  | _, _, .ob a, _ => .ob a
  | _, _, .ty n, _ => .ty n
  | _, _, .exc h1 h2 r, p => .exc h1 h2 (RpF.cut r p)
  | _, _, .exc0 h, _ => .exc0 h
  | _, _, .dic h l r, p => .dic h l (RpA.cut r p)
  | _, _, .dit h l r, p => .dit h l (RpA.cut r p)
  | _, _, .tfz h, _ => .tfz h
  | _, _, .tnw h, _ => .tnw h
  | _, _, .dx h o k v r, p => .dx h o k v (RpA.cut r p)
theorem RpA.cut : ∀ {vs : List V} {ds : List D}, RpA K (as ++ [x]) L vs ds → apartA as.length ds = true → RpA K as L vs ds
  | _, _, .nil, _ => .nil
  | _, _, .cons r t, p => .cons (Rp.cut r (Bool.and_eq_true_iff.mp p).1) (RpA.cut t (Bool.and_eq_true_iff.mp p).2)
theorem RpF.cut : ∀ {fs : List (Str × V)} {gs : List (Str × D)}, RpF K (as ++ [x]) L fs gs → apartF as.length gs = true → RpF K as L fs gs
  | _, _, .nil, _ => .nil
  | _, _, .cons r t, p => .cons (Rp.cut r (Bool.and_eq_true_iff.mp p).1) (RpF.cut t (Bool.and_eq_true_iff.mp p).2)
end
end
theorem pre_app (as : List Addr) (x : Addr) : Pre as (as ++ [x]) := fun k a h => by
  rw [List.getElem?_append_left (List.getElem?_eq_some_iff.mp h).1]
  exact h
/-- C(e, ..): __init__ is given the new instance as the last changeable object -/
@[simp] def dMake (C : Addr) (n : Nat) (W : DC) (tl : DA) : DE := fun ρ M P => tl ρ M fun ds M1 => ds.length + 1 = n ∧ W (.mu M1.length :: ds) (M1 ++ [.ins C []]) fun d M2 => ∃ M3 fs, d = .non ∧ M2 = M3 ++ [.ins C fs] ∧ M3.length = M1.length ∧ apartF M1.length fs = true ∧ apartM M1.length M3 = true ∧ P (.ins C fs) M3
theorem sim_make {K : PySem.W.Frag} {C : Addr} {n : Nat} {W : DC} {u : TA} {E : XK} (s : SimA K u tl) : SimE K (tMake C (spD n W K) [] E u) (dMake C n W tl) := by
  intro as σ ρ L H M P Q hE A h q
  refine s as σ ρ L H M _ _ hE A h fun vs ds L1 H1 M1 s1 A1 h1 r1 => ?_
  intro x dx hx hdx hne
  obtain ⟨hn, hw⟩ := h1
  rw [List.append_nil]
  have xa : x ∉ as := fun z => (A1.held z).2 hx
  have lx : L1 x = none := lowfree A1 hx
  have e0 : ∀ b o, H1 b = some o → (upd (upd H1 dx (.own x)) x (.ins C dx [])) b = some o := fun b o e => by
    rw [upd_ne (ne_of_none e hx), upd_ne (ne_of_none e hdx)]
    exact e
  have A2 : At K (as ++ [x]) (M1 ++ [.ins C []]) L1 (upd (upd H1 dx (.own x)) x (.ins C dx [])) := by
    refine ⟨fun b o e => e0 b o (A1.low b o e), by rw [List.length_append, List.length_append, A1.len]; rfl, ?_, fun k a m g1 g2 => ?_, A1.nt⟩
    · rw [List.nodup_append]
      refine ⟨A1.nd, by simp, fun a ha b hb => ?_⟩
      rw [List.mem_singleton] at hb
      subst hb
      exact fun z => xa (z ▸ ha)
    · by_cases hk : k < as.length
      · rw [List.getElem?_append_left hk] at g1
        rw [List.getElem?_append_left (by rw [← A1.len]; exact hk)] at g2
        obtain ⟨h3, o, h4, h5⟩ := A1.mo k a m g1 g2
        exact ⟨h3, o, e0 a o h4, h5.1.mono (Ex.refl _) (pre_app _ _), h5.2.keep (KeepC.of e0)⟩
      · have e : k = as.length := by
          have := (List.getElem?_eq_some_iff.mp g1).1
          rw [List.length_append] at this
          simp only [List.length_cons, List.length_nil] at this
          omega
        subst e
        rw [List.getElem?_append_right (Nat.le_refl _), Nat.sub_self] at g1
        rw [A1.len, List.getElem?_append_right (Nat.le_refl _), Nat.sub_self] at g2
        cases g1
        cases g2
        exact ⟨lx, _, upd_same, .ins .nil, trivial⟩
  refine ⟨by rw [List.length_cons, r1.length]; exact hn, as ++ [x], M1 ++ [.ins C []], L1, _, _, .cons (.mu ?_) (r1.mono (Ex.refl _) (pre_app _ _)), A2, hw, fun v d L3 H3 M3 s3 A3 h3 r3 => ?_⟩
  · rw [← A1.len, List.getElem?_append_right (Nat.le_refl _), Nat.sub_self]
    rfl
  · obtain ⟨M4, fs, rfl, rfl, hl4, hap, hapM, p⟩ := h3
    cases r3
    refine ⟨rfl, ?_⟩
    have gx : (as ++ [x])[as.length]? = some x := by rw [List.getElem?_append_right (Nat.le_refl _), Nat.sub_self]; rfl
    have gm : (M4 ++ [MO.ins C fs])[as.length]? = some (.ins C fs) := by rw [A1.len, ← hl4, List.getElem?_append_right (Nat.le_refl _), Nat.sub_self]; rfl
    obtain ⟨dx', fv, g1, g2⟩ := A3.ins gx gm
    have g3 : RpF K as L3 fv fs := g2.cut (by rw [A1.len]; exact hap)
    have lx3 : L3 x = none := s3.hid x lx (by rw [upd_same]; simp)
    -- the instance is known for good
    have A4 : At K as M4 (upd L3 x (.ins C dx' fv)) H3 := by
      refine ⟨fun b o e => ?_, by rw [hl4]; exact A1.len, A1.nd, fun k a m e1 e2 => ?_, A3.nt.new (fun ps z => by cases z)⟩
      · by_cases hb : b = x
        · subst hb; rw [upd_same] at e; cases e; exact g1
        · rw [upd_ne hb] at e; exact A3.low b o e
      · have hk : k < as.length := (List.getElem?_eq_some_iff.mp e1).1
        obtain ⟨h5, o, h6, h7⟩ := A3.mo k a m (by rw [List.getElem?_append_left hk]; exact e1) (by rw [List.getElem?_append_left (by rw [hl4, ← A1.len]; exact hk)]; exact e2)
        have hax : a ≠ x := fun z => xa (by rw [← z]; exact List.mem_of_getElem? e1)
        refine ⟨by rw [upd_ne hax]; exact h5, o, h6, ?_, h7.2⟩
        have hm := List.all_eq_true.mp hapM m (List.mem_of_getElem? e2)
        cases h7.1 with
        | lst r => exact .lst ((r.cut (by rw [A1.len]; exact hm)).mono (Ex.new lx3) (Pre.refl _))
        | ins r => exact .ins ((r.cut (by rw [A1.len]; exact hm)).mono (Ex.new lx3) (Pre.refl _))
        | tab => exact .tab
        | dic l r => exact .dic l ((r.cut (by rw [A1.len]; exact hm)).mono (Ex.new lx3) (Pre.refl _))
        | dit l r => exact .dit l ((r.cut (by rw [A1.len]; exact hm)).mono (Ex.new lx3) (Pre.refl _))
    have s4 : Step as L1 H1 as (upd L3 x (.ins C dx' fv)) H3 := by
      refine ⟨fun b o hb e => ?_, fun b o e => ?_, fun b e e' => ?_, Pre.refl _, fun _ e => .inl e⟩
      · have hbx : b ≠ x := ne_of_none e hx
        refine s3.up b o (fun z => ?_) (e0 b o e)
        rcases List.mem_append.mp z with z | z
        · exact hb z
        · exact hbx (List.mem_singleton.mp z)
      · rw [upd_ne (fun z => by rw [z, lx] at e; cases e)]; exact s3.k b o e
      · have hbx : b ≠ x := fun z => e' (by rw [z]; exact hx)
        rw [upd_ne hbx]
        refine s3.hid b e ?_
        cases q2 : H1 b with
        | none => exact absurd q2 e'
        | some o => rw [e0 b o q2]; simp
    exact q _ _ _ H3 M4 (s1.trans A1 s4) A4 p (.ins upd_same (g3.mono (Ex.new lx3) (Pre.refl _)))
end
end Pd
set_option Elab.async false
set_option linter.all false
set_option maxRecDepth 100000
namespace Pd
open PySem PySem.Spec PyProof.Rows L2
abbrev DCN := List D → Ms → (List D → Ms → Prop) → Prop
def spN (n : Nat) (W : DCN) : PySem.W.Frag → Sp := fun K vs H Q _ => vs.length = n ∧ ∃ as M L ds P, RpA K as L vs ds ∧ At K as M L H ∧ W ds M P ∧
  ∀ p xs m L' H' M', Step as L H as L' H' → At K as M' L' H' → H p = none → L' p = none → H' p = some (.lst xs) → RpA K as L' xs m → P m M' → Q (.ref p) H'
section
variable {X : Cx} {e : Expr} {es : List Expr} {t : DE} {tl : DA} {pos p : Pos} {st : Stmt} {sts : List Stmt} {s1 s2 : DS}
/-- the last statement by the layer's own reading -/
theorem sim_then {K : PySem.W.Frag} {ts u : TS} {t : DS} (h : SimS K ts t) {as : List Addr} {σ : L2.St} {ρ : Rho} {L H : Hp} {M : Ms} {nx : Rho → Ms → Prop} {De : DEnds} {D : Ends} (hE : En K as L σ ρ) (A : At K as M L H) (c : Comp K as L H De D)
    (hn : ∀ σ' ρ' L' H' M', Step as L H as L' H' → At K as M' L' H' → En K as L' σ' ρ' → nx ρ' M' → u D σ' H') (ht : t { De with nx := nx } ρ M) : tSeq ts u D σ H :=
  h as σ ρ L H M _ _ hE A ht ⟨hn, c.rt, c.bk, c.ct⟩
def clean (k : Nat) (ρ : Rho) : Rho := ρ.map fun o => match o with
  | some d => if apart k d then some d else none
  | none => none
def cutE (k : Nat) (P : Rho → Ms → Prop) : Rho → Ms → Prop := fun ρ M => ∃ M3 m, M = M3 ++ [m] ∧ M3.length = k ∧ apartM k M3 = true ∧ P (clean k ρ) M3
def cutR (k : Nat) (P : D → Ms → Prop) : D → Ms → Prop := fun d M => ∃ M3 m, M = M3 ++ [m] ∧ M3.length = k ∧ apartM k M3 = true ∧ apart k d = true ∧ P d M3
theorem En.cut {K : PySem.W.Frag} {as : List Addr} {x : Addr} {L : Hp} {σ : L2.St} {ρ : Rho} (h : En K (as ++ [x]) L σ ρ) : En K as L σ (clean as.length ρ) := by
  refine ⟨by unfold clean; rw [List.length_map]; exact h.len, fun i d q => ?_⟩
  unfold clean at q
  rw [List.getElem?_map] at q
  cases e : ρ[i]? with
  | none => rw [e] at q; cases q
  | some o =>
    rw [e] at q
    cases o with
    | none => cases q
    | some d' =>
      have q' : (if apart as.length d' = true then some d' else none) = some d := Option.some.inj q
      by_cases ha : apart as.length d' = true
      · rw [if_pos ha] at q'
        cases q'
        obtain ⟨v, h1, h2⟩ := h.at_ i _ e
        exact ⟨v, h1, h2.cut ha⟩
      · rw [if_neg ha] at q'; cases q'
theorem Ro.cut {K : PySem.W.Frag} {as : List Addr} {x : Addr} {L : Hp} {o : HO} {m : MO} {M : Ms} (r : Ro K (as ++ [x]) L o m) (hm : m ∈ M) (h : apartM as.length M = true) : Ro K as L o m := by
  have hm := List.all_eq_true.mp h m hm
  cases r with
  | lst r => exact .lst (r.cut hm)
  | ins r => exact .ins (r.cut hm)
  | tab => exact .tab
  | dic l r => exact .dic l (r.cut hm)
  | dit l r => exact .dit l (r.cut hm)
theorem At.cut {K : PySem.W.Frag} {as : List Addr} {x : Addr} {M3 : Ms} {m : MO} {L H : Hp} (A : At K (as ++ [x]) (M3 ++ [m]) L H) (h : apartM as.length M3 = true) : At K as M3 L H := by
  have hl : as.length = M3.length := by
    have := A.len
    rw [List.length_append, List.length_append] at this
    simp only [List.length_cons, List.length_nil] at this
    omega
  refine ⟨A.low, hl, (List.nodup_append.mp A.nd).1, fun k a m' e1 e2 => ?_, A.nt⟩
  obtain ⟨h3, o, h4, h5⟩ := A.mo k a m' (by rw [List.getElem?_append_left (List.getElem?_eq_some_iff.mp e1).1]; exact e1) (by rw [List.getElem?_append_left (List.getElem?_eq_some_iff.mp e2).1]; exact e2)
  exact ⟨h3, o, h4, h5.1.cut (List.mem_of_getElem? e2) h, h5.2⟩
theorem At.add {K : PySem.W.Frag} {as : List Addr} {x : Addr} {M : Ms} {L H : Hp} {xs : List V} {ds : List D} (A : At K as M L H) (hx : H x = some (.lst xs)) (lx : L x = none) (xa : x ∉ as) (r : RpA K as L xs ds) : At K (as ++ [x]) (M ++ [.lst ds]) L H := by
  refine ⟨A.low, by rw [List.length_append, List.length_append, A.len]; rfl, ?_, fun k a m g1 g2 => ?_, A.nt⟩
  · rw [List.nodup_append]
    refine ⟨A.nd, by simp, fun a ha b hb => ?_⟩
    rw [List.mem_singleton] at hb
    subst hb
    exact fun z => xa (z ▸ ha)
  · by_cases hk : k < as.length
    · rw [List.getElem?_append_left hk] at g1
      rw [List.getElem?_append_left (by rw [← A.len]; exact hk)] at g2
      obtain ⟨h3, o, h4, h5⟩ := A.mo k a m g1 g2
      exact ⟨h3, o, h4, h5.1.mono (Ex.refl _) (pre_app _ _), h5.2⟩
    · have e : k = as.length := by
        have := (List.getElem?_eq_some_iff.mp g1).1
        rw [List.length_append] at this
        simp only [List.length_cons, List.length_nil] at this
        omega
      subst e
      rw [List.getElem?_append_right (Nat.le_refl _), Nat.sub_self] at g1
      rw [A.len, List.getElem?_append_right (Nat.le_refl _), Nat.sub_self] at g2
      cases g1
      cases g2
      exact ⟨lx, _, hx, .lst (r.mono (Ex.refl _) (pre_app _ _)), trivial⟩
/-- x = f(..), a new list that may be changed in the rest of the block -/
@[simp] def sNewN (i n : Nat) (W : DCN) (tl : DA) (rest : DS) : DS := fun De ρ M => tl ρ M fun ds M1 => ds.length = n ∧ W ds M1 fun m M2 => M2.length = M1.length ∧
  rest { nx := cutE M2.length De.nx, rt := cutR M2.length De.rt, bk := cutE M2.length De.bk, ct := cutE M2.length De.ct } (ρ.set i (some (.mu M2.length))) (M2 ++ [.lst m])
theorem Step.cutx {K : PySem.W.Frag} {as : List Addr} {x : Addr} {M : Ms} {L0 H0 L H L' H' : Hp} (s : Step as L0 H0 as L H) (A : At K as M L H) (hx : H0 x = none) (t : Step (as ++ [x]) L H (as ++ [x]) L' H') : Step as L0 H0 as L' H' := by
  have there : ∀ a, H0 a ≠ none → H a ≠ none := fun a h => by
    by_cases ha : a ∈ as
    · exact (A.held ha).2
    · cases q : H0 a with
      | none => exact absurd q h
      | some o => rw [s.up a o ha q]; simp
  refine ⟨fun a o ha h => ?_, s.k.trans t.k, fun a h h' => t.hid a (s.hid a h h') (there a h'), Pre.refl _, fun _ h => .inl h⟩
  refine t.up a o (fun z => ?_) (s.up a o ha h)
  rcases List.mem_append.mp z with z | z
  · exact ha z
  · rw [List.mem_singleton.mp z, hx] at h; cases h
theorem sim_rest {K : PySem.W.Frag} {ts : TS} {rest : DS} (h : SimS K ts rest) {as : List Addr} {x : Addr} {σ : L2.St} {ρ : Rho} {i : Nat} {L0 H0 L H : Hp} {M : Ms} {m : List D} {xs : List V} {De : DEnds} {D : Ends} (hE : En K as L σ ρ) (A : At K as M L H) (hx : H x = some (.lst xs)) (lx : L x = none) (xa : x ∉ as)
    (r : RpA K as L xs m) (s : Step as L0 H0 as L H) (hx0 : H0 x = none) (c : Comp K as L0 H0 De D) (hr : rest { nx := cutE M.length De.nx, rt := cutR M.length De.rt, bk := cutE M.length De.bk, ct := cutE M.length De.ct } (ρ.set i (some (.mu M.length))) (M ++ [.lst m])) : ts D (σ.set i (some (.ref x))) H := by
  have A2 := A.add hx lx xa r
  have gx : (as ++ [x])[M.length]? = some x := by rw [← A.len, List.getElem?_append_right (Nat.le_refl _), Nat.sub_self]; rfl
  have E2 : En K (as ++ [x]) L (σ.set i (some (.ref x))) (ρ.set i (some (.mu M.length))) := (hE.mono (Ex.refl _) (pre_app _ _)).set i (.mu gx)
  have fin : ∀ {d : Rho → Ms → Prop} {v : L2.St → Hp → Prop}, EndN K as L0 H0 d v → EndN K (as ++ [x]) L H (cutE M.length d) v := by
    intro d v hd σ' ρ' L' H' M' s' A' e' q
    obtain ⟨M3, m', rfl, hl, hap, q⟩ := q
    rw [← A.len] at hap q
    exact hd σ' _ L' H' M3 (s.cutx A hx0 s') (A'.cut hap) e'.cut q
  refine h (as ++ [x]) _ _ L H _ _ D E2 A2 hr ⟨fin c.nx, fun v d L' H' M' s' A' q rv => ?_, fin c.bk, fin c.ct⟩
  obtain ⟨M3, m', rfl, hl, hap, hd, q⟩ := q
  rw [← A.len] at hap hd
  exact c.rt v d L' H' M3 (s.cutx A hx0 s') (A'.cut hap) q (rv.cut hd)
theorem pdss_newN {k i n : Nat} {f : Addr} {fd : FuncData} {ps : List Str} {W : DCN} {x y : Str} {p' cp : Pos} (hN : X.N.Nodup) (F : FnOk X.prog X.w X.K X.mg X.base CX0 k f fd ps (spN n W X.K)) (hr : Room k X.A) (hg : Gl X x) (hm : X.mg x = some (.ref f)) (hk : PySem.W.keepIn X.K (.ref f) = true)
    (hb : Binds X.K fd ps []) (ha : PDA X (e :: es) tl) (hrest : PDSs X sts s2) (hi : X.N[i]? = some y := by rfl) (hy : Loc X.env.scope y := by first | exact Or.inl rfl | exact Or.inr rfl) (hs : swapsWith (.Call (.Name x p) (e :: es) [] cp) (some (.Name y p')) pos.line X.env = pure false := by rfl)
    (hf : X.fn y = true ∨ X.env.scope.names.lookup y = some .local := by first | exact .inl rfl | exact .inr rfl | assumption)
    (hdb : (x == ("__debug__" : Str)) = false := by decide) (he : starEach (e :: es) X.env = (false, eval e X.env) :: starEach es X.env := by rfl) (hpl : (backTo cp (starEach es X.env)).any (·.1) = false := by rfl) :
    PDSs X (.Assign [.Name y p'] (.Call (.Name x p) (e :: es) [] cp) pos :: sts) (sNewN i n W tl s2) := by
  obtain ⟨u, pa, sa⟩ := ha.ex
  obtain ⟨ur, pr, sr⟩ := hrest.ex
  refine ⟨_, pss_cons (ps_set hN hi hy (pe_call F hr hg hm hk hb .nil pass0 pa hdb he hpl) hs hf) pr, ?_⟩
  intro as σ ρ L H M De D hE A h c
  refine sa as σ ρ L H M _ _ hE A h fun vs ds L1 H1 M1 s1 A1 h1 r1 => ?_
  rw [List.append_nil]
  refine ⟨by rw [r1.length]; exact h1.1, as, M1, L1, ds, _, r1, A1, h1.2, fun a xs m L2 H2 M2 s2 A2 ha0 la hx rx hw => ?_⟩
  obtain ⟨hl, hw⟩ := hw
  have an : a ∉ as := fun z => (A1.held z).2 ha0
  have hH : H a = none := by
    cases q : H a with
    | none => rfl
    | some o => rw [s1.up a o an q] at ha0; cases ha0
  exact sim_rest sr (hE.mono ((s1.trans A1 s2).k) (Pre.refl _)) A2 hx la an rx (s1.trans A1 s2) hH c hw
end
end Pd
set_option Elab.async false
set_option linter.all false
set_option maxRecDepth 100000
set_option maxHeartbeats 1000000
namespace Pd
open PySem PySem.Spec PyProof.Rows L2
@[simp] def oInD (d : Addr) (f : Int → Option Int) : D2 := fun x y M P => ∃ z, x = .int z ∧ y = .ob d ∧ P (.bl (f z).isSome) M
@[simp] def oIxD (d : Addr) (f : Int → Option Int) : D2 := fun x y M P => ∃ z v, x = .ob d ∧ y = .int z ∧ f z = some v ∧ P (.int v) M
def iSeqH (K : PySem.W.Frag) (tl : TE) : TI := fun σ H R => tl σ H fun x H1 => ∃ a xs, x = .ref a ∧ ((SqL K H1 a xs ∧ R (Itl K a) H1) ∨ (SqT K H1 a xs ∧ R (Itt K a) H1))
section
variable {X : Cx} {tg l e : Expr} {es : List Expr} {pos : Pos} {t : DE} {tl : DA}
theorem pi_seq {tl : TE} (hl : PE X l tl) : PI X tg l (iSeqH X.K tl) := by
  refine ⟨fun pins s σ H R I h => ?_⟩
  refine thn (hl.run pins s σ H _ I h) fun v s1 ⟨x, H1, I1, r1, q1⟩ => ?_
  obtain ⟨a, xs, e, q⟩ := q1
  subst e
  cases r1
  have fr : ∀ b ∈ [s1.heap.objs.size], FpOk X pins H1 b := fun b hb => by
    have e : b = s1.heap.objs.size := by simpa using hb
    subst e
    exact I1.fpOk (Nat.le_refl _) (I1.hok.fresh (Nat.le_refl _))
  rcases q with ⟨hq, q⟩ | ⟨hq, q⟩
  · obtain ⟨its, rv, p, hz⟩ := I1.list hq
    refine wpAny_pyIter_list p.isList ?_
    exact ⟨s1.heap.objs.size, [s1.heap.objs.size], _, _, H1, rfl, I1.kept (t' := s1.toks) fun b o e => Heap.get?_push_of_some _ e, turn_list a _, ⟨_, Heap.get?_push_size _ rfl, rfl, rfl⟩, fr, q⟩
  · obtain ⟨its, rv, p, hz⟩ := I1.tuple hq
    refine wpAny_pyIter_tuple (show s1.heap.IsTuple a its.toArray from p) ?_
    exact ⟨s1.heap.objs.size, [s1.heap.objs.size], _, _, H1, rfl, I1.kept (t' := s1.toks) fun b o e => Heap.get?_push_of_some _ e, turn_tuple a _, ⟨_, Heap.get?_push_size _ rfl, rfl, rfl⟩, fr, q⟩
/-- a list or a tuple, its items -/
def isSeq : D → List D → Prop := fun d ds => d = .lst ds ∨ d = .tup ds
@[simp] def iSeq (t : DE) : DA := fun ρ M P => t ρ M fun d M1 => ∃ ds, isSeq d ds ∧ P ds M1
theorem pdi_seq (h : PD X e t) : PDI X tg e (iSeq t) := by
  obtain ⟨u, p, s⟩ := h.ex
  refine ⟨_, pi_seq p, ?_⟩
  intro as σ ρ L H M P R hE A h q
  refine s as σ ρ L H M _ _ hE A h fun v d L1 H1 M1 s1 A1 h1 r1 => ?_
  obtain ⟨ds, hd, h1⟩ := h1
  rcases hd with rfl | rfl
  · cases r1 with
    | lst hs ra => exact ⟨_, _, rfl, .inl ⟨ex_l A1.low hs, q _ ds L1 H1 M1 s1 A1 h1 (walks_list hs ra)⟩⟩
  · cases r1 with
    | tup hs ra => exact ⟨_, _, rfl, .inr ⟨ex_t A1.low hs, q _ ds L1 H1 M1 s1 A1 h1 (walks_tup hs ra)⟩⟩
@[simp] def oTuple : DC := fun xs M P => ∃ d ds, xs = [d] ∧ isSeq d ds ∧ P (.tup ds) M
theorem sc_tuple {K : PySem.W.Frag} : SimC K (fun xs H Q => ∃ p ys, xs = [.ref p] ∧ ((SqL K H p ys ∧ ∀ l, H l = none → Q (.ref l) (upd H l (.tup ys))) ∨ (SqT K H p ys ∧ Q (.ref p) H))) oTuple := by
  intro as L H M xs ds P Q A r ⟨d, es, h, hd, p⟩ q
  subst h
  cases r with
  | cons r1 r2 =>
    cases r2
    rcases hd with rfl | rfl
    · cases r1 with
      | lst hs ra => exact ⟨_, _, rfl, .inl ⟨ex_l A.low hs, fun l hl => q _ _ _ _ M (Step.know A hl) (A.know hl) p (.tup (.inl (.inl upd_same)) (ra.mono (Ex.new (lowfree A hl)) (Pre.refl _)))⟩⟩
    · cases r1 with
      | tup hs ra => exact ⟨_, _, rfl, .inr ⟨ex_t A.low hs, q _ _ L H M .refl A p (.tup hs ra)⟩⟩
theorem ints_of_vals : ∀ {ns : List Int} {us : List Value}, Vals (ns.map V.int) us → IntsAre us ns := fun h => L2.ints_vals h
end
end Pd
set_option Elab.async false
set_option linter.all false
set_option maxRecDepth 100000
set_option maxHeartbeats 1000000
namespace Pd
open PySem PySem.Spec PyProof.Rows L2
inductive Kd | l | t
def SqK (K : PySem.W.Frag) : Kd → Hp → Addr → List V → Prop
  | .l => SqL K
  | .t => SqT K
def IterK : Kd → Heap → Addr → Addr → Nat → Prop
  | .l => fun h it a i => h.IsListIter it a i
  | .t => fun h it a i => h.IsTupleIter it a i
def SeqAtK : Kd → Heap → Addr → Array Value → Prop
  | .l => fun h a items => h.IsList a items
  | .t => fun h a items => h.IsTuple a items
def itObj : Kd → Addr → Obj
  | .l, a => { cls := .type "list_iterator", data := .fields #[.ref a, .int 0 0] }
  | .t, a => { cls := .type "tuple_iterator", data := .fields #[.ref a, .int 0 0] }
theorem drawsK (k : Kd) {prog : Program} {w : World} {A : Around} (hh : A.handled = none) (it l : Addr) (hne : l ≠ it) (items : Array Value) :
    Draws prog w A it [it, l] items.size (fun i v => items[i]? = some v) (fun i h => IterK k h it l i ∧ SeqAtK k h l items) := by
  cases k with
  | l => exact Draws.list hh it l hne items
  | t => exact Draws.tuple hh it l hne items
theorem beginsK (k : Kd) (a : Addr) (items : Array Value) : Begins (.ref a) (itObj k a) fun h => SeqAtK k h a items := by
  cases k with
  | l => exact begins_list a items
  | t => exact begins_tuple a items
theorem iterK_at {k : Kd} {h h' : Heap} {it a : Addr} {i : Nat} (x : IterK k h it a i) (hk : ∀ o, h.get? it = some o → h'.get? it = some o) : IterK k h' it a i := by
  cases k with
  | l => exact Heap.IsListIter.at x hk
  | t => exact Heap.IsTupleIter.at x hk
theorem iterK_obj {k : Kd} {h : Heap} {it a : Addr} {i : Nat} (x : IterK k h it a i) : ∃ o, h.get? it = some o ∧ ∀ v, o.data ≠ .cell v := by
  cases k with
  | l => obtain ⟨o, e, _, d⟩ := x; exact ⟨o, e, fun v z => by rw [d] at z; cases z⟩
  | t => obtain ⟨o, e, _, d⟩ := x; exact ⟨o, e, fun v z => by rw [d] at z; cases z⟩
theorem iterK_new {k : Kd} {h : Heap} {it a : Addr} (e : h.get? it = some (itObj k a)) : IterK k h it a 0 := by
  cases k with
  | l => exact ⟨_, e, rfl, rfl⟩
  | t => exact ⟨_, e, rfl, rfl⟩
theorem sqK_at {X : Cx} {pins : List (Addr × Obj)} {σ : L2.St} {H : Hp} {s : Shared} {k : Kd} {a : Addr} {xs : List V} (I : Inv X pins σ H s) (h : SqK X.K k H a xs) : ∃ its : List Value, Vals xs its ∧ SeqAtK k s.heap a its.toArray ∧ a < s.heap.objs.size := by
  cases k with
  | l =>
    obtain ⟨its, r, p, _⟩ := I.list h
    exact ⟨its, r, p.isList, p.lt⟩
  | t =>
    obtain ⟨its, r, p, _⟩ := I.tuple h
    exact ⟨its, r, p, by obtain ⟨o, e, _⟩ := p; exact Heap.lt_size e⟩
theorem sqK_inj {X : Cx} {pins : List (Addr × Obj)} {σ : L2.St} {H : Hp} {s : Shared} {k : Kd} {a : Addr} {xs ys : List V} (I : Inv X pins σ H s) (h : SqK X.K k H a xs) (h' : SqK X.K k H a ys) : xs = ys := by
  cases k with
  | l => exact I.list_inj h h'
  | t => exact I.tuple_inj h h'
def Itz2 (K : PySem.W.Frag) (ka kb : Kd) (a b : Addr) : It :=
  ⟨fun i H => ∃ (xs ys : List V) (x y : V), SqK K ka H a xs ∧ SqK K kb H b ys ∧ xs[i]? = some x ∧ ys[i]? = some y,
    fun i H v H' => ∃ T x y, v = .ref T ∧ H T = none ∧ H' = upd H T (.tup [x, y]) ∧ (∀ xs, SqK K ka H a xs → xs[i]? = some x) ∧ ∀ ys, SqK K kb H b ys → ys[i]? = some y,
    fun i H => ∃ xs ys : List V, SqK K ka H a xs ∧ SqK K kb H b ys ∧ i = min xs.length ys.length⟩
theorem zsep {z TI TO i1 i2 a b : Addr} (D : ZipApart z TI TO i1 i2 a b) : ZipSep2 z TI TO i1 i2 [i1, a] [i2, b] where
  TIz := D.TIz
  TOz := D.TOz
  TITO := D.TITO
  TIi1 := D.TIi1
  mem1 := by simp
  zf1 := by simp; exact ⟨fun e => D.i1z e.symm, fun e => D.l1z e.symm⟩
  Tf1 := by simp; exact ⟨D.TOi1, fun e => D.l1TO e.symm⟩
  TIi2 := D.TIi2
  mem2 := by simp
  zf2 := by simp; exact ⟨fun e => D.i2z e.symm, fun e => D.l2z e.symm⟩
  Tf2 := by simp; exact ⟨D.TOi2, fun e => D.l2TO e.symm⟩
  sep1_2 := by simp; exact ⟨D.i12, fun e => D.l2i1 e.symm⟩
  sep2_1 := by simp; exact ⟨fun e => D.i12 e.symm, fun e => D.l1i2 e.symm⟩
theorem turn_z2 {P : Program} {w : World} {K : PySem.W.Frag} {elts : List Expr} {kk : Nat} {tpos : Pos} (ka kb : Kd) {a b z TI TO i1 i2 : Addr} (D : ZipApart z TI TO i1 i2 a b) :
    Turn P w K (.Tuple elts kk tpos) (Itz2 K ka kb a b) [z, TI, TO, i1, i2] z (fun i h => IsZip h z TI TO .none ∧ IsTupOf2 h TI (.ref i1) (.ref i2) ∧ (∃ x y, IsTupOf2 h TO x y) ∧ IterK ka h i1 a i ∧ IterK kb h i2 b i) where
  mem := by simp
  obj := fun i h st c hc => by
    obtain ⟨hz, hTI, ⟨x, y, hTO⟩, h1, h2⟩ := st
    have e' : c = z ∨ c = TI ∨ c = TO ∨ c = i1 ∨ c = i2 := by simpa using hc
    rcases e' with q | q | q | q | q
    · rw [q]; exact ⟨_, hz, fun v q => nomatch q⟩
    · rw [q]; exact ⟨_, hTI, fun v q => nomatch q⟩
    · rw [q]; exact ⟨_, hTO, fun v q => nomatch q⟩
    · rw [q]; exact iterK_obj h1
    · rw [q]; exact iterK_obj h2
  keep := fun i h h' st k => by
    obtain ⟨hz, hTI, ⟨x, y, hTO⟩, h1, h2⟩ := st
    exact ⟨k z (by simp) _ hz, k TI (by simp) _ hTI, ⟨x, y, k TO (by simp) _ hTO⟩, iterK_at h1 fun o q => k i1 (by simp) o q, iterK_at h2 fun o q => k i2 (by simp) o q⟩
  item := by
    intro X hP hw hK hc i pins s σ H E I hf st hg
    subst hP hw hK
    obtain ⟨hz, hTI, ⟨x0, y0, hTO⟩, h1, h2⟩ := st
    obtain ⟨xs, ys, x, y, hqx, hqy, hx, hy⟩ := hg
    obtain ⟨its, rv, p, _⟩ := sqK_at I hqx
    obtain ⟨its2, rv2, p2, _⟩ := sqK_at I hqy
    obtain ⟨u, hu, ru⟩ := rv.get hx
    obtain ⟨u2, hu2, ru2⟩ := rv2.get hy
    have hzl : z < s.heap.objs.size := Heap.lt_size hz
    have hi1 : i < its.toArray.size := by simpa using (List.getElem?_eq_some_iff.mp hu).1
    have hi2 : i < its2.toArray.size := by simpa using (List.getElem?_eq_some_iff.mp hu2).1
    refine wpAny_pyNext_zipD2_item (zsep D) (drawsK ka (A := X.A.in1) (I.ok.hd hc) i1 a D.l1i1 its.toArray) (drawsK kb (A := X.A.in1) (I.ok.hd hc) i2 b D.l2i2 its2.toArray) hz hTI hTO ⟨h1, p⟩ ⟨h2, p2⟩ hi1 hi2 fun x1 x2 h' tk g1 g2 z' TO' st1 st2 hT hsz hk => ?_
    have e1 : x1 = u := by
      have g1' : its[i]? = some x1 := by simpa using g1
      rw [hu] at g1'; exact (Option.some.inj g1').symm
    have e2 : x2 = u2 := by
      have g2' : its2[i]? = some x2 := by simpa using g2
      rw [hu2] at g2'; exact (Option.some.inj g2').symm
    subst e1; subst e2
    refine ⟨_, rfl, wpAny_letOwnedTupleGo_zip (s := { s with heap := h', toks := tk }) z' fun h'' z'' sb => ?_⟩
    have hT2 : h''.get? s.heap.objs.size = some { cls := .type "tuple", data := .seq #[x1, x2] } := (sb.2 _ (Nat.ne_of_gt hzl)).trans hT
    have new : ObjOk X.prog X.w (upd H s.heap.objs.size (.tup [x, y])) h'' s.heap.objs.size (.tup [x, y]) :=
      ⟨by show 2 ≤ sizeLine; decide, [x1, x2], .cons ru (.cons ru2 .nil), ⟨_, hT2, rfl, _, rfl⟩⟩
    have I1 : Inv X pins σ (upd H s.heap.objs.size (.tup [x, y])) { s with heap := h'', toks := tk } :=
      I.turnedNew (t' := tk) (ch := [z, TI, TO, i1, i2]) (fun c o hb q => (sb.2 c (fun q' => hb (by simp [q']))).trans (hk c o (fun q' => hb (by simp [q'])) (fun q' => hb (by simp [q'])) (fun q' => hb (by simp [q'])) (fun q' => hb (by simp [q'])) q)) hf (Nat.le_refl _) new
    refine ⟨.ref s.heap.objs.size, _, I1, rfl, ⟨_, x, y, rfl, I.hok.fresh (Nat.le_refl _), rfl, fun l hl => by rw [sqK_inj I hl hqx]; exact hx, fun l hl => by rw [sqK_inj I hl hqy]; exact hy⟩, ⟨z'', ?_, ⟨x1, x2, ?_⟩, ?_, ?_⟩, fun c hcm => ?_⟩
    · exact (sb.2 _ D.TIz).trans (hk _ _ D.TIz D.TITO D.TIi1 D.TIi2 hTI)
    · exact (sb.2 _ D.TOz).trans TO'
    · exact iterK_at st1.1 fun o q => (sb.2 _ D.i1z).trans q
    · exact iterK_at st2.1 fun o q => (sb.2 _ D.i2z).trans q
    · have hlt : c < s.heap.objs.size := by
        have e' : c = z ∨ c = TI ∨ c = TO ∨ c = i1 ∨ c = i2 := by simpa using hcm
        rcases e' with q | q | q | q | q
        · rw [q]; exact hzl
        · rw [q]; exact Heap.lt_size hTI
        · rw [q]; exact Heap.lt_size hTO
        · rw [q]; obtain ⟨_, e1, _⟩ := iterK_obj h1; exact Heap.lt_size e1
        · rw [q]; obtain ⟨_, e2, _⟩ := iterK_obj h2; exact Heap.lt_size e2
      rw [upd_ne (Nat.ne_of_lt hlt)]
      exact (hf c hcm).1
  done := by
    intro X hP hw hK hc i pins s σ H E I hf st hg
    subst hP hw hK
    obtain ⟨hz, hTI, ⟨x0, y0, hTO⟩, h1, h2⟩ := st
    obtain ⟨xs, ys, hqx, hqy, hend⟩ := hg
    obtain ⟨its, rv, p, _⟩ := sqK_at I hqx
    obtain ⟨its2, rv2, p2, _⟩ := sqK_at I hqy
    have l1 := rv.length
    have l2 := rv2.length
    refine wpAny_pyNext_zipD2_end (zsep D) (drawsK ka (A := X.A.in1) (I.ok.hd hc) i1 a D.l1i1 its.toArray) (drawsK kb (A := X.A.in1) (I.ok.hd hc) i2 b D.l2i2 its2.toArray) hz hTI hTO ⟨h1, p⟩ ⟨h2, p2⟩ (by simp; omega) (by simp; omega) (by simp; omega) fun h' tk hk => ?_
    exact ⟨rfl, I.turnedL (t' := tk) (ch := [z, TI, TO, i1, i2]) (fun c o hb q => hk c o (fun q' => hb (by simp [q'])) (fun q' => hb (by simp [q'])) (fun q' => hb (by simp [q'])) (fun q' => hb (by simp [q'])) q) hf⟩
  self := fun A i s Q E st h => wpAny_pyIter_zip st.1 h
def iZip2 (K : PySem.W.Frag) (ta : TA) : TI := fun σ H R => ta σ H fun vs H1 => ∃ ka kb a b xs ys, vs = [.ref a, .ref b] ∧ SqK K ka H1 a xs ∧ SqK K kb H1 b ys ∧ R (Itz2 K ka kb a b) H1
section
variable {X : Cx} {e e2 : Expr} {pos p tpos : Pos} {elts : List Expr} {kk : Nat} {tl : DA}
theorem pi_zip2 {ta : TA} (hg : Gl X "zip") (hm : X.mg "zip" = none) (ha : PA X [e, e2] ta)
    (hs : starEach [e, e2] X.env = (false, eval e X.env) :: starEach [e2] X.env := by rfl) (hpl : (backTo pos (starEach [e2] X.env)).any (·.1) = false := by rfl) :
    PI X (.Tuple elts kk tpos) (.Call (.Name "zip" p) [e, e2] [] pos) (iZip2 X.K ta) := by
  refine ⟨fun pins s σ H R I h => ?_⟩
  refine Call_ (ld_blt I hg hm PyProof.Rows.boot_zip (PyProof.Rows.callWith_type1 (thn (ha.run pos pins s σ H _ I h) fun us s1 ⟨vs, H1, I1, r1, q1⟩ => ?_) hs hpl))
  obtain ⟨ka, kb, a, b, xs, ys, ex, hqx, hqy, q⟩ := q1
  subst ex
  cases r1 with
  | cons r rr =>
    cases rr with
    | cons r' rr =>
      cases rr
      cases r
      cases r'
      have fresh5 : ∀ c, c ∈ [s1.heap.objs.size + 4, s1.heap.objs.size + 2, s1.heap.objs.size + 3, s1.heap.objs.size, s1.heap.objs.size + 1] → FpOk X pins H1 c := fun c hcm => by
        have e' : c = s1.heap.objs.size + 4 ∨ c = s1.heap.objs.size + 2 ∨ c = s1.heap.objs.size + 3 ∨ c = s1.heap.objs.size ∨ c = s1.heap.objs.size + 1 := by simpa using hcm
        have hle : s1.heap.objs.size ≤ c := by
          rcases e' with z | z | z | z | z
          · rw [z]; exact Nat.le_add_right _ _
          · rw [z]; exact Nat.le_add_right _ _
          · rw [z]; exact Nat.le_add_right _ _
          · rw [z]; exact Nat.le_refl _
          · rw [z]; exact Nat.le_add_right _ _
        exact I1.fpOk hle (I1.hok.fresh hle)
      obtain ⟨its, rv, p1, l1⟩ := sqK_at I1 hqx
      obtain ⟨its2, rv2, p2, l2⟩ := sqK_at I1 hqy
      refine zip_begins2 (beginsK ka a its.toArray) (beginsK kb b its2.toArray) p1 p2 fun h' hz hTI hTO h1 h2 hsz hk => wpAny_pyIter_zip hz ?_
      have I2 : Inv X pins σ H1 { s1 with heap := h' } := I1.kept (t' := s1.toks) hk
      exact ⟨s1.heap.objs.size + 4, [s1.heap.objs.size + 4, s1.heap.objs.size + 2, s1.heap.objs.size + 3, s1.heap.objs.size, s1.heap.objs.size + 1], _, _, H1, rfl, I2, turn_z2 ka kb (PySem.W.ktu_apart s1.heap.objs.size a b l1 l2), ⟨hz, hTI, ⟨_, _, hTO⟩, iterK_new h1, iterK_new h2⟩, fresh5, q⟩
/-- the pairs -/
def pairs : List D → List D → List D
  | x :: xs, y :: ys => .tup [x, y] :: pairs xs ys
  | _, _ => []
theorem pairs_get : ∀ (xs ys : List D) (i : Nat) (x y : D), xs[i]? = some x → ys[i]? = some y → (pairs xs ys)[i]? = some (.tup [x, y])
  | x :: xs, y :: ys, 0, a, b, h1, h2 => by simp at h1 h2; subst h1; subst h2; rfl
  | x :: xs, y :: ys, i + 1, a, b, h1, h2 => pairs_get xs ys i a b h1 h2
  | [], _, _, _, _, h1, _ => by simp at h1
  | _ :: _, [], _, _, _, _, h2 => by simp at h2
theorem pairs_len : ∀ (xs ys : List D), (pairs xs ys).length = min xs.length ys.length
  | [], ys => by simp [pairs]
  | _ :: _, [] => by simp [pairs]
  | x :: xs, y :: ys => by
    show (pairs xs ys).length + 1 = _
    rw [pairs_len xs ys, List.length_cons, List.length_cons]
    omega
@[simp] def iZp (tl : DA) : DA := fun ρ M P => tl ρ M fun ds M1 => ∃ d e xs ys, ds = [d, e] ∧ isSeq d xs ∧ isSeq e ys ∧ P (pairs xs ys) M1
theorem rp_seq {K : PySem.W.Frag} {as : List Addr} {L : Hp} {v : V} {d : D} {ds : List D} (r : Rp K as L v d) (h : isSeq d ds) : ∃ k a xs, v = .ref a ∧ SqK K k L a xs ∧ RpA K as L xs ds := by
  rcases h with rfl | rfl
  · cases r with | lst hs ra => exact ⟨.l, _, _, rfl, hs, ra⟩
  · cases r with | tup hs ra => exact ⟨.t, _, _, rfl, hs, ra⟩
theorem ex_k {K : PySem.W.Frag} {k : Kd} {H H' : Hp} {a : Addr} {xs : List V} (e : Ex H H') (h : SqK K k H a xs) : SqK K k H' a xs := by
  cases k with
  | l => exact ex_l e h
  | t => exact ex_t e h
theorem walks_zip {K : PySem.W.Frag} {as : List Addr} {L0 : Hp} {ka kb : Kd} {a b : Addr} {xs ys : List V} {ds es : List D} (h1 : SqK K ka L0 a xs) (r1 : RpA K as L0 xs ds) (h2 : SqK K kb L0 b ys) (r2 : RpA K as L0 ys es) : Walks K (Itz2 K ka kb a b) as L0 (pairs ds es) := by
  intro L H M e A
  have g1 := ex_k (e.trans A.low) h1
  have g2 := ex_k (e.trans A.low) h2
  refine ⟨fun i hi => ?_, xs, ys, g1, g2, by rw [pairs_len, r1.length, r2.length]⟩
  rw [pairs_len] at hi
  have i1 : i < xs.length := by rw [r1.length]; omega
  have i2 : i < ys.length := by rw [r2.length]; omega
  refine ⟨⟨xs, ys, _, _, g1, g2, List.getElem?_eq_getElem i1, List.getElem?_eq_getElem i2⟩, fun v H' y => ?_⟩
  obtain ⟨T, x, y, rfl, hT, rfl, f1, f2⟩ := y
  obtain ⟨d1, q1, w1⟩ := r1.getV (f1 xs g1)
  obtain ⟨d2, q2, w2⟩ := r2.getV (f2 ys g2)
  have lT := lowfree A hT
  exact ⟨_, upd L T (.tup [x, y]), pairs_get ds es i d1 d2 q1 q2, Step.know A hT, A.know hT, .tup (.inl (.inl upd_same)) (.cons (w1.mono (e.trans (Ex.new lT)) (Pre.refl _)) (.cons (w2.mono (e.trans (Ex.new lT)) (Pre.refl _)) .nil))⟩
theorem pdi_zip (hg : Gl X "zip") (hm : X.mg "zip" = none) (ha : PDA X [e, e2] tl)
    (hs : starEach [e, e2] X.env = (false, eval e X.env) :: starEach [e2] X.env := by rfl) (hpl : (backTo pos (starEach [e2] X.env)).any (·.1) = false := by rfl) : PDI X (.Tuple elts kk tpos) (.Call (.Name "zip" p) [e, e2] [] pos) (iZp tl) := by
  obtain ⟨u, pa, s⟩ := ha.ex
  refine ⟨_, pi_zip2 hg hm pa hs hpl, ?_⟩
  intro as σ ρ L H M P R hE A h q
  refine s as σ ρ L H M _ _ hE A h fun vs ds L1 H1 M1 s1 A1 h1 r1 => ?_
  obtain ⟨d, f, xs, ys, rfl, hd, hf, p⟩ := h1
  cases r1 with
  | cons ra rb =>
    cases rb with
    | cons rb rc =>
      cases rc
      obtain ⟨ka, a, xv, rfl, g1, w1⟩ := rp_seq ra hd
      obtain ⟨kb, b, yv, rfl, g2, w2⟩ := rp_seq rb hf
      exact ⟨ka, kb, a, b, xv, yv, rfl, ex_k A1.low g1, ex_k A1.low g2, q _ _ L1 H1 M1 s1 A1 p (walks_zip g1 w1 g2 w2)⟩
end
@[simp] def oAnyT : DC := fun xs M P => ∃ ns : List Int, xs = [.tup (ns.map D.int)] ∧ P (.bl (ns.any fun n => n != 0)) M
end Pd
set_option Elab.async false
set_option linter.all false
set_option maxRecDepth 100000
set_option maxHeartbeats 1000000
namespace Pd
open PySem PySem.Spec PyProof.Rows L2
section
variable {X : Cx} {k n : Nat} {C g : Addr} {fd : FuncData} {ps : List Str} {W : DC}
@[simp] def oOwnI (C : Addr) (W : DC) : D2 := fun x y M P => ∃ fs gs, x = .ins C fs ∧ y = .ins C gs ∧ W [x, y] M P
theorem sp_of {K : PySem.W.Frag} {as : List Addr} {L H : Hp} {M : Ms} {vs : List V} {ds : List D} {P : D → Ms → Prop} {Q : VK} {E : XK} (A : At K as M L H) (r : RpA K as L vs ds) (hn : ds.length = n) (h : W ds M P)
    (q : ∀ v z L' H' M', Step as L H as L' H' → At K as M' L' H' → P z M' → Rp K as L' v z → Q v H') : spD n W K vs H Q E := ⟨by rw [r.length]; exact hn, as, M, L, ds, P, r, A, h, q⟩
@[simp] def oOwnN (C : Addr) (W : DC) : D2 := fun x y M P => ∃ fs i, x = .ins C fs ∧ y = .int i ∧ W [x, y] M P
@[simp] def oOwnU (C : Addr) (W : DC) : D1 := fun x M P => ∃ fs, x = .ins C fs ∧ W [x] M P
@[simp] def oOwnE (K : PySem.W.Frag) (C : Addr) (W : DC) : D2 := fun x y M P => ∃ fs t, x = .ins C fs ∧ DTy K y t ∧ PySem.W.notFirst K C t = true ∧ W [x, y] M P
end
section
variable {X : Cx} {k n : Nat} {C g : Addr} {fd : FuncData} {ps : List Str} {W : DC} {e fe o value : Expr} {es : List Expr} {t tv : DE} {tl : DA} {pos pos' p apos : Pos}
@[simp] def dCallO (C : Addr) (n : Nat) (W : DC) (t : DE) (tl : DA) : DE := fun ρ M P => t ρ M fun x M1 => ∃ fs, x = .ins C fs ∧ tl ρ M1 fun ds M2 => ds.length + 1 = n ∧ W (x :: ds) M2 P
theorem pd_callO (hf : PD X fe t) (c : StX.CallO X.K C g) (F : FnOk X.prog X.w X.K X.mg X.base CX0 k g fd ps (spD n W X.K)) (hb : Binds X.K fd ps []) (hr : Room k X.A) (ha : PDA X (e :: es) tl)
    (ht : eval (.Call fe (e :: es) [] pos) X.env = (do callWith pos (← eval fe X.env) [] (backTo pos (starEach (e :: es) X.env)) (backToKw pos (keywordEach [] X.env))) := by rfl)
    (he : starEach (e :: es) X.env = (false, eval e X.env) :: starEach es X.env := by rfl) (hpl : (backTo pos (starEach es X.env)).any (·.1) = false := by rfl) : PD X (.Call fe (e :: es) [] pos) (dCallO C n W t tl) := by
  obtain ⟨u, pf, sf⟩ := hf.ex
  obtain ⟨ua, pa, sa⟩ := ha.ex
  refine ⟨_, StX.pe_callO pf c (F.raw hb .nil) hr (pass0 (X := X)) pa ht he hpl, ?_⟩
  intro as σ ρ L H M P Q hE A h q
  refine sf as σ ρ L H M _ _ hE A h fun v d L1 H1 M1 s1 A1 h1 r1 => ?_
  obtain ⟨fs, rfl, h1⟩ := h1
  have r0 := r1
  cases r1 with
  | ins g1 _ =>
    refine ⟨_, rfl, sa as σ ρ L1 H1 M1 _ _ (hE.mono s1.k s1.pre) A1 h1 fun vs ds L2 H2 M2 s2 A2 h2 r2 => ⟨.inr ⟨_, _, A2.low _ _ (s2.k _ _ g1)⟩, ?_⟩⟩
    have s12 := s1.trans A1 s2
    have q2 := sp_of (n := n) (W := W) (Q := Q) (E := E0) A2 (RpA.cons (r0.mono s2.k s2.pre) r2) (by rw [List.length_cons]; exact h2.1) h2.2 fun v z L3 H3 M3 s3 A3 h3 r3 => q v z L3 H3 M3 (s12.trans A2 s3) A3 h3 r3
    show spD n W X.K (V.ref _ :: vs ++ []) H2 Q E0
    rw [List.append_nil]
    exact q2
@[simp] def dSM (C : Addr) (n : Nat) (W : DC) (t : DE) (tl : DA) : DE := fun ρ M P => t ρ M fun x M1 => x = .ob C ∧ tl ρ M1 fun ds M2 => ds.length = n ∧ W ds M2 P
theorem pd_make {f : Addr} {x : Str} (M : Mk X.K C f) (F : FnOk X.prog X.w X.K X.mg X.base CX0 k f fd ps (spD n W X.K)) (hr : Room (k + 1) X.A) (hg : Gl X x) (hm : X.mg x = some (.ref C)) (hb : Binds X.K fd ps [])
    (ha : PDA X (e :: es) tl) (hdb : (x == ("__debug__" : Str)) = false := by decide) (he : starEach (e :: es) X.env = (false, eval e X.env) :: starEach es X.env := by rfl) (hpl : (backTo pos (starEach es X.env)).any (·.1) = false := by rfl) :
    PD X (.Call (.Name x p) (e :: es) [] pos) (dMake C n W tl) := by
  obtain ⟨ua, pa, sa⟩ := ha.ex
  exact ⟨_, pe_make M F hr hg hm hb .nil (pass0 (X := X)) pa hdb he hpl, sim_make sa⟩
def putD (f : Str) (v : D) : List (Str × D) → List (Str × D)
  | [] => [(f, v)]
  | (g, x) :: r => if g = f then (g, v) :: r else (g, x) :: putD f v r
theorem RpF.put {K : PySem.W.Frag} {as : List Addr} {L : Hp} {f : Str} {v : V} {d : D} (r : Rp K as L v d) : ∀ {fs : List (Str × V)} {gs : List (Str × D)}, RpF K as L fs gs → RpF K as L (putF f v fs) (putD f d gs)
  | _, _, .nil => .cons r .nil
  | _, _, .cons (f := g) (v := w) (fs := fs) (d := dd) (gs := gs) q t => by
    show RpF K as L (if g = f then (g, v) :: fs else (g, w) :: putF f v fs) (if g = f then (g, d) :: gs else (g, dd) :: putD f d gs)
    by_cases h : g = f
    · rw [if_pos h, if_pos h]; exact .cons r t
    · rw [if_neg h, if_neg h]; exact .cons q (RpF.put r t)
@[simp] def sFldM (K : PySem.W.Frag) (f : Str) (tv to : DE) : DS := fun De ρ M => tv ρ M fun v M1 => to ρ M1 fun x M2 => ∃ j C gs, x = .mu j ∧ M2[j]? = some (.ins C gs) ∧ Cls K C ∧ NoAttr K C f ∧ gs.length < 1000 ∧ De.nx ρ (M2.set j (.ins C (putD f v gs)))
theorem pds_fldM {f : Str} (hv : PD X value tv) (ho : PD X o t) (hs : swapsWith value (some (.Attribute o f pos')) pos.line X.env = pure false := by rfl) : PDS X (.Assign [.Attribute o f pos'] value pos) (sFldM X.K f tv t) := by
  obtain ⟨u, p1, s1⟩ := hv.ex
  obtain ⟨u2, p2, s2⟩ := ho.ex
  refine ⟨_, ps_fld p2 p1 hs, ?_⟩
  intro as σ ρ L H M De D hE A h c
  refine s1 as σ ρ L H M _ _ hE A h fun v d L1 H1 M1 t1 A1 h1 r1 => ?_
  refine s2 as σ ρ L1 H1 M1 _ _ (hE.mono t1.k t1.pre) A1 h1 fun x d2 L2 H2 M2 t2 A2 h2 r2 => ?_
  obtain ⟨j, C, gs, rfl, hm, hc, hn, hl, p⟩ := h2
  cases r2 with
  | mu hk =>
    obtain ⟨dx, fs, g1, g2⟩ := A2.ins hk hm
    refine ⟨_, C, dx, fs, rfl, g1, hc, hn, by rw [g2.length]; exact hl, ?_⟩
    exact c.nx σ ρ L2 _ _ ((t1.trans A1 t2).trans A2 (Step.put (List.mem_of_getElem? hk))) (A2.put hk (.ins (g2.put (r1.mono t2.k t2.pre)))) (hE.mono (t1.k.trans t2.k) (Pre.refl _)) p
end
end Pd
set_option Elab.async false
set_option linter.all false
set_option maxRecDepth 100000
set_option maxHeartbeats 1000000
namespace Pd
open PySem PySem.Spec PyProof.Rows L2
def rCatL (K : PySem.W.Frag) : R2 := fun x y H Q => ∃ l b xs zs, x = .ref l ∧ y = .ref b ∧ SqL K H l xs ∧ SqL K H b zs ∧ xs.length + zs.length ≤ sizeLine ∧ ∀ p, H p = none → Q (.ref p) (upd H p (.lst (xs ++ zs)))
theorem op_catL {X : Cx} : OpR X (binaryOp .Add) (rCatL X.K) := by
  intro pins s σ H x y v u Q I rx ry h
  obtain ⟨l, b, xs, zs, rfl, rfl, hH, hB, hz, q⟩ := h
  cases rx
  cases ry
  obtain ⟨its, r, ⟨⟨cls, dd, data, sl⟩, n, ho, hc, hdn, hd⟩, _⟩ := I.list hH
  obtain ⟨its2, r2, ⟨⟨cls2, dd2, data2, sl2⟩, n2, ho2, hc2, hdn2, hd2⟩, _⟩ := I.list hB
  simp only at hc hd hc2 hd2
  subst hc hd hc2 hd2
  have e : its.toArray ++ its2.toArray = (its ++ its2).toArray := by simp
  have h1 := r.length
  have h2 := r2.length
  refine concat_meets ⟨_, ho, rfl⟩ ⟨_, ho2, rfl⟩ noFill_list_add seq_list_add PySem.F.slot_list_add PySem.F.entry_list_add (PySem.F.args_list_add_2 _ _) (list_addW l b its.toArray its2.toArray n n2 dd dd2 sl sl2 (by simp only [List.size_toArray]; omega)) ⟨ho, ho2, ?_⟩
  rw [e]
  exact ⟨.ref _, _, I.lnew (t' := s.toks) (r.append r2) (by rw [List.length_append]; omega), rfl, q _ I.fresh⟩
@[simp] def oCatL : D2 := fun x y M P => ∃ ds es, x = .lst ds ∧ y = .lst es ∧ ds.length + es.length ≤ sizeLine ∧ P (.lst (ds ++ es)) M
theorem sr_catL {K : PySem.W.Frag} : SimR K (rCatL K) oCatL := by
  intro as L H M x y d e P Q A r1 r2 ⟨ds, es, h1, h2, h3, p⟩ q
  subst h1; subst h2
  cases r1 with
  | lst g1 w1 =>
    cases r2 with
    | lst g2 w2 => exact ⟨_, _, _, _, rfl, rfl, ex_l A.low g1, ex_l A.low g2, by rw [w1.length, w2.length]; exact h3, fun p' hp => q _ _ _ _ M (Step.know A hp) (A.know hp) p (.lst (.inl (.inl upd_same)) ((w1.append w2).mono (Ex.new (lowfree A hp)) (Pre.refl _)))⟩
@[simp] def oCatT : D2 := fun x y M P => ∃ ds es, x = .tup ds ∧ y = .tup es ∧ ds.length + es.length ≤ sizeLine ∧ P (.tup (ds ++ es)) M
@[simp] def oRepT : D2 := fun x y M P => ∃ (ds : List D) (k : Int), x = .tup ds ∧ y = .int k ∧ ds ≠ [] ∧ 1 ≤ k ∧ k ≤ 1000 ∧ ds.length ≤ 1000 ∧ P (.tup (List.replicate k.toNat ds).flatten) M
theorem RpA.rep {K : PySem.W.Frag} {as : List Addr} {L : Hp} {xs : List V} {ds : List D} (r : RpA K as L xs ds) : ∀ n : Nat, RpA K as L (List.replicate n xs).flatten (List.replicate n ds).flatten
  | 0 => .nil
  | n + 1 => by
    rw [List.replicate_succ, List.replicate_succ, List.flatten_cons, List.flatten_cons]
    exact r.append (RpA.rep r n)
section
variable {X : Cx} {k n : Nat} {C g : Addr} {fd : FuncData} {ps : List Str} {W : DC}
@[simp] def oOwnNe (K : PySem.W.Frag) (C : Addr) (W : DC) : D2 := fun x y M P => ∃ fs t, x = .ins C fs ∧ DTy K y t ∧ PySem.W.notFirst K C t = true ∧ W [x, y] M fun z M' => ∃ b, z = .bl b ∧ P (.bl (!b)) M'
end
end Pd
set_option Elab.async false
set_option linter.all false
set_option maxRecDepth 100000
set_option maxHeartbeats 1000000
namespace Pd
open PySem PySem.Spec PyProof.Rows L2
end Pd
set_option Elab.async false
set_option linter.all false
set_option maxRecDepth 100000
set_option maxHeartbeats 1000000
namespace Pd
open PySem PySem.Spec PyProof.Rows L2
/-- the pairs that a list holds -/
def PairsIn (H : Hp) (ts xs ys : List V) : Prop := ∀ (j : Nat) (t : V), ts[j]? = some t → ∃ T x y, t = .ref T ∧ H T = some (.tup [x, y]) ∧ xs[j]? = some x ∧ ys[j]? = some y
theorem PairsIn.up {H H' : Hp} {ts xs ys : List V} (h : PairsIn H ts xs ys) (k : ∀ c xs, H c = some (.tup xs) → H' c = some (.tup xs)) : PairsIn H' ts xs ys := fun j t e =>
  let ⟨T, x, y, h1, h2, h3, h4⟩ := h j t e
  ⟨T, x, y, h1, k _ _ h2, h3, h4⟩
section
variable {X : Cx} {e e2 : Expr} {pos p pos2 p2 : Pos} {tl : DA}
@[simp] def dZipL (tl : DA) : DE := fun ρ M P => tl ρ M fun ds M1 => ∃ d e xs ys, ds = [d, e] ∧ isSeq d xs ∧ isSeq e ys ∧ P (.lst (pairs xs ys)) M1
theorem RpA.of {K : PySem.W.Frag} {as : List Addr} {L : Hp} : ∀ {vs : List V} {ds : List D}, vs.length = ds.length → (∀ (j : Nat) (v : V) (d : D), vs[j]? = some v → ds[j]? = some d → Rp K as L v d) → RpA K as L vs ds
  | [], [], _, _ => .nil
  | [], _ :: _, h, _ => by simp at h
  | _ :: _, [], h, _ => by simp at h
  | v :: vs, d :: ds, hl, h => .cons (h 0 v d rfl rfl) (RpA.of (by simpa using hl) fun j v' d' e1 e2 => h (j + 1) v' d' (by simpa using e1) (by simpa using e2))
end
end Pd
set_option Elab.async false
set_option linter.all false
set_option maxRecDepth 100000
set_option maxHeartbeats 1000000
namespace Pd
open PySem PySem.Spec PyProof.Rows L2
theorem lc_map {g : DG} {te : DE} {ρ : Rho} {P : D → Ms → Prop} {M : Ms} (f : D → D) : ∀ (ds acc : List D), (∀ d ∈ ds, ∀ R : D → Ms → Prop, R (f d) M → g d ρ fun ρ' => te ρ' M R) → acc.length + ds.length ≤ sizeLine → P (.lst (acc ++ ds.map f)) M → lcRun g dYes te ρ P ds acc M
  | [], acc, _, _, p => by
    show P (.lst acc) M
    simpa using p
  | d :: r, acc, h, hz, p => by
    rw [List.length_cons] at hz
    have := h d List.mem_cons_self (fun y M2 => acc.length < sizeLine ∧ lcRun g dYes te ρ P r (acc ++ [y]) M2) ⟨by omega, lc_map f r (acc ++ [f d]) (fun d' h' => h d' (List.mem_cons_of_mem _ h')) (by rw [List.length_append, List.length_singleton]; omega) (by simpa using p)⟩
    exact this
theorem lc_ind {g : DG} {te : DE} {ρ : Rho} {P : D → Ms → Prop} (I : List D → Ms → Prop) (N : Nat) (hN : N ≤ sizeLine) (step : ∀ (d : D) (acc : List D) (M : Ms) (R : D → Ms → Prop), I acc M → acc.length < N → (∀ y M2, I (acc ++ [y]) M2 → R y M2) → g d ρ fun ρ' => te ρ' M R)
    (fin : ∀ acc M, I acc M → acc.length = N → P (.lst acc) M) : ∀ (ds acc : List D) (M : Ms), I acc M → acc.length + ds.length = N → lcRun g dYes te ρ P ds acc M
  | [], acc, M, h, hl => fin acc M h (by simpa using hl)
  | d :: r, acc, M, h, hl => by
    rw [List.length_cons] at hl
    exact step d acc M (fun y M2 => acc.length < sizeLine ∧ lcRun g dYes te ρ P r (acc ++ [y]) M2) h (by omega) fun y M2 hy => ⟨by omega, lc_ind I N hN step fin r (acc ++ [y]) M2 hy (by rw [List.length_append, List.length_singleton]; omega)⟩
theorem for_ind {g : DG} {body : DS} {De : DEnds} (I : Nat → Rho → Ms → Prop) (ds : List D) (step : ∀ (k : Nat) (d : D) (ρ : Rho) (M : Ms) (N : Rho → Ms → Prop), ds[k]? = some d → I k ρ M → (∀ ρ2 M2, I (k + 1) ρ2 M2 → N ρ2 M2) → g d ρ fun ρ' => body { De with nx := N, ct := N, bk := De.nx } ρ' M)
    (fin : ∀ ρ M, I ds.length ρ M → De.nx ρ M) {ρ : Rho} {M : Ms} (h : I 0 ρ M) : forRun g body De ds ρ M := by
  have key : ∀ (r : List D) (k : Nat) (ρ : Rho) (M : Ms), ds.drop k = r → k + r.length = ds.length → I k ρ M → forRun g body De r ρ M := by
    intro r
    induction r with
    | nil =>
      intro k ρ M _ hl h
      have e : k = ds.length := by simpa using hl
      subst e
      exact fin ρ M h
    | cons d r ih =>
      intro k ρ M hd hl h
      have hk : ds[k]? = some d := by
        have := congrArg (·[0]?) hd
        simpa using this
      rw [List.length_cons] at hl
      have hr : ds.drop (k + 1) = r := by
        have := congrArg List.tail hd
        simpa using this
      exact step k d ρ M (fun ρ2 M2 => forRun g body De r ρ2 M2) hk h fun ρ2 M2 h2 => ih (k + 1) ρ2 M2 hr (by omega) h2
  exact key ds 0 ρ M (by simp) (by simp) h
abbrev dI (xs : List Int) : List D := xs.map D.int
theorem plain_ints : ∀ xs : List Int, plainA (dI xs) = true
  | [] => rfl
  | x :: xs => by show (true && plainA (dI xs)) = true; rw [plain_ints xs]; rfl
theorem lay_ints : ∀ xs : List Int, PyData.canLayAll0 (toPA (dI xs)) = true
  | [] => rfl
  | x :: xs => by show (true && PyData.canLayAll0 (toPA (dI xs))) = true; rw [lay_ints xs]; rfl
theorem depth_ints : ∀ xs : List Int, PyData.depthAll (toPA (dI xs)) = 0
  | [] => rfl
  | x :: xs => by show max 0 (PyData.depthAll (toPA (dI xs))) = 0; rw [depth_ints xs]; rfl
theorem okD_tup (xs : List Int) : okD (.tup (dI xs)) = true := by
  have h1 : plain (.tup (dI xs)) = true := plain_ints xs
  have h2 : SeqAt.shaped (toP (.tup (dI xs))) = true := by
    show (PyData.canLayAll0 (toPA (dI xs)) && decide (PyData.depthAll (toPA (dI xs)) + 1 ≤ 64)) = true
    rw [lay_ints, depth_ints]
    rfl
  unfold okD
  rw [h1, h2]
  rfl
theorem okD_lst (xs : List Int) : okD (.lst (dI xs)) = true := okD_tup xs
theorem eqA_ints : ∀ xs ys : List Int, PyData.eqvAll (toPA (dI xs)) (toPA (dI ys)) = decide (xs = ys)
  | [], [] => rfl
  | [], _ :: _ => rfl
  | _ :: _, [] => rfl
  | x :: xs, y :: ys => by
    show ((x == y) && PyData.eqvAll (toPA (dI xs)) (toPA (dI ys))) = _
    rw [eqA_ints xs ys, Bool.eq_iff_iff]
    simp
theorem eqD_tup (xs ys : List Int) : eqD (.tup (dI xs)) (.tup (dI ys)) = decide (xs = ys) := eqA_ints xs ys
theorem eqD_int (i j : Int) : eqD (.int i) (.int j) = decide (i = j) := by
  show (i == j) = _
  rw [Bool.eq_iff_iff]; simp
theorem pd_fldK {X : Cx} {K : PySem.W.Frag} {e : Expr} {t : DE} {pos : Pos} {f : Str} (hK : X.K = K) (he : PD X e t) (hb : attributeBase e f X.env (eval e X.env) = eval e X.env := by rfl) : PD X (.Attribute e f pos) (dFld K t f) := hK ▸ pd_fld he hb
section
variable {K : PySem.W.Frag}
@[simp] def oIsB : D2 := fun x y M P => ∃ a b : Bool, x = .bl a ∧ y = .bl b ∧ P (.bl (decide (a = b))) M
@[simp] def oList : DC := fun xs M P => ∃ d ds, xs = [d] ∧ isSeq d ds ∧ P (.lst ds) M
end
/-- the changeable objects hold none that stands behind -/
def okM (M : Ms) : Prop := apartM M.length M = true
theorem apartA_ints (k : Nat) : ∀ xs : List Int, apartA k (dI xs) = true
  | [] => rfl
  | x :: xs => by show (true && apartA k (dI xs)) = true; rw [apartA_ints k xs]; rfl
theorem set_last {α : Type} (M : List α) (x y : α) : (M ++ [x]).set M.length y = M ++ [y] := by
  rw [List.set_append_right _ _ (Nat.le_refl _), Nat.sub_self]
  rfl
theorem get_last {α : Type} (M : List α) (x : α) : (M ++ [x])[M.length]? = some x := by
  rw [List.getElem?_append_right (Nat.le_refl _), Nat.sub_self]
  rfl
end Pd
set_option Elab.async false
set_option linter.all false
set_option maxRecDepth 100000
set_option maxHeartbeats 1000000
namespace Pd
open PySem PySem.Spec PyProof.Rows L2
theorem bsplit {b : Bool} {P Q : Prop} (h1 : b = true → P) (h0 : b = false → Q) : if b = true then P else Q := by
  cases b
  · exact h0 rfl
  · exact h1 rfl
abbrev DN := (List D → Ms → Prop) → Rho → Ms → Prop
structure PDN (X : Cx) (sts : List Stmt) (t : DN) : Prop where
  ex : ∃ ts, PSs X sts ts ∧ ∀ as σ ρ L H M P D, En X.K as L σ ρ → At X.K as M L H → t P ρ M →
    (∀ p xs m L' H' M', Step as L H as L' H' → At X.K as M' L' H' → H p = none → L' p = none → H' p = some (.lst xs) → RpA X.K as L' xs m → P m M' → D.rt (.ref p) H') → ts D σ H
theorem Step.free {as : List Addr} {L H L1 H1 : Hp} {K : PySem.W.Frag} {M M1 : Ms} (A : At K as M L H) (s : Step as L H as L1 H1) (A1 : At K as M1 L1 H1) {p : Addr} (h : H1 p = none) : H p = none := by
  by_cases hp : p ∈ as
  · exact absurd h (A1.held hp).2
  · cases q : H p with
    | none => rfl
    | some o => rw [s.up p o hp q] at h; cases h
theorem At.hidden {K : PySem.W.Frag} {as : List Addr} {M : Ms} {L H : Hp} {p : Addr} {o : HO} (A : At K as M L H) (hp : H p = none) : At K as M L (upd H p o) := by
  have lp := lowfree A hp
  refine ⟨fun a u h => ?_, A.len, A.nd, fun k a m e1 e2 => ?_, A.nt⟩
  · rw [upd_ne (fun z => by rw [z, lp] at h; cases h)]; exact A.low a u h
  · obtain ⟨h3, u, h4, h5⟩ := A.mo k a m e1 e2
    exact ⟨h3, u, by rw [upd_ne (ne_of_none h4 hp)]; exact h4, h5.1, h5.2.keep (KeepC.new hp)⟩
theorem Step.hidden {as : List Addr} {L H L1 H1 : Hp} {p : Addr} {o : HO} (s : Step as L H as L1 H1) (hp : H1 p = none) : Step as L H as L1 (upd H1 p o) :=
  ⟨fun a u ha h => by rw [upd_ne (ne_of_none (s.up a u ha h) hp)]; exact s.up a u ha h, s.k, s.hid, s.pre, s.new⟩
section
variable {X : Cx} {st : Stmt} {sts : List Stmt} {s1 : DS} {t : DN} {es : List Expr} {tl : DA} {pos pos' : Pos}
@[simp] def nRet (tl : DA) : DN := fun P ρ M => tl ρ M fun ds M1 => ds.length ≤ sizeLine ∧ P ds M1
theorem pdn_ret (h : PDA X es tl) : PDN X [.Return (some (.List es pos)) pos'] (nRet tl) := by
  obtain ⟨u, p, s⟩ := h.ex
  refine ⟨_, pss_one (ps_ret (pe_lst p)), fun as σ ρ L H M P D hE A h k => ?_⟩
  refine s as σ ρ L H M _ _ hE A h fun vs ds L1 H1 M1 s1 A1 h1 r1 => ⟨by rw [r1.length]; exact h1.1, fun p hp => ?_⟩
  exact k p vs ds L1 _ M1 (s1.hidden hp) (A1.hidden hp) (Step.free A s1 A1 hp) (lowfree A1 hp) upd_same r1 h1.2
@[simp] def nSeq (s : DS) (t : DN) : DN := fun P ρ M => s { nx := fun ρ' M' => t P ρ' M', rt := fun _ _ => False } ρ M
theorem pdn_cons (h1 : PDS X st s1) (h2 : PDN X sts t) : PDN X (st :: sts) (nSeq s1 t) := by
  obtain ⟨u1, p1, q1⟩ := h1.ex
  obtain ⟨u2, p2, q2⟩ := h2.ex
  refine ⟨_, pss_cons p1 p2, fun as σ ρ L H M P D hE A h k => ?_⟩
  refine sim_then (De := { nx := fun _ _ => False, rt := fun _ _ => False }) q1 hE A ⟨fun _ _ _ _ _ _ _ _ z => z.elim, fun _ _ _ _ _ _ _ z => z.elim, fun _ _ _ _ _ _ _ _ z => z.elim, fun _ _ _ _ _ _ _ _ z => z.elim⟩ (nx := fun ρ' M' => t P ρ' M') (fun σ' ρ' L' H' M' s' A' e' h' => ?_) h
  exact q2 as σ' ρ' L' H' M' P D e' A' h' fun p xs m L2 H2 M2 s2 A2 h0 l0 hx r q => k p xs m L2 H2 M2 (s'.trans A' s2) A2 (Step.free A s' A' h0) l0 hx r q
end
section
variable {X : Cx} {a b : Expr} {tl : DA} {pos : Pos}
/-- x, y = a, b -/
@[simp] def sPar (i j : Nat) (tl : DA) : DS := fun De ρ M => tl ρ M fun ds M1 => ∃ d e, ds = [d, e] ∧ De.nx ((ρ.set i (some d)).set j (some e)) M1
end
section
variable {P : Program} {w : World} {K : PySem.W.Frag} {mg : Str → Option Value} {base : Heap}
theorem pd_fnN {x qual : Str} {st : Stmt} {f : Addr} {fd : FuncData} {N ps : List Str} {k : Nat} {W : DCN} (F : Fun K x qual st f fd) (S : FnScope N ps (defScope st))
    (hbody : ∀ (cdv : Value) (A : Around) (outer : List Env) (s : Shared) (H : Hp) (E : XK), Room k (A.deeper (envOfC qual (defScope st) s.heap.objs.size f cdv)) →
      ∃ t, PDN (cxOf CX0 P w K mg base N qual (defScope st) f cdv A outer s H E).nox (defBody st) t ∧ ∀ ds M Q, ds.length = ps.length → W ds M Q → t Q (startD N ds) M) :
    FnOk P w K mg base CX0 (k + 1) f fd ps (spN ps.length W K) := by
  refine F.ok S (fun vs H Q E h => h.1) (fun cdv A outer s H vs Q E hr h => ?_)
  obtain ⟨hl, as, M, L, ds, P', r, A0, hw, q⟩ := h
  obtain ⟨t, ht, hb⟩ := hbody cdv A outer s H E hr
  obtain ⟨ts, pt, st'⟩ := ht.ex
  exact ⟨ts, pt, st' as (L2.start N vs) (startD N ds) L H M P' _ (en_start r) A0 (hb ds M P' (by rw [← r.length]; exact hl) hw) fun p xs m L' H' M' s' A' h0 l0 hx rx hp => q p xs m L' H' M' s' A' h0 l0 hx rx hp⟩
end
end Pd
set_option Elab.async false
set_option linter.all false
set_option maxRecDepth 100000
set_option maxHeartbeats 2000000
namespace Pd
open PySem PySem.Spec PyProof.Rows L2 PySem.HandSPX
/-- a built-in base of own exceptions -/
structure Tail (B newId initId : String) (tl : List Value) : Prop where
  F : ExcBaseFacts B newId initId tl
  S : ∀ self, refuseLoop self "__setattr__" tl = pure ()
  nr : ∀ c r, tl ≠ .ref c :: r
  ne : tl ≠ []
  ob : tl.contains (.type "object") = true
theorem tail_Exception : Tail "Exception" "Exception.__new__" "Exception.__init__" [.type "Exception", .type "BaseException", .type "object"] :=
  ⟨PySem.F.excBase_Exception, fun s => PySem.F.store_Exception.passes s, fun _ _ z => (by cases z), fun z => (by cases z), by decide +kernel⟩
/-- own classes, then the base's mro -/
inductive RefsT (tl : List Value) : List Value → Prop
  | tl : RefsT tl tl
  | ref (c : Addr) {r : List Value} : RefsT tl r → RefsT tl (.ref c :: r)
section
variable {B newId initId : String} {tl : List Value}
theorem RefsT.pass (T : Tail B newId initId tl) (self : Value) : ∀ {l : List Value}, RefsT tl l → refuseLoop self "__setattr__" l = pure ()
  | _, .tl => T.S self
  | _, .ref c h => by rw [refuseLoop_ref]; exact h.pass T self
theorem RefsT.contains (X : String) : ∀ {l : List Value}, RefsT tl l → l.contains (.type X) = tl.contains (.type X)
  | _, .tl => rfl
  | _, .ref c h => by rw [List.contains_cons, h.contains X]; rfl
theorem RefsT.ne (T : Tail B newId initId tl) : ∀ {l : List Value}, RefsT tl l → l.isEmpty = false
  | _, .tl => by
    have := T.ne
    cases tl with
    | nil => exact absurd rfl this
    | cons _ _ => rfl
  | _, .ref c h => rfl
end
section
open PySem.W PySem.Calls Builtin Builtin.ObjectAttr
variable {prog : Program} {w : World} {A : Around} {E : Value → Shared → Prop} {R : Result → Shared → Prop} {hp : Heap} {g : Array GenState} {d : Drawn} {t : Nat} {os : OsState} {B newId initId : String} {tl : List Value}
/-- self.name = v, the first field -/
theorem osaT_new (T : Tail B newId initId tl) {K : W.Frag} {name : Str} {tk : Tok} {v : Value} {x C : Addr} {fv : Array Value} {cd : ClassData}
    (X : K.In hp) (hx : hp.get? x = some { cls := .ref C, data := .fields fv }) (hcd : W.clsIn K C = some cd) (hm : RefsT tl cd.mro) (hh : cd.hasDict = true) (ha : W.findIn K (.ref C) name = some none)
    (hq : ∀ h' tk' dx, (∀ b o, b ≠ x → hp.get? b = some o → h'.get? b = some o) → hp.objs.size ≤ dx → dx ≠ x → h'.get? x = some { cls := .ref C, dict := some dx, data := .fields fv } →
      h'.Ns1 dx (fun y => if y = name then some v else none) → R (.ok (.ret .none)) ⟨h', g, d, tk', os⟩) :
    codeAny (model prog w) A (.call (.builtin "object.__setattr__") ⟨[.ref x, .str name tk, v], []⟩) R ⟨hp, g, d, t, os⟩ := by
  have I : W.InstAt hp x { cls := .ref C, data := .fields fv } C none := ⟨hx, rfl, rfl, trivial⟩
  have SF := PySem.F.store_object
  have ne := hm.ne T
  have hob : cd.mro.contains (.type "object") = true := (hm.contains "object").trans T.ob
  have hxs : x ≠ hp.objs.size := Nat.ne_of_lt (Heap.lt_size hx)
  have sub : W.Looks (model prog w) hp (isInstance (.ref x) (.type "object")) true := I.type.andThen (W.looks_mroIn X (by unfold W.mroIn; rw [hcd, Option.bind_some, if_neg (by rw [ne]; decide), hob]))
  refine codeAny_call_builtin SF.slot.plain SF.entry (@W.check_slot (model prog w) _ _ ⟨hp, g, d, t, os⟩ "object.__setattr__" "object" "__setattr__" (.ref x) [.str name tk, v] [] _ SF.kind SF.split sub (SF.args (.ref x) (.str name tk) v) ?_)
  have hmr : W.Looks (model prog w) hp (mroOf (.ref C)) cd.mro := (W.looks_clsIn X hcd).andThen .now
  have L3 : W.Looks (model prog w) hp (storeTaker? none) none := .now
  have hcls : W.Looks (model prog w) hp (classData C) cd := W.looks_clsIn X hcd
  rw [W.osa_eq, refuse_eq]
  refine wpAny_bind (wpAny_bind (I.type.at (wpAny_bind (hmr.at ?_))))
  rw [hm.pass T]
  refine wpAny_pure (wpAny_bind (I.type.at (wpAny_bind ((W.looks_findIn X ha).at (wpAny_bind (L3.at ?_))))))
  show wpAny _ _ (storeInOwnDict (.ref x) (.ref C) (.str name tk) name v false) _ _ _
  obtain ⟨nm, bs, mro, ns, qn, hd, sn, sb, ab, col, del⟩ := cd
  dsimp only at hh
  subst hh
  unfold storeInOwnDict ownDictForStores
  repeat (first | with_reducible refine store_in_new ?_ ?_ | with_reducible refine wpAny_loadPart_at hx ?_ | with_reducible refine hcls.at ?_ | wp_step)
  · exact ⟨_, #[], _, (Heap.get?_update_ne _ _ _ _ hxs.symm).trans (Heap.get?_push_at rfl rfl), rfl, fun e he => absurd he (by simp), fun _ => rfl⟩
  · intro h' tk' hn' hs
    have hx₁ : (hp.push { cls := .type "dict", data := .dict #[] }).get? x = some { cls := .ref C, data := .fields fv } := Heap.get?_push_of_some _ hx
    refine hq h' tk' hp.objs.size (fun b o hb ho => ?_) (Nat.le_refl _) hxs.symm ?_ hn'
    · exact (hs.2 b (Nat.ne_of_lt (Heap.lt_size ho))).trans ((Heap.get?_update_ne _ _ _ _ hb).trans (Heap.get?_push_of_some _ ho))
    · exact (hs.2 x hxs).trans (Heap.get?_update_self _ hx₁ rfl)
/-- a further field -/
theorem osaT_old (T : Tail B newId initId tl) {K : W.Frag} {name : Str} {tk : Tok} {v : Value} {x C dx : Addr} {fv : Array Value} {cd : ClassData} {m0 : Str → Option Value} {nl : List Str}
    (X : K.In hp) (hx : hp.get? x = some { cls := .ref C, dict := some dx, data := .fields fv }) (hns : hp.Ns1 dx m0) (hw : Within m0 nl) (hz : nl.length ≤ 1000) (hcd : W.clsIn K C = some cd) (hm : RefsT tl cd.mro) (hh : cd.hasDict = true)
    (ha : W.findIn K (.ref C) name = some none)
    (hq : ∀ h' tk', (∀ b o, b ≠ dx → hp.get? b = some o → h'.get? b = some o) → h'.Ns1 dx (fun y => if y = name then some v else m0 y) → R (.ok (.ret .none)) ⟨h', g, d, tk', os⟩) :
    codeAny (model prog w) A (.call (.builtin "object.__setattr__") ⟨[.ref x, .str name tk, v], []⟩) R ⟨hp, g, d, t, os⟩ := by
  obtain ⟨oD, esD, epD, hoD, hdD, _⟩ := hns.count hw
  have I : W.InstAt hp x { cls := .ref C, dict := some dx, data := .fields fv } C (some oD) := ⟨hx, rfl, rfl, hoD⟩
  have SF := PySem.F.store_object
  have ne := hm.ne T
  have hob : cd.mro.contains (.type "object") = true := (hm.contains "object").trans T.ob
  have sub : W.Looks (model prog w) hp (isInstance (.ref x) (.type "object")) true := I.type.andThen (W.looks_mroIn X (by unfold W.mroIn; rw [hcd, Option.bind_some, if_neg (by rw [ne]; decide), hob]))
  refine codeAny_call_builtin SF.slot.plain SF.entry (@W.check_slot (model prog w) _ _ ⟨hp, g, d, t, os⟩ "object.__setattr__" "object" "__setattr__" (.ref x) [.str name tk, v] [] _ SF.kind SF.split sub (SF.args (.ref x) (.str name tk) v) ?_)
  have hmr : W.Looks (model prog w) hp (mroOf (.ref C)) cd.mro := (W.looks_clsIn X hcd).andThen .now
  have L3 : W.Looks (model prog w) hp (storeTaker? none) none := .now
  have hcls : W.Looks (model prog w) hp (classData C) cd := W.looks_clsIn X hcd
  rw [W.osa_eq, refuse_eq]
  refine wpAny_bind (wpAny_bind (I.type.at (wpAny_bind (hmr.at ?_))))
  rw [hm.pass T]
  refine wpAny_pure (wpAny_bind (I.type.at (wpAny_bind ((W.looks_findIn X ha).at (wpAny_bind (L3.at ?_))))))
  show wpAny _ _ (storeInOwnDict (.ref x) (.ref C) (.str name tk) name v false) _ _ _
  obtain ⟨nm, bs, mro, ns, qn, hd, sn, sb, ab, col, del⟩ := cd
  dsimp only at hh
  subst hh
  unfold storeInOwnDict ownDictForStores
  repeat (first | with_reducible refine PySem.OEX.store_in_old hns hw hz ?_ | with_reducible refine wpAny_loadPart_at hx ?_ | with_reducible refine hcls.at ?_ | wp_step)
  intro h' tk' hn' hs
  exact hq h' tk' (fun b o hb ho => (hs.2 b hb).trans ho) hn'
end
/-- what the written part says of an own exception class -/
structure OexT (K : PySem.W.Frag) (newId : String) (tl : List Value) (C : Addr) : Prop where
  cls : ∃ nm q N bs bm sn sub ab col dd k0 k1 k2 k3 k5, K.lookup C = some (excClassObj nm q C N bs bm true sn sub ab col dd k0 k1 k2 k3 k5 newId) ∧ RefsT tl bm
  sa : PySem.W.findIn K (.ref C) "__setattr__" = some (some (.builtin "object.__setattr__"))
  exC : PySem.W.subIn K (.ref C) (.type "BaseException") = some true
  tyC : PySem.W.typeIn K (.ref C) = some (.type "type")
  kC : PySem.W.keepIn K (.ref C) = true
section
variable {X : Cx} {pins : List (Addr × Obj)} {σ : L2.St} {H : Hp} {s : Shared} {a C dx : Addr} {f : Str} {y : V} {u : Value} {fs : List (Str × V)} {Q : Unit → Shared → Prop} {E : Value → Shared → Prop} {A : Around} {B newId initId : String} {tl : List Value}
theorem ostT_new (TT : Tail B newId initId tl) (T : OexT X.K newId tl C) (I : Inv X pins σ H s) (e : H a = some (exo a C none)) (hno : PySem.W.findIn X.K (.ref C) f = some none) (ry : RelV y u)
    (h : ∀ dx s', H dx = none → dx ≠ a → Inv X pins σ (upd (upd H dx (exd dx [(f, y)])) a (exo a C (some dx))) s' → Q () s') : wpAny (model X.prog X.w) A (setAttr (.ref a) f u) Q E s := by
  obtain ⟨nm, q, N, bs, bm, sn, sub, ab, col, dd, k0, k1, k2, k3, k5, hC, hbm⟩ := T.cls
  have hcl : PySem.W.clsIn X.K C = some { name := nm, bases := bs, mro := .ref C :: bm, ns := N, qualname := q, hasDict := true, slotNames := sn, subclasses := sub, abstract := ab, collection := col, hasDel := false } := by unfold PySem.W.clsIn; rw [hC] <;> rfl
  obtain ⟨t1, ho⟩ := exo_at I.hok e
  obtain ⟨hp, g, d, t, os⟩ := s
  refine PySem.W.set_plain I.kIn (ox := { cls := .ref C, dict := none, data := .fields #[.ref t1, .none, .none, .none, .bool false, .none] }) (od := none) ⟨ho, rfl, rfl, trivial⟩ T.sa ?_
  refine osaT_new TT I.kIn ho hcl (show RefsT tl (.ref C :: bm) from .ref C hbm) rfl hno (fun h' tk' dx k dn dne hx hn => ?_)
  have hnd : H dx = none := I.hok.fresh dn
  have nd : ∀ {b : Addr} {o : Obj}, hp.get? b = some o → b ≠ dx := fun {b o} q => Nat.ne_of_lt (Nat.lt_of_lt_of_le (Heap.lt_size q) dn)
  have na : ∀ {b : Addr}, H b = none → b ≠ a := fun {b} n z => by
    rw [z, e] at n
    cases n
  have Un1 : Un X.fs [] H (upd (upd H dx (exd dx [(f, y)])) a (exo a C (some dx))) hp h' := {
    keep := fun b o q n _ _ => k b o (na n) q
    slot := fun b o q n _ _ => ⟨o.slots, k b o (na n) q⟩
    free := fun b o q n _ => by rw [upd_ne (na n), upd_ne (nd q)]; exact n
    there := fun b o q _ => by
      by_cases hb : b = a
      · exact ⟨_, by rw [hb]; exact hx⟩
      · exact ⟨o, k b o hb q⟩
    tups := fun b xs q => by rw [upd_ne (at_ne e q exo_tup), upd_ne (ne_of_none q hnd)]; exact q
    frzs := fun b o v q => by rw [upd_ne (at_ne e q exo_frz), upd_ne (ne_of_none q hnd)]; exact q
    tbls := fun b ps q => ⟨#[], by rw [upd_ne (at_ne e q exo_tbl), upd_ne (ne_of_none q hnd), q]; simp⟩ }
  refine h dx _ hnd dne (I.un (t' := tk') Un1 fun b o q => ?_)
  by_cases hb : b = a
  · subst hb
    rw [upd_same] at q
    cases q
    exact exo_ok hx
  · rw [upd_ne hb] at q
    by_cases hd : b = dx
    · subst hd
      rw [upd_same] at q
      cases q
      exact exd_ok hn (relO_put (fs := []) ry fun g => True.intro)
    · rw [upd_ne hd] at q
      exact (I.hok b o q).stay (fun c v hc z => k c v (by
          rcases hc with hc | hc
          · rw [hc]
            exact hb
          · exact at_ne e hc exo_own) z)
        (fun c hc => by rw [upd_ne (at_ne e hc exo_own), upd_ne (ne_of_none hc hnd)]; exact hc) (fun c xs hc => by rw [upd_ne (at_ne e hc exo_tup), upd_ne (ne_of_none hc hnd)]; exact hc)
theorem ostT_old (TT : Tail B newId initId tl) (T : OexT X.K newId tl C) (I : Inv X pins σ H s) (e : H a = some (exo a C (some dx))) (ed : H dx = some (exd dx fs)) (hl : fs.length ≤ 900) (hno : PySem.W.findIn X.K (.ref C) f = some none) (ry : RelV y u)
    (h : ∀ s', Inv X pins σ (upd H dx (exd dx ((f, y) :: fs))) s' → Q () s') : wpAny (model X.prog X.w) A (setAttr (.ref a) f u) Q E s := by
  obtain ⟨nm, q, N, bs, bm, sn, sub, ab, col, dd, k0, k1, k2, k3, k5, hC, hbm⟩ := T.cls
  have hcl : PySem.W.clsIn X.K C = some { name := nm, bases := bs, mro := .ref C :: bm, ns := N, qualname := q, hasDict := true, slotNames := sn, subclasses := sub, abstract := ab, collection := col, hasDel := false } := by unfold PySem.W.clsIn; rw [hC] <;> rfl
  obtain ⟨t1, ho⟩ := exo_at I.hok e
  obtain ⟨mA, hns, rel⟩ := exd_at I.hok ed
  have hw := within_of rel
  obtain ⟨hp, g, d, t, os⟩ := s
  obtain ⟨oD, _, _, hoD, _, _⟩ := hns.count hw
  refine PySem.W.set_plain I.kIn (ox := { cls := .ref C, dict := some dx, data := .fields #[.ref t1, .none, .none, .none, .bool false, .none] }) (od := some oD) ⟨ho, rfl, rfl, hoD⟩ T.sa ?_
  refine osaT_old TT I.kIn ho hns hw (by rw [List.length_map]; omega) hcl (show RefsT tl (.ref C :: bm) from .ref C hbm) rfl hno (fun h' tk' k hn => ?_)
  have hd : ∃ o, h'.get? dx = some o := by
    obtain ⟨o, _, _, e', _⟩ := hn
    exact ⟨o, e'⟩
  exact h _ (I.write (t' := tk') (x := dx) (e := dx) (o := exd dx ((f, y) :: fs)) (by rw [ed]; exact True.intro) (.inl rfl) k hd (exd_ok hn (relO_put ry rel)))
end
def tOstT (K : PySem.W.Frag) (newId : String) (tl : List Value) (f : Str) (to te : TE) : TS := fun D σ H => te σ H fun y H1 => to σ H1 fun x H2 => ∃ a C : Addr, x = .ref a ∧ OexT K newId tl C ∧ PySem.W.findIn K (.ref C) f = some none ∧
  ((H2 a = some (exo a C none) ∧ ∀ dx, H2 dx = none → dx ≠ a → D.nx σ (upd (upd H2 dx (exd dx [(f, y)])) a (exo a C (some dx)))) ∨
    ∃ (dx : Addr) (fs : List (Str × V)), H2 a = some (exo a C (some dx)) ∧ H2 dx = some (exd dx fs) ∧ fs.length ≤ 900 ∧ D.nx σ (upd H2 dx (exd dx ((f, y) :: fs))))
theorem ps_ostT {X : Cx} {B newId initId : String} {tl : List Value} (TT : Tail B newId initId tl) {o e : Expr} {to te : TE} {f : Str} {p' pos : Pos} (ho : PE X o to) (he : PE X e te) (hs : swapsWith e (some (.Attribute o f p')) pos.line X.env = pure false := by rfl) : PS X (.Assign [.Attribute o f p'] e pos) (tOstT X.K newId tl f to te) := by
  refine ⟨fun pins s σ H D I h => ?_⟩
  refine plainObj_wpAny_Assign_Attribute (thn (he.run pins s σ H _ I h) fun v s1 ⟨y, H1, I1, r1, q1⟩ => thn (ho.run pins s1 σ H1 _ I1 q1) fun u s2 ⟨x, H2, I2, r2, a, C, ex, T, hno, q⟩ => ?_) hs
  subst ex
  obtain rfl : u = Value.ref a := r2
  rcases q with ⟨ea, q⟩ | ⟨dx, fs, ea, ed, hl, q⟩
  · exact ostT_new TT T I2 ea hno r1 fun dx s' n ne J => ⟨σ, _, J, q dx n ne⟩
  · exact ostT_old TT T I2 ea ed hl hno r1 fun s' J => ⟨σ, _, J, q⟩
end Pd
set_option Elab.async false
set_option linter.all false
set_option maxRecDepth 100000
set_option maxHeartbeats 2000000
namespace Pd
open PySem PySem.Spec PyProof.Rows L2 PySem.HandSPX
section
variable {P : Program} {w : World} {K : PySem.W.Frag} {mg : Str → Option Value} {base : Heap} {B newId initId : String} {tl : List Value}
/-- what __init__(self, y): self.f = y promises -/
def spI1 (newId : String) (tl : List Value) (C : Addr) (f : Str) : PySem.W.Frag → Sp := fun K vs H Q _ => vs.length = 2 ∧ ∃ a y, vs = [.ref a, y] ∧ OexT K newId tl C ∧ PySem.W.findIn K (.ref C) f = some none ∧ H a = some (exo a C none) ∧
  ∀ dx, H dx = none → dx ≠ a → Q .non (upd (upd H dx (exd dx [(f, y)])) a (exo a C (some dx)))
theorem fn_init1 {x qual : Str} {st : Stmt} {f : Addr} {fd : FuncData} {N : List Str} {p0 p1 fld : Str} {C : Addr} (F : Fun K x qual st f fd) (S : FnScope N [p0, p1] (defScope st))
    (hbody : ∀ (cdv : Value) (A : Around) (outer : List Env) (s : Shared) (H : Hp) (E : XK), PSs (cxOf CX0 P w K mg base N qual (defScope st) f cdv A outer s H E).nox (defBody st) (tOstT K newId tl fld (tVar 0) (tVar 1))) :
    FnOk P w K mg base CX0 1 f fd [p0, p1] (spI1 newId tl C fld K) := by
  refine F.ok S (fun vs H Q E h => h.1) (fun cdv A outer s H vs Q E hr h => ⟨_, hbody cdv A outer s H E, ?_⟩)
  obtain ⟨_, a, y, rfl, T, hno, ha, q⟩ := h
  exact ⟨y, rfl, .ref a, rfl, a, C, rfl, T, hno, .inl ⟨ha, fun dx h1 h2 => q dx h1 h2⟩⟩
end
theorem At.shown {K : PySem.W.Frag} {as : List Addr} {M : Ms} {L H : Hp} {a : Addr} {o : HO} (A : At K as M L H) (la : L a = none) (na : a ∉ as) (kc : KeepC H (upd H a o)) (ho : ∀ ps, o ≠ .tbl ps) : At K as M (upd L a o) (upd H a o) := by
  refine ⟨fun b u h => ?_, A.len, A.nd, fun k b m e1 e2 => ?_, A.nt.new ho⟩
  · by_cases hb : b = a
    · subst hb; rw [upd_same] at h ⊢; exact h
    · rw [upd_ne hb] at h ⊢; exact A.low b u h
  · obtain ⟨h3, u, h4, h5⟩ := A.mo k b m e1 e2
    have hb : b ≠ a := fun z => na (by rw [← z]; exact List.mem_of_getElem? e1)
    exact ⟨by rw [upd_ne hb]; exact h3, u, by rw [upd_ne hb]; exact h4, h5.1.mono (Ex.new la) (Pre.refl _), h5.2.keep kc⟩
theorem Step.shown {as : List Addr} {L0 H0 L H : Hp} {a : Addr} {o : HO} (s : Step as L0 H0 as L H) (ha : H0 a = none) (la : L a = none) : Step as L0 H0 as (upd L a o) (upd H a o) :=
  ⟨fun b u hb h => by rw [upd_ne (ne_of_none h ha)]; exact s.up b u hb h, fun b u h => by
    have := s.k b u h
    rw [upd_ne (fun z => by rw [z, la] at this; cases this)]; exact this, fun b h h' => by rw [upd_ne (fun z => h' (by rw [z]; exact ha))]; exact s.hid b h h', s.pre, s.new⟩
section
variable {X : Cx} {p pos : Pos}
@[simp] def dExc0 (C : Addr) : DE := fun _ M P => P (.exc C []) M
end
section
variable {X : Cx} {B newId initId : String} {tl : List Value} {e : Expr} {ta : DA} {p pos : Pos}
/-- C(e), the exception keeps e in its field f -/
@[simp] def dExc1 (C : Addr) (f : Str) (ta : DA) : DE := fun ρ M P => ta ρ M fun ds M1 => ∃ y, ds = [y] ∧ P (.exc C [(f, y)]) M1
end
end Pd
set_option Elab.async false
set_option linter.all false
set_option maxRecDepth 100000
set_option maxHeartbeats 2000000
namespace Pd
open PySem PySem.Spec PyProof.Rows L2 PySem.HandSPX
section
variable {X : Cx} {e : Expr} {te : TE} {t : DE} {pos : Pos} {n : Str}
@[simp] def dXg (K : PySem.W.Frag) (t : DE) (n : Str) : DE := fun ρ M P => t ρ M fun x M1 => ∃ C gs v, x = .exc C gs ∧ ExcC K C ∧ PySem.W.findIn K (.ref C) n = some none ∧ gs.lookup n = some v ∧ P v M1
@[simp] def oIsiE (K : PySem.W.Frag) : DC := fun xs M P => ∃ C gs c v u b, xs = [.exc C gs, c] ∧ ExcC K C ∧ DCl c v u ∧ PySem.W.kitOne K (.ref C) u = some b ∧ P (.bl b) M
end
end Pd
set_option Elab.async false
set_option linter.all false
set_option maxRecDepth 100000
set_option maxHeartbeats 2000000
namespace Pd
open PySem PySem.HandSPX
open PySem.Spec PyProof.Rows L2
end Pd
set_option Elab.async false
set_option linter.all false
set_option maxRecDepth 100000
set_option maxHeartbeats 2000000
namespace Pd
open PySem PySem.Spec PyProof.Rows L2
/-- a def's promise where nothing is being shown -/
structure FnG (P : Program) (w : World) (K : PySem.W.Frag) (mg : Str → Option Value) (base : Heap) (k : Nat) (f : Addr) (fd : FuncData) (ps : List Str) (sp : Sp) : Prop where
  len : ∀ vs H Q E, sp vs H Q E → vs.length = ps.length
  run : ∀ (A : Around) (outer : List Env) (s : Shared) (H : Hp) (args : Args) (us : List Value) (vs : List V) (Q : VK) (E : XK), A.guards = some [] → Room k A → Env0 P w K mg base A outer s H → BindsTo s fd args (ps.zip us) → Vals vs us → sp vs H Q E →
    codeAny (model P w) A (.call (.ref f) args) (CR CX0 outer P w H s Q E) s
theorem FnG.of {P : Program} {w : World} {K : PySem.W.Frag} {mg : Str → Option Value} {base : Heap} {k : Nat} {f : Addr} {fd : FuncData} {ps : List Str} {sp : Sp} (F : FnOk P w K mg base CX0 k f fd ps sp) : FnG P w K mg base k f fd ps sp :=
  ⟨F.len, fun A outer s H args us vs Q E _ hr e0 hb r h => F.run A outer s H args us vs Q E hr e0 hb r h⟩
mutual
/-- data that repr may read -/
def plainR : D → Bool
  | .non => true | .bl _ => true | .int _ => true | .str _ => true
  | .lst ds => plainRA ds | .tup ds => plainRA ds | .dic _ ds => plainRA ds
  | _ => false
def plainRA : List D → Bool
  | [] => true
  | d :: ds => plainR d && plainRA ds
end
section
variable {X : Cx} {pins : List (Addr × Obj)} {σ : L2.St} {H L : Hp} {s : Shared} {as : List Addr}
/-- it is read, and shown -/
def ShO (X : Cx) (h : Heap) (u : Value) (p : PyData) : Prop := (∃ rs, Reads h u p rs) ∧ ∃ bs, ReadAtMost h p.depth bs ∧ ReprK X.prog X.w bs h p.depth u p.shown
def ShA (X : Cx) (h : Heap) (us : List Value) (ps : List PyData) : Prop := (∃ rs, ReadsAll h us ps rs) ∧ ∃ bs, ReadAtMost h (PyData.depthAll ps) bs ∧ ReprAllK X.prog X.w bs h (PyData.depthAll ps) us (PyData.shownAll ps)
theorem ShA.nil {h : Heap} : ShA X h [] [] := ⟨⟨_, .nil⟩, [], (fun _ z => nomatch z), by simp only [PyData.shownAll]; exact .nil⟩
theorem ShA.cons {h : Heap} {u : Value} {us : List Value} {p : PyData} {ps : List PyData} (a : ShO X h u p) (b : ShA X h us ps) : ShA X h (u :: us) (p :: ps) := by
  obtain ⟨⟨r1, e1⟩, b1, m1, k1⟩ := a
  obtain ⟨⟨r2, e2⟩, b2, m2, k2⟩ := b
  refine ⟨⟨_, .cons e1 e2⟩, b1 ++ b2, ?_, ?_⟩
  · show ReadAtMost h (max p.depth (PyData.depthAll ps)) _
    exact (m1.mono (Nat.le_max_left _ _)).append (m2.mono (Nat.le_max_right _ _))
  · show ReprAllK X.prog X.w (b1 ++ b2) h (max p.depth (PyData.depthAll ps)) _ (p.shown :: PyData.shownAll ps)
    have s1 : ∀ b ∈ b1, b ∈ b1 ++ b2 := fun b hb => List.mem_append_left _ hb
    have s2 : ∀ b ∈ b2, b ∈ b1 ++ b2 := fun b hb => List.mem_append_right _ hb
    exact .cons ((k1.more s1).level_le (Nat.le_max_left _ _)) (k2.more_le s2 (Nat.le_max_right _ _))
theorem keyP_sh {h : Heap} {k : Key} {u : Value} (e : (mixKind X.prog X.w).is k u = true) (hs : (keyP k).showable = true) (hz : (keyP k).shown.length ≤ sizeLine) : ShO X h u (keyP k) := by
  rcases keyIs_shape e with ⟨i, t, rfl, rfl⟩ | ⟨x, t, rfl, rfl⟩
  · exact ⟨⟨_, .int i t⟩, [], (fun _ z => nomatch z), .of_is (ReprIs.int t (of_decide_eq_true hs)) _ _ _⟩
  · exact ⟨⟨_, .str x t⟩, [], (fun _ z => nomatch z), .of_is (ReprIs.str x t hz) _ _ _⟩
theorem toPA_len : ∀ ds : List D, (toPA ds).length = ds.length
  | [] => rfl
  | _ :: ds => congrArg (· + 1) (toPA_len ds)
theorem keys_sh {h : Heap} : ∀ {es : List DictEntry} {vs0 : List (Key × Value)}, Pairs (mixKind X.prog X.w) es vs0 → PyData.showableAll (vs0.map fun p => keyP p.1) = true → (∀ t ∈ PyData.shownAll (vs0.map fun p => keyP p.1), t.length ≤ sizeLine) →
    ShA X h (es.map fun e => e.key) (vs0.map fun p => keyP p.1)
  | _, _, .nil, _, _ => .nil
  | _, _, .cons a b c, hs, hz => by
    have hs' := Bool.and_eq_true_iff.mp hs
    exact .cons (keyP_sh a hs'.1 (hz _ List.mem_cons_self)) (keys_sh c hs'.2 fun t ht => hz t (List.mem_cons_of_mem _ ht))
theorem vals_of_pairs : ∀ {es : List DictEntry} {vs0 : List (Key × Value)}, Pairs (mixKind X.prog X.w) es vs0 → es.map (fun e => e.val) = vs0.map fun p => p.2
  | _, _, .nil => rfl
  | _, _, .cons a b c => by rw [List.map_cons, List.map_cons, b, vals_of_pairs c]
theorem kv_keys {ks : List Key} {vs : List V} {vs0 : List (Key × Value)} (hl : ks.length = vs.length) (r : KV (ks.zip vs) vs0) : (vs0.map fun p => p.1) = ks ∧ Vals vs (vs0.map fun p => p.2) := by
  induction ks generalizing vs vs0 with
  | nil =>
    cases vs with
    | nil => cases r; exact ⟨rfl, .nil⟩
    | cons v vs => cases hl
  | cons k ks ih =>
    cases vs with
    | nil => cases hl
    | cons v vs =>
      cases r with
      | cons q t =>
        obtain ⟨h1, h2⟩ := ih (Nat.succ.inj hl) t
        exact ⟨by rw [List.map_cons, h1, ← q.1], .cons q.2 h2⟩
theorem zip_fst : ∀ (ks : List PyData) (ps : List PyData), ks.length = ps.length → (ks.zip ps).map (·.1) = ks
  | [], _, _ => by rw [List.zip_nil_left]; rfl
  | k :: ks, [], h => by cases h
  | k :: ks, p :: ps, h => by rw [List.zip_cons_cons, List.map_cons, zip_fst ks ps (Nat.succ.inj h)]
theorem zip_snd : ∀ (ks : List PyData) (ps : List PyData), ks.length = ps.length → (ks.zip ps).map (·.2) = ps
  | [], [], _ => rfl
  | [], p :: ps, h => by cases h
  | k :: ks, [], h => by cases h
  | k :: ks, p :: ps, h => by rw [List.zip_cons_cons, List.map_cons, zip_snd ks ps (Nat.succ.inj h)]
theorem ShO.lst {h : Heap} {a : Addr} {o : Obj} {n : Nat} {us : List Value} {ps : List PyData} (ho : h.get? a = some o) (hc : o.cls = .type "list") (hd : o.data = .seq us.toArray n) (x : ShA X h us ps) : ShO X h (.ref a) (.list ps) := by
  obtain ⟨⟨rs, r⟩, bs, m, k⟩ := x
  have r' : Reads h (.ref a) (.list ps) (a :: rs) := .list ho hc hd r
  have lt : PyData.depthAll ps < (PyData.list ps).depth := by simp only [PyData.depth]; omega
  refine ⟨⟨_, r'⟩, a :: bs, ReadAtMost.cons r' (Nat.le_of_lt lt) m, ?_⟩
  show ReprK X.prog X.w (a :: bs) h (PyData.depthAll ps + 1) (.ref a) (listText (PyData.shownAll ps))
  cases us with
  | nil =>
    cases r
    have e0 : listText (PyData.shownAll []) = ("[]" : Str) := listText_nil
    rw [e0]
    exact ReprK.listEmpty ho hc hd
  | cons u us => exact ReprK.list ho hc hd (not_mem_of_deeper r' lt m) (by simpa using k.length_eq) fun i y e => k.item i y (by simpa using e)
theorem ShO.tup {h : Heap} {a : Addr} {o : Obj} {n : Nat} {us : List Value} {ps : List PyData} (ho : h.get? a = some o) (hc : o.cls = .type "tuple") (hd : o.data = .seq us.toArray n) (x : ShA X h us ps) : ShO X h (.ref a) (.tuple ps) := by
  obtain ⟨⟨rs, r⟩, bs, m, k⟩ := x
  have r' : Reads h (.ref a) (.tuple ps) rs := .tuple ho hc hd r
  have lt : PyData.depthAll ps < (PyData.tuple ps).depth := by simp only [PyData.depth]; omega
  exact ⟨⟨_, r'⟩, a :: bs, ReadAtMost.cons r' (Nat.le_of_lt lt) m, ReprK.tuple ho hc hd (not_mem_of_deeper r' lt m) k⟩
theorem ShO.dic {h : Heap} {a : Addr} {o : Obj} {es : Array DictEntry} {n : Nat} {kvs : List (PyData × PyData)} (ho : h.get? a = some o) (hc : o.cls = .type "dict") (hd : o.data = .dict es n) (hs : (a == sysModules) = false)
    (x : ShA X h (es.toList.map fun e => e.key) (kvs.map (·.1))) (y : ShA X h (es.toList.map fun e => e.val) (kvs.map (·.2))) : ShO X h (.ref a) (.dict kvs) := by
  obtain ⟨⟨rs, r⟩, bs, m, k⟩ := x
  obtain ⟨⟨rs2, r2⟩, bs2, m2, k2⟩ := y
  have r' : Reads h (.ref a) (.dict kvs) (a :: rs ++ rs2) := .dict ho hc hd r r2
  have lt : PyData.depthKv kvs < (PyData.dict kvs).depth := by simp only [PyData.depth]; omega
  have l1 := PyData.depthAll_keys_le kvs
  have l2 := PyData.depthAll_vals_le kvs
  have mm := (m.mono l1).append (m2.mono l2)
  have s1 : ∀ b ∈ bs, b ∈ bs ++ bs2 := fun b hb => List.mem_append_left _ hb
  have s2 : ∀ b ∈ bs2, b ∈ bs ++ bs2 := fun b hb => List.mem_append_right _ hb
  refine ⟨⟨_, r'⟩, a :: (bs ++ bs2), ReadAtMost.cons r' (Nat.le_of_lt lt) mm, ?_⟩
  show ReprK X.prog X.w (a :: (bs ++ bs2)) h (PyData.depthKv kvs + 1) (.ref a) (dictText (PyData.shownKv kvs))
  rw [PyData.shownKv_eq]
  exact ReprK.dict ho hc hd hs (not_mem_of_deeper r' lt mm) (ReprEntriesK.of_two es.toList _ _ (k.more_le s1 l1) (k2.more_le s2 l2))
mutual
theorem Rp.sh (I : Inv X pins σ H s) (ex : Ex L H) : ∀ (d : D) (v : V) (u : Value), Rp X.K as L v d → plainR d = true → (toP d).showable = true → (toP d).shown.length ≤ sizeLine → RelV v u → ShO X s.heap u (toP d)
  | .non, _, _, h, _, _, _, r => by cases h; cases r; exact ⟨⟨_, .none⟩, [], (fun _ z => nomatch z), .of_is ReprIs.none _ _ _⟩
  | .bl b, _, _, h, _, _, _, r => by cases h; cases r; exact ⟨⟨_, .bool b⟩, [], (fun _ z => nomatch z), .of_is (ReprIs.bool b) _ _ _⟩
  | .int i, _, _, h, _, hs, _, r => by
    cases h
    obtain ⟨t, rfl⟩ := r
    exact ⟨⟨_, .int i t⟩, [], (fun _ z => nomatch z), .of_is (ReprIs.int t (of_decide_eq_true hs)) _ _ _⟩
  | .str x, _, _, h, _, _, hz, r => by
    cases h
    obtain ⟨t, rfl⟩ := r
    exact ⟨⟨_, .str x t⟩, [], (fun _ z => nomatch z), .of_is (ReprIs.str x t hz) _ _ _⟩
  | .lst ds, _, _, h, p, hs, hz, r => by
    cases h with
    | lst h1 ra =>
      cases r
      obtain ⟨its, rv, ⟨o, n, ho, hc, _, hd⟩, _⟩ := I.list (ex_l ex h1)
      exact ShO.lst ho hc hd (RpA.sh I ex ds _ its ra p hs (fun t ht => Nat.le_trans (listText_mem_le ht) hz) rv)
  | .tup ds, _, _, h, p, hs, hz, r => by
    cases h with
    | tup h1 ra =>
      cases r
      obtain ⟨its, rv, ⟨o, ho, hc, n, hd⟩, _⟩ := I.tuple (ex_t ex h1)
      exact ShO.tup ho hc hd (RpA.sh I ex ds _ its ra p hs (fun t ht => Nat.le_trans (tupleText_mem_le ht) hz) rv)
  | .dic ks ds, _, _, h, p, hs, hz, r => by
    cases h with
    | dic h1 hl ra =>
      cases r
      obtain ⟨_, hsys, vs0, kv, o, es, ep, ho, hex, hd, _, hp, _⟩ := dk_rd I.hok (ex_rd ex (.inr h1))
      obtain ⟨e1, rv⟩ := kv_keys hl kv
      have e2 : (vs0.map fun p => keyP p.1) = ks.map keyP := by rw [← e1, List.map_map]; rfl
      have hlen : (ks.map keyP).length = (toPA ds).length := by rw [List.length_map, toPA_len, hl, ra.length]
      have f1 := zip_fst _ _ hlen
      have f2 := zip_snd _ _ hlen
      obtain ⟨s1, s2⟩ := PyData.showableKv_split _ hs
      rw [f1] at s1
      rw [f2] at s2
      have z1 : ∀ t ∈ PyData.shownAll (ks.map keyP), t.length ≤ sizeLine := fun t ht => by
        obtain ⟨q, hq, hl⟩ := PyData.shownKv_key_le ((ks.map keyP).zip (toPA ds)) t (by rw [f1]; exact ht)
        exact Nat.le_trans hl (Nat.le_trans (dictText_mem_le hq) hz)
      have z2 : ∀ t ∈ PyData.shownAll (toPA ds), t.length ≤ sizeLine := fun t ht => by
        obtain ⟨q, hq, hl⟩ := PyData.shownKv_val_le ((ks.map keyP).zip (toPA ds)) t (by rw [f2]; exact ht)
        exact Nat.le_trans hl (Nat.le_trans (dictText_mem_le hq) hz)
      refine ShO.dic ho hex.1 hd hsys ?_ ?_
      · rw [f1, ← e2]
        exact keys_sh hp (by rw [e2]; exact s1) (by rw [e2]; exact z1)
      · rw [f2, vals_of_pairs hp]
        exact RpA.sh I ex ds _ _ ra p s2 z2 rv
theorem RpA.sh (I : Inv X pins σ H s) (ex : Ex L H) : ∀ (ds : List D) (vs : List V) (us : List Value), RpA X.K as L vs ds → plainRA ds = true → PyData.showableAll (toPA ds) = true → (∀ t ∈ PyData.shownAll (toPA ds), t.length ≤ sizeLine) → Vals vs us → ShA X s.heap us (toPA ds)
  | [], _, _, h, _, _, _, r => by cases h; cases r; exact .nil
  | d :: ds, _, _, h, p, hs, hz, r => by
    cases h with
    | cons h1 h2 =>
      cases r with
      | cons r1 r2 =>
        have p' := Bool.and_eq_true_iff.mp p
        have hs' := Bool.and_eq_true_iff.mp hs
        exact .cons (Rp.sh I ex d _ _ h1 p'.1 hs'.1 (hz _ List.mem_cons_self) r1) (RpA.sh I ex ds _ _ h2 p'.2 hs'.2 (fun t ht => hz t (List.mem_cons_of_mem _ ht)) r2)
end
end
def reprD (d : D) : Str := (toP d).shown
/-- data whose repr is told -/
structure Shows (d : D) : Prop where
  pl : plainR d = true
  sh : (toP d).showable = true
  sz : (reprD d).length ≤ sizeLine
  dp : (toP d).depth ≤ 60
section
variable {X : Cx}
def rReprD (K : PySem.W.Frag) : List V → Hp → VK → Prop := fun xs H Q => ∃ x d as L, xs = [x] ∧ Ex L H ∧ Rp K as L x d ∧ Shows d ∧ Q (.str (reprD d)) H
theorem call_repr (hgu : X.A.guards = some []) (hu : X.A.units + 64 < cLine) : CallR X (.builtin "repr") (rReprD X.K) := by
  intro pins s σ H xs us Q I r h
  obtain ⟨x, d, as, L, rfl, ex, rp, sw, q⟩ := h
  obtain ⟨u, rfl, rx⟩ := vals1 r
  have fin : ∀ (h' : Heap) (w1 : Tok) (tk : Nat), (∀ b o, s.heap.get? b = some o → h'.get? b = some o) → EP X pins σ Q (.str (reprD d) w1) { s with heap := h', toks := tk } := fun h' w1 tk hk => ⟨.str (reprD d), H, I.kept (t' := tk) hk, ⟨w1, rfl⟩, q⟩
  have hz : (toP d).shown.length ≤ sizeLine := sw.sz
  have hdp := sw.dp
  have go : ∀ (a : Addr) (T idr : String), u = .ref a → s.TypeIs (.ref a) T → SlotG T "__repr__" idr →
      wpAny (model X.prog X.w) X.A.in1 (call (.builtin idr) [.ref a]) (fun r s₁ => ∃ x t, r = .str x t ∧ EP X pins σ Q r s₁) X.xe s → wpAny (model X.prog X.w) X.A (call (.builtin "repr") [u]) (EP X pins σ Q) X.xe s := by
    intro a T idr e hT hS hc
    subst e
    exact call_repr_slot (by omega) hT hS hc
  have hun : ∀ n : Nat, n < 61 → X.A.in1.units + n < cLine := fun n hn => by show X.A.units + 1 + n < cLine; omega
  cases d with
  | non =>
    cases rp
    cases (show u = Value.none from rx)
    exact PySem.P.repr_of_none ⟨.str _, H, I.tok _, ⟨_, rfl⟩, q⟩
  | bl b =>
    cases rp
    cases (show u = Value.bool b from rx)
    exact PySem.P.repr_of_bool ⟨.str _, H, I.tok _, ⟨_, by cases b <;> rfl⟩, q⟩
  | int i =>
    cases rp
    obtain ⟨t, rfl⟩ := (show ∃ t, u = Value.int i t from rx)
    exact PySem.P.repr_of_int (of_decide_eq_true sw.sh) ⟨.str _, H, I.tok _, ⟨_, rfl⟩, q⟩
  | str y =>
    cases rp
    obtain ⟨t, rfl⟩ := (show ∃ t, u = Value.str y t from rx)
    exact PySem.P.repr_of_str ⟨.str _, H, I.tok _, ⟨_, rfl⟩, q⟩ hz
  | lst ds =>
    cases rp with
    | lst h1 ra =>
      cases rx
      obtain ⟨its, rv, ⟨o, n, ho, hc, _, hd⟩, _⟩ := I.list (ex_l ex h1)
      have x := RpA.sh I ex ds _ its ra sw.pl sw.sh (fun t ht => Nat.le_trans (listText_mem_le ht) hz) rv
      obtain ⟨⟨rs, r1⟩, bs, m, k⟩ := x
      have r' : Reads s.heap (.ref _) (.list (toPA ds)) _ := .list ho hc hd r1
      have lt : PyData.depthAll (toPA ds) < (PyData.list (toPA ds)).depth := by simp only [PyData.depth]; omega
      have hd60 : PyData.depthAll (toPA ds) + 1 ≤ 60 := hdp
      refine go _ "list" "list.__repr__" rfl ⟨o, ho, hc⟩ F.slot_list_repr.toG ?_
      cases its with
      | nil =>
        have eds : toPA ds = [] := by
          clear k m lt hd60 r'
          revert r1
          generalize toPA ds = ps
          intro r1
          cases r1
          rfl
        have er : reprD (.lst ds) = ("[]" : Str) := by show listText (PyData.shownAll (toPA ds)) = _; rw [eds]; exact listText_nil
        refine call_list_repr_empty ⟨o, ho, hc⟩ ho hd ⟨_, _, rfl, ?_⟩
        rw [er] at fin
        exact fin s.heap _ _ fun _ _ e => e
      | cons y its =>
        exact call_list_reprK ho hc hd (not_mem_of_deeper r' lt m) (by simpa using k.length_eq) (fun i y e => k.item i y (by simpa using e)) hgu (fun b _ => Clear.nil b) (hun _ (by omega)) (fun _ _ e => e)
          (fun h' w1 tk hk => ⟨_, _, rfl, fin h' w1 tk hk⟩) hz
  | tup ds =>
    cases rp with
    | tup h1 ra =>
      cases rx
      obtain ⟨its, rv, ⟨o, ho, hc, n, hd⟩, _⟩ := I.tuple (ex_t ex h1)
      have x := RpA.sh I ex ds _ its ra sw.pl sw.sh (fun t ht => Nat.le_trans (tupleText_mem_le ht) hz) rv
      obtain ⟨⟨rs, r1⟩, bs, m, k⟩ := x
      have r' : Reads s.heap (.ref _) (.tuple (toPA ds)) _ := .tuple ho hc hd r1
      have lt : PyData.depthAll (toPA ds) < (PyData.tuple (toPA ds)).depth := by simp only [PyData.depth]; omega
      have hd60 : PyData.depthAll (toPA ds) + 1 ≤ 60 := hdp
      exact go _ "tuple" "tuple.__repr__" rfl ⟨o, ho, hc⟩ F.slot_tuple_repr (call_tuple_reprK ho hc hd (not_mem_of_deeper r' lt m) k hgu (fun b _ => Clear.nil b) (hun _ (by omega)) (fun _ _ e => e)
          (fun h' w1 tk hk => ⟨_, _, rfl, fin h' w1 tk hk⟩) hz)
  | dic ks ds =>
    have x0 := Rp.sh I ex (.dic ks ds) _ _ rp sw.pl sw.sh hz rx
    cases rp with
    | dic h1 hl ra =>
      cases rx
      obtain ⟨_, hsys, vs0, kv, o, es, ep, ho, hex, hd, _, hp, _⟩ := dk_rd I.hok (ex_rd ex (.inr h1))
      obtain ⟨⟨rs, r1⟩, _⟩ := x0
      obtain ⟨e1, rv⟩ := kv_keys hl kv
      have e2 : (vs0.map fun p => keyP p.1) = ks.map keyP := by rw [← e1, List.map_map]; rfl
      have hlen : (ks.map keyP).length = (toPA ds).length := by rw [List.length_map, toPA_len, hl, ra.length]
      have f1 := zip_fst _ _ hlen
      have f2 := zip_snd _ _ hlen
      obtain ⟨s1, s2⟩ := PyData.showableKv_split _ sw.sh
      rw [f1] at s1
      rw [f2] at s2
      have z1 : ∀ t ∈ PyData.shownAll (ks.map keyP), t.length ≤ sizeLine := fun t ht => by
        obtain ⟨q, hq, hl⟩ := PyData.shownKv_key_le ((ks.map keyP).zip (toPA ds)) t (by rw [f1]; exact ht)
        exact Nat.le_trans hl (Nat.le_trans (dictText_mem_le hq) hz)
      have z2 : ∀ t ∈ PyData.shownAll (toPA ds), t.length ≤ sizeLine := fun t ht => by
        obtain ⟨q, hq, hl⟩ := PyData.shownKv_val_le ((ks.map keyP).zip (toPA ds)) t (by rw [f2]; exact ht)
        exact Nat.le_trans hl (Nat.le_trans (dictText_mem_le hq) hz)
      have xk : ShA X s.heap (es.toList.map fun e => e.key) (ks.map keyP) := by
        rw [← e2]
        exact keys_sh hp (by rw [e2]; exact s1) (by rw [e2]; exact z1)
      have xv : ShA X s.heap (es.toList.map fun e => e.val) (toPA ds) := by
        rw [vals_of_pairs hp]
        exact RpA.sh I ex ds _ _ ra sw.pl s2 z2 rv
      obtain ⟨_, b1, m1, k1⟩ := xk
      obtain ⟨_, b2, m2, k2⟩ := xv
      have l1 := PyData.depthAll_keys_le ((ks.map keyP).zip (toPA ds))
      have l2 := PyData.depthAll_vals_le ((ks.map keyP).zip (toPA ds))
      rw [f1] at l1
      rw [f2] at l2
      have lt : PyData.depthKv ((ks.map keyP).zip (toPA ds)) < (toP (.dic ks ds)).depth := by simp only [toP, PyData.depth]; omega
      have mm := (m1.mono l1).append (m2.mono l2)
      have t1 : ∀ b ∈ b1, b ∈ b1 ++ b2 := fun b hb => List.mem_append_left _ hb
      have t2 : ∀ b ∈ b2, b ∈ b1 ++ b2 := fun b hb => List.mem_append_right _ hb
      have hd60 : PyData.depthKv ((ks.map keyP).zip (toPA ds)) + 1 ≤ 60 := hdp
      have et : reprD (.dic ks ds) = dictText (List.zipWith (fun k v : Str => k ++ ": " ++ v) (PyData.shownAll (ks.map keyP)) (PyData.shownAll (toPA ds))) := by
        show dictText (PyData.shownKv _) = _
        rw [PyData.shownKv_eq, f1, f2]
      have hz3 : (reprD (.dic ks ds)).length ≤ sizeLine := hz
      rw [et] at fin hz3
      exact go _ "dict" "dict.__repr__" rfl ⟨o, ho, hex.1⟩ F.slot_dict_repr (call_dict_reprK ho hex.1 hd hsys (not_mem_of_deeper r1 lt mm) (ReprEntriesK.of_two es.toList _ _ (k1.more_le t1 l1) (k2.more_le t2 l2)) hgu (fun b _ => Clear.nil b) (hun _ (by omega)) (fun _ _ e => e)
          (fun h' w1 tk hk => ⟨_, _, rfl, fin h' w1 tk hk⟩) hz3)
  | _ => cases sw.pl
end
@[simp] def oRepr : DC := fun xs M P => ∃ d, xs = [d] ∧ Shows d ∧ P (.str (reprD d)) M
theorem sc_repr {K : PySem.W.Frag} : SimC K (rReprD K) oRepr := by
  intro as L H M xs ds P Q A r ⟨d, h, hs, p⟩ q
  subst h
  cases r with
  | cons r1 r2 =>
    cases r2
    exact ⟨_, d, as, L, rfl, A.low, r1, hs, q _ _ L H M .refl A p (.str _)⟩
end Pd
set_option Elab.async false
set_option linter.all false
set_option maxRecDepth 100000
set_option maxHeartbeats 2000000
namespace Pd
open PySem PySem.Spec PyProof.Rows L2
section
variable {X : Cx} {e b : Expr} {es : List Expr} {pos p tpos lpos : Pos} {elts : List Expr} {kk : Nat} {tl : DA} {tb : DE}
/-- the items with their places -/
def numd : Nat → List D → List D
  | _, [] => []
  | i, d :: ds => .tup [.int (i : Int), d] :: numd (i + 1) ds
theorem numd_len : ∀ (ds : List D) (i : Nat), (numd i ds).length = ds.length
  | [], _ => rfl
  | d :: ds, i => congrArg (· + 1) (numd_len ds (i + 1))
theorem numd_get : ∀ (ds : List D) (i j : Nat) (d : D), ds[j]? = some d → (numd i ds)[j]? = some (.tup [.int ((i + j : Nat) : Int), d])
  | [], _, _, _, h => by simp at h
  | x :: xs, i, 0, d, h => by simp at h; subst h; rfl
  | x :: xs, i, j + 1, d, h => by
    have := numd_get xs (i + 1) j d (by simpa using h)
    rw [show i + 1 + j = i + (j + 1) by omega] at this
    exact this
@[simp] def iEn (tl : DA) : DA := fun ρ M P => tl ρ M fun ds M1 => ∃ xs, ds = [.lst xs] ∧ P (numd 0 xs) M1
/-- [e, ..] * n -/
@[simp] def dRepL (tl : DA) (tb : DE) : DE := fun ρ M P => tl ρ M fun ds M1 => ds.length ≤ sizeLine ∧ tb ρ M1 fun y M2 => ∃ k : Int, y = .int k ∧ -(2 ^ 63) ≤ k ∧ k < 2 ^ 63 ∧ ds.length * k.toNat ≤ sizeLine ∧ P (.lst (List.replicate k.toNat ds).flatten) M2
theorem pd_repL (ha : PDA X es tl) (hb : PD X b tb) : PD X (.BinOp (.List es lpos) .Mult b pos) (dRepL tl tb) := by
  obtain ⟨u, pa, s⟩ := ha.ex
  obtain ⟨u2, pb, s'⟩ := hb.ex
  refine ⟨_, pe_op op_rep (pe_lst pa) pb, ?_⟩
  intro as σ ρ L H M P Q hE A h q
  refine s as σ ρ L H M _ _ hE A h fun vs ds L1 H1 M1 s1 A1 h1 r1 => ⟨by rw [r1.length]; exact h1.1, fun pp hp => ?_⟩
  have s2 := Step.know (o := .lst vs) A1 hp
  have A2 := A1.know (o := .lst vs) hp
  refine s' as σ ρ _ _ M1 _ _ (hE.mono (s1.k.trans s2.k) (Pre.refl _)) A2 h1.2 fun y d L3 H3 M3 s3 A3 h3 r3 => ?_
  obtain ⟨k, rfl, k1, k2, k3, hP⟩ := h3
  cases r3
  have hl : H3 pp = some (.lst vs) := A3.low _ _ (s3.k _ _ upd_same)
  refine ⟨pp, k, vs, rfl, rfl, hl, k1, k2, by rw [r1.length]; exact k3, fun p' hp' => ?_⟩
  have s123 := (s1.trans A1 s2).trans A2 s3
  exact q _ _ _ _ M3 (s123.trans A3 (Step.know A3 hp')) (A3.know hp') hP (.lst (.inl (.inl upd_same)) (((r1.mono (s2.k.trans s3.k) (Pre.refl _)).rep _).mono (Ex.new (lowfree A3 hp')) (Pre.refl _)))
end
end Pd
set_option Elab.async false
set_option linter.all false
set_option maxRecDepth 100000
set_option maxHeartbeats 2000000
namespace Pd
open PySem PySem.Spec PyProof.Rows L2
end Pd
set_option Elab.async false
set_option linter.all false
set_option maxRecDepth 100000
set_option maxHeartbeats 2000000
namespace Pd
open PySem PySem.Spec PyProof.Rows L2 PySem.HandSPX
def cutD (xs : List D) (lo hi : Option Int) : List D := (xs.drop (HT.sIx xs.length 0 lo)).take (HT.sIx xs.length xs.length hi - HT.sIx xs.length 0 lo)
abbrev DO := Rho → Ms → (Option Int → Ms → Prop) → Prop
def SimO (K : PySem.W.Frag) (u : TO) (t : DO) : Prop := ∀ as σ ρ L H M P Q, En K as L σ ρ → At K as M L H → t ρ M P →
  (∀ o L' H' M', Step as L H as L' H' → At K as M' L' H' → P o M' → Q o H') → u σ H Q
structure PDO (X : Cx) (e : Option Expr) (t : DO) : Prop where
  ex : ∃ u, PO X e u ∧ SimO X.K u t
@[simp] def oNo : DO := fun _ M P => P none M
@[simp] def oSome (t : DE) : DO := fun ρ M P => t ρ M fun x M1 => ∃ i, x = .int i ∧ P (some i) M1
section
variable {X : Cx} {K : PySem.W.Frag} {e : Expr} {t : DE} {lo hi : Option Expr} {tl tu : DO} {pos p2 : Pos}
theorem RpA.dropN {as : List Addr} {L : Hp} : ∀ (n : Nat) {vs : List V} {ds : List D}, RpA K as L vs ds → RpA K as L (vs.drop n) (ds.drop n)
  | 0, _, _, h => h
  | n + 1, _, _, .nil => .nil
  | n + 1, _, _, .cons _ t => RpA.dropN n t
theorem RpA.takeN {as : List Addr} {L : Hp} : ∀ (n : Nat) {vs : List V} {ds : List D}, RpA K as L vs ds → RpA K as L (vs.take n) (ds.take n)
  | 0, _, _, _ => .nil
  | n + 1, _, _, .nil => .nil
  | n + 1, _, _, .cons r t => .cons r (RpA.takeN n t)
theorem RpA.slice {as : List Addr} {L : Hp} {vs : List V} {ds : List D} (r : RpA K as L vs ds) (lo hi : Option Int) : RpA K as L (cutV vs lo hi) (cutD ds lo hi) := by
  unfold cutV cutD
  rw [r.length]
  exact RpA.takeN _ (RpA.dropN _ r)
theorem pdo_no : PDO X none oNo := ⟨_, po_none, fun as σ ρ L H M P Q hE A h q => q _ L H M .refl A h⟩
theorem pdo_some (h : PD X e t) : PDO X (some e) (oSome t) := by
  obtain ⟨u, p, s⟩ := h.ex
  refine ⟨_, po_some p, ?_⟩
  intro as σ ρ L H M P Q hE A h q
  refine s as σ ρ L H M _ _ hE A h fun v d L1 H1 M1 s1 A1 h1 r1 => ?_
  obtain ⟨i, rfl, h1⟩ := h1
  cases r1
  exact ⟨i, rfl, q _ L1 H1 M1 s1 A1 h1⟩
/-- xs[lo:hi] of a list -/
@[simp] def dSlL (t : DE) (tl tu : DO) : DE := fun ρ M P => t ρ M fun d M1 => ∃ ds, d = .lst ds ∧ tl ρ M1 fun l M2 => tu ρ M2 fun u M3 => P (.lst (cutD ds l u)) M3
/-- t[lo:hi] of a tuple, not the whole of it -/
@[simp] def dSlT (t : DE) (tl tu : DO) : DE := fun ρ M P => t ρ M fun d M1 => ∃ ds, d = .tup ds ∧ tl ρ M1 fun l M2 => tu ρ M2 fun u M3 => ¬ (HT.sIx ds.length 0 l = 0 ∧ HT.sIx ds.length ds.length u = ds.length) ∧ P (.tup (cutD ds l u)) M3
end
def keyD : Key → D
  | .inl i => .int i
  | .inr x => .str x
abbrev DPr := Rho → Ms → (List (Key × D) → Ms → Prop) → Prop
def SimP (K : PySem.W.Frag) (trs : List (TE × TE)) (t : DPr) : Prop := ∀ as σ ρ L H M P Q, En K as L σ ρ → At K as M L H → t ρ M P →
  (∀ (kvs : List (Key × V)) (ds : List (Key × D)) L' H' M', Step as L H as L' H' → At K as M' L' H' → P ds M' → kvs.map (·.1) = ds.map (·.1) → RpA K as L' (kvs.map (·.2)) (ds.map (·.2)) → Q (kvs.map fun kv => (kV kv.1, kv.2)) H') → tPairs trs σ H Q
structure PDP (X : Cx) (pos : Pos) (ks : List (Option Expr)) (vs : List Expr) (t : DPr) : Prop where
  ex : ∃ trs, PPs X pos ks vs trs ∧ SimP X.K trs t
@[simp] def pNil : DPr := fun _ M P => P [] M
@[simp] def pCons (tk tv : DE) (r : DPr) : DPr := fun ρ M P => tk ρ M fun k M1 => ∃ key, k = keyD key ∧ tv ρ M1 fun v M2 => r ρ M2 fun ps M3 => P ((key, v) :: ps) M3
section
variable {X : Cx} {K : PySem.W.Frag} {k v : Expr} {ks : List (Option Expr)} {vs : List Expr} {tk tv : DE} {r : DPr} {pos : Pos}
theorem pdp_nil : PDP X pos [] [] pNil := ⟨_, pps_nil, fun as σ ρ L H M P Q hE A h q => q [] [] L H M .refl A h rfl .nil⟩
theorem pdp_cons (hk : PD X k tk) (hv : PD X v tv) (hr : PDP X pos ks vs r) : PDP X pos (some k :: ks) (v :: vs) (pCons tk tv r) := by
  obtain ⟨uk, pk, sk⟩ := hk.ex
  obtain ⟨uv, pv, sv⟩ := hv.ex
  obtain ⟨ur, pr, sr⟩ := hr.ex
  refine ⟨_, pps_cons pk pv pr, ?_⟩
  intro as σ ρ L H M P Q hE A h q
  refine sk as σ ρ L H M _ _ hE A h fun x d L1 H1 M1 s1 A1 h1 r1 => ?_
  obtain ⟨key, rfl, h1⟩ := h1
  refine sv as σ ρ L1 H1 M1 _ _ (hE.mono s1.k s1.pre) A1 h1 fun y e L2 H2 M2 s2 A2 h2 r2 => ?_
  have s12 := s1.trans A1 s2
  refine sr as σ ρ L2 H2 M2 _ _ (hE.mono s12.k s12.pre) A2 h2 fun kvs ds L3 H3 M3 s3 A3 h3 e3 r3 => ?_
  have ex : x = kV key := by
    cases key with
    | inl i => cases r1; rfl
    | inr i => cases r1; rfl
  subst ex
  exact q ((key, y) :: kvs) ((key, e) :: ds) L3 H3 M3 (s12.trans A2 s3) A3 h3 (by rw [List.map_cons, List.map_cons, e3]) (.cons (r2.mono s3.k s3.pre) r3)
theorem mergeK_nodup : ∀ (more acc : List (Key × V)), ((acc ++ more).map (·.1)).Nodup → mergeK acc more = acc ++ more
  | [], acc, _ => (List.append_nil acc).symm
  | (k, v) :: more, acc, h => by
    have hk : (acc.any fun kv => decide (kv.1 = k)) = false := by
      rw [List.any_eq_false]
      intro kv hm
      simp only [decide_eq_true_eq]
      intro e
      rw [List.map_append, List.map_cons] at h
      have := (List.nodup_append.mp h).2.2 kv.1 (List.mem_map.mpr ⟨kv, hm, rfl⟩) k List.mem_cons_self
      exact this e
    show mergeK (putK acc k v) more = _
    have e : putK acc k v = acc ++ [(k, v)] := by
      unfold putK
      rw [hk, if_neg Bool.false_ne_true]
    rw [e, mergeK_nodup more (acc ++ [(k, v)]) (by rw [List.append_assoc]; exact h), List.append_assoc]
    rfl
theorem zip_maps {α β : Type} : ∀ l : List (α × β), (l.map (·.1)).zip (l.map (·.2)) = l
  | [] => rfl
  | (a, b) :: l => by rw [List.map_cons, List.map_cons, List.zip_cons_cons, zip_maps l]
/-- what is known of a dict is that it stays as it is -/
def tFrzK (te : TE) : TE := fun σ H Q => te σ H fun v H1 => ∃ d kvs, v = .ref d ∧ H1 d = some (.dK kvs) ∧ ∀ o, Q v (upd H1 d (.frz o (.dK kvs)))
theorem pe_frzK {X : Cx} {e : Expr} {te : TE} (h : PE X e te) : PE X e (tFrzK te) := by
  refine ⟨fun pins s σ H Q I hw => ?_⟩
  refine thn (h.run pins s σ H _ I hw) fun v s1 ⟨x, H1, I1, rx, d, kvs, ex, hd, q⟩ => ?_
  subst ex
  obtain ⟨od, I2⟩ := I1.lock hd trivial
  exact ⟨_, _, I2, rx, q od⟩
@[simp] def dDic (r : DPr) : DE := fun ρ M P => r ρ M fun kvs M1 => (kvs.map (·.1)).Nodup ∧ kvs.length ≤ 15 ∧ P (.dic (kvs.map (·.1)) (kvs.map (·.2))) M1
theorem pd_dic (h : PDP X pos ks vs r) (hall : ks.all (·.isSome) = true := by rfl) (hl : ks.length = vs.length := by rfl) (h0 : ks ≠ [] := by exact fun z => nomatch z) (h15 : ks.length ≤ 15 := by decide) : PD X (.Dict ks vs pos) (dDic r) := by
  obtain ⟨trs, p, s⟩ := h.ex
  refine ⟨_, pe_frzK (pe_disp p hall hl h0 h15), ?_⟩
  intro as σ ρ L H M P Q hE A h q a ha
  have la : L a = none := lowfree A ha
  have na : a ∉ as := fun z => (A.held z).2 ha
  refine s as σ ρ L (upd H a (.dK [])) M _ _ hE (A.hidden ha) h fun kvs ds L1 H1 M1 s1 A1 h1 e1 r1 => ?_
  obtain ⟨hnd, hlen, p⟩ := h1
  have hk1 : H1 a = some (.dK []) := s1.up a _ na upd_same
  have la1 : L1 a = none := s1.hid a la (by rw [upd_same]; simp)
  have e2 : mergeK [] kvs = kvs := mergeK_nodup kvs [] (by rw [List.nil_append, e1]; exact hnd)
  have e3 : kvs.length = ds.length := by have := congrArg List.length e1; rwa [List.length_map, List.length_map] at this
  refine ⟨hk1, kvs, rfl, by rw [e3]; exact hlen, ?_⟩
  rw [e2]
  refine ⟨a, kvs, rfl, upd_same, fun o => ?_⟩
  rw [upd_upd]
  have s01 : Step as L H as L1 H1 := (Step.refl.hidden (o := .dK []) ha).trans (A.hidden ha) s1
  refine q _ _ _ _ M1 (s01.shown ha la1) (A1.shown la1 na (KeepC.over hk1 rfl) (fun ps z => by cases z)) p (.dic (vs := kvs.map (·.2)) ⟨o, ?_⟩ ?_ (r1.mono (Ex.new la1) (Pre.refl _)))
  · rw [upd_same, ← e1, zip_maps]
  · rw [List.length_map, ← e3, List.length_map]
@[simp] def dDic0 : DE := fun _ M P => P (.dic [] []) M
theorem pd_dic0 : PD X (.Dict [] [] pos) dDic0 := by
  refine ⟨_, pe_frzK pe_dnewK, ?_⟩
  intro as σ ρ L H M P Q hE A h q a ha
  refine ⟨a, [], rfl, upd_same, fun o => ?_⟩
  rw [upd_upd]
  exact q _ _ _ _ M (Step.know A ha) (A.know ha) h (.dic (vs := []) ⟨o, upd_same⟩ rfl .nil)
end
section
variable {X : Cx}
/-- the second argument: a tuple of classes -/
inductive DCls : List D → List Value → Prop
  | nil : DCls [] []
  | cons {d : D} {v : V} {u : Value} {ds : List D} {us : List Value} : DCl d v u → DCls ds us → DCls (d :: ds) (u :: us)
variable {e : Expr} {es : List Expr} {te : DE} {tl : DA} {p tp pos : Pos} {k : Nat}
/-- isinstance(e, (T1, ..)), e an exception that keeps something -/
@[simp] def dIsiTE (K : PySem.W.Frag) (te : DE) (tl : DA) : DE := fun ρ M P => te ρ M fun x M1 => ∃ C g gs, x = .exc C (g :: gs) ∧ ExcC K C ∧ tl ρ M1 fun cs M2 => cs.length ≤ sizeLine ∧ ∃ us b, DCls cs us ∧ PySem.W.kitAny K (.ref C) us = some b ∧ P (.bl b) M2
end
section
variable {X : Cx} {B newId initId : String} {tl : List Value} {e e2 : Expr} {ta td : DA} {p pos : Pos}
/-- C(e, e2), the exception keeps both -/
@[simp] def dExc2 (C : Addr) (f g : Str) (ta : DA) : DE := fun ρ M P => ta ρ M fun ds M1 => ∃ y z, ds = [y, z] ∧ P (.exc C [(g, z), (f, y)]) M1
/-- C(g = e, f = e2), the names the other way round -/
@[simp] def dExc2R (C : Addr) (f g : Str) (ta : DA) : DE := fun ρ M P => ta ρ M fun ds M1 => ∃ y z, ds = [z, y] ∧ P (.exc C [(g, z), (f, y)]) M1
end
end Pd
set_option Elab.async false
set_option linter.all false
set_option maxRecDepth 100000
set_option maxHeartbeats 2000000
namespace Pd
open PySem PySem.Spec PyProof.Rows L2 PySem.HandSPX
/-- what is asked where C(e, ..) is made to be raised -/
def tMkR (C : Addr) (sp : Sp) (ta : TA) : L2.St → Hp → XK → Prop := fun σ H Q => ta σ H fun vs H1 => vs.length ≤ 1000 ∧ ∀ a, H1 a = none → sp (.ref a :: vs) (upd H1 a (exo a C none))
  (fun v H2 => v = .non ∧ ∃ (d : Addr) (fs : List (Str × V)), H2 a = some (exo a C (some d)) ∧ H2 d = some (exd d fs) ∧ H1 d = none ∧ Q (.ref C) (some d) (upd (del H2 a) d (.xd fs))) E0
section
variable {X : Cx} {B newId initId : String} {tl : List Value} {e : Expr} {es : List Expr} {ta : TA} {p pos : Pos}
theorem pmk_exT (TT : Tail B newId initId tl) {x : Str} {C fI : Addr} {k : Nat} {fd : FuncData} {ps : List Str} {sp : Sp} (T : OexT X.K newId tl C) (iC : PySem.W.findIn X.K (.ref C) "__init__" = some (some (.ref fI))) (tI : PySem.W.typeIn X.K (.ref fI) = some (.type "function"))
    (F1 : FnOk X.prog X.w X.K X.mg X.base CX0 k fI fd ps sp) (hr : Room (k + 1) X.A) (hb : Binds X.K fd ps []) (hg : Gl X x) (hm : X.mg x = some (.ref C)) (ha : PA X (e :: es) ta)
    (hdb : (x == ("__debug__" : Str)) = false := by decide) (he : starEach (e :: es) X.env = (false, eval e X.env) :: starEach es X.env := by rfl) (hpl : (backTo pos (starEach es X.env)).any (·.1) = false := by rfl) :
    PMk X (.Call (.Name x p) (e :: es) [] pos) (tMkR C sp ta) := by
  intro pins st σ H Q I hask
  obtain ⟨nm, q, N, bs, bm, sn, sub, ab, col, dd, k0, k1, k2, k3, k5, hC, hbm⟩ := T.cls
  refine wpAny_Call_Name_kw (ld_glob I hg hm ?_ hdb)
  refine PySem.W.callWith_K (h₀ := X.base) I.ok.mod.kin T.kC (thn (ha.run pos pins st σ H _ I hask) fun ws s1 ⟨vs, H1, I1, r1, hz, q1⟩ => ⟨I1.kIn, ?_⟩) he hpl
  show wpAny _ _ (call (.ref C) ws) _ _ _
  obtain ⟨hp, gg, dr, tk, os⟩ := s1
  generalize hA : hp.objs.size + 1 = A1
  have size1 : hp.objs.size ≤ A1 := by omega
  have free1 : H1 A1 = none := I1.hok.fresh size1
  have ask1 := q1 A1 free1
  have stay1 : ∀ b o, hp.get? b = some o → ((hp.push (PySem.W.kdv_tup ws)).push (excO C hp.objs.size)).get? b = some o := fun b o z => Heap.get?_push_of_some _ (Heap.get?_push_of_some _ z)
  have made1 : ((hp.push (PySem.W.kdv_tup ws)).push (excO C hp.objs.size)).get? A1 = some (excO C hp.objs.size) := by subst hA; heap_get
  have I2 := I1.laid (t' := tk) (a := A1) (o := exo A1 C none) stay1 size1 (exo_ok made1)
  have r2 : Vals (V.ref A1 :: vs) (Value.ref A1 :: ws) := .cons rfl r1
  have len2 : (Value.ref A1 :: ws).length = ps.length := r2.length.symm.trans (F1.len _ _ _ _ ask1)
  have len3 : ws.length ≤ sizeLine := by
    rw [← r1.length, sizeLine_eq]
    omega
  subst hA
  refine wpAny_call (call_own TT.F (fun Y => hbm.contains Y) (I1.kIn _ _ hC) (PySem.W.looks_findIn I1.kIn iC) (fun self => PySem.W.bind_fn I1.kIn self tI) len3
    (codeAny_mono (F1.run _ X.stack _ _ ⟨Value.ref (hp.objs.size + 1) :: ws, []⟩ (Value.ref (hp.objs.size + 1) :: ws) _ _ E0 (hr.make C ws []) (I2.env0.make C ws []) (by simpa using hb _ (Value.ref (hp.objs.size + 1) :: ws) I2.kIn (by simpa using len2)) r2 ask1) fun r s' hq' => ?_))
  match r, hq' with
  | .error _, z => exact (show False from z).elim
  | .ok .next, z => exact (show False from z).elim
  | .ok .brk, z => exact (show False from z).elim
  | .ok .cont, z => exact (show False from z).elim
  | .ok (.ret u), z =>
    obtain ⟨v, H2, os2, bare2, un2, hok2, rv, ev, d, fs, ea, ed, hd1, q2⟩ := z
    subst ev
    obtain ⟨h2, g2, d2, t2, os'⟩ := s'
    exact ⟨rv, mk_end (raises_own T.exC T.tyC) I1 size1 stay1 un2 hok2 os2 bare2 ea ed hd1 q2⟩
end
abbrev XD := Addr → List (Str × D) → Ms → Prop
def XC (K : PySem.W.Frag) (as : List Addr) (L H : Hp) (Xd : XD) (E : XK) : Prop := ∀ (C : Addr) (gs : List (Str × D)) (dx : Addr) (fs : List (Str × V)) (L' H' : Hp) (M' : Ms), Step as L H as L' H' → At K as M' L' H' → Xd C gs M' → L' dx = some (.xd fs) → RpF K as L' fs gs → E (.ref C) (some dx) H'
theorem XC.step {K : PySem.W.Frag} {as : List Addr} {L H L1 H1 : Hp} {M1 : Ms} {Xd : XD} {E : XK} (s : Step as L H as L1 H1) (A1 : At K as M1 L1 H1) (h : XC K as L H Xd E) : XC K as L1 H1 Xd E :=
  fun C gs dx fs L' H' M' s' A' x e r => h C gs dx fs L' H' M' (s.trans A1 s') A' x e r
def xNo : XD := fun _ _ _ => False
theorem XC.no {K : PySem.W.Frag} {as : List Addr} {L H : Hp} {E : XK} : XC K as L H xNo E := fun _ _ _ _ _ _ _ _ _ x => x.elim
/-- an expression whose last step may raise -/
abbrev DX := Rho → Ms → (D → Ms → Prop) → XD → Prop
def SimEX (K : PySem.W.Frag) (E : XK) (te : TE) (t : DX) : Prop := ∀ as σ ρ L H M P Xd Q, En K as L σ ρ → At K as M L H → t ρ M P Xd →
  (∀ v d L' H' M', Step as L H as L' H' → At K as M' L' H' → P d M' → Rp K as L' v d → Q v H') → XC K as L H Xd E → te σ H Q
structure PDX (X : Cx) (E : XK) (e : Expr) (t : DX) : Prop where
  ex : ∃ te, PE X e te ∧ SimEX X.K E te t
abbrev SX := DEnds → XD → Rho → Ms → Prop
def SimSX (K : PySem.W.Frag) (E : XK) (ts : TS) (t : SX) : Prop := ∀ as σ ρ L H M De Xd D, En K as L σ ρ → At K as M L H → t De Xd ρ M → Comp K as L H De D → XC K as L H Xd E → ts D σ H
structure PDSX (X : Cx) (E : XK) (st : Stmt) (t : SX) : Prop where
  ex : ∃ ts, PS X st ts ∧ SimSX X.K E ts t
structure PDSsX (X : Cx) (E : XK) (st : List Stmt) (t : SX) : Prop where
  ex : ∃ ts, PSs X st ts ∧ SimSX X.K E ts t
section
variable {X : Cx} {E : XK} {e : Expr} {es : List Expr} {t : DE} {tl : DA} {tx : DX} {tA : DT} {st : Stmt} {sts : List Stmt} {s1 s2 : SX} {s0 : DS} {pos p : Pos}
@[simp] def xOf (t : DE) : DX := fun ρ M P _ => t ρ M P
@[simp] def zOf (t : DS) : SX := fun De _ ρ M => t De ρ M
theorem pdx_of (h : PD X e t) : PDX X E e (xOf t) := by
  obtain ⟨u, p, s⟩ := h.ex
  exact ⟨u, p, fun as σ ρ L H M P Xd Q hE A h q _ => s as σ ρ L H M P Q hE A h q⟩
theorem pdsx_of (h : PDS X st s0) : PDSX X E st (zOf s0) := by
  obtain ⟨u, p, s⟩ := h.ex
  exact ⟨u, p, fun as σ ρ L H M De Xd D hE A h c _ => s as σ ρ L H M De D hE A h c⟩
theorem pdssx_of (h : PDSs X sts s0) : PDSsX X E sts (zOf s0) := by
  obtain ⟨u, p, s⟩ := h.ex
  exact ⟨u, p, fun as σ ρ L H M De Xd D hE A h c _ => s as σ ρ L H M De D hE A h c⟩
theorem pdssx_nil : PDSsX X E [] (zOf sNext) := pdssx_of pdss_nil
@[simp] def zSeq (t u : SX) : SX := fun De Xd ρ M => t { De with nx := fun ρ' M' => u De Xd ρ' M' } Xd ρ M
theorem pdssx_cons (h1 : PDSX X E st s1) (h2 : PDSsX X E sts s2) : PDSsX X E (st :: sts) (zSeq s1 s2) := by
  obtain ⟨u, p, s⟩ := h1.ex
  obtain ⟨u', p', s'⟩ := h2.ex
  refine ⟨_, pss_cons p p', ?_⟩
  intro as σ ρ L H M De Xd D hE A h c x
  refine s as σ ρ L H M _ Xd _ hE A h ⟨fun σ1 ρ1 L1 H1 M1 st1 A1 e1 q1 => ?_, c.rt, c.bk, c.ct⟩ x
  exact s' as σ1 ρ1 L1 H1 M1 De Xd D e1 A1 q1 (c.step st1 A1) (x.step st1 A1)
theorem pdssx_one (h1 : PDSX X E st s1) : PDSsX X E [st] s1 := by
  obtain ⟨u, p, s⟩ := h1.ex
  exact ⟨_, pss_one p, s⟩
@[simp] def zIf (c : DT) (t u : SX) : SX := fun D Xd ρ M => c ρ M fun b M1 => if b = true then t D Xd ρ M1 else u D Xd ρ M1
theorem pdsx_if {a b : List Stmt} (hc : PDT X c tA) (ha : PDSsX X E a s1) (hb : PDSsX X E b s2) : PDSX X E (.If c a b pos) (zIf tA s1 s2) := by
  obtain ⟨u, p, s⟩ := hc.ex
  obtain ⟨u1, p1, z1⟩ := ha.ex
  obtain ⟨u2, p2, z2⟩ := hb.ex
  refine ⟨_, ps_if p p1 p2, ?_⟩
  intro as σ ρ L H M De Xd D hE A h c x
  refine s as σ ρ L H M _ _ hE A h fun k L1 H1 M1 st A1 h1 => ?_
  have eE := hE.mono st.k st.pre
  cases k with
  | true => exact (if_pos rfl : (if true = true then u1 D σ H1 else u2 D σ H1) = _) ▸ z1 as σ ρ L1 H1 M1 De Xd D eE A1 h1 (c.step st A1) (x.step st A1)
  | false => exact (if_neg Bool.false_ne_true : (if false = true then u1 D σ H1 else u2 D σ H1) = _) ▸ z2 as σ ρ L1 H1 M1 De Xd D eE A1 h1 (c.step st A1) (x.step st A1)
@[simp] def zRet (t : DX) : SX := fun D Xd ρ M => t ρ M D.rt Xd
theorem pdsx_ret (he : PDX X E e tx) : PDSX X E (.Return (some e) pos) (zRet tx) := by
  obtain ⟨u, p, s⟩ := he.ex
  exact ⟨_, ps_ret p, fun as σ ρ L H M De Xd D hE A h c x => s as σ ρ L H M _ Xd _ hE A h (fun v d L1 H1 M1 st A1 q r => c.rt v d L1 H1 M1 st A1 q r) x⟩
@[simp] def zDrop (t : DX) : SX := fun D Xd ρ M => t ρ M (fun _ M1 => D.nx ρ M1) Xd
@[simp] def zAsg (t : DX) (g : DG) : SX := fun D Xd ρ M => t ρ M (fun d M1 => g d ρ fun ρ' => D.nx ρ' M1) Xd
theorem pdsx_set (i : Nat) {x : Str} {p' : Pos} (hN : X.N.Nodup) (he : PDX X E e tx) (hi : X.N[i]? = some x := by rfl) (hx : Loc X.env.scope x := by first | exact Or.inl rfl | exact Or.inr rfl) (hs : swapsWith e (some (.Name x p')) pos.line X.env = pure false := by rfl)
    (hf : X.fn x = true ∨ X.env.scope.names.lookup x = some .local := by first | exact .inl rfl | exact .inr rfl | assumption) : PDSX X E (.Assign [.Name x p'] e pos) (zAsg tx (gN i)) := by
  obtain ⟨u, p, s⟩ := he.ex
  refine ⟨_, ps_set hN hi hx p hs hf, ?_⟩
  intro as σ ρ L H M De Xd D hE A h c x
  refine s as σ ρ L H M _ Xd _ hE A h (fun v d L1 H1 M1 st A1 q r => ?_) x
  exact c.nx _ _ L1 H1 M1 st A1 ((hE.mono st.k st.pre).set i r) q
@[simp] def zRaise1 (C : Addr) (f : Str) (tl : DA) : SX := fun _ Xd ρ M => tl ρ M fun ds M1 => ∃ y, ds = [y] ∧ Xd C [(f, y)] M1
theorem pdsx_raise {B newId initId : String} {tlv : List Value} (TT : Tail B newId initId tlv) {x : Str} {C fI : Addr} {k : Nat} {fd : FuncData} {ps : List Str} {f : Str} (hc : X.calm = true) (tk : Takes X (fun cls d _ H => E cls d H)) (T : OexT X.K newId tlv C)
    (iC : PySem.W.findIn X.K (.ref C) "__init__" = some (some (.ref fI))) (tI : PySem.W.typeIn X.K (.ref fI) = some (.type "function")) (hno : PySem.W.findIn X.K (.ref C) f = some none)
    (F1 : FnOk X.prog X.w X.K X.mg X.base CX0 k fI fd ps (spI1 newId tlv C f X.K)) (hr : Room (k + 1) X.A) (hb : Binds X.K fd ps []) (hg : Gl X x) (hm : X.mg x = some (.ref C)) (ha : PDA X [e] tl)
    (hdb : (x == ("__debug__" : Str)) = false := by decide) (he : starEach [e] X.env = (false, eval e X.env) :: starEach [] X.env := by rfl) {cpos : Pos} (hpl : (backTo cpos (starEach [] X.env)).any (·.1) = false := by rfl) :
    PDSX X E (.Raise (some (.Call (.Name x p) [e] [] cpos)) none pos) (zRaise1 C f tl) := by
  obtain ⟨u, pa, s⟩ := ha.ex
  refine ⟨_, ps_raise hc tk (pmk_exT TT T iC tI F1 hr hb hg hm pa hdb he hpl), ?_⟩
  intro as σ ρ L H M De Xd D hE A h c xx
  refine s as σ ρ L H M _ _ hE A h fun vs ds L1 H1 M1 st1 A1 h1 r1 => ?_
  obtain ⟨y, rfl, h1⟩ := h1
  cases r1 with
  | @cons v _ _ _ r2 r3 =>
    cases r3
    refine ⟨(by show 1 ≤ 1000; decide), fun a ha => ⟨rfl, a, _, rfl, T, hno, upd_same, fun dx hdx hne => ⟨rfl, dx, [(f, v)], upd_same, by rw [upd_ne hne, upd_same], ?_, ?_⟩⟩⟩
    · rw [upd_ne hne] at hdx; exact hdx
    · have hdx1 : H1 dx = none := by rw [upd_ne hne] at hdx; exact hdx
      have eH : upd (del (upd (upd (upd H1 a (exo a C none)) dx (exd dx [(f, v)])) a (exo a C (some dx))) a) dx (.xd [(f, v)]) = upd H1 dx (.xd [(f, v)]) := by
        funext b
        by_cases hb : b = dx
        · rw [hb, upd_same, upd_same]
        · rw [upd_ne hb, upd_ne hb]
          by_cases hba : b = a
          · rw [hba, del_same, ha]
          · rw [del_ne hba, upd_ne hba, upd_ne hb, upd_ne hba]
      rw [eH]
      have ld : L1 dx = none := lowfree A1 hdx1
      exact xx C [(f, y)] dx [(f, v)] _ _ M1 (st1.trans A1 (Step.know A1 hdx1)) (A1.know hdx1) h1 upd_same (.cons (r2.mono (Ex.new ld) (Pre.refl _)) .nil)
end
abbrev DCX := List D → Ms → (D → Ms → Prop) → XD → Prop
def spX (n : Nat) (W : DCX) : PySem.W.Frag → Sp := fun K vs H Q E => vs.length = n ∧ ∃ as M L ds P Xd, RpA K as L vs ds ∧ At K as M L H ∧ W ds M P Xd ∧
  (∀ v d L' H' M', Step as L H as L' H' → At K as M' L' H' → P d M' → Rp K as L' v d → Q v H') ∧ XC K as L H Xd E
section
variable {P : Program} {w : World} {K : PySem.W.Frag} {mg : Str → Option Value} {base : Heap}
theorem pd_fnX {x qual : Str} {st : Stmt} {f : Addr} {fd : FuncData} {N ps : List Str} {k : Nat} {W : DCX} (F : Fun K x qual st f fd) (S : FnScope N ps (defScope st))
    (hbody : ∀ (cdv : Value) (A : Around) (outer : List Env) (s : Shared) (H : Hp) (E : XK), Room k (A.deeper (envOfC qual (defScope st) s.heap.objs.size f cdv)) →
      ∃ t, PDSsX (cxOf (L2.CX P w) P w K mg base N qual (defScope st) f cdv A outer s H E) E (defBody st) t ∧ ∀ ds M Q Xd, ds.length = ps.length → W ds M Q Xd → t { nx := fun _ M' => Q .non M', rt := Q } Xd (startD N ds) M) :
    FnOk P w K mg base (L2.CX P w) (k + 1) f fd ps (spX ps.length W K) := by
  refine F.okX S (fun vs H Q E h => h.1) (fun cdv A outer s H vs Q E hr h => ?_)
  obtain ⟨hl, as, M, L, ds, P', Xd, r, A0, hw, q, xx⟩ := h
  obtain ⟨t, ht, hb⟩ := hbody cdv A outer s H E hr
  obtain ⟨ts, pt, st'⟩ := ht.ex
  refine ⟨ts, pt, st' as (L2.start N vs) (startD N ds) L H M _ Xd _ (en_start r) A0 (hb ds M P' Xd (by rw [← r.length]; exact hl) hw) ⟨?_, ?_, ?_, ?_⟩ xx⟩
  · exact fun σ' ρ' L' H' M' s1 A1 _ p => q .non .non L' H' M' s1 A1 p .non
  · exact fun v d L' H' M' s1 A1 p r => q v d L' H' M' s1 A1 p r
  · exact fun _ _ _ _ _ _ _ _ p => p.elim
  · exact fun _ _ _ _ _ _ _ _ p => p.elim
end
section
variable {X : Cx} {E : XK} {e : Expr} {es : List Expr} {tl : DA} {pos p : Pos}
@[simp] def dCallX (n : Nat) (W : DCX) (tl : DA) : DX := fun ρ M P Xd => tl ρ M fun ds M1 => ds.length = n ∧ W ds M1 P Xd
/-- a def that may raise, where it does not -/
@[simp] def dCallN (n : Nat) (W : DCX) (tl : DA) : DE := fun ρ M P => tl ρ M fun ds M1 => ds.length = n ∧ W ds M1 P xNo
end
section
variable {K : PySem.W.Frag} {C x dx : Addr} {as : List Addr} {M1 : Ms} {L1 H1 : Hp}
theorem make_in (A1 : At K as M1 L1 H1) (hx : H1 x = none) (hdx : H1 dx = none) : At K (as ++ [x]) (M1 ++ [.ins C []]) L1 (upd (upd H1 dx (.own x)) x (.ins C dx [])) := by
  have xa : x ∉ as := fun z => (A1.held z).2 hx
  have lx : L1 x = none := lowfree A1 hx
  have e0 : ∀ b o, H1 b = some o → (upd (upd H1 dx (.own x)) x (.ins C dx [])) b = some o := fun b o e => by
    rw [upd_ne (ne_of_none e hx), upd_ne (ne_of_none e hdx)]
    exact e
  have A2 : At K (as ++ [x]) (M1 ++ [.ins C []]) L1 (upd (upd H1 dx (.own x)) x (.ins C dx [])) := by
    refine ⟨fun b o e => e0 b o (A1.low b o e), by rw [List.length_append, List.length_append, A1.len]; rfl, ?_, fun k a m g1 g2 => ?_, A1.nt⟩
    · rw [List.nodup_append]
      refine ⟨A1.nd, by simp, fun a ha b hb => ?_⟩
      rw [List.mem_singleton] at hb
      subst hb
      exact fun z => xa (z ▸ ha)
    · by_cases hk : k < as.length
      · rw [List.getElem?_append_left hk] at g1
        rw [List.getElem?_append_left (by rw [← A1.len]; exact hk)] at g2
        obtain ⟨h3, o, h4, h5⟩ := A1.mo k a m g1 g2
        exact ⟨h3, o, e0 a o h4, h5.1.mono (Ex.refl _) (pre_app _ _), h5.2.keep (KeepC.of e0)⟩
      · have e : k = as.length := by
          have := (List.getElem?_eq_some_iff.mp g1).1
          rw [List.length_append] at this
          simp only [List.length_cons, List.length_nil] at this
          omega
        subst e
        rw [List.getElem?_append_right (Nat.le_refl _), Nat.sub_self] at g1
        rw [A1.len, List.getElem?_append_right (Nat.le_refl _), Nat.sub_self] at g2
        cases g1
        cases g2
        exact ⟨lx, _, upd_same, .ins .nil, trivial⟩
  exact A2
theorem make_out {M4 : Ms} {fs : List (Str × D)} {L3 H3 : Hp} (A1 : At K as M1 L1 H1) (hx : H1 x = none) (hdx : H1 dx = none) (s3 : Step (as ++ [x]) L1 (upd (upd H1 dx (.own x)) x (.ins C dx [])) (as ++ [x]) L3 H3) (A3 : At K (as ++ [x]) (M4 ++ [.ins C fs]) L3 H3)
    (hl4 : M4.length = M1.length) (hap : apartF M1.length fs = true) (hapM : apartM M1.length M4 = true) : ∃ L4, Step as L1 H1 as L4 H3 ∧ At K as M4 L4 H3 ∧ Rp K as L4 (.ref x) (.ins C fs) := by
  have xa : x ∉ as := fun z => (A1.held z).2 hx
  have lx : L1 x = none := lowfree A1 hx
  have e0 : ∀ b o, H1 b = some o → (upd (upd H1 dx (.own x)) x (.ins C dx [])) b = some o := fun b o e => by
    rw [upd_ne (ne_of_none e hx), upd_ne (ne_of_none e hdx)]
    exact e
  have gx : (as ++ [x])[as.length]? = some x := by rw [List.getElem?_append_right (Nat.le_refl _), Nat.sub_self]; rfl
  have gm : (M4 ++ [MO.ins C fs])[as.length]? = some (.ins C fs) := by rw [A1.len, ← hl4, List.getElem?_append_right (Nat.le_refl _), Nat.sub_self]; rfl
  obtain ⟨dx', fv, g1, g2⟩ := A3.ins gx gm
  have g3 : RpF K as L3 fv fs := g2.cut (by rw [A1.len]; exact hap)
  have lx3 : L3 x = none := s3.hid x lx (by rw [upd_same]; simp)
  -- the instance is known for good
  have A4 : At K as M4 (upd L3 x (.ins C dx' fv)) H3 := by
    refine ⟨fun b o e => ?_, by rw [hl4]; exact A1.len, A1.nd, fun k a m e1 e2 => ?_, A3.nt.new (fun ps z => by cases z)⟩
    · by_cases hb : b = x
      · subst hb; rw [upd_same] at e; cases e; exact g1
      · rw [upd_ne hb] at e; exact A3.low b o e
    · have hk : k < as.length := (List.getElem?_eq_some_iff.mp e1).1
      obtain ⟨h5, o, h6, h7⟩ := A3.mo k a m (by rw [List.getElem?_append_left hk]; exact e1) (by rw [List.getElem?_append_left (by rw [hl4, ← A1.len]; exact hk)]; exact e2)
      have hax : a ≠ x := fun z => xa (by rw [← z]; exact List.mem_of_getElem? e1)
      refine ⟨by rw [upd_ne hax]; exact h5, o, h6, ?_, h7.2⟩
      have hm := List.all_eq_true.mp hapM m (List.mem_of_getElem? e2)
      cases h7.1 with
      | lst r => exact .lst ((r.cut (by rw [A1.len]; exact hm)).mono (Ex.new lx3) (Pre.refl _))
      | ins r => exact .ins ((r.cut (by rw [A1.len]; exact hm)).mono (Ex.new lx3) (Pre.refl _))
      | tab => exact .tab
      | dic l r => exact .dic l ((r.cut (by rw [A1.len]; exact hm)).mono (Ex.new lx3) (Pre.refl _))
      | dit l r => exact .dit l ((r.cut (by rw [A1.len]; exact hm)).mono (Ex.new lx3) (Pre.refl _))
  have s4 : Step as L1 H1 as (upd L3 x (.ins C dx' fv)) H3 := by
    refine ⟨fun b o hb e => ?_, fun b o e => ?_, fun b e e' => ?_, Pre.refl _, fun _ e => .inl e⟩
    · have hbx : b ≠ x := ne_of_none e hx
      refine s3.up b o (fun z => ?_) (e0 b o e)
      rcases List.mem_append.mp z with z | z
      · exact hb z
      · exact hbx (List.mem_singleton.mp z)
    · rw [upd_ne (fun z => by rw [z, lx] at e; cases e)]; exact s3.k b o e
    · have hbx : b ≠ x := fun z => e' (by rw [z]; exact hx)
      rw [upd_ne hbx]
      refine s3.hid b e ?_
      cases q2 : H1 b with
      | none => exact absurd q2 e'
      | some o => rw [e0 b o q2]; simp
  exact ⟨_, s4, A4, .ins upd_same (g3.mono (Ex.new lx3) (Pre.refl _))⟩
theorem make_exc {M3 : Ms} {m : MO} {L3 H3 : Hp} (A1 : At K as M1 L1 H1) (hx : H1 x = none) (hdx : H1 dx = none) (hne : dx ≠ x) (s3 : Step (as ++ [x]) L1 (upd (upd H1 dx (.own x)) x (.ins C dx [])) (as ++ [x]) L3 H3) (A3 : At K (as ++ [x]) (M3 ++ [m]) L3 H3)
    (hl3 : M3.length = M1.length) (hapM : apartM M1.length M3 = true) : Step as L1 H1 as L3 H3 ∧ At K as M3 L3 H3 := by
  have xa : x ∉ as := fun z => (A1.held z).2 hx
  have lx : L1 x = none := lowfree A1 hx
  have hx2 : upd H1 dx (.own x) x = none := by
    by_cases z : x = dx
    · exact absurd z (fun z => hne z.symm)
    · rw [upd_ne z]; exact hx
  have Ah : At K as M1 L1 (upd (upd H1 dx (.own x)) x (.ins C dx [])) := (A1.hidden hdx).hidden hx2
  have sh : Step as L1 H1 as L1 (upd (upd H1 dx (.own x)) x (.ins C dx [])) := (Step.refl.hidden hdx).hidden hx2
  exact ⟨sh.cutx Ah hx s3, A3.cut (by rw [A1.len]; exact hapM)⟩
end
section
variable {X : Cx} {E : XK} {e : Expr} {es : List Expr} {tl : DA} {pos p : Pos} {K : PySem.W.Frag}
@[simp] def dMakeX (C : Addr) (n : Nat) (W : DCX) (tl : DA) : DX := fun ρ M P Xd => tl ρ M fun ds M1 => ds.length + 1 = n ∧ W (.mu M1.length :: ds) (M1 ++ [.ins C []])
  (fun d M2 => ∃ M3 fs, d = .non ∧ M2 = M3 ++ [.ins C fs] ∧ M3.length = M1.length ∧ apartF M1.length fs = true ∧ apartM M1.length M3 = true ∧ P (.ins C fs) M3)
  (fun C' gs M2 => ∃ M3 m, M2 = M3 ++ [m] ∧ M3.length = M1.length ∧ apartF M1.length gs = true ∧ apartM M1.length M3 = true ∧ Xd C' gs M3)
theorem sim_makeX {C : Addr} {n : Nat} {W : DCX} {u : TA} (s : SimA K u tl) : SimEX K E (tMake C (spX n W K) [] E u) (dMakeX C n W tl) := by
  intro as σ ρ L H M P Xd Q hE A h q xx
  refine s as σ ρ L H M _ _ hE A h fun vs ds L1 H1 M1 s1 A1 h1 r1 => ?_
  intro x dx hx hdx hne
  obtain ⟨hn, hw⟩ := h1
  rw [List.append_nil]
  refine ⟨by rw [List.length_cons, r1.length]; exact hn, as ++ [x], M1 ++ [.ins C []], L1, _, _, _, .cons (.mu ?_) (r1.mono (Ex.refl _) (pre_app _ _)), make_in A1 hx hdx, hw, fun v d L3 H3 M3 s3 A3 h3 r3 => ?_, fun C' gs ex fs L3 H3 M3 s3 A3 h3 e3 r3 => ?_⟩
  · rw [← A1.len, List.getElem?_append_right (Nat.le_refl _), Nat.sub_self]
    rfl
  · obtain ⟨M4, fs, rfl, rfl, hl4, hap, hapM, p⟩ := h3
    cases r3
    obtain ⟨L4, s4, A4, r4⟩ := make_out A1 hx hdx s3 A3 hl4 hap hapM
    exact ⟨rfl, q _ _ L4 H3 M4 (s1.trans A1 s4) A4 p r4⟩
  · obtain ⟨M4, m, rfl, hl4, hap, hapM, p⟩ := h3
    obtain ⟨s4, A4⟩ := make_exc A1 hx hdx hne s3 A3 hl4 hapM
    exact xx C' gs ex fs L3 H3 M4 (s1.trans A1 s4) A4 p e3 (r3.cut (by rw [A1.len]; exact hap))
theorem pdx_make {C f : Addr} {k n : Nat} {fd : FuncData} {ps : List Str} {W : DCX} {x : Str} (tk : Takes X (fun cls d _ H => E cls d H)) (M : Mk X.K C f) (F : FnOk X.prog X.w X.K X.mg X.base (L2.CX X.prog X.w) k f fd ps (spX n W X.K)) (hr : Room (k + 1) X.A) (hg : Gl X x) (hm : X.mg x = some (.ref C)) (hb : Binds X.K fd ps [])
    (ha : PDA X (e :: es) tl) (hdb : (x == ("__debug__" : Str)) = false := by decide) (he : starEach (e :: es) X.env = (false, eval e X.env) :: starEach es X.env := by rfl) (hpl : (backTo pos (starEach es X.env)).any (·.1) = false := by rfl) :
    PDX X E (.Call (.Name x p) (e :: es) [] pos) (dMakeX C n W tl) := by
  obtain ⟨u, pa, s⟩ := ha.ex
  exact ⟨_, pe_make M F hr hg hm hb .nil (passes_call tk fun _ _ _ _ h => h) pa hdb he hpl, sim_makeX s⟩
@[simp] def dMakeN (C : Addr) (n : Nat) (W : DCX) (tl : DA) : DE := fun ρ M P => tl ρ M fun ds M1 => ds.length + 1 = n ∧ W (.mu M1.length :: ds) (M1 ++ [.ins C []])
  (fun d M2 => ∃ M3 fs, d = .non ∧ M2 = M3 ++ [.ins C fs] ∧ M3.length = M1.length ∧ apartF M1.length fs = true ∧ apartM M1.length M3 = true ∧ P (.ins C fs) M3) xNo
theorem pd_makeN {C f : Addr} {k n : Nat} {fd : FuncData} {ps : List Str} {W : DCX} {x : Str} (M : Mk X.K C f) (F : FnOk X.prog X.w X.K X.mg X.base (L2.CX X.prog X.w) k f fd ps (spX n W X.K)) (hr : Room (k + 1) X.A) (hg : Gl X x) (hm : X.mg x = some (.ref C)) (hb : Binds X.K fd ps [])
    (ha : PDA X (e :: es) tl) (hdb : (x == ("__debug__" : Str)) = false := by decide) (he : starEach (e :: es) X.env = (false, eval e X.env) :: starEach es X.env := by rfl) (hpl : (backTo pos (starEach es X.env)).any (·.1) = false := by rfl) :
    PD X (.Call (.Name x p) (e :: es) [] pos) (dMakeN C n W tl) := by
  obtain ⟨u, pa, s⟩ := ha.ex
  refine ⟨_, pe_make M F hr hg hm hb .nil passL pa hdb he hpl, ?_⟩
  intro as σ ρ L H M P Q hE A h q
  refine s as σ ρ L H M _ _ hE A h fun vs ds L1 H1 M1 s1 A1 h1 r1 => ?_
  intro x dx hx hdx hne
  obtain ⟨hn, hw⟩ := h1
  rw [List.append_nil]
  refine ⟨by rw [List.length_cons, r1.length]; exact hn, as ++ [x], M1 ++ [.ins C []], L1, _, _, _, .cons (.mu ?_) (r1.mono (Ex.refl _) (pre_app _ _)), make_in A1 hx hdx, hw, fun v d L3 H3 M3 s3 A3 h3 r3 => ?_, XC.no⟩
  · rw [← A1.len, List.getElem?_append_right (Nat.le_refl _), Nat.sub_self]
    rfl
  · obtain ⟨M4, fs, rfl, rfl, hl4, hap, hapM, p⟩ := h3
    cases r3
    obtain ⟨L4, s4, A4, r4⟩ := make_out A1 hx hdx s3 A3 hl4 hap hapM
    exact ⟨rfl, q _ _ L4 H3 M4 (s1.trans A1 s4) A4 p r4⟩
end
end Pd
set_option Elab.async false
set_option linter.all false
set_option maxRecDepth 100000
set_option maxHeartbeats 2000000
namespace Pd
open PySem PySem.Spec PyProof.Rows L2 PySem.HandSPX
abbrev TH := Addr → Value → Option Addr → TS
def wAsM (K : PySem.W.Frag) (Wo : WX) (D : Ends) : List (Value × Nat × TH) → WX
  | [] => Wo
  | (c, i, th) :: r => fun cls d σ H => ∃ b, PySem.W.exmOne K cls c = some b ∧
      (b = true → ∀ a, H a = none → th a cls d { nx := fun σ2 H2 => D.nx (σ2.set i none) H2, rt := D.rt, bk := fun σ2 H2 => D.bk (σ2.set i none) H2, ct := fun σ2 H2 => D.ct (σ2.set i none) H2 } (σ.set i (some (.ref a))) H) ∧
      (b = false → wAsM K Wo D r cls d σ H)
inductive Clauses (X : Cx) : List ExceptHandler → List (Value × Nat × TH) → Prop
  | nil : Clauses X [] []
  | cons {x n : Str} {c : Value} {i : Nat} {th : TH} {b0 : Stmt} {bs : List Stmt} {np hpos : Pos} {hds : List ExceptHandler} {l : List (Value × Nat × TH)} (hi : X.N[i]? = some n) (hk : X.env.kindOf n = some .local) (hc : Names X x c)
      (hsu : ∀ (a : Addr) (oe : Obj) (cls : Value) (d : Option Addr) (pn : List (Addr × Obj)), Zc cls d oe → (∃ vs, oe.data = .fields vs) → PSs (X.suite a ((a, oe) :: pn)) (b0 :: bs) (th a cls d)) (r : Clauses X hds l) :
      Clauses X (.ExceptHandler (some (.Name x np)) (some n) (b0 :: bs) hpos :: hds) ((c, i, th) :: l)
section
variable {X : Cx} {body : List Stmt} {h0 : ExceptHandler} {hds : List ExceptHandler} {l : List (Value × Nat × TH)} {tpos : Pos} {tb : WX → TS} {Wo : WX}
theorem ps_try_asM (hst : X.stack = X.env :: X.outer) (hfm : X.env.frame = some X.env.locals) (hND : X.N.Nodup) (tkO : Takes X Wo)
    (hbd : ∀ (W : WX) (pn : List (Addr × Obj)) (xe : Value → Shared → Prop), Takes (X.tr pn xe) W → PassesOwn (model X.prog X.w) X.A X.env xe → PSs (X.tr pn xe) body (tb W))
    (hh : Clauses X (h0 :: hds) l) : PS X (.Try body (h0 :: hds) [] [] tpos) (fun D σ H => tb (wAsM X.K Wo D l) D σ H) := by
  refine ⟨fun pns st σ H D I ask => ?_⟩
  have okX := I.ok
  have frX : X.A.frames = some (X.env :: X.outer) := by rw [okX.frames, hst]
  refine wpAny_Try_except ?_
  have looks : PassesOwn (model X.prog X.w) X.A X.env (fun e s₁ => wpAny (model X.prog X.w) X.A (noteFrame e X.env) (fun _ s₂ => wpAny (model X.prog X.w) X.A (setFlight e none) (fun _ s₃ =>
    wpAny (model X.prog X.w) X.A (handleBy e X.env (h0 :: hds)) (SP X pns D) X.xe s₃) X.xe s₂) X.xe s₁) := PassesOwn.looking
  refine wpAny_mono ((hbd (wAsM X.K Wo D l) (X.pn ++ pns) _ (fun u sx air => ?_) looks).run [] st σ H D (I.toTry _) ask) (fun f sb hsp => ?_) (fun e sb z => z)
  · obtain ⟨a, B, sI, pns2, τ, G, cls, d, rfl, Jt, nb, up, sky, na, os, ag, w⟩ := air
    have J : Inv X pns τ G sI := Jt.ofTry okX
    have sky2 : Sky B (X.env :: X.outer) a (Zc cls d) X.env.locals sx.heap := by rw [← hst]; exact sky
    show wpAny (model X.prog X.w) X.A (noteFrame (.ref a) X.env) _ _ _
    refine Sky.land Zc.steady frX hfm sky2 fun hp3 fly3 rise3 => ?_
    have K3 : Inv X pns τ G { sx with heap := hp3 } := J.landed nb fly3.1 (up.trans rise3) os ag
    obtain ⟨oe3, vs3, at3, z3, dat3⟩ := fly3.there
    have apartF : a ∉ frs (X.env :: X.outer) := fun hm => by
      obtain ⟨_, o2, e2, nofields⟩ := fly3.2.2.1.mem hm
      rw [at3] at e2
      cases e2
      exact nofields _ dat3
    have aLoc : a ≠ X.env.locals := fun z => apartF (List.mem_filterMap.mpr ⟨X.env, List.mem_cons_self, by rw [hfm, z]⟩)
    have aFs : a ∉ X.fs := fun hm => by
      obtain ⟨e, he, qe⟩ := List.mem_filterMap.mp hm
      exact apartF (List.mem_filterMap.mpr ⟨e, List.mem_cons_of_mem _ he, qe⟩)
    have U3 := K3.suite at3 dat3 na aLoc aFs
    have walk : ∀ {hs2 : List ExceptHandler} {l2 : List (Value × Nat × TH)}, Clauses X hs2 l2 → wAsM X.K Wo D l2 cls d τ G → wpAny (model X.prog X.w) X.A (handleBy (.ref a) X.env hs2) (SP X pns D) X.xe { sx with heap := hp3 } := by
      intro hs2 l2 cl
      induction cl with
      | nil =>
        intro wo
        refine wpAny_handleBy_nil ?_
        obtain ⟨_, _, _, oe, vs, tb, oT, ts, heA, _, hdA, hv1, _⟩ := id fly3
        unfold PySem.passOn
        refine wpAny_bind (wpAny_field heA hdA hv1 ?_)
        rw [if_neg (show ¬ ((Value.ref tb == Value.none) = true) from by simp)]
        have away : wpAny (model X.prog X.w) X.A (setFlight (.ref a) X.env.frame) (fun _ s4 => wpAny (model X.prog X.w) X.A (throw (.ref a) : Sem Flow) (SP X pns D) X.xe s4) X.xe { sx with heap := hp3 } := by
          rw [hfm]
          refine HandSPX.setFlight_upZ fly3 fun hp4 held4 rise4 => wpAny_throw (tkO _ _ ⟨a, B, sI, pns, τ, G, cls, d, rfl, J, nb, (up.trans rise3).trans rise4, .inr (.inr (by rw [hst]; exact held4)), na, os, ag, wo⟩)
        first
          | exact wpAny_bind (wpAny_pure (wpAny_bind away))
          | exact wpAny_bind away
      | @cons x n c i th b0 bs np hpos hs3 l3 hi hk hc hsu r ih =>
        intro wo
        obtain ⟨b, hb1, yes, no⟩ := wo
        have locn : Loc X.env.scope n := .inl hk
        refine wpAny_handleBy_cons (codeAny_handlers_test ?_) (by intro q; cases q)
        have typ3 : PySem.W.Looks (model X.prog X.w) hp3 (typeOf (.ref a)) cls := fun A2 Q2 E2 s2 k2 q2 => wpAny_typeOf_ref (k2 _ _ at3) (by rw [z3.1]; exact q2)
        have match3 := PySem.W.exm_one (M := model X.prog X.w) (K3.kIn) typ3 hb1
        have name3 : ∀ {Q2 : Value → Shared → Prop} {E2 : Value → Shared → Prop}, Q2 c { sx with heap := hp3 } → wpAny (model X.prog X.w) (X.A.mark (some (.ref a))) (eval (.Name x np) X.env) Q2 E2 { sx with heap := hp3 } := fun {Q2 E2} q2 => by
          obtain ⟨hgl, hdb, hm | ⟨hm, hv, hn2⟩⟩ := hc
          · exact ld_glob (X := X.suite a ((a, oe3) :: (X.pn ++ pns))) U3 hgl hm q2 hdb
          · exact ld_blt (X := X.suite a ((a, oe3) :: (X.pn ++ pns))) U3 hgl hm hv q2 hn2 hdb
        refine name3 (match3.here ?_)
        cases b with
        | false =>
          show wpAny _ X.A (handleBy (.ref a) X.env hs3) _ _ _
          exact ih (no rfl)
        | true =>
          refine codeAny_handlers_suite_as ?_
          refine HandSPX.lands_againZ fly3 fun hp4 fly4 rise4 => ?_
          have K4 : Inv X pns τ G { sx with heap := hp4 } := J.landed nb fly4.1 ((up.trans rise3).trans rise4) os ag
          obtain ⟨oe4, vs4, at4, z4, dat4⟩ := fly4.there
          have U4 := K4.suite at4 dat4 na aLoc aFs
          refine store_ok (X := X.suite a ((a, oe4) :: (X.pn ++ pns))) (v := .ref a) U4 hND hi locn rfl (fun s5 U5 => ?_) (.inr hk)
          refine wpAny_mono ((hsu a oe4 cls d (X.pn ++ pns) z4 ⟨_, dat4⟩).run [] s5 _ G _ U5 (yes rfl a na)) (fun f s6 hsp6 => ?_) (fun _ _ z => False.elim z)
          have gone : ∀ {τ6 : L2.St} {G6 : Hp} {Q6 : Shared → Prop}, Inv (X.suite a ((a, oe4) :: (X.pn ++ pns))) [] τ6 G6 s6 → (∀ s7, Inv X pns (τ6.set i none) G6 s7 → Q6 s7) →
              wpAny (model X.prog X.w) X.A (do bindName X.env n .none; unbindBehindTheSuite X.env n hpos) (fun _ s7 => Q6 s7) X.xe s6 := fun {τ6 G6 Q6} U6 hq => gone_ok (U6.unsuite okX) hND hi hk hq
          match f, hsp6 with
          | .next, ⟨τ6, G6, U6, q6⟩ => exact gone U6 fun s7 J7 => ⟨_, _, J7, q6⟩
          | .brk, ⟨τ6, G6, U6, q6⟩ => exact gone U6 fun s7 J7 => ⟨_, _, J7, q6⟩
          | .cont, ⟨τ6, G6, U6, q6⟩ => exact gone U6 fun s7 J7 => ⟨_, _, J7, q6⟩
          | .ret u, ⟨v6, τ6, G6, U6, r6, q6⟩ => exact gone U6 fun s7 J7 => ⟨_, _, _, J7, r6, q6⟩
    exact walk hh w
  · match f, hsp with
    | .next, ⟨τ, G, Jb, q⟩ => exact wpAny_execs_nil ⟨τ, G, Jb.ofTry okX, q⟩
    | .brk, ⟨τ, G, Jb, q⟩ => exact ⟨τ, G, Jb.ofTry okX, q⟩
    | .cont, ⟨τ, G, Jb, q⟩ => exact ⟨τ, G, Jb.ofTry okX, q⟩
    | .ret u, ⟨v, τ, G, Jb, r, q⟩ => exact ⟨v, τ, G, Jb.ofTry okX, r, q⟩
end
end Pd
set_option Elab.async false
set_option linter.all false
set_option maxRecDepth 100000
set_option maxHeartbeats 2000000
namespace Pd
open PySem PySem.Spec PyProof.Rows L2 PySem.HandSPX
/-- a new row of a table: codeAmong finds an old one or the new one -/
theorem TabOk.more {H : Hp} {P c : Addr} {q : Str} {ps : Array Value} {pos : Pos} (h : TabOk H P (.tbl ps) (.tab P q)) (hc : H c = some (LamX.CodeO c q)) : TabOk H P (.tbl (ps ++ #[rawInt pos.line, rawInt pos.col, .ref c])) (.tab P q) := by
  obtain ⟨_, h2, h3⟩ := h
  have eL : (ps ++ #[rawInt pos.line, rawInt pos.col, .ref c]).toList = ps.toList ++ [rawInt pos.line, rawInt pos.col, .ref c] := by simp
  refine ⟨rfl, by rw [eL]; exact PySem.TriplesOk_snoc _ _ _ _ h2, fun p' cv hcv => ?_⟩
  rw [eL] at hcv
  rcases LamX.among_app _ h2 hcv with z | z
  · exact h3 p' cv z
  · exact ⟨c, z, hc⟩
section
variable {X : Cx} {pins : List (Addr × Obj)} {σ : L2.St} {H L : Hp} {s : Shared} {as : List Addr} {M : Ms}
/-- a lambda is made where the tables are known -/
theorem lam_at {k : Nat} {c P : Addr} {params : Arguments} {body : Expr} {scope : Scope} {pos : Pos} {E : Value → Shared → Prop} {Q : Value → Shared → Prop} (I : Inv X pins σ H s) (A : At X.K as M L H) (TB : LamX.TabB X.base X.mg c P) (code : X.env.code = .ref c)
    (hm : M[k]? = some (.tab P (X.env.qual ++ "<lambda>"))) (hdef : defaultsOf params X.env = ([], [])) (hfree : ∀ y ∈ scope.names, y.2 = .free → ∃ c, X.env.cells.lookup y.1 = some c)
    (fin : ∀ (f c' : Addr) (pm ctv : Value) (L1 H1 : Hp) (s' : Shared), Inv X pins σ H1 s' → Step as L H as L1 H1 → At X.K as M L1 H1 →
      s'.heap.get? f = some (PySem.W.kla_obj "<lambda>" (X.env.qual ++ "<lambda>") params body scope (cloFrom X.env.cells scope.names []) pm c' ctv) → H1 f = none → f ∉ frs X.stack → H1 c' = some (LamX.CodeO c' (X.env.qual ++ "<lambda>")) → Q (.ref f) s') :
    wpAny (model X.prog X.w) X.A (eval (.Lambda params body scope pos) X.env) Q E s := by
  have hk : k < as.length := by rw [A.len]; exact (List.getElem?_eq_some_iff.mp hm).1
  obtain ⟨lP, o, hP, hro, htab⟩ := A.mo k _ _ (List.getElem?_eq_getElem hk) hm
  cases hro
  rename_i ps
  have eP := htab.1
  have hkP : as[k]? = some P := (List.getElem?_eq_getElem hk).trans (congrArg some eP)
  rw [eP] at hP htab lP
  have tri := htab.2.1
  have objP : s.heap.get? P = some { cls := .none, data := .fields ps } := I.hok P _ hP
  have bat : s.heap.BuiltinsAt X.mg P := TB.bm.keeps I.bk
  have out : ∀ f, s.heap.objs.size ≤ f → f ∉ frs X.stack := fun f hf z => by
    rcases List.mem_cons.mp (I.stkSub _ z) with e | e
    · have h1 := I.lt
      rw [← e] at h1
      exact absurd h1 (Nat.not_lt_of_le hf)
    · exact I.nofs hf e
  refine PySem.W.kla_eval hdef ?_
  cases hit : codeAmong pos ps.toList with
  | some cv =>
    obtain ⟨c', rfl, hco⟩ := htab.2.2 pos cv hit
    refine PySem.W.kla_makeFunctionHit (mg := X.mg) (c := c) (P := P) (ps := ps) (closure_ok hfree) I.ok.glob (I.mod.glob.keeps I.bk) code (TB.code.keeps I.bk) objP tri hit bat fun ctv h' tk stay big => ?_
    exact fin h'.objs.size c' _ ctv L H _ (I.kept (t' := tk) fun b u z => Heap.get?_push_of_some _ (stay b u z)) .refl A (Heap.get?_push_size _ rfl) (I.hok.fresh big) (out _ big) hco
  | none =>
    refine PySem.W.kla_makeFunction (mg := X.mg) (c := c) (P := P) (ps := ps) (closure_ok hfree) I.ok.glob (I.mod.glob.keeps I.bk) code (TB.code.keeps I.bk) objP tri hit TB.gP bat fun c' ctv h' tk stay big less rec tabN => ?_
    obtain ⟨c2, oc, vs, t, e2, hoc, hd, hv⟩ := rec
    cases e2
    have big' : s.heap.objs.size ≤ h'.objs.size := by omega
    have nC : H c' = none := I.hok.fresh big
    have nP : P ≠ c' := ne_of_none hP nC
    have I1 := LamX.inv_table (t' := tk) (more := #[rawInt pos.line, rawInt pos.col, .ref c']) (h' := h'.push (PySem.W.kla_obj "<lambda>" (X.env.qual ++ "<lambda>") params body scope (cloFrom X.env.cells scope.names []) ((X.mg "__name__").getD .none) c' ctv)) I hP
      (fun b u hb z => Heap.get?_push_of_some _ (stay b u hb z)) (Heap.get?_push_of_some _ tabN) big ⟨oc, vs, t, Heap.get?_push_of_some _ hoc, hd, hv⟩
    have ext : ∀ ps', LamX.CodeO c' (X.env.qual ++ "<lambda>") ≠ .tbl ps' := LamX.codeO_ne
    have A2 := A.know (o := LamX.CodeO c' (X.env.qual ++ "<lambda>")) nC ext
    have s2 := Step.know (o := LamX.CodeO c' (X.env.qual ++ "<lambda>")) A nC
    have eH : upd (upd H P (.tbl (ps ++ #[rawInt pos.line, rawInt pos.col, .ref c']))) c' (LamX.CodeO c' (X.env.qual ++ "<lambda>")) = upd (upd H c' (LamX.CodeO c' (X.env.qual ++ "<lambda>"))) P (.tbl (ps ++ #[rawInt pos.line, rawInt pos.col, .ref c'])) := by
      funext b
      by_cases hb : b = c'
      · rw [hb, upd_same, upd_ne (Ne.symm nP), upd_same]
      · by_cases hp : b = P
        · rw [hp, upd_ne nP, upd_same, upd_same]
        · rw [upd_ne hb, upd_ne hp, upd_ne hp, upd_ne hb]
    rw [eH] at I1
    have tb2 : TabOk (upd (upd H c' (LamX.CodeO c' (X.env.qual ++ "<lambda>"))) P (.tbl (ps ++ #[rawInt pos.line, rawInt pos.col, .ref c']))) P (.tbl (ps ++ #[rawInt pos.line, rawInt pos.col, .ref c'])) (.tab P (X.env.qual ++ "<lambda>")) :=
      (TabOk.more (htab.keep (KeepC.new nC)) upd_same).keep (KeepC.over (u := .tbl ps) (by rw [upd_ne nP]; exact hP) rfl)
    have A3 := A2.put hkP (o := .tbl (ps ++ #[rawInt pos.line, rawInt pos.col, .ref c'])) (m := .tab P (X.env.qual ++ "<lambda>")) .tab tb2
    have eM : M.set k (.tab P (X.env.qual ++ "<lambda>")) = M := by
      apply List.ext_getElem?
      intro j
      rw [List.getElem?_set]
      split
      · rename_i e; subst e
        rw [hm]
        split
        · rfl
        · rename_i h1; exact absurd (List.getElem?_eq_some_iff.mp hm).1 h1
      · rfl
    rw [eM] at A3
    have s3 := s2.trans A2 (Step.put (L := upd L c' (LamX.CodeO c' (X.env.qual ++ "<lambda>"))) (H := upd H c' (LamX.CodeO c' (X.env.qual ++ "<lambda>"))) (o := .tbl (ps ++ #[rawInt pos.line, rawInt pos.col, .ref c'])) (List.mem_of_getElem? hkP))
    refine fin h'.objs.size c' _ ctv _ _ _ I1 s3 A3 (Heap.get?_push_size _ rfl) ?_ (out _ big') ?_
    · have n1 : h'.objs.size ≠ c' := Nat.ne_of_gt less
      have n2 : h'.objs.size ≠ P := Nat.ne_of_gt (Nat.lt_of_lt_of_le (Heap.lt_size objP) big')
      rw [upd_ne n2, upd_ne n1]
      exact I.hok.fresh big'
    · rw [upd_ne (Ne.symm nP), upd_same]
end
end Pd
namespace Pd
open PySem PySem.Spec PyProof.Rows L2 PySem.HandSPX
/-- an expression that may raise, one reading for all that is wished -/
def upEX (K : PySem.W.Frag) (E : XK) (t : DX) : TE := fun σ H Q => ∃ as ρ L M P Xd, En K as L σ ρ ∧ At K as M L H ∧ t ρ M P Xd ∧ (∀ v d L' H' M', Step as L H as L' H' → At K as M' L' H' → P d M' → Rp K as L' v d → Q v H') ∧ XC K as L H Xd E
theorem PDX.up {X : Cx} {E : XK} {e : Expr} {t : DX} (h : PDX X E e t) : PE X e (upEX X.K E t) := by
  obtain ⟨u, p, s⟩ := h.ex
  exact ⟨fun pins st σ H Q I ⟨as, ρ, L, M, P, Xd, hE, A, ht, q, xx⟩ => p.run pins st σ H Q I (s as σ ρ L H M P Xd Q hE A ht q xx)⟩
theorem Takes.len {X : Cx} {W : WX} (tk : Takes X W) : Takes X (fun cls d σ H => σ.length = X.N.length → W cls d σ H) := fun u s' ⟨a, B, sI, pins, σ, H, cls, d, e, I, nb, up, sky, na, os, ag, w⟩ =>
  tk u s' ⟨a, B, sI, pins, σ, H, cls, d, e, I, nb, up, sky, na, os, ag, w I.len⟩
/-- which clause takes it, and what is told then -/
def PickC (K : PySem.W.Frag) : List (Addr × Str × Str) → Addr → List (Str × D) → Str × Str → Prop
  | [], _, _, _ => False
  | (C', word, fld) :: r, C, gs, out => ∃ b, PySem.W.exmOne K (.ref C) (.ref C') = some b ∧ (b = true → C = C' ∧ ∃ y, gs.lookup fld = some y ∧ Shows y ∧ out = (word, reprD y)) ∧ (b = false → PickC K r C gs out)
inductive SaidHs (K : PySem.W.Frag) (mg : Str → Option Value) (sg : Scope) : List ExceptHandler → List (Addr × Str × Str) → Prop
  | nil : SaidHs K mg sg [] []
  | cons {x fld word : Str} {C : Addr} {np hp p1 p2 p3 p4 p5 p6 p7 : Pos} {j} {hds : List ExceptHandler} {l : List (Addr × Str × Str)} (hx : sg.names.lookup x = some .globalImplicit) (hdx : (x == ("__debug__" : Str)) = false) (hm : mg x = some (.ref C)) (T : XfC K C)
      (hno : PySem.W.findIn K (.ref C) fld = some none) (r : SaidHs K mg sg hds l) :
      SaidHs K mg sg (.ExceptHandler (some (.Name x np)) (some "e") [.Return (some (.List [.Constant (.str word) j p1, .Call (.Name "repr" p2) [.Attribute (.Name "e" p3) fld p4] [] p5] p6)) p7] hp :: hds) ((C, word, fld) :: l)
/-- the reading of a clause's suite -/
def tSaid (K : PySem.W.Frag) (C : Addr) (word fld : Str) : TH := fun a cls d => tRet (tLst (tCons (tC (.str word)) (tCons (tCB (rReprD K) (tCons (tXf a cls d C fld (tVar 1)) tNil)) tNil)))
def saidL (K : PySem.W.Frag) (cl : List (Addr × Str × Str)) : List (Value × Nat × TH) := cl.map fun p => (.ref p.1, 1, tSaid K p.1 p.2.1 p.2.2)
theorem SaidHs.clauses {X : Cx} {sg : Scope} {a : Str} (hN : X.N = [a, "e"]) (hsc : X.env.scope = sg) (he : sg.names.lookup ("e" : Str) = some .local) (hrp : sg.names.lookup ("repr" : Str) = some .globalImplicit) (mrp : X.mg "repr" = none) (hgu : X.A.guards = some []) (hu : X.A.units + 64 < cLine) :
    ∀ {hds : List ExceptHandler} {cl : List (Addr × Str × Str)}, SaidHs X.K X.mg sg hds cl → Clauses X hds (saidL X.K cl)
  | _, _, .nil => .nil
  | _, _, .cons (x := x) (fld := fld) (word := word) (C := C) hx hdx hm T hno r => by
    have ke : X.env.kindOf "e" = some .local := by show X.env.scope.names.lookup ("e" : Str) = _; rw [hsc]; exact he
    have kr : X.env.kindOf "repr" = some .globalImplicit := by show X.env.scope.names.lookup ("repr" : Str) = _; rw [hsc]; exact hrp
    refine .cons (by rw [hN]; rfl) ke ⟨by show X.env.scope.names.lookup x = _; rw [hsc]; exact hx, hdx, .inl hm⟩ (fun b oe cls d pn hz hf => ?_) (SaidHs.clauses hN hsc he hrp mrp hgu hu r)
    have pe : ∀ pp : Pos, PE (X.suite b ((b, oe) :: pn)) (.Name ("e" : Str) pp) (tVar 1) := fun pp => pv 1 (by show X.N[1]? = _; rw [hN]; rfl) (.inl ke)
    exact pss_one (ps_ret (pe_lst (pa_cons pe_str (pa_cons (pe_callB (call_repr (X := X.suite b ((b, oe) :: pn)) hgu hu) kr mrp (by decide +kernel) (pa_cons (pe_xf (pn := pn) T hno hz hf (pe _)) pa_nil)) pa_nil))))
section
variable {K : PySem.W.Frag}
/-- what the clauses wish, from what is known of the exception -/
theorem pick_wish {cl : List (Addr × Str × Str)} {as : List Addr} {M : Ms} {L H : Hp} {C dx : Addr} {gs : List (Str × D)} {fs : List (Str × V)} {out : Str × Str} {D : Ends} {σ : L2.St} (A : At K as M L H) (hd : L dx = some (.xd fs)) (rf : RpF K as L fs gs) (hl : 1 < σ.length)
    (h : PickC K cl C gs out) (q : ∀ p, H p = none → D.rt (.ref p) (upd H p (.lst [.str out.1, .str out.2]))) : wAsM K (fun _ _ _ _ => False) D (saidL K cl) (.ref C) (some dx) σ H := by
  induction cl with
  | nil => exact h.elim
  | cons p cl ih =>
    obtain ⟨C', word, fld⟩ := p
    obtain ⟨b, hb, h1, h0⟩ := h
    refine ⟨b, hb, fun z a ha => ?_, fun z => ih (h0 z)⟩
    obtain ⟨rfl, y, hy, sw, rfl⟩ := h1 z
    obtain ⟨v, hv, rv⟩ := rf.look hy
    exact ⟨_, List.getElem?_set_self hl, rfl, rfl, dx, fs, v, rfl, A.low _ _ hd, hv, v, y, as, L, rfl, A.low, rv, sw, by show 2 ≤ sizeLine; decide, q⟩
end
@[simp] def dSaid (K : PySem.W.Frag) (P : Addr) (lq : Str) (cl : List (Addr × Str × Str)) (dn : Str) (tb : DX) : DE := fun ρ M Pp => (∃ j : Nat, M[j]? = some (MO.tab P lq)) ∧
  tb ρ M (fun _ M1 => Pp (.lst [.str dn]) M1) (fun C gs M1 => ∃ out : Str × Str, PickC K cl C gs out ∧ Pp (.lst [.str out.1, .str out.2]) M1)
section
variable {X : Cx}
theorem pd_said {x a dn : Str} {g c P : Addr} {k : Nat} {st : Stmt} {fd : FuncData} {cl : List (Addr × Str × Str)} {h0 : ExceptHandler} {hds : List ExceptHandler} {params : Arguments} {body : Expr} {scope : Scope} {tb : DX} {p lpos pos p1 p2 p3 p4 p5 p6 p7 : Pos} {j0}
    (hgu : X.A.guards = some []) (Fg : Fun X.K x x st g fd) (Sg : FnScope [a, "e"] [a] (defScope st)) (hb : Binds X.K fd [a] []) (hst : defBody st = [.Try [.Expr (.Call (.Name a p1) [] [] p2) p3] (h0 :: hds) [] [] p4, .Return (some (.List [.Constant (.str dn) j0 p5] p6)) p7])
    (hs : SaidHs X.K X.mg (defScope st) (h0 :: hds) cl) (hg : Gl X x) (hm : X.mg x = some (.ref g)) (mrp : X.mg "repr" = none) (TB : LamX.TabB X.base X.mg c P) (code : X.env.code = .ref c) (hr : Room (k + 2) X.A) (Ls : LamX.LamS X.env.scope scope) (hdef : defaultsOf params X.env = ([], []))
    (hbind : ∀ (q : Str) (cl : List (Str × Addr)) (pm cv ctv : Value), bindArgs (PySem.W.kla_fn "<lambda>" q params body scope cl pm cv ctv) ⟨[], []⟩ = pure [])
    (hva : (defScope st).names.lookup a = some .local := by rfl) (he : (defScope st).names.lookup ("e" : Str) = some .local := by rfl) (hrp : (defScope st).names.lookup ("repr" : Str) = some .globalImplicit := by rfl)
    (hbody : ∀ (A : Around) (outer : List Env) (s : Shared) (H : Hp) (E : XK) (f c' : Addr), Room k (A.deeper (LamX.lamEnv X scope s.heap.objs.size f c')) → PDX (LamX.lamCx X A outer s H E scope f c') E body tb)
    (hdb : (x == ("__debug__" : Str)) = false := by decide) (hda : (a == ("__debug__" : Str)) = false := by decide) (hca : (a == ("__classdict__" : Str)) = false := by decide) :
    PD X (.Call (.Name x p) [.Lambda params body scope lpos] [] pos) (dSaid X.K P (X.env.qual ++ "<lambda>") cl dn tb) := by
  refine ⟨upE X.K _, ⟨fun pins s σ H Q I h => ?_⟩, sim_upE _⟩
  obtain ⟨as, ρ, L, M, Pp, hE, A0, ⟨⟨j, hj⟩, ht⟩, q⟩ := h
  obtain ⟨oc, od, kV, doc, pm, an, cdv, ct, osl, rfl, lk, hcd⟩ := Fg.ex
  refine wpAny_Call_Name_kw (ld_glob I hg hm ?_ hdb)
  refine PySem.W.callWith_K (h₀ := X.base) I.ok.mod.kin Fg.kp ?_ (by rfl) (by rfl)
  show wpAny _ _ (spliced ((false, eval (.Lambda params body scope lpos) X.env) :: backTo pos (starEach [] X.env))) _ _ s
  refine Calls.spliced_cons (lam_at I A0 TB code hj hdef (Ls.has I.ok) fun f c' pm' ctv L1 H1 s1 I1 st1 A1 hf hfn hfr hco => ?_)
  refine Calls.spliced_nil ⟨I1.kIn, ?_⟩
  have hE1 := hE.mono st1.k st1.pre
  -- what the lambda's exceptions wish
  have run : codeAny (model X.prog X.w) X.A (.call (.ref g) ⟨[.ref f], []⟩) (CR C8.CX0 X.stack X.prog X.w H1 s1 Q C8.E0) s1 := by
    refine LamX.run_ofS (CX := C8.CX0) (N := [a, "e"]) (ps := [a]) (us := [.ref f]) (vs := [.ref f]) (Q := Q) (E := C8.E0) lk hcd Sg hr I1.env0 (hb s1 [.ref f] I1.kIn rfl) (.cons rfl .nil) rfl fun hr2 => ?_
    rw [hst]
    have hN1 : (L2.start [a, "e"] [V.ref f]) = [some (V.ref f), none] := rfl
    refine ⟨_, pss_cons (ps_try_asM (X := cxOf C8.CX0 X.prog X.w X.K X.mg X.base [a, "e"] x (defScope st) g cdv X.A X.stack s1 H1 C8.E0)
        (tb := fun W D τ G => τ = [some (V.ref f), none] ∧ ∃ Ech : XK, (∀ cls d τ' G', τ'.length = 2 → Ech cls d G' → W cls d τ' G') ∧ G c' = some (LamX.CodeO c' (X.env.qual ++ "<lambda>")) ∧ upEX X.K Ech tb σ G fun _ G' => D.nx [some (V.ref f), none] G')
        rfl rfl Sg.nd LamX.takes0 (fun W pn xe tk _ => ?_) (SaidHs.clauses (X := cxOf C8.CX0 X.prog X.w X.K X.mg X.base [a, "e"] x (defScope st) g cdv X.A X.stack s1 H1 C8.E0) (a := a) (sg := defScope st) rfl rfl he hrp mrp (show (X.A.deeper _).guards = some [] from hgu) hr2.units hs)) (pss_one (ps_ret (pe_lst (pa_cons pe_str pa_nil)))), ?_⟩
    · refine ⟨fun pins2 s2 τ G D I2 h2 => ?_⟩
      obtain ⟨eτ, Ech, hW, hc2, h3⟩ := h2
      have act := LamX.pe_act (p1 := p1) (p2 := p2) (i := 0) I1 Ls hf hfn hfr (hbind _ _ _ _ _) (Takes.len tk) (fun cls d τ' G' z l => hW cls d τ' G' l z) hr2 (fun A outer s H hr3 => show PE (LamX.lamCx X A outer s H Ech scope f c') body (upEX X.K Ech tb) from (hbody A outer s H Ech f c' hr3).up) rfl (.inl hva) hda hca
      have ex := pss_one (ps_expr (pos := p3) act)
      refine ex.run pins2 s2 τ G D I2 ⟨by rw [eτ]; rfl, hc2, ?_⟩
      rw [eτ]
      exact h3
    · refine ⟨rfl, fun cls d G' => ∃ C gs dx fs L' M', cls = .ref C ∧ d = some dx ∧ Step as L1 H1 as L' G' ∧ At X.K as M' L' G' ∧ (∃ out : Str × Str, PickC X.K cl C gs out ∧ Pp (.lst [.str out.1, .str out.2]) M') ∧ L' dx = some (.xd fs) ∧ RpF X.K as L' fs gs, fun cls d τ' G' l z => ?_, hco, as, ρ, L1, M, _, _, hE1, A1, ht, fun v dd L' G' M' s2 A2 pp rr => ?_, fun C gs dx fs L' G' M' s2 A2 x2 e2 r2 => ⟨C, gs, dx, fs, L', M', rfl, rfl, s2, A2, x2, e2, r2⟩⟩
      · obtain ⟨C, gs, dx, fs, L', M', rfl, rfl, s2, A2, ⟨out, hp, pp⟩, e2, r2⟩ := z
        refine pick_wish A2 e2 r2 (by rw [l]; decide) hp fun pa hpa => ?_
        have lp := lowfree A2 hpa
        exact q _ _ _ _ M' ((st1.trans A1 s2).trans A2 (Step.know A2 hpa)) (A2.know hpa) pp (.lst (.inl (.inl upd_same)) (.cons (.str _) (.cons (.str _) .nil)))
      · refine ⟨by show 1 ≤ sizeLine; decide, fun pa hpa => ?_⟩
        exact q _ _ _ _ M' ((st1.trans A1 s2).trans A2 (Step.know A2 hpa)) (A2.know hpa) pp (.lst (.inl (.inl upd_same)) (.cons (.str _) .nil))
  refine wpAny_call (codeAny_mono run fun r s' hq => ?_)
  match r, hq with
  | .error _, z => exact (show False from z).elim
  | .ok .next, z => exact (show False from z).elim
  | .ok .brk, z => exact (show False from z).elim
  | .ok .cont, z => exact (show False from z).elim
  | .ok (.ret u), z => exact I1.after z
end
end Pd
set_option Elab.async false
set_option linter.all false
set_option maxRecDepth 100000
set_option maxHeartbeats 2000000
namespace Pd
open PySem PySem.Spec PyProof.Rows L2
/-- the heap as the law finds it: the script, if it is not written, and the empty tables -/
def startH (K : PySem.W.Frag) (a : Addr) (o : Obj) (ns : List Int) (Ps : List Addr) : Hp := fun b =>
  if b ∈ Ps then some (.tbl #[]) else if b = a ∧ K.lookup a = none then some (.frz o (.lst (ns.map V.int))) else none
section
variable {P : Program} {w : World} {K : PySem.W.Frag} {mg mb : Str → Option Value} {k : Nat} {fa a : Addr} {cs : List (Addr × Addr)} {fd : FuncData} {x : Str} {sp : Sp} {s : Shared} {vs : List Value} {ns : List Int}
theorem startH_tab {o : Obj} {Ps : List Addr} {p : Addr} (h : p ∈ Ps) : startH K a o ns Ps p = some (.tbl #[]) := if_pos h
theorem startH_cases {o : Obj} {Ps : List Addr} {b : Addr} {u : HO} (h : startH K a o ns Ps b = some u) : (b ∈ Ps ∧ u = .tbl #[]) ∨ (b ∉ Ps ∧ b = a ∧ K.lookup a = none ∧ u = .frz o (.lst (ns.map V.int))) := by
  unfold startH at h
  by_cases hb : b ∈ Ps
  · rw [if_pos hb] at h; cases h; exact .inl ⟨hb, rfl⟩
  · rw [if_neg hb] at h
    by_cases ha : b = a ∧ K.lookup a = none
    · rw [if_pos ha] at h; cases h; exact .inr ⟨hb, ha.1, ha.2, rfl⟩
    · rw [if_neg ha] at h; cases h
theorem law_callT (KX : K.In s.heap) (gl : s.heap.Ns mainGlobals mg) (bl : s.heap.Ns builtinsNs mb) (bb : ∀ y : Str, y ≠ "__name__" → mb y = bootBuiltins y) (lim : s.heap.NoLimit) (gens : s.gens = #[])
    (tabs : ∀ p ∈ cs, s.heap.get? p.2 = some { cls := .none, data := .fields #[] }) (unw : ∀ p ∈ cs, K.lookup p.2 = none) (codes : ∀ p ∈ cs, PySem.W.codeHdIn K p.1 p.2 = true)
    (bmod : ∃ (bm : Addr) (ob : Obj), mg "__builtins__" = some (.ref bm) ∧ bm ≠ builtinsNs ∧ s.heap.get? bm = some ob ∧ ob.cls = .type "module" ∧ ob.dict = some builtinsNs ∧ ob.data = .plain)
    (scr : s.heap.get? a = some { cls := .type "list", data := .seq vs.toArray }) (areInts : IntsAre vs ns) (short : ns.length ≤ sizeLine) (room : Room k callerA)
    (fn : ∀ base : Heap, K.In base → base.Ns mainGlobals mg → (∀ p ∈ cs, LamX.TabB base mg p.1 p.2) → FnG P w K mg base k fa fd [x] sp) (bind : ∀ (s : Shared) (u : Value), BindsTo s fd ⟨[u], []⟩ [(x, u)])
    (ask : ∀ o, SqL K (startH K a o ns (cs.map (·.2))) a (ns.map V.int) → a ∉ cs.map (·.2) → sp [.ref a] (startH K a o ns (cs.map (·.2))) (fun v _ => v = .bl true) E0) :
    codeAny (model P w) callerA (.call (.ref fa) ⟨[.ref a], []⟩) (fun r s' => r = .ok (.ret (.bool true)) ∧ OldK s.heap s'.heap ∧ s'.os = s.os ∧ AllBare s'.gens) s := by
  have rv := vals_ints areInts
  have tabP : ∀ b, b ∈ cs.map (·.2) → s.heap.get? b = some { cls := .none, data := .fields #[] } ∧ K.lookup b = none := fun b hb => by
    obtain ⟨p, hp, rfl⟩ := List.mem_map.mp hb
    exact ⟨tabs p hp, unw p hp⟩
  have na : a ∉ cs.map (·.2) := fun z => by
    have e := (tabP a z).1
    rw [scr] at e
    cases congrArg Obj.data (Option.some.inj e)
  generalize hH : startH K a { cls := .type "list", data := .seq vs.toArray } ns (cs.map (·.2)) = H at *
  have split : ∀ {b : Addr} {u : HO}, H b = some u → (b ∈ cs.map (·.2) ∧ u = .tbl #[]) ∨ (b ∉ cs.map (·.2) ∧ b = a ∧ K.lookup a = none ∧ u = .frz { cls := .type "list", data := .seq vs.toArray } (.lst (ns.map V.int))) := fun {b u} h => startH_cases (by rw [hH]; exact h)
  have okH : HOk P w H s.heap := fun b u h => by
    rcases split h with ⟨hb, rfl⟩ | ⟨_, rfl, _, rfl⟩
    · exact (tabP b hb).1
    · refine ⟨scr, ?_, vs, _, rv, scr⟩
      rw [List.length_map]; exact short
  -- what is tracked is neither written, nor a dict, nor a module
  have untr : ∀ {b : Addr} {o : Obj}, s.heap.get? b = some o → (∀ us n, o.data ≠ .seq us n) → o.data ≠ .fields #[] → H b = none := fun {b o} e h1 h2 => by
    cases q : H b with
    | none => rfl
    | some u =>
      rcases split q with ⟨hb, _⟩ | ⟨_, rfl, _, _⟩
      · rw [(tabP b hb).1] at e; cases e; exact absurd rfl h2
      · rw [scr] at e; cases e; exact absurd rfl (h1 _ _)
  have baseNs : ∀ {b : Addr} {m : Str → Option Value}, s.heap.Ns b m → (hidT s.heap H).Ns b m := fun {b m} ⟨o, es, ep, e, d, r⟩ =>
    ⟨o, es, ep, hidT_get e (untr e (fun us n z => by rw [d] at z; cases z) (fun z => by rw [d] at z; cases z)), d, r⟩
  have baseK : K.In (hidT s.heap H) := fun b o e => hidT_get (KX b o e) (by
    cases q : H b with
    | none => rfl
    | some u =>
      rcases split q with ⟨hb, _⟩ | ⟨_, rfl, hk, _⟩
      · rw [(tabP b hb).2] at e; cases e
      · rw [hk] at e; cases e)
  have baseM : Mod K mg (hidT s.heap H) := by
    obtain ⟨mc, h1, h2⟩ := lim
    exact ⟨baseK, baseNs gl, ⟨mb, baseNs bl, bb⟩, mc, baseNs h1, h2⟩
  have noGl : ∀ {b : Addr} {o : Obj}, s.heap.get? b = some o → (∀ es ep, o.data ≠ .dict es ep) → b ≠ mainGlobals := fun {b o} e h z => by
    obtain ⟨o2, es, ep, e2, d2, _⟩ := gl
    rw [z, e2] at e
    cases e
    exact h _ _ d2
  have baseT : ∀ p ∈ cs, LamX.TabB (hidT s.heap H) mg p.1 p.2 := fun p hp => by
    have tp := tabs p hp
    obtain ⟨bm, ob, b1, b2, b3, b4, b5, b6⟩ := bmod
    have n1 : bm ≠ mainGlobals := noGl b3 fun es ep z => by rw [b6] at z; cases z
    have n2 : bm ≠ p.2 := fun z => by rw [z, tp] at b3; cases b3; cases b6
    have n3 : p.2 ≠ mainGlobals := noGl tp fun es ep z => by cases z
    exact ⟨PySem.W.codeHd_of_K baseK (codes p hp), ⟨bm, ob, b1, b2, n1, n2, hidT_get b3 (untr b3 (fun us n z => by rw [b6] at z; cases z) (fun z => by rw [b6] at z; cases z)), b4, b5, b6⟩, fun z => n3 z.symm⟩
  have e0 : Env0 P w K mg (hidT s.heap H) callerA [] s H := ⟨rfl, baseM, fun b o e => of_hidT e, Nat.le_of_eq (hidT_size _ _), trivial, fun b hb => (List.not_mem_nil hb).elim, okH, .of_eq gens⟩
  have hS : SqL K H a (ns.map V.int) := by
    cases hk : K.lookup a with
    | some o =>
      have e := KX a o hk
      rw [scr] at e
      cases e
      exact .inr ⟨_, vs.toArray, _, hk, rfl, rfl, rfl, by rw [List.size_toArray, areInts.length]; exact short, by simpa using rv⟩
    | none =>
      refine .inl (.inr ⟨{ cls := .type "list", data := .seq vs.toArray }, ?_⟩)
      rw [← hH]
      unfold startH
      rw [if_neg na, if_pos ⟨rfl, hk⟩]
  have q0 := ask { cls := .type "list", data := .seq vs.toArray } (by rw [hH]; exact hS) na
  rw [hH] at q0
  refine codeAny_mono ((fn _ baseK (baseNs gl) baseT).run callerA [] s H ⟨[.ref a], []⟩ [.ref a] [.ref a] _ _ rfl room e0 (bind s (.ref a)) (.cons rfl .nil) q0) fun r s' h => ?_
  match r, h with
  | .error _, z => exact (show False from z).elim
  | .ok .next, z => exact (show False from z).elim
  | .ok .brk, z => exact (show False from z).elim
  | .ok .cont, z => exact (show False from z).elim
  | .ok (.ret u), ⟨v, H', os, bare, un, ok', ru, hv⟩ =>
    cases (show v = .bl true from hv)
    cases (show u = Value.bool true from ru)
    have stays : ∀ b o, s.heap.get? b = some o → b ∉ cs.map (·.2) → s'.heap.get? b = some o := fun b o e nb => by
      cases q : H b with
      | none => exact un.keep b o e q (fun z => List.not_mem_nil z) (fun z => List.not_mem_nil z)
      | some u =>
        rcases split q with ⟨hb, _⟩ | ⟨_, rfl, _, rfl⟩
        · exact absurd hb nb
        · have e1 : s.heap.get? b = some { cls := .type "list", data := .seq vs.toArray } := scr
          rw [e] at e1
          cases e1
          exact (ok' b _ (un.frzs b _ _ q)).1
    have grown : ∀ p ∈ cs, ∃ more : Array Value, s'.heap.get? p.2 = some { cls := .none, data := .fields more } := fun p hp => by
      have hp2 : H p.2 = some (.tbl #[]) := by rw [← hH]; exact startH_tab (List.mem_map.mpr ⟨p, hp, rfl⟩)
      obtain ⟨more, z⟩ := un.tbls p.2 #[] hp2
      exact ⟨_, ok' p.2 _ z⟩
    refine ⟨rfl, ⟨fun b o e => ?_, fun b o e => ?_⟩, os, bare⟩
    · by_cases hb : b ∈ cs.map (·.2)
      · obtain ⟨p, hp, rfl⟩ := List.mem_map.mp hb
        obtain ⟨more, hm⟩ := grown p hp
        rw [tabs p hp] at e
        cases e
        exact .inr (.inl ⟨((PySem.W.codeHd_of_K KX (codes p hp)).tab (tabs p hp)).isCodeTable, rfl, #[], more, rfl, by rw [Array.empty_append]; exact hm⟩)
      · exact .inl (stays b o e hb)
    · by_cases hb : b ∈ cs.map (·.2)
      · obtain ⟨p, hp, rfl⟩ := List.mem_map.mp hb
        obtain ⟨more, hm⟩ := grown p hp
        exact ⟨_, hm⟩
      · exact ⟨o, stays b o e hb⟩
end
end Pd
namespace Pd
open PySem PySem.Spec PyProof.Rows L2
section
variable {P : Program} {w : World} {K : PySem.W.Frag} {mg : Str → Option Value} {base : Heap}
/-- a def run where nothing is being shown, its code object told -/
theorem pd_fnGC {x qual : Str} {st : Stmt} {f c : Addr} {fd : FuncData} {N ps : List Str} {k : Nat} {W : DC} (F : Fun K x qual st f fd) (S : FnScope N ps (defScope st)) (hc : fd.code = .ref c)
    (hbody : ∀ (A : Around) (outer : List Env) (s : Shared) (H : Hp) (E : XK), A.guards = some [] → Room k (A.deeper (envOfC qual (defScope st) s.heap.objs.size f (.ref c))) →
      ∃ t, PDSs (cxOf CX0 P w K mg base N qual (defScope st) f (.ref c) A outer s H E).nox (defBody st) t ∧ ∀ ds M Q, ds.length = ps.length → W ds M Q → t { nx := fun _ M' => Q .non M', rt := Q } (startD N ds) M) :
    FnG P w K mg base (k + 1) f fd ps (spD ps.length W K) := by
  obtain ⟨oc, od, kV, doc, pm, an, cdv, ct, osl, rfl, lk, hcd⟩ := F.ex
  have ec : cdv = .ref c := hc
  subst ec
  have F2 : Fun K x qual st f (PySem.W.fnOf x qual (defArgs st) (defBody st) (defScope st) .none kV doc pm an (.ref c) ct) := F
  refine ⟨fun vs H Q E h => h.1, fun A outer s H args us vs Q E hg hr e0 hb r hsp => ?_⟩
  have old : ∀ b o, base.get? b = some o → s.heap.get? b = some o := fun b o e => (e0.bs b o e).1
  have KX : K.In s.heap := e0.mod.kin.keeps old
  have lim : s.heap.NoLimit := e0.mod.nolimit.keeps old
  obtain ⟨hl, as, M, L, ds, P', rr, A0, hw, q⟩ := hsp
  refine codeAny_call_function hr.depth (KX _ _ lk) rfl S.co S.gen rfl (PySem.W.codeRec_of KX hcd) (hb _ _ _ _ ?_)
  refine wpAny_newFunctionEnv_cells S.kind (fun ⟨n, v⟩ hy => ?_) fun env he s1 xx => ?_
  · rcases S.par n (List.of_mem_zip hy).1 with q | q
    · exact .inl q
    · exact .inr ⟨q, PySem.W.cellsFrom_some _ _ _ (.inl q)⟩
  subst he
  refine ⟨lim.keeps xx.toInCall.keep, codeAny_func ?_⟩
  obtain ⟨t, ht0, hb0⟩ := hbody A outer s H E hg (hr.deeper _)
  obtain ⟨ts, pt, st'⟩ := ht0.ex
  have ht := pt.nox
  have I : Inv (cxOf CX0 P w K mg base N qual (defScope st) f (.ref c) A outer s H E) [] (L2.start N vs) H s1 := inv_start S hr.hd e0 hl r xx
  have hq : ts { nx := fun _ H' => Q .non H', rt := Q } (L2.start N vs) H := st' as (L2.start N vs) (startD N ds) L H M _ _ (en_start rr) A0 (hb0 ds M P' (by rw [← rr.length]; exact hl) hw)
    ⟨fun σ' ρ' L' H' M' s1 A1 _ p => q .non .non L' H' M' s1 A1 p .non, fun v d L' H' M' s1 A1 p r => q v d L' H' M' s1 A1 p r, fun _ _ _ _ _ _ _ _ p => p.elim, fun _ _ _ _ _ _ _ _ p => p.elim⟩
  refine wpAny_mono (ht.run [] s1 (L2.start N vs) H _ I hq) (fun fl s' hs => ?_) fun e s' hs => hs
  match fl, hs with
  | .ret u, ⟨v, σ', H', J, rv, q⟩ => exact ⟨v, H', J.os, J.bare, J.base, J.hok, rv, q⟩
  | .next, ⟨σ', H', J, q⟩ => exact ⟨V.non, H', J.os, J.bare, J.base, J.hok, rfl, q⟩
  | .brk, ⟨_, _, _, q⟩ => exact (show False from q).elim
  | .cont, ⟨_, _, _, q⟩ => exact (show False from q).elim
/-- the tables as the law finds them -/
def tabsM (cs : List (Addr × Addr × Str)) : Ms := cs.map fun t => .tab t.2.1 t.2.2
theorem sp_scriptT {cs : List (Addr × Addr × Str)} {W : DC} {a : Addr} {o : Obj} {ns : List Int} {E : XK} (hS : SqL K (startH K a o ns (cs.map (·.2.1))) a (ns.map V.int)) (na : a ∉ cs.map (·.2.1)) (nd : (cs.map (·.2.1)).Nodup)
    (h : W [.lst (dI ns)] (tabsM cs) fun d _ => d = .bl true) : spD 1 W K [.ref a] (startH K a o ns (cs.map (·.2.1))) (fun v _ => v = .bl true) E := by
  have ri : ∀ {L : Hp} {as : List Addr} (ns : List Int), RpA K as L (ns.map V.int) (dI ns) := fun {L as} ns => by
    induction ns with
    | nil => exact .nil
    | cons n ns ih => exact .cons (.int n) ih
  refine ⟨rfl, cs.map (·.2.1), tabsM cs, fun b => if b ∈ cs.map (·.2.1) then none else startH K a o ns (cs.map (·.2.1)) b, [.lst (dI ns)], fun d _ => d = .bl true, .cons (.lst ?_ (ri ns)) .nil, ⟨fun b u e => ?_, ?_, nd, fun k b m e1 e2 => ?_, fun b ps e => ?_⟩, h, fun v d L' H' M' _ _ e r => ?_⟩
  · rcases hS with (hS | ⟨o2, hS⟩) | hS
    · exact .inl (.inl ((if_neg na).trans hS))
    · exact .inl (.inr ⟨o2, (if_neg na).trans hS⟩)
    · exact .inr hS
  · by_cases hb : b ∈ cs.map (·.2.1)
    · cases (if_pos hb).symm.trans e
    · exact (if_neg hb).symm.trans e
  · unfold tabsM
    rw [List.length_map, List.length_map]
  · have hb : b ∈ cs.map (·.2.1) := List.mem_of_getElem? e1
    refine ⟨if_pos hb, .tbl #[], startH_tab hb, ?_⟩
    unfold tabsM at e2
    rw [List.getElem?_map] at e1 e2
    cases hk : cs[k]? with
    | none => rw [hk] at e1; cases e1
    | some t =>
      rw [hk] at e1 e2
      cases e1
      cases e2
      refine ⟨.tab, rfl, True.intro, fun pos cv hc => ?_⟩
      simp [codeAmong] at hc
  · by_cases hb : b ∈ cs.map (·.2.1)
    · cases (if_pos hb).symm.trans e
    · have e2 := (if_neg hb).symm.trans e
      rcases startH_cases e2 with ⟨hb2, _⟩ | ⟨_, _, _, e3⟩
      · exact absurd hb2 hb
      · cases e3
  · subst e
    cases r
    rfl
end
theorem walk_ofT {l : PySem.W.OpenLaw} {n k : Nat} {q : Program} {loose : List Str} {XP : (Str → Option Value) → Heap → Prop} {YP : World → Heap → Prop} {d : DefRec} {K : Params → PySem.W.Frag} {W : World → (Str → Option Value) → DC} {x : Str}
    (hn : l.most = some n) (hn2 : n ≤ sizeLine) (hdf : d.params.defaults = []) (hr : Room k callerA) (hY : ∀ (w : World) (h : Heap), YP w h → (K w.params).In h)
    (F : ∀ (w : World) (mg : Str → Option Value) (fa : Addr) (h : Heap), (K w.params).In h → h.Ns mainGlobals mg → mg d.name = some (.ref fa) →
      ∃ (fd : FuncData) (cs : List (Addr × Addr × Str)) (W : DC), (∀ t ∈ cs, (K w.params).lookup t.2.1 = none ∧ PySem.W.codeHdIn (K w.params) t.1 t.2.1 = true ∧ ∃ (y : Str) (d' : DefRec), (recsOf q).find? (fun e => e.name == y) = some d' ∧ PySem.W.tabIn (K w.params) y = some (t.1, t.2.1)) ∧ (cs.map (·.2.1)).Nodup ∧
        (∀ (s : Shared) (u : Value), BindsTo s fd ⟨[u], []⟩ [(x, u)]) ∧ (∀ ns : List Int, ns.length ≤ n → W [.lst (dI ns)] (tabsM cs) fun d _ => d = .bl true) ∧
        ∀ base : Heap, (K w.params).In base → base.Ns mainGlobals mg → (∀ t ∈ cs, LamX.TabB base mg t.1 t.2.1) → FnG l.prog w (K w.params) mg base k fa fd [x] (spD 1 W (K w.params))) :
    PySem.W.WalkO q loose XP YP l.row.toRowW d [] (fun f vs => PySem.call f vs) := by
  refine Att.attach_call hn hdf fun w s₀ s₁ mg mb fa o pm cd doc a vs ns G Y ho hd hcd hmg hobj hints hlen hg => ?_
  have KX := hY w _ Y
  obtain ⟨fd, cs, W, hcs, nd, hb, hW, hF⟩ := F w mg fa _ KX G.T.g hmg
  have e1 : (cs.map fun t => (t.1, t.2.1)).map (·.2) = cs.map (·.2.1) := by rw [List.map_map]; rfl
  refine law_callT (cs := cs.map fun t => (t.1, t.2.1)) KX G.T.g G.T.b G.T.builtins G.T.nolimit hg ?_ ?_ ?_ G.T.bmain hobj hints (Nat.le_trans hlen hn2) hr (fun base h1 h2 h3 => hF base h1 h2 fun t ht => h3 _ (List.mem_map.mpr ⟨t, ht, rfl⟩)) hb fun o hS na => ?_
  · intro p hp
    obtain ⟨t, ht, rfl⟩ := List.mem_map.mp hp
    obtain ⟨_, _, y, d', h1, h2⟩ := hcs t ht
    exact (PySem.W.tab_of G.T KX h1 h2).2
  · intro p hp
    obtain ⟨t, ht, rfl⟩ := List.mem_map.mp hp
    exact (hcs t ht).1
  · intro p hp
    obtain ⟨t, ht, rfl⟩ := List.mem_map.mp hp
    exact (hcs t ht).2.1
  · rw [e1] at hS na ⊢
    exact sp_scriptT hS na nd (hW ns hlen)
end Pd
set_option Elab.async false
set_option linter.all false
set_option maxRecDepth 100000
set_option maxHeartbeats 2000000
namespace Pd
open PySem PySem.Spec PyProof.Rows L2 PySem.HandSPX
/-- from what a def asks: one def promise, raising or not -/
theorem spX_of {K : PySem.W.Frag} {as : List Addr} {L H : Hp} {M : Ms} {vs : List V} {ds : List D} {P : D → Ms → Prop} {Xd : XD} {Q : VK} {E : XK} {n : Nat} {W : DCX} (A : At K as M L H) (r : RpA K as L vs ds) (hn : ds.length = n) (h : W ds M P Xd)
    (q : ∀ v z L' H' M', Step as L H as L' H' → At K as M' L' H' → P z M' → Rp K as L' v z → Q v H') (xx : XC K as L H Xd E) : spX n W K vs H Q E := ⟨by rw [r.length]; exact hn, as, M, L, ds, P, Xd, r, A, h, q, xx⟩
section
variable {X : Cx} {E : XK} {k n : Nat} {C g : Addr} {fd : FuncData} {ps : List Str} {W : DCX} {e fe o : Expr} {es : List Expr} {t : DE} {tl : DA} {pos apos : Pos} {m : Str} {pl : Sem Bool}
@[simp] def dMethX (C : Addr) (m : Str) (n : Nat) (W : DCX) (t : DE) (tl : DA) : DX := fun ρ M P Xd => t ρ M fun x M1 => ∃ fs, x = .ins C fs ∧ fs.lookup m = none ∧ tl ρ M1 fun ds M2 => ds.length + 1 = n ∧ W (x :: ds) M2 P Xd
theorem sim_methX {K : PySem.W.Frag} {u : TE} {ua : TA} (s : SimE K u t) (sa : SimA K ua tl) : SimEX K E (tMeth C m (spX n W K) [] E u ua) (dMethX C m n W t tl) := by
  intro as σ ρ L H M P Xd Q hE A h q xx
  refine s as σ ρ L H M _ _ hE A h fun v d L1 H1 M1 s1 A1 h1 r1 => ?_
  obtain ⟨fs, rfl, hl, h1⟩ := h1
  have r0 := r1
  cases r1 with
  | ins g1 rf =>
    refine ⟨_, _, _, rfl, A1.low _ _ g1, rf.lookN hl, sa as σ ρ L1 H1 M1 _ _ (hE.mono s1.k s1.pre) A1 h1 fun vs ds L2 H2 M2 s2 A2 h2 r2 => ?_⟩
    rw [List.append_nil]
    have s12 := s1.trans A1 s2
    exact spX_of A2 (.cons (r0.mono s2.k s2.pre) r2) (by rw [List.length_cons]; exact h2.1) h2.2 (fun v z L3 H3 M3 s3 A3 h3 r3 => q v z L3 H3 M3 (s12.trans A2 s3) A3 h3 r3) (xx.step s12 A2)
theorem pdx_meth (tk : Takes X (fun cls d _ H => E cls d H)) (he : PD X o t) (c : Cls X.K C) (hm : Meth X.K C m g) (F : FnOk X.prog X.w X.K X.mg X.base (L2.CX X.prog X.w) k g fd ps (spX n W X.K)) (hr : Room k X.A) (hb : Binds X.K fd ps []) (ha : PDA X (e :: es) tl)
    (hst : starEach (e :: es) X.env = (false, eval e X.env) :: starEach es X.env := by rfl) (hpl : (backTo pos (starEach es X.env)).any (·.1) = false := by rfl)
    (ht : eval (.Call (.Attribute o m apos) (e :: es) [] pos) X.env = (do
      let ov ← eval o X.env
      standAt apos.atName
      let (f, first) ← holding [ov] (getMethod ov m pl)
      callWith pos f first (backTo pos (starEach (e :: es) X.env)) (backToKw pos (keywordEach [] X.env))) := by rfl) :
    PDX X E (.Call (.Attribute o m apos) (e :: es) [] pos) (dMethX C m n W t tl) := by
  obtain ⟨u, p, s⟩ := he.ex
  obtain ⟨ua, pa, sa⟩ := ha.ex
  exact ⟨_, pe_meth p c hm F hr hb .nil (passes_call tk fun _ _ _ _ h => h) pa hst hpl ht, sim_methX s sa⟩
/-- .. where it does not raise -/
@[simp] def dMethN (C : Addr) (m : Str) (n : Nat) (W : DCX) (t : DE) (tl : DA) : DE := fun ρ M P => dMethX C m n W t tl ρ M P xNo
theorem sim_ofX {K : PySem.W.Frag} {te : TE} {t : DX} (s : SimEX K E te t) : SimE K te (fun ρ M P => t ρ M P xNo) := fun as σ ρ L H M P Q hE A h q => s as σ ρ L H M P xNo Q hE A h q XC.no
theorem pd_methN (he : PD X o t) (c : Cls X.K C) (hm : Meth X.K C m g) (F : FnOk X.prog X.w X.K X.mg X.base (L2.CX X.prog X.w) k g fd ps (spX n W X.K)) (hr : Room k X.A) (hb : Binds X.K fd ps []) (ha : PDA X (e :: es) tl)
    (hst : starEach (e :: es) X.env = (false, eval e X.env) :: starEach es X.env := by rfl) (hpl : (backTo pos (starEach es X.env)).any (·.1) = false := by rfl)
    (ht : eval (.Call (.Attribute o m apos) (e :: es) [] pos) X.env = (do
      let ov ← eval o X.env
      standAt apos.atName
      let (f, first) ← holding [ov] (getMethod ov m pl)
      callWith pos f first (backTo pos (starEach (e :: es) X.env)) (backToKw pos (keywordEach [] X.env))) := by rfl) :
    PD X (.Call (.Attribute o m apos) (e :: es) [] pos) (dMethN C m n W t tl) := by
  obtain ⟨u, p, s⟩ := he.ex
  obtain ⟨ua, pa, sa⟩ := ha.ex
  exact ⟨_, pe_meth p c hm F hr hb .nil passL pa hst hpl ht, sim_ofX (sim_methX (E := E0) s sa)⟩
@[simp] def dCallOX (C : Addr) (n : Nat) (W : DCX) (t : DE) (tl : DA) : DX := fun ρ M P Xd => t ρ M fun x M1 => ∃ fs, x = .ins C fs ∧ tl ρ M1 fun ds M2 => ds.length + 1 = n ∧ W (x :: ds) M2 P Xd
theorem sim_callOX {u : TE} {ua : TA} (s : SimE X.K u t) (sa : SimA X.K ua tl) : SimEX X.K E (StX.tCallO X C (fun vs H Q E => spX n W X.K (vs ++ []) H Q E) E u ua) (dCallOX C n W t tl) := by
  intro as σ ρ L H M P Xd Q hE A h q xx
  refine s as σ ρ L H M _ _ hE A h fun v d L1 H1 M1 s1 A1 h1 r1 => ?_
  obtain ⟨fs, rfl, h1⟩ := h1
  have r0 := r1
  cases r1 with
  | ins g1 _ =>
    refine ⟨_, rfl, sa as σ ρ L1 H1 M1 _ _ (hE.mono s1.k s1.pre) A1 h1 fun vs ds L2 H2 M2 s2 A2 h2 r2 => ⟨.inr ⟨_, _, A2.low _ _ (s2.k _ _ g1)⟩, ?_⟩⟩
    have s12 := s1.trans A1 s2
    show spX n W X.K (_ ++ []) H2 Q E
    rw [List.append_nil]
    exact spX_of A2 (.cons (r0.mono s2.k s2.pre) r2) (by rw [List.length_cons]; exact h2.1) h2.2 (fun v z L3 H3 M3 s3 A3 h3 r3 => q v z L3 H3 M3 (s12.trans A2 s3) A3 h3 r3) (xx.step s12 A2)
theorem pdx_callO (tk : Takes X (fun cls d _ H => E cls d H)) (hf : PD X fe t) (c : StX.CallO X.K C g) (F : FnOk X.prog X.w X.K X.mg X.base (L2.CX X.prog X.w) k g fd ps (spX n W X.K)) (hb : Binds X.K fd ps []) (hr : Room k X.A) (ha : PDA X (e :: es) tl)
    (ht : eval (.Call fe (e :: es) [] pos) X.env = (do callWith pos (← eval fe X.env) [] (backTo pos (starEach (e :: es) X.env)) (backToKw pos (keywordEach [] X.env))) := by rfl)
    (he : starEach (e :: es) X.env = (false, eval e X.env) :: starEach es X.env := by rfl) (hpl : (backTo pos (starEach es X.env)).any (·.1) = false := by rfl) : PDX X E (.Call fe (e :: es) [] pos) (dCallOX C n W t tl) := by
  obtain ⟨u, pf, sf⟩ := hf.ex
  obtain ⟨ua, pa, sa⟩ := ha.ex
  exact ⟨_, StX.pe_callO pf c (F.raw hb .nil) hr (passes_call tk fun _ _ _ _ h => h) pa ht he hpl, sim_callOX sf sa⟩
@[simp] def dCallON (C : Addr) (n : Nat) (W : DCX) (t : DE) (tl : DA) : DE := fun ρ M P => dCallOX C n W t tl ρ M P xNo
theorem pd_callON (hf : PD X fe t) (c : StX.CallO X.K C g) (F : FnOk X.prog X.w X.K X.mg X.base (L2.CX X.prog X.w) k g fd ps (spX n W X.K)) (hb : Binds X.K fd ps []) (hr : Room k X.A) (ha : PDA X (e :: es) tl)
    (ht : eval (.Call fe (e :: es) [] pos) X.env = (do callWith pos (← eval fe X.env) [] (backTo pos (starEach (e :: es) X.env)) (backToKw pos (keywordEach [] X.env))) := by rfl)
    (he : starEach (e :: es) X.env = (false, eval e X.env) :: starEach es X.env := by rfl) (hpl : (backTo pos (starEach es X.env)).any (·.1) = false := by rfl) : PD X (.Call fe (e :: es) [] pos) (dCallON C n W t tl) := by
  obtain ⟨u, pf, sf⟩ := hf.ex
  obtain ⟨ua, pa, sa⟩ := ha.ex
  exact ⟨_, StX.pe_callO pf c (F.raw hb .nil) hr passL pa ht he hpl, sim_ofX (sim_callOX (E := E0) sf sa)⟩
end
section
variable {X : Cx} {E : XK} {k n : Nat} {C g : Addr} {fd : FuncData} {ps : List Str} {W : DCX} {a b : Expr} {ta tb : DE} {pos : Pos}
@[simp] def dOwnIxX (C : Addr) (W : DCX) (ta tb : DE) : DX := fun ρ M P Xd => ta ρ M fun x M1 => tb ρ M1 fun y M2 => ∃ fs, x = .ins C fs ∧ W [x, y] M2 P Xd
@[simp] def dOwnIxN (C : Addr) (W : DCX) (ta tb : DE) : DE := fun ρ M P => dOwnIxX C W ta tb ρ M P xNo
end
section
variable {X : Cx} {k : Nat} {C g : Addr} {fd : FuncData} {ps : List Str} {W : DC}
@[simp] def oOwnIn (C : Addr) (W : DC) (f : Bool → Bool) : D2 := fun x y M P => ∃ fs, y = .ins C fs ∧ W [y, x] M fun z M' => ∃ b, z = .bl b ∧ P (.bl (f b)) M'
@[simp] def oOwnLen (C : Addr) (W : DC) : DC := fun xs M P => ∃ fs, xs = [.ins C fs] ∧ W xs M fun z M' => ∃ i : Int, z = .int i ∧ (0 ≤ i ∧ i < 2 ^ 63) ∧ P (.int i) M'
end
end Pd
set_option Elab.async false
set_option linter.all false
set_option maxRecDepth 100000
set_option maxHeartbeats 1000000
namespace Pd
open PySem PySem.Spec PyProof.Rows L2
theorem newClassE (v : Value) : Builtin.SmallTypes.newClass "enumerate" { pos := [Value.type "enumerate", v] } = pure (Value.type "enumerate", [v]) := by
  unfold Builtin.SmallTypes.newClass
  simp only
  rw [sub_enumerate]
  rfl
theorem enew_eq (v : Value) : Builtin.«enumerate.__new__» { pos := [Value.type "enumerate", v] } = (do
    let _ ← Builtin.SmallTypes.calledThroughType (Value.type "enumerate")
    let it ← pyIter v
    let r ← newObj (Value.type "enumerate") (Data.fields #[Value.none, Value.bool false, it, rawInt 0, Value.none, Value.none])
    ret r) := by
  unfold Builtin.«enumerate.__new__»
  rw [newClassE]
  simp only [pure_bind]
  rw [if_pos (by decide)]
  congr 1
  funext b
  cases b <;> rfl
theorem meets_enumG {v : Value} {o : Obj} {C : Heap → Prop} (B : Begins v o C) : Meets (Builtin.«enumerate.__new__» { pos := [Value.type "enumerate", v] }) fun _ R s => C s.heap ∧
    R (.ok (.ret (.ref (s.heap.push o).objs.size))) { s with heap := (s.heap.push o).push { cls := .type "enumerate", data := .fields #[.none, .bool false, .ref s.heap.objs.size, rawInt 0, .none, .none] } } := by
  intro prog w A R s ⟨h, r⟩
  rw [enew_eq]
  refine wpAny_bind ?_
  unfold Builtin.SmallTypes.calledThroughType
  refine wpAny_bind (wpAny_stack fun st _ _ _ => ?_)
  refine wpAny_pure ?_
  refine wpAny_bind (B.iter _ _ _ _ s _ h ?_)
  refine wpAny_bind (wpAny_newObj_type ?_)
  exact wpAny_pure r
theorem enum_begins {prog : Program} {w : World} {A : Around} {E : Value → Shared → Prop} {s : Shared} {v : Value} {o : Obj} {C : Heap → Prop} {Q : Value → Shared → Prop} (B : Begins v o C) (h : C s.heap)
    (q : ∀ h' : Heap, IsEnum h' (s.heap.objs.size + 1) s.heap.objs.size 0 .none → h'.get? s.heap.objs.size = some o → h'.objs.size = s.heap.objs.size + 2 → (∀ b o', s.heap.get? b = some o' → h'.get? b = some o') → Q (.ref (s.heap.objs.size + 1)) { s with heap := h' }) :
    wpAny (model prog w) A (call (.type "enumerate") [v]) Q E s := by
  have e1 : (s.heap.push o).objs.size = s.heap.objs.size + 1 := by simp [Heap.push]
  have g0 : ((s.heap.push o).push { cls := .type "enumerate", data := .fields #[.none, .bool false, .ref s.heap.objs.size, rawInt 0, .none, .none] }).get? (s.heap.objs.size + 1) = some { cls := .type "enumerate", data := .fields #[.none, .bool false, .ref s.heap.objs.size, rawInt 0, .none, .none] } :=
    Heap.get?_push_at e1.symm rfl
  refine callType_new F.called_enumerate (by decide) (F.typeCall_enumerate_1 _) (F.newCall_enumerate_1 _) (fun obj => rfl) F.entry_enumerate_new (meets_enumG B) ⟨h, ?_⟩
  refine ⟨?_, ?_⟩
  · rw [e1]
    exact ⟨_, g0, rfl⟩
  · rw [e1]
    refine q _ g0 ?_ (by simp [Heap.push]) fun b o' hb => ?_
    · exact Heap.get?_push_of_some _ (Heap.get?_push_size _ B.free)
    · exact Heap.get?_push_of_some _ (Heap.get?_push_of_some _ hb)
def IteK (K : PySem.W.Frag) (k : Kd) (a : Addr) : It :=
  ⟨fun i H => ∃ (xs : List V) (x : V), SqK K k H a xs ∧ xs[i]? = some x,
    fun i H v H' => ∃ T x, v = .ref T ∧ H T = none ∧ H' = upd H T (.tup [.int (i : Nat), x]) ∧ ∀ xs, SqK K k H a xs → xs[i]? = some x,
    fun i H => ∃ xs : List V, SqK K k H a xs ∧ i = xs.length⟩
theorem turn_enumK {P : Program} {w : World} {K : PySem.W.Frag} {elts : List Expr} {kk : Nat} {tpos : Pos} (k : Kd) {a e it : Addr} (hne : a ≠ it) (hea : a ≠ e) (he : e ≠ it) :
    Turn P w K (.Tuple elts kk tpos) (IteK K k a) [e, it] e (fun i h => (∃ old, IsEnum h e it (i : Nat) old) ∧ IterK k h it a i) where
  mem := by simp
  obj := fun i h st c hc => by
    obtain ⟨⟨old, h1⟩, h2⟩ := st
    have e' : c = e ∨ c = it := by simpa using hc
    rcases e' with q | q
    · rw [q]; exact ⟨_, h1, fun v q => nomatch q⟩
    · rw [q]; exact iterK_obj h2
  keep := fun i h h' st kp => by
    obtain ⟨⟨old, h1⟩, h2⟩ := st
    exact ⟨⟨old, kp e (by simp) _ h1⟩, iterK_at h2 fun o q => kp it (by simp) o q⟩
  item := by
    intro X hP hw hK hc i pins s σ H E I hf st hg
    subst hP hw hK
    obtain ⟨⟨old, h1⟩, h2⟩ := st
    obtain ⟨xs, x, hq, hx⟩ := hg
    obtain ⟨its, rv, p, _⟩ := sqK_at I hq
    obtain ⟨u, hu, ru⟩ := rv.get hx
    have hel : e < s.heap.objs.size := Heap.lt_size h1
    have hi1 : i < its.toArray.size := by simpa using (List.getElem?_eq_some_iff.mp hu).1
    refine wpAny_pyNext_enum_itemD (drawsK k (A := X.A.in1) (I.ok.hd hc) it a hne its.toArray) h1 ⟨h2, p⟩ hi1 he (by simp; exact ⟨he, fun z => hea z.symm⟩) fun x1 h' tk g1 z1 st1 hT hsz hk => ?_
    have e1 : x1 = u := by
      have g1' : its[i]? = some x1 := by simpa using g1
      rw [hu] at g1'; exact (Option.some.inj g1').symm
    subst e1
    refine ⟨_, rfl, wpAny_letOwnedTupleGo_enum (s := { s with heap := h', toks := tk + 1 }) z1 fun h'' z'' sb => ?_⟩
    have hT2 : h''.get? s.heap.objs.size = some { cls := .type "tuple", data := .seq #[.int (i : Nat) tk, x1] } := (sb.2 _ (Nat.ne_of_gt hel)).trans hT
    have new : ObjOk X.prog X.w (upd H s.heap.objs.size (.tup [.int (i : Nat), x])) h'' s.heap.objs.size (.tup [.int (i : Nat), x]) :=
      ⟨by show 2 ≤ sizeLine; decide, [.int (i : Nat) tk, x1], .cons ⟨_, rfl⟩ (.cons ru .nil), ⟨_, hT2, rfl, _, rfl⟩⟩
    have I1 : Inv X pins σ (upd H s.heap.objs.size (.tup [.int (i : Nat), x])) { s with heap := h'', toks := tk + 1 } :=
      I.turnedNew (t' := tk + 1) (ch := [e, it]) (fun c o hb q => (sb.2 c (fun q' => hb (by simp [q']))).trans (hk c o (fun q' => hb (by simp [q'])) (fun q' => hb (by simp [q'])) q)) hf (Nat.le_refl _) new
    refine ⟨.ref s.heap.objs.size, _, I1, rfl, ⟨_, x, rfl, I.hok.fresh (Nat.le_refl _), rfl, fun l hl => by rw [sqK_inj I hl hq]; exact hx⟩, ⟨⟨_, by simpa using z''⟩, ?_⟩, fun c hcm => ?_⟩
    · exact iterK_at st1.1 fun o q => (sb.2 _ (fun z => he z.symm)).trans q
    · have hlt : c < s.heap.objs.size := by
        have e' : c = e ∨ c = it := by simpa using hcm
        rcases e' with q | q
        · rw [q]; exact hel
        · rw [q]; obtain ⟨_, e1, _⟩ := iterK_obj h2; exact Heap.lt_size e1
      rw [upd_ne (Nat.ne_of_lt hlt)]
      exact (hf c hcm).1
  done := by
    intro X hP hw hK hc i pins s σ H E I hf st hg
    subst hP hw hK
    obtain ⟨⟨old, h1⟩, h2⟩ := st
    obtain ⟨xs, hq, hend⟩ := hg
    obtain ⟨its, rv, p, _⟩ := sqK_at I hq
    have l1 := rv.length
    have hn : its.toArray.size = i := by simp; omega
    refine wpAny_pyNext_enum_endD (drawsK k (A := X.A.in1) (I.ok.hd hc) it a hne its.toArray) h1 (by rw [hn]; exact ⟨h2, p⟩) fun h' hk => ?_
    exact ⟨rfl, I.turnedL (t' := s.toks) (ch := [e, it]) (fun c o hb q => hk c o (fun q' => hb (by simp [q'])) q) hf⟩
  self := fun A i s Q E st h => by obtain ⟨⟨old, h1⟩, _⟩ := st; exact wpAny_pyIter_enum h1 h
def iEnumK (K : PySem.W.Frag) (ta : TA) : TI := fun σ H R => ta σ H fun vs H1 => ∃ k a xs, vs = [.ref a] ∧ SqK K k H1 a xs ∧ R (IteK K k a) H1
section
variable {X : Cx} {e : Expr} {pos p tpos : Pos} {elts : List Expr} {kk : Nat} {tl : DA}
theorem pi_enumK {ta : TA} (hg : Gl X "enumerate") (hm : X.mg "enumerate" = none) (ha : PA X [e] ta)
    (hs : starEach [e] X.env = (false, eval e X.env) :: starEach [] X.env := by rfl) (hpl : (backTo pos (starEach [] X.env)).any (·.1) = false := by rfl) :
    PI X (.Tuple elts kk tpos) (.Call (.Name "enumerate" p) [e] [] pos) (iEnumK X.K ta) := by
  refine ⟨fun pins s σ H R I h => ?_⟩
  refine Call_ (ld_blt I hg hm PyProof.Rows.boot_enumerate (PyProof.Rows.callWith_type1 (thn (ha.run pos pins s σ H _ I h) fun us s1 ⟨vs, H1, I1, r1, q1⟩ => ?_) hs hpl))
  obtain ⟨k, a, xs, ex, hq, q⟩ := q1
  subst ex
  cases r1 with
  | cons r rr =>
    cases rr
    cases r
    obtain ⟨its, rv, p1, l1⟩ := sqK_at I1 hq
    have fresh2 : ∀ c, c ∈ [s1.heap.objs.size + 1, s1.heap.objs.size] → FpOk X pins H1 c := fun c hcm => by
      have e' : c = s1.heap.objs.size + 1 ∨ c = s1.heap.objs.size := by simpa using hcm
      have hle : s1.heap.objs.size ≤ c := by rcases e' with z | z <;> omega
      exact I1.fpOk hle (I1.hok.fresh hle)
    refine enum_begins (beginsK k a its.toArray) p1 fun h' hz h1 hsz hk => wpAny_pyIter_enum hz ?_
    have I2 : Inv X pins σ H1 { s1 with heap := h' } := I1.kept (t' := s1.toks) hk
    exact ⟨s1.heap.objs.size + 1, [s1.heap.objs.size + 1, s1.heap.objs.size], _, _, H1, rfl, I2, turn_enumK k (Nat.ne_of_lt l1) (Nat.ne_of_lt (Nat.lt_succ_of_lt l1)) (Nat.succ_ne_self _), ⟨⟨_, hz⟩, iterK_new h1⟩, fresh2, q⟩
@[simp] def iEnK (tl : DA) : DA := fun ρ M P => tl ρ M fun ds M1 => ∃ d xs, ds = [d] ∧ isSeq d xs ∧ P (numd 0 xs) M1
theorem walks_enumK {K : PySem.W.Frag} {as : List Addr} {L0 : Hp} {k : Kd} {a : Addr} {xs : List V} {ds : List D} (h1 : SqK K k L0 a xs) (r1 : RpA K as L0 xs ds) : Walks K (IteK K k a) as L0 (numd 0 ds) := by
  intro L H M e A
  have g1 := ex_k (e.trans A.low) h1
  refine ⟨fun i hi => ?_, xs, g1, by rw [numd_len, r1.length]⟩
  rw [numd_len] at hi
  have i1 : i < xs.length := by rw [r1.length]; omega
  refine ⟨⟨xs, _, g1, List.getElem?_eq_getElem i1⟩, fun v H' y => ?_⟩
  obtain ⟨T, x, rfl, hT, rfl, f1⟩ := y
  obtain ⟨d1, q1, w1⟩ := r1.getV (f1 xs g1)
  have lT := lowfree A hT
  refine ⟨_, upd L T (.tup [.int (i : Nat), x]), numd_get ds 0 i d1 q1, Step.know A hT, A.know hT, .tup (.inl (.inl upd_same)) (.cons ?_ (.cons (w1.mono (e.trans (Ex.new lT)) (Pre.refl _)) .nil))⟩
  rw [Nat.zero_add]
  exact .int _
theorem pdi_enumK (hg : Gl X "enumerate") (hm : X.mg "enumerate" = none) (ha : PDA X [e] tl)
    (hs : starEach [e] X.env = (false, eval e X.env) :: starEach [] X.env := by rfl) (hpl : (backTo pos (starEach [] X.env)).any (·.1) = false := by rfl) : PDI X (.Tuple elts kk tpos) (.Call (.Name "enumerate" p) [e] [] pos) (iEnK tl) := by
  obtain ⟨u, pa, s⟩ := ha.ex
  refine ⟨_, pi_enumK hg hm pa hs hpl, ?_⟩
  intro as σ ρ L H M P R hE A h q
  refine s as σ ρ L H M _ _ hE A h fun vs ds L1 H1 M1 s1 A1 h1 r1 => ?_
  obtain ⟨d, xs, rfl, hd, p⟩ := h1
  cases r1 with
  | cons ra rb =>
    cases rb
    obtain ⟨k, a, xv, rfl, g1, w1⟩ := rp_seq ra hd
    exact ⟨k, a, xv, rfl, ex_k A1.low g1, q _ _ L1 H1 M1 s1 A1 p (walks_enumK g1 w1)⟩
end
end Pd
set_option Elab.async false
set_option linter.all false
set_option maxRecDepth 100000
set_option maxHeartbeats 1000000
namespace Pd
open PySem PySem.Spec PyProof.Rows L2
def upI (K : PySem.W.Frag) (t : DA) : TI := fun σ H R => ∃ as ρ L M P, En K as L σ ρ ∧ At K as M L H ∧ t ρ M P ∧ ∀ J ds L' H' M', Step as L H as L' H' → At K as M' L' H' → P ds M' → Walks K J as L' ds → R J H'
theorem sim_upI {K : PySem.W.Frag} (t : DA) : SimI K (upI K t) t := fun as σ ρ L H M P R hE A h q => ⟨as, ρ, L, M, P, hE, A, h, q⟩
theorem PDI.up {X : Cx} {tg iter : Expr} {t : DA} (h : PDI X tg iter t) : PI X tg iter (upI X.K t) := by
  obtain ⟨u, p, s⟩ := h.ex
  exact ⟨fun pins sh σ H R I ⟨as, ρ, L, M, P, hE, A, h, q⟩ => p.run pins sh σ H R I (s as σ ρ L H M P R hE A h q)⟩
def lcIn (g : DG) (tt : DT) (te : DE) (ρ : Rho) (k : List D → Ms → Prop) : List D → List D → Ms → Prop
  | [], acc, M => k acc M
  | d :: r, acc, M => g d ρ fun ρ' => tt ρ' M fun b M1 => if b = true then te ρ' M1 fun y M2 => acc.length < sizeLine ∧ lcIn g tt te ρ k r (acc ++ [y]) M2 else lcIn g tt te ρ k r acc M1
def lc2Run (g : DG) (tt : DT) (it1 : DA) (g1 : DG) (tt1 : DT) (te : DE) (vs1 : List Nat) (ρ : Rho) (P : D → Ms → Prop) : List D → List D → Ms → Prop
  | [], acc, M => P (.lst acc) M
  | d :: r, acc, M => g d ρ fun ρ' => tt ρ' M fun b M1 => if b = true then it1 ρ' M1 fun ds1 M2 => lcIn g1 tt1 te (wipeR ρ' vs1) (fun acc' M' => lc2Run g tt it1 g1 tt1 te vs1 ρ P r acc' M') ds1 acc M2 else lc2Run g tt it1 g1 tt1 te vs1 ρ P r acc M1
@[simp] def dLc2 (it : DA) (g : DG) (tt : DT) (it1 : DA) (g1 : DG) (tt1 : DT) (te : DE) (vs vs1 : List Nat) : DE := fun ρ M P => it ρ M fun ds M1 => lc2Run g tt it1 g1 tt1 te vs1 (wipeR ρ vs) P ds [] M1
theorem sim_lc2 {K : PySem.W.Frag} {wi wi1 : TI} {it it1 : DA} {g' g1' : TG} {g g1 : DG} {us us1 : List Nat} {ut ut1 : TT} {tt tt1 : DT} {ue : TE} {te : DE} {vs vs1 : List Nat} (hus : ∀ i ∈ us, i ∈ vs) (hus1 : ∀ i ∈ us1, i ∈ vs1)
    (s : SimI K wi it) (sg : SimG K g' g us) (st : SimT K ut tt) (si1 : SimI K wi1 it1) (sg1 : SimG K g1' g1 us1) (st1 : SimT K ut1 tt1) (se : SimE K ue te) :
    SimE K (tLc2 wi g' ut wi1 g1' ut1 ue vs vs1) (dLc2 it g tt it1 g1 tt1 te vs vs1) := by
  intro as σ ρ L H M P Q hE A h q
  refine s as σ ρ L H M _ _ hE A h fun J ds L1 H1 M1 s1 A1 h1 w1 => ?_
  intro D hD
  have base : ∀ {L' H' : Hp} {M' : Ms} {acc : List V}, At K as M' L' H' → H' D = some (.lst acc) → L' D = none → D ∉ as → ∀ acc', At K as M' L' (upd H' D (.lst acc')) := by
    intro L' H' M' acc A' hd hl hn acc'
    refine ⟨fun a o h => ?_, A'.len, A'.nd, fun k a m e1 e2 => ?_, A'.nt⟩
    · have e : a ≠ D := fun z => by rw [z, hl] at h; cases h
      rw [upd_ne e]; exact A'.low a o h
    · obtain ⟨h3, o, h4, h5⟩ := A'.mo k a m e1 e2
      have e : a ≠ D := fun z => hn (by rw [← z]; exact List.mem_of_getElem? e1)
      exact ⟨h3, o, by rw [upd_ne e]; exact h4, h5.1, h5.2.keep (KeepC.over hd rfl)⟩
  have dn : D ∉ as := fun z => (A1.held z).2 hD
  have ld : L1 D = none := lowfree A1 hD
  refine ⟨fun i m H' => m = ds.length - i ∧ i ≤ ds.length ∧ ∃ L' M' xs acc, Step as L1 H1 as L' H' ∧ At K as M' L' H' ∧ H' D = some (.lst xs) ∧ L' D = none ∧ RpA K as L' xs acc ∧ lc2Run g tt it1 g1 tt1 te vs1 (wipeR ρ vs) P (ds.drop i) acc M',
    ⟨ds.length, by simp, Nat.zero_le _, L1, M1, [], [], ⟨fun a o _ h => ?_, Ex.refl _, fun _ h _ => h, Pre.refl _, fun _ h => .inl h⟩, ?_, upd_same, ld, .nil, h1⟩, ?_⟩
  · rw [upd_ne (ne_of_none h hD)]; exact h
  · refine ⟨fun a o h => ?_, A1.len, A1.nd, fun k a m e1 e2 => ?_, A1.nt⟩
    · rw [upd_ne (ne_of_none (A1.low a o h) hD)]; exact A1.low a o h
    · obtain ⟨h3, o, h4, h5⟩ := A1.mo k a m e1 e2
      exact ⟨h3, o, by rw [upd_ne (ne_of_none h4 hD)]; exact h4, h5.1, h5.2.keep (KeepC.new hD)⟩
  rintro i m H' ⟨rfl, hi, L', M', xs, acc, s', A', hd', ld', ra, hf⟩
  obtain ⟨wg, ws⟩ := w1 L' H' M' s'.k A'
  have upD : ∀ {L2 H2 : Hp} {M2 : Ms}, Step as L1 H1 as L2 H2 → At K as M2 L2 H2 → ∀ acc', Step as L1 H1 as L2 (upd H2 D (.lst acc')) := by
    intro L2 H2 M2 s2 A2 acc'
    exact ⟨fun a o ha h => by rw [upd_ne (ne_of_none h hD)]; exact s2.up a o ha h, s2.k, s2.hid, s2.pre, s2.new⟩
  by_cases hlt : i < ds.length
  · obtain ⟨go, wy⟩ := wg i hlt
    rw [List.drop_eq_getElem_cons hlt] at hf
    refine .inr ⟨go, fun H2 => ∃ L' M' xs acc, Step as L1 H1 as L' H2 ∧ At K as M' L' H2 ∧ H2 D = some (.lst xs) ∧ L' D = none ∧ RpA K as L' xs acc ∧ lc2Run g tt it1 g1 tt1 te vs1 (wipeR ρ vs) P (ds.drop (i + 1)) acc M', fun H2 q => ⟨ds.length - (i + 1), by omega, rfl, hlt, q⟩, fun x H2 y => ?_⟩
    obtain ⟨d, L2, hd, s2, A2, r2⟩ := wy x H2 y
    rw [List.getElem?_eq_getElem hlt] at hd
    cases hd
    have hE2 : En K as L2 (wipeS σ vs) (wipeR ρ vs) := ((hE.mono (s1.k.trans (s'.k.trans s2.k)) (Pre.refl _)).wipe vs)
    have hd2 : H2 D = some (.lst xs) := s2.up D _ dn hd'
    have ld2 : L2 D = none := s2.hid D ld' (by rw [hd']; simp)
    refine sg as L2 H2 x _ _ _ M' _ _ hE2 A2 r2 hf fun σ3 ρ3 e3 p3 wp => ⟨?_, ?_⟩
    · have z := wp vs hus
      rw [z, wipe_wipe]
    · refine st as σ3 ρ3 L2 H2 M' _ _ e3 A2 p3 fun b L3 H3 M3 s3 A3 h3 => ?_
      have s13 := (s'.trans A' s2).trans A2 s3
      have hd3 : H3 D = some (.lst xs) := s3.up D _ dn hd2
      have ld3 : L3 D = none := s3.hid D ld2 (by rw [hd2]; simp)
      cases b with
      | false =>
        rw [if_neg Bool.false_ne_true] at h3 ⊢
        exact ⟨L3, M3, xs, acc, s13, A3, hd3, ld3, ra.mono (s2.k.trans s3.k) (Pre.refl _), h3⟩
      | true =>
        rw [if_pos rfl] at h3 ⊢
        refine si1 as σ3 ρ3 L3 H3 M3 _ _ (e3.mono s3.k s3.pre) A3 h3 fun J1 ds1 L4 H4 M4 s4 A4 h4 w4 => ?_
        have hd4 : H4 D = some (.lst xs) := s4.up D _ dn hd3
        have ld4 : L4 D = none := s4.hid D ld3 (by rw [hd3]; simp)
        have s14 := s13.trans A3 s4
        have ra4 := ra.mono (s2.k.trans (s3.k.trans s4.k)) (Pre.refl as)
        have e4 := e3.mono (s3.k.trans s4.k) (Pre.refl as)
        refine ⟨fun j k H5 => k = ds1.length - j ∧ j ≤ ds1.length ∧ ∃ L5 M5 xs acc, Ex L4 L5 ∧ Step as L1 H1 as L5 H5 ∧ At K as M5 L5 H5 ∧ H5 D = some (.lst xs) ∧ L5 D = none ∧ RpA K as L5 xs acc ∧ lcIn g1 tt1 te (wipeR ρ3 vs1) (fun acc' M' => lc2Run g tt it1 g1 tt1 te vs1 (wipeR ρ vs) P (ds.drop (i + 1)) acc' M') (ds1.drop j) acc M5,
          ⟨ds1.length, by simp, Nat.zero_le _, L4, M4, xs, acc, Ex.refl _, s14, A4, hd4, ld4, ra4, h4⟩, ?_⟩
        rintro j k H5 ⟨rfl, hj, L5, M5, xs5, acc5, x5, s5, A5, hd5, ld5, ra5, hf5⟩
        obtain ⟨wg5, ws5⟩ := w4 L5 H5 M5 x5 A5
        by_cases hl5 : j < ds1.length
        · obtain ⟨go5, wy5⟩ := wg5 j hl5
          rw [List.drop_eq_getElem_cons hl5] at hf5
          refine .inr ⟨go5, fun H6 => ∃ L5 M5 xs acc, Ex L4 L5 ∧ Step as L1 H1 as L5 H6 ∧ At K as M5 L5 H6 ∧ H6 D = some (.lst xs) ∧ L5 D = none ∧ RpA K as L5 xs acc ∧ lcIn g1 tt1 te (wipeR ρ3 vs1) (fun acc' M' => lc2Run g tt it1 g1 tt1 te vs1 (wipeR ρ vs) P (ds.drop (i + 1)) acc' M') (ds1.drop (j + 1)) acc M5, fun H6 q => ⟨ds1.length - (j + 1), by omega, rfl, hl5, q⟩, fun x6 H6 y6 => ?_⟩
          obtain ⟨d6, L6, hd6, s6, A6, r6⟩ := wy5 x6 H6 y6
          rw [List.getElem?_eq_getElem hl5] at hd6
          cases hd6
          have hE6 : En K as L6 (wipeS σ3 vs1) (wipeR ρ3 vs1) := ((e4.mono (x5.trans s6.k) (Pre.refl _)).wipe vs1)
          have hd6 : H6 D = some (.lst xs5) := s6.up D _ dn hd5
          have ld6 : L6 D = none := s6.hid D ld5 (by rw [hd5]; simp)
          refine sg1 as L6 H6 x6 _ _ _ M5 _ _ hE6 A6 r6 hf5 fun σ7 ρ7 e7 p7 wp7 => ⟨?_, ?_⟩
          · have z := wp7 vs1 hus1
            rw [z, wipe_wipe]
          · refine st1 as σ7 ρ7 L6 H6 M5 _ _ e7 A6 p7 fun b L7 H7 M7 s7 A7 h7 => ?_
            have s17 := (s5.trans A5 s6).trans A6 s7
            have hd7 : H7 D = some (.lst xs5) := s7.up D _ dn hd6
            have ld7 : L7 D = none := s7.hid D ld6 (by rw [hd6]; simp)
            cases b with
            | false =>
              rw [if_neg Bool.false_ne_true] at h7 ⊢
              exact ⟨L7, M7, xs5, acc5, x5.trans (s6.k.trans s7.k), s17, A7, hd7, ld7, ra5.mono (s6.k.trans s7.k) (Pre.refl _), h7⟩
            | true =>
              rw [if_pos rfl] at h7 ⊢
              refine se as σ7 ρ7 L7 H7 M7 _ _ (e7.mono s7.k s7.pre) A7 h7 fun v z L8 H8 M8 s8 A8 h8 r8 => ?_
              have hd8 : H8 D = some (.lst xs5) := s8.up D _ dn hd7
              have ld8 : L8 D = none := s8.hid D ld7 (by rw [hd7]; simp)
              have s18 := s17.trans A7 s8
              have ra8 := ra5.mono (s6.k.trans (s7.k.trans s8.k)) (Pre.refl as)
              exact ⟨xs5, hd8, by rw [ra8.length]; exact h8.1, L8, M8, xs5 ++ [v], acc5 ++ [z], x5.trans (s6.k.trans (s7.k.trans s8.k)), upD s18 A8 _, base A8 hd8 ld8 dn _, upd_same, ld8, ra8.append (.one r8), h8.2⟩
        · have e : j = ds1.length := by omega
          subst e
          rw [List.drop_length] at hf5
          exact .inl ⟨ws5, L5, M5, xs5, acc5, s5, A5, hd5, ld5, ra5, hf5⟩
  · have e : i = ds.length := by omega
    subst e
    rw [List.drop_length] at hf
    refine .inl ⟨ws, q _ _ (upd L' D (.lst xs)) H' M' (s1.trans A1 ⟨s'.up, s'.k.trans (Ex.new ld'), fun a h h' => ?_, Pre.refl _, fun _ h => .inl h⟩) ⟨fun a o h => ?_, A'.len, A'.nd, fun k a m e1 e2 => ?_, A'.nt.new (fun ps z => by cases z)⟩ hf (.lst (.inl (.inl upd_same)) (ra.mono (Ex.new ld') (Pre.refl _)))⟩
    · have e : a ≠ D := fun z => h' (by rw [z]; exact hD)
      rw [upd_ne e]; exact s'.hid a h h'
    · by_cases e : a = D
      · subst e; rw [upd_same] at h; rw [hd']; exact h
      · rw [upd_ne e] at h; exact A'.low a o h
    · obtain ⟨h3, o, h4, h5⟩ := A'.mo k a m e1 e2
      have e : a ≠ D := fun z => dn (by rw [← z]; exact List.mem_of_getElem? e1)
      exact ⟨by rw [upd_ne e]; exact h3, o, h4, h5.1.mono (Ex.new ld') (Pre.refl _), h5.2⟩
section
variable {X : Cx}
theorem pd_lc2 {elt tg iter tg1 iter1 : Expr} {ifs ifs1 : List Expr} {scope : Scope} (own : List (Str × Nat)) (vs1 : List Nat) {pos : Pos} {it it1 : DA} {g g1 : DG} {us us1 : List Nat} {tt tt1 : DT} {te : DE} (hc : X.calm = true) (hN : X.N.Nodup) (hi : PDI X tg iter it) (ok : BlkOk X.N X.env.scope scope own)
    (hg : ∀ (s : Shared) (H : Hp) (C : Addr) (cl : List (Str × Addr)) (fp : List Addr), PDG (X.blk s H scope (compEnvC scope cl C X.env) fp) tg g us) (ht : ∀ (s : Shared) (H : Hp) (C : Addr) (cl : List (Str × Addr)) (fp : List Addr), PDTs (X.blk s H scope (compEnvC scope cl C X.env) fp) ifs tt)
    (hi1 : ∀ (s : Shared) (H : Hp) (C : Addr) (cl : List (Str × Addr)) (fp : List Addr), PDI (X.blk s H scope (compEnvC scope cl C X.env) fp) tg1 iter1 it1)
    (hg1 : ∀ (s : Shared) (H : Hp) (C : Addr) (cl : List (Str × Addr)) (fp : List Addr), PDG (X.blk s H scope (compEnvC scope cl C X.env) fp) tg1 g1 us1) (ht1 : ∀ (s : Shared) (H : Hp) (C : Addr) (cl : List (Str × Addr)) (fp : List Addr), PDTs (X.blk s H scope (compEnvC scope cl C X.env) fp) ifs1 tt1)
    (he : ∀ (s : Shared) (H : Hp) (C : Addr) (cl : List (Str × Addr)) (fp : List Addr), PD (X.blk s H scope (compEnvC scope cl C X.env) fp) elt te) (hv : ∀ i ∈ vs1, i ∈ own.map (·.2) := by decide) (hu : ∀ i ∈ us, i ∈ own.map (·.2) := by decide) (hu1 : ∀ i ∈ us1, i ∈ vs1 := by decide)
    (hs : ∀ x, foldedSetIterable iter X.env x = pure x := by intro _; rfl) (hs1 : ∀ env x, foldedSetIterable iter1 env x = pure x := by intro _ _; rfl) :
    PD X (.ListComp elt [⟨tg, iter, ifs, 0⟩, ⟨tg1, iter1, ifs1, 0⟩] scope pos) (dLc2 it g tt it1 g1 tt1 te (own.map (·.2)) vs1) := by
  obtain ⟨wi, p, s⟩ := hi.ex
  exact ⟨_, pe_lc2 hc hN p ok hv (fun a b c d e => (hg a b c d e).up) (fun a b c d e => (ht a b c d e).up) (fun a b c d e => (hi1 a b c d e).up) (fun a b c d e => (hg1 a b c d e).up) (fun a b c d e => (ht1 a b c d e).up) (fun a b c d e => (he a b c d e).up) (hs := hs) (hs1 := hs1),
    sim_lc2 hu hu1 s (sim_upG g us) (sim_upT tt) (sim_upI it1) (sim_upG g1 us1) (sim_upT tt1) (sim_upE te)⟩
end
end Pd
set_option Elab.async false
set_option linter.all false
set_option maxRecDepth 100000
set_option maxHeartbeats 1000000
namespace Pd
open PySem PySem.Spec PyProof.Rows L2
section
variable {X : Cx} {K : PySem.W.Frag}
@[simp] def dStar (te : DE) (tl : DA) : DA := fun ρ M P => te ρ M fun d M1 => ∃ xs, isSeq d xs ∧ tl ρ M1 fun ys M2 => P (xs ++ ys) M2
theorem pda_star {e : Expr} {es : List Expr} {te : DE} {tl : DA} {p : Pos} (ha : PD X e te) (hr : PDA X es tl) (hs : starEach (.Starred e p :: es) X.env = (true, eval e X.env) :: starEach es X.env := by rfl) : PDA X (.Starred e p :: es) (dStar te tl) := by
  obtain ⟨u, pa, s⟩ := ha.ex
  obtain ⟨u2, pb, s2⟩ := hr.ex
  refine ⟨_, StX.pa_star pa pb hs, ?_⟩
  intro as σ ρ L H M P Q hE A h q
  refine s as σ ρ L H M _ _ hE A h fun v d L1 H1 M1 s1 A1 h1 r1 => ?_
  obtain ⟨xs, hd, h1⟩ := h1
  obtain ⟨k, a, xv, rfl, g1, w1⟩ := rp_seq r1 hd
  refine ⟨a, xv, rfl, ?_, s2 as σ ρ L1 H1 M1 _ _ (hE.mono s1.k s1.pre) A1 h1 fun vs ds L2 H2 M2 t1 A2 h2 r2 => ?_⟩
  · cases k with
    | l => exact .inr (ex_l A1.low g1)
    | t => exact .inl (ex_t A1.low g1)
  · exact q _ _ L2 H2 M2 (s1.trans A1 t1) A2 h2 ((w1.mono t1.k t1.pre).append r2)
def isNonD : D → Bool | .non => true | _ => false
@[simp] theorem isNonD_non : isNonD .non = true := rfl
@[simp] theorem isNonD_int (i : Int) : isNonD (.int i) = false := rfl
@[simp] theorem isNonD_tup (ds : List D) : isNonD (.tup ds) = false := rfl
@[simp] theorem isNonD_lst (ds : List D) : isNonD (.lst ds) = false := rfl
@[simp] theorem isNonD_str (x : Str) : isNonD (.str x) = false := rfl
@[simp] theorem isNonD_bl (b : Bool) : isNonD (.bl b) = false := rfl
theorem Rp.nonD {as : List Addr} {L : Hp} {v : V} {d : D} (r : Rp K as L v d) : decide (v = .non) = isNonD d := by cases r <;> simp [isNonD]
def rIs0 : R2 := fun x y H Q => y = V.non ∧ Q (V.bl (decide (x = V.non))) H
def rNot0 : R2 := fun x y H Q => y = V.non ∧ Q (V.bl (!decide (x = V.non))) H
@[simp] def oIs0 : D2 := fun x y M P => y = .non ∧ P (.bl (isNonD x)) M
@[simp] def oNot0 : D2 := fun x y M P => y = .non ∧ P (.bl (!isNonD x)) M
theorem sr_is0 : SimR K rIs0 oIs0 := by
  intro as L H M x y d e P Q A r1 r2 ⟨h1, p⟩ q
  subst h1
  cases r2
  refine ⟨rfl, ?_⟩
  rw [r1.nonD]
  exact q _ _ L H M .refl A p (.bl _)
theorem sr_not0 : SimR K rNot0 oNot0 := by
  intro as L H M x y d e P Q A r1 r2 ⟨h1, p⟩ q
  subst h1
  cases r2
  refine ⟨rfl, ?_⟩
  rw [r1.nonD]
  exact q _ _ L H M .refl A p (.bl _)
theorem op_is0 : OpR X (compareOp .Is) rIs0 := op_isN
theorem op_not0 : OpR X (compareOp .IsNot) rNot0 := op_notN
def rInS' (K : PySem.W.Frag) : R2 := fun x y H Q => ∃ d ds, Dp K H x d ∧ (Dp K H y (.list ds) ∧ SeqAt.shaped (.list ds) = true ∨ Dp K H y (.tuple ds) ∧ SeqAt.shaped (.tuple ds) = true) ∧ SeqAt.shaped d = true ∧ d.depth ≤ 60 ∧ Q (.bl (ds.any fun z => PyData.eqv z d)) H
theorem op_inS' (hu : X.A.units + 64 < cLine) : OpR X (compareOp .In) (rInS' X.K) := by
  intro pins s σ H x y v u Q I r1 r2 h
  obtain ⟨d, ds, h1, h2, h3, hd, q⟩ := h
  obtain ⟨bs, rx⟩ := Dp.reads I d x v h1 r1
  rcases h2 with ⟨h2, h4⟩ | ⟨h2, h4⟩
  · obtain ⟨as, ry⟩ := Dp.reads I _ y u h2 r2
    have hc := SeqAt.canLay_of_shaped h4
    refine SeqAt.in_list_reads ry rx (by simpa [PyData.canLay0] using hc) (SeqAt.canLay_of_shaped h3) (by omega) ⟨.bl _, H, I, rfl, q⟩
  · obtain ⟨as, ry⟩ := Dp.reads I _ y u h2 r2
    have hc := SeqAt.canLay_of_shaped h4
    refine SeqAt.in_tuple_reads ry rx (by simpa [PyData.canLay0] using hc) (SeqAt.canLay_of_shaped h3) (by omega) ⟨.bl _, H, I, rfl, q⟩
@[simp] def oInS : D2 := fun x y M P => ∃ ds, isSeq y ds ∧ okD x = true ∧ okD y = true ∧ (toP x).depth ≤ 60 ∧ P (.bl (ds.any fun z => eqD z x)) M
theorem toPA_map (ds : List D) : toPA ds = ds.map toP := by
  induction ds with
  | nil => rfl
  | cons d ds ih => show toP d :: toPA ds = _; rw [ih]; rfl
theorem sr_inS : SimR K (rInS' K) oInS := by
  intro as L H M x y d e P Q A r1 r2 ⟨ds, h1, h2, h3, h4, p⟩ q
  have e1 := Bool.and_eq_true_iff.mp h2
  have e2 := Bool.and_eq_true_iff.mp h3
  have d1 := r1.dp A.low e1.1
  have d2 := r2.dp A.low e2.1
  refine ⟨toP d, toPA ds, d1, ?_, e1.2, h4, ?_⟩
  · rcases h1 with rfl | rfl
    · exact .inl ⟨d2, e2.2⟩
    · exact .inr ⟨d2, e2.2⟩
  · have : (toPA ds).any (fun z => PyData.eqv z (toP d)) = ds.any fun z => eqD z d := by rw [toPA_map, List.any_map]; rfl
    rw [this]
    exact q _ _ L H M .refl A p (.bl _)
end
end Pd
set_option Elab.async false
set_option linter.all false
set_option maxRecDepth 100000
set_option maxHeartbeats 1000000
namespace Pd
open PySem PySem.Spec PyProof.Rows L2
@[simp] def tGFor (wi : TI) (g : TG) (tb : TGn) : TGn := fun D ys σ H => wi σ H fun J H1 => ∃ W : Nat → Nat → List V → L2.St → Hp → Prop, (∃ m, W 0 m ys σ H1) ∧ ∀ i m ys σ H, W i m ys σ H →
  (J.stop i H ∧ D.nx ys σ H) ∨ (J.go i H ∧ ∃ N : List V → L2.St → Hp → Prop, (∀ ys' σ' H', N ys' σ' H' → ∃ m', m' < m ∧ W (i + 1) m' ys' σ' H') ∧ ∀ x H', J.yld i H x H' → g x σ H' fun σ2 H2 => tb { D with nx := N, ct := N, bk := D.nx } ys σ2 H2)
end Pd
set_option Elab.async false
set_option linter.all false
set_option maxRecDepth 100000
set_option maxHeartbeats 1000000
namespace Pd
open PySem PySem.Spec PyProof.Rows L2
structure DGE where
  nx : List D → Rho → Ms → Prop
  rt : List D → D → Ms → Prop
  bk : List D → Rho → Ms → Prop := fun _ _ _ => False
  ct : List D → Rho → Ms → Prop := fun _ _ _ => False
abbrev GX := DGE → XD → List D → Rho → Ms → Prop
def GEndN (K : PySem.W.Frag) (as : List Addr) (L H : Hp) (d : List D → Rho → Ms → Prop) (v : List V → L2.St → Hp → Prop) : Prop := ∀ ys ds σ' ρ' L' H' M', Step as L H as L' H' → At K as M' L' H' → En K as L' σ' ρ' → RpA K as L' ys ds → d ds ρ' M' → v ys σ' H'
structure GComp (K : PySem.W.Frag) (as : List Addr) (L H : Hp) (De : DGE) (D : GEnds) : Prop where
  nx : GEndN K as L H De.nx D.nx
  rt : ∀ ys ds v d L' H' M', Step as L H as L' H' → At K as M' L' H' → RpA K as L' ys ds → De.rt ds d M' → Rp K as L' v d → D.rt ys v H'
  bk : GEndN K as L H De.bk D.bk
  ct : GEndN K as L H De.ct D.ct
theorem GEndN.step {K : PySem.W.Frag} {as : List Addr} {L H L1 H1 : Hp} {M1 : Ms} {d : List D → Rho → Ms → Prop} {v : List V → L2.St → Hp → Prop} (s : Step as L H as L1 H1) (A1 : At K as M1 L1 H1) (h : GEndN K as L H d v) : GEndN K as L1 H1 d v :=
  fun ys ds σ' ρ' L' H' M' s' A' e' r q => h ys ds σ' ρ' L' H' M' (s.trans A1 s') A' e' r q
theorem GComp.step {K : PySem.W.Frag} {as : List Addr} {L H L1 H1 : Hp} {M1 : Ms} {De : DGE} {D : GEnds} (s : Step as L H as L1 H1) (A1 : At K as M1 L1 H1) (h : GComp K as L H De D) : GComp K as L1 H1 De D :=
  ⟨h.nx.step s A1, fun ys ds v d L' H' M' s' A' ry q r => h.rt ys ds v d L' H' M' (s.trans A1 s') A' ry q r, h.bk.step s A1, h.ct.step s A1⟩
section
variable {X : Cx} {E : XK} {st : Stmt} {sts : List Stmt} {pos : Pos}
/-- a statement without yields -/
@[simp] def yOf (t : SX) : GX := fun De Xd ds ρ M => t ⟨De.nx ds, De.rt ds, De.bk ds, De.ct ds⟩ Xd ρ M
@[simp] def yNil : GX := fun De _ ds ρ M => De.nx ds ρ M
@[simp] def ySeq (t u : GX) : GX := fun De Xd ds ρ M => t { De with nx := fun ds' ρ' M' => u De Xd ds' ρ' M' } Xd ds ρ M
@[simp] def yYield (te : DE) : GX := fun De _ ds ρ M => ds.length < sizeLine ∧ te ρ M fun d M1 => De.nx (ds ++ [d]) ρ M1
def yRun (g : DG) (body : GX) (De : DGE) (Xd : XD) : List D → List D → Rho → Ms → Prop
  | [], ds, ρ, M => De.nx ds ρ M
  | d :: r, ds, ρ, M => g d ρ fun ρ' => body { De with nx := fun ds2 ρ2 M2 => yRun g body De Xd r ds2 ρ2 M2, ct := fun ds2 ρ2 M2 => yRun g body De Xd r ds2 ρ2 M2, bk := De.nx } Xd ds ρ' M
@[simp] def yFor (it : DA) (g : DG) (body : GX) : GX := fun De Xd ds ρ M => it ρ M fun is M1 => yRun g body De Xd is ds ρ M1
end
abbrev DCG := List D → Ms → (List D → Ms → Prop) → XD → Prop
def noStop (K : PySem.W.Frag) (C : Addr) : Prop := PySem.W.subIn K (.ref C) (.type "StopIteration") = some false
@[simp] def dListG (K : PySem.W.Frag) (n : Nat) (W : DCG) (tl : DA) : DX := fun ρ M P Xd => tl ρ M fun ds M1 => ds.length = n ∧ W ds M1 (fun out M2 => P (.lst out) M2) (fun C gs M2 => noStop K C ∧ Xd C gs M2)
end Pd
set_option Elab.async false
set_option linter.all false
set_option maxRecDepth 100000
set_option maxHeartbeats 1000000
namespace Pd
open PySem PySem.Spec PyProof.Rows L2
@[simp] def dListGN (n : Nat) (W : DCG) (tl : DA) : DE := fun ρ M P => tl ρ M fun ds M1 => ds.length = n ∧ W ds M1 (fun out M2 => P (.lst out) M2) xNo
section
variable {X : Cx} {e : Expr} {es : List Expr} {tl : DA} {pos pos' p p' : Pos}
@[simp] def oStrI : DC := fun xs M P => ∃ i : Int, xs = [.int i] ∧ i.natAbs.log2 < 1920 ∧ P (.str (toString i)) M
end
theorem lcIn_map {g : DG} {te : DE} {ρ : Rho} {k : List D → Ms → Prop} {M : Ms} (f : D → D) : ∀ (es acc : List D), (∀ e ∈ es, ∀ R : D → Ms → Prop, R (f e) M → g e ρ fun ρ' => te ρ' M R) → acc.length + es.length ≤ sizeLine → k (acc ++ es.map f) M → lcIn g dYes te ρ k es acc M
  | [], acc, _, _, p => by
    show k acc M
    simpa using p
  | d :: r, acc, h, hz, p => by
    rw [List.length_cons] at hz
    exact h d List.mem_cons_self (fun y M2 => acc.length < sizeLine ∧ lcIn g dYes te ρ k r (acc ++ [y]) M2) ⟨by omega, lcIn_map f r (acc ++ [f d]) (fun d' h' => h d' (List.mem_cons_of_mem _ h')) (by rw [List.length_append, List.length_singleton]; omega) (by simpa using p)⟩
theorem lc2_map {g g1 : DG} {it1 : DA} {te : DE} {vs1 : List Nat} {ρ : Rho} {P : D → Ms → Prop} {M : Ms} (f : D → List D) : ∀ (ds acc : List D), (∀ d ∈ ds, ∀ (acc : List D) (k : List D → Ms → Prop), acc.length + (f d).length ≤ sizeLine → k (acc ++ f d) M → g d ρ fun ρ' => it1 ρ' M fun ds1 M2 => lcIn g1 dYes te (wipeR ρ' vs1) k ds1 acc M2) →
    acc.length + (ds.flatMap f).length ≤ sizeLine → P (.lst (acc ++ ds.flatMap f)) M → lc2Run g dYes it1 g1 dYes te vs1 ρ P ds acc M
  | [], acc, _, _, p => by
    show P (.lst acc) M
    simpa using p
  | d :: r, acc, h, hz, p => by
    rw [List.flatMap_cons, List.length_append] at hz
    refine h d List.mem_cons_self acc (fun acc' M' => lc2Run g dYes it1 g1 dYes te vs1 ρ P r acc' M') (by omega) (lc2_map f r (acc ++ f d) (fun d' h' => h d' (List.mem_cons_of_mem _ h')) (by rw [List.length_append]; omega) ?_)
    rw [List.append_assoc, ← List.flatMap_cons]
    exact p
def tI (xs : List Int) : D := .tup (dI xs)
theorem plain_tuples : ∀ es : List (List Int), plainA (es.map tI) = true
  | [] => rfl
  | x :: xs => by show (plainA (dI x) && plainA (xs.map tI)) = true; rw [plain_ints, plain_tuples xs]; rfl
theorem lay_tuples : ∀ es : List (List Int), PyData.canLayAll0 (toPA (es.map tI)) = true
  | [] => rfl
  | x :: xs => by show (PyData.canLayAll0 (toPA (dI x)) && PyData.canLayAll0 (toPA (xs.map tI))) = true; rw [lay_ints, lay_tuples xs]; rfl
theorem depth_tuples : ∀ es : List (List Int), PyData.depthAll (toPA (es.map tI)) ≤ 1
  | [] => Nat.zero_le _
  | x :: xs => by
    show max (PyData.depthAll (toPA (dI x)) + 1) (PyData.depthAll (toPA (xs.map tI))) ≤ 1
    rw [depth_ints]
    have := depth_tuples xs
    omega
theorem okD_tuples (es : List (List Int)) : okD (.lst (es.map tI)) = true := by
  have h1 : plain (.lst (es.map tI)) = true := plain_tuples es
  have h2 : SeqAt.shaped (toP (.lst (es.map tI))) = true := by
    show (PyData.canLayAll0 (toPA (es.map tI)) && decide (PyData.depthAll (toPA (es.map tI)) + 1 ≤ 64)) = true
    have := depth_tuples es
    rw [lay_tuples, decide_eq_true (by omega)]
    rfl
  unfold okD
  rw [h1, h2]
  rfl
def lamSb (sc scope : Scope) : Bool := (match scope.kind with | .function => true | _ => false) && !scope.isCoroutine && !scope.isGenerator && scope.names.all fun y =>
  (match y.2 with | .local => false | .cell => false | _ => true) && (match y.2 with | .free => (match sc.names.lookup y.1 with | some .cell => true | some .free => true | _ => false) | _ => true)
theorem lamS_by {sc scope : Scope} (h : lamSb sc scope = true) : LamX.LamS sc scope := by
  unfold lamSb at h
  simp only [Bool.and_eq_true] at h
  obtain ⟨⟨⟨h1, h2⟩, h3⟩, h4⟩ := h
  refine ⟨?_, by simpa using h2, by simpa using h3, fun y hy => ?_, fun y hy hf => ?_⟩
  · cases hk : scope.kind <;> rw [hk] at h1 <;> first | rfl | cases h1
  · have := List.all_eq_true.mp h4 y hy
    simp only [Bool.and_eq_true] at this
    constructor
    · intro z; rw [z] at this; cases this.1
    · intro z; rw [z] at this; cases this.1
  · have := (Bool.and_eq_true_iff.mp (List.all_eq_true.mp h4 y hy)).2
    rw [hf] at this
    cases hl : sc.names.lookup y.1 with
    | none => rw [hl] at this; cases this
    | some k => rw [hl] at this; cases k <;> first | exact .inl rfl | exact .inr rfl | cases this
end Pd
set_option Elab.async false
set_option linter.all false
set_option maxRecDepth 100000
set_option maxHeartbeats 1000000
namespace Pd
open PySem PySem.Spec PyProof.Rows L2
section
variable {K : PySem.W.Frag} {x : Addr} {as : List Addr} {M1 : Ms} {L1 H1 : Hp}
theorem hid_step (hx : H1 x = none) (o : HO) : Step as L1 H1 as L1 (upd H1 x o) := by
  refine ⟨fun a u _ h => ?_, Ex.refl _, fun _ h _ => h, Pre.refl _, fun _ h => .inl h⟩
  rw [upd_ne (ne_of_none h hx)]; exact h
theorem hid_at (A1 : At K as M1 L1 H1) (hx : H1 x = none) (o : HO) : At K as M1 L1 (upd H1 x o) := by
  refine ⟨fun a u h => ?_, A1.len, A1.nd, fun k a m e1 e2 => ?_, A1.nt⟩
  · rw [upd_ne (ne_of_none (A1.low a u h) hx)]; exact A1.low a u h
  · obtain ⟨h3, u, h4, h5⟩ := A1.mo k a m e1 e2
    exact ⟨h3, u, by rw [upd_ne (ne_of_none h4 hx)]; exact h4, h5.1, h5.2.keep (KeepC.new hx)⟩
end
@[simp] def sBuild (i : Nat) (t rest : DS) : DS := fun De ρ M => t { nx := (fun ρ' M' => ∃ M3 ds, M' = M3 ++ [MO.lst ds] ∧ M3.length = M.length ∧ apartM M.length M3 = true ∧ apartA M.length ds = true ∧ (ρ'[i]? = some (some (D.mu M.length))) ∧ rest De ((clean M.length ρ').set i (some (.lst ds))) M3), rt := cutR M.length De.rt, bk := cutE M.length De.bk, ct := cutE M.length De.ct } (ρ.set i (some (.mu M.length))) (M ++ [.lst []])
section
variable {X : Cx} {st : Stmt} {sts : List Stmt} {t s2 : DS} {pos p1 : Pos}
@[simp] def dApp (i : Nat) (te : DE) : DE := fun ρ M P => ∃ k, ρ[i]? = some (some (.mu k)) ∧ (∃ ds, M[k]? = some (.lst ds)) ∧ te ρ M fun d M1 => ∃ ds, M1[k]? = some (.lst ds) ∧ ds.length < sizeLine ∧ P .non (M1.set k (.lst (ds ++ [d])))
end
end Pd
set_option Elab.async false
set_option linter.all false
set_option maxRecDepth 100000
set_option maxHeartbeats 1000000
namespace Pd
open PySem PySem.Spec PyProof.Rows L2
/-- the type of an operand that the class's operator may meet -/
def Opd (K : PySem.W.Frag) (C : Addr) (op : Operator) (t : Value) : Prop := t = .ref C ∨ ∃ (T : String) (fo ro : Option Value), t = .type T ∧ PySem.W.findIn K (.type T) (PySem.dunder op.info.2) = some fo ∧ PySem.W.findIn K (.type T) (PySem.dunderR op.info.2) = some ro ∧ PySem.W.subIn K (.type T) (.ref C) = some false
section
variable {X : Cx} {E : XK} {k : Nat} {C g : Addr} {fd : FuncData} {ps : List Str} {W : DCX} {op : Operator} {rc : Option Value} {pos : Pos} {a b : Expr} {ta tb : DE}
@[simp] def dOpX (K : PySem.W.Frag) (C : Addr) (op : Operator) (W : DCX) (ta tb : DE) : DX := fun ρ M P Xd => ta ρ M fun x M1 => tb ρ M1 fun y M2 => ∃ fs t, x = .ins C fs ∧ DTy K y t ∧ Opd K C op t ∧ W [x, y] M2 P Xd
/-- .. where it does not raise -/
@[simp] def dOpXN (K : PySem.W.Frag) (C : Addr) (op : Operator) (W : DCX) (ta tb : DE) : DE := fun ρ M P => dOpX K C op W ta tb ρ M P xNo
end
end Pd
set_option Elab.async false
set_option linter.all false
set_option maxRecDepth 100000
set_option maxHeartbeats 1000000
namespace Pd
open PySem PySem.Spec PyProof.Rows L2
/-- data whose repr is told, has at most n signs and may be compared; at most k deep -/
structure Sm (n k : Nat) (d : D) : Prop where
  pl : plainR d = true
  sh : (toP d).showable = true
  sz : (reprD d).length ≤ n
  dp : (toP d).depth ≤ k
  ok : PyData.strOk (reprD d) = true
theorem Sm.mono {n n' k k' : Nat} {d : D} (h : Sm n k d) (h1 : n ≤ n') (h2 : k ≤ k') : Sm n' k' d := ⟨h.pl, h.sh, Nat.le_trans h.sz h1, Nat.le_trans h.dp h2, h.ok⟩
theorem Sm.shows {n k : Nat} {d : D} (h : Sm n k d) (h1 : n ≤ sizeLine) (h2 : k ≤ 60) : Shows d := ⟨h.pl, h.sh, Nat.le_trans h.sz h1, Nat.le_trans h.dp h2⟩
end Pd
set_option Elab.async false
set_option linter.all false
set_option maxRecDepth 100000
set_option maxHeartbeats 1000000
namespace Pd
open PySem PySem.Spec PyProof.Rows L2
@[simp] def oLtT : D2 := fun x y M P => ∃ ns ms : List Int, x = .tup (dI ns) ∧ y = .tup (dI ms) ∧ P (.bl (HT.lexLt ns ms)) M
theorem sr_ltT {K : PySem.W.Frag} : SimR K (rLtT K) oLtT := by
  intro as L H M x y d e P Q A r1 r2 ⟨ns, ms, h1, h2, p⟩ q
  subst h1; subst h2
  cases r1 with
  | tup g1 w1 =>
    cases r2 with
    | tup g2 w2 =>
      have e1 := w1.ints
      have e2 := w2.ints
      subst e1; subst e2
      exact ⟨_, _, ns, ms, rfl, rfl, ex_t A.low g1, ex_t A.low g2, q _ _ L H M .refl A p (.bl _)⟩
end Pd
set_option Elab.async false
set_option linter.all false
set_option maxRecDepth 100000
set_option maxHeartbeats 1000000
namespace Pd
open PySem PySem.Spec PyProof.Rows L2
def rSlS (K : PySem.W.Frag) (x : V) (lo hi : Option Int) (H : Hp) (Q : VK) : Prop := rSlL K x lo hi H Q ∨ rSlA K x lo hi H Q
theorem sl_seq {X : Cx} : SlR X (rSlS X.K) := by
  intro pins s σ H x v vl vu lo hi sl Q I r hs p1 p2 h
  rcases h with h | h
  · exact sl_list pins s σ H x v vl vu lo hi sl Q I r hs p1 p2 h
  · exact sl_tupA pins s σ H x v vl vu lo hi sl Q I r hs p1 p2 h
def likeD : D → List D → D
  | .lst _, xs => .lst xs
  | .tup _, xs => .tup xs
  | d, _ => d
theorem cutD_whole {ds : List D} {l u : Option Int} (h : HT.sIx ds.length 0 l = 0 ∧ HT.sIx ds.length ds.length u = ds.length) : cutD ds l u = ds := by
  unfold cutD
  rw [h.1, h.2]
  simp
@[simp] def dSlS (t : DE) (tl tu : DO) : DE := fun ρ M P => t ρ M fun d M1 => ∃ ds, isSeq d ds ∧ tl ρ M1 fun l M2 => tu ρ M2 fun u M3 => P (likeD d (cutD ds l u)) M3
section
variable {X : Cx} {e : Expr} {lo hi : Option Expr} {t : DE} {tl tu : DO} {p2 pos : Pos}
theorem pd_slS (he : PD X e t) (hl : PDO X lo tl) (hu : PDO X hi tu) : PD X (.Subscript e (.Slice lo hi none p2) pos) (dSlS t tl tu) := by
  obtain ⟨u, p, s⟩ := he.ex
  obtain ⟨ul, pl, sl⟩ := hl.ex
  obtain ⟨uu, pu, su⟩ := hu.ex
  refine ⟨_, pe_slice sl_seq p pl pu, ?_⟩
  intro as σ ρ L H M P Q hE A h q
  refine s as σ ρ L H M _ _ hE A h fun v d L1 H1 M1 s1 A1 h1 r1 => ?_
  obtain ⟨ds, hd, h1⟩ := h1
  refine sl as σ ρ L1 H1 M1 _ _ (hE.mono s1.k s1.pre) A1 h1 fun l L2 H2 M2 s2 A2 h2 => ?_
  have s12 := s1.trans A1 s2
  refine su as σ ρ L2 H2 M2 _ _ (hE.mono s12.k s12.pre) A2 h2 fun w L3 H3 M3 s3 A3 h3 => ?_
  have s23 := s2.trans A2 s3
  rcases hd with rfl | rfl
  · cases r1 with
    | lst hs ra =>
      refine .inl ⟨_, _, rfl, ex_l (s23.k.trans A3.low) hs, fun p hp => ?_⟩
      have lp := lowfree A3 hp
      exact q _ _ _ _ M3 ((s12.trans A2 s3).trans A3 (Step.know A3 hp)) (A3.know hp) h3 (.lst (.inl (.inl upd_same)) ((ra.slice l w).mono (s23.k.trans (Ex.new lp)) (Pre.refl _)))
  · have r1' := r1
    cases r1 with
    | tup hs ra =>
      refine .inr ⟨_, _, rfl, ex_t (s23.k.trans A3.low) hs, fun hw => ?_, fun _ p hp => ?_⟩
      · rw [ra.length] at hw
        have h3' : P (likeD (.tup ds) (cutD ds l w)) M3 := h3
        rw [cutD_whole hw] at h3'
        exact q _ _ _ _ M3 (s12.trans A2 s3) A3 h3' (r1'.mono s23.k (Pre.refl _))
      · have lp := lowfree A3 hp
        exact q _ _ _ _ M3 ((s12.trans A2 s3).trans A3 (Step.know A3 hp)) (A3.know hp) h3 (.tup (.inl (.inl upd_same)) ((ra.slice l w).mono (s23.k.trans (Ex.new lp)) (Pre.refl _)))
end
@[simp] def dFldMu (K : PySem.W.Frag) (t : DE) (f : Str) : DE := fun ρ M P => t ρ M fun x M1 => ∃ j C fs v, x = .mu j ∧ M1[j]? = some (.ins C fs) ∧ Cls K C ∧ NoAttr K C f ∧ fs.lookup f = some v ∧ P v M1
theorem pd_fldMu {X : Cx} {K : PySem.W.Frag} {e : Expr} {t : DE} {pos : Pos} {f : Str} (hK : X.K = K) (he : PD X e t) (hb : attributeBase e f X.env (eval e X.env) = eval e X.env := by rfl) : PD X (.Attribute e f pos) (dFldMu K t f) := by
  subst hK
  obtain ⟨u, p, s⟩ := he.ex
  refine ⟨_, pe_fld p hb, ?_⟩
  intro as σ ρ L H M P Q hE A h q
  refine s as σ ρ L H M _ _ hE A h fun v d L1 H1 M1 s1 A1 h1 r1 => ?_
  obtain ⟨j, C, fs, w, rfl, hm, c, n, hl, p⟩ := h1
  cases r1 with
  | mu hj =>
    obtain ⟨dx, fv, g1, g2⟩ := A1.ins hj hm
    obtain ⟨z, h2, h3⟩ := g2.look hl
    exact ⟨_, C, _, _, z, rfl, g1, c, n, h2, q _ _ L1 H1 M1 s1 A1 p h3⟩
end Pd
set_option Elab.async false
set_option linter.all false
set_option maxRecDepth 100000
set_option maxHeartbeats 1000000
namespace Pd
open PySem PySem.Spec PyProof.Rows L2
@[simp] def iKeyD (t : DE) : DA := fun ρ M P => t ρ M fun d M1 => ∃ ks ds, d = .dic ks ds ∧ P (ks.map keyD) M1
theorem rp_key {K : PySem.W.Frag} {as : List Addr} {L : Hp} (k : Key) : Rp K as L (kV k) (keyD k) := by
  cases k with
  | inl i => exact .int i
  | inr x => exact .str x
theorem walks_keys {K : PySem.W.Frag} {as : List Addr} {L0 : Hp} {a : Addr} {o : Obj} {ks : List Key} {vs : List V} (h : L0 a = some (.frz o (.dK (ks.zip vs)))) (hl : ks.length = vs.length) : Walks K (Itk a o (ks.zip vs)) as L0 (ks.map keyD) := by
  intro L H M e A
  have g1 := A.low _ _ (e _ _ h)
  have hz : (ks.zip vs).length = ks.length := by rw [List.length_zip, hl, Nat.min_self]
  refine ⟨fun i hi => ?_, g1, by rw [List.length_map, hz]; exact Nat.le_refl _⟩
  rw [List.length_map] at hi
  refine ⟨⟨g1, by rw [hz]; exact hi⟩, fun v H' y => ?_⟩
  obtain ⟨rfl, k, v', h1, rfl⟩ := y
  have hk : ks[i]? = some k := (List.getElem?_zip_eq_some.mp h1).1
  exact ⟨keyD k, L, by rw [List.getElem?_map, hk]; rfl, .refl, A, rp_key k⟩
section
variable {X : Cx} {e tg : Expr} {t : DE} {pos : Pos}
theorem pdi_keys (h : PD X e t) : PDI X tg e (iKeyD t) := by
  obtain ⟨u, p, s⟩ := h.ex
  refine ⟨_, pi_keys p, ?_⟩
  intro as σ ρ L H M P R hE A hh q
  refine s as σ ρ L H M _ _ hE A hh fun v d L1 H1 M1 s1 A1 h1 r1 => ?_
  obtain ⟨ks, ds, rfl, p1⟩ := h1
  cases r1 with
  | dic hf hl rr =>
    obtain ⟨o, hf⟩ := hf
    exact ⟨_, o, rfl, .inl ⟨_, A1.low _ _ hf, q _ _ L1 H1 M1 s1 A1 p1 (walks_keys hf hl)⟩⟩
/-- an expression that is not come to -/
@[simp] def dNeverT : DT := fun _ _ _ => False
@[simp] def dNever : DE := fun _ _ _ => False
def repS (z : Str) (k : Int) : Str := if k = 1 then z else ⟨(List.replicate k.toNat z.cps).foldl (· ++ ·) #[]⟩
@[simp] def oRepS : D2 := fun x y M P => ∃ (z : Str) (k : Int), x = .str z ∧ y = .int k ∧ 1 ≤ k ∧ k ≤ 1000 ∧ 1 ≤ z.length ∧ z.length ≤ 1000 ∧ P (.str (repS z k)) M
@[simp] def dRevL (t : DE) : DE := fun ρ M P => t ρ M fun d M1 => ∃ ds, d = .lst ds ∧ P (.lst ds.reverse) M1
end
section
variable {X : Cx} {e0 : Expr} {es : List Expr} {st : Stmt} {sts : List Stmt} {t s2 : DS} {pos p1 p : Pos} {te : DE} {tl : DA}
@[simp] def lDisp (tl : DA) : DA := fun ρ M P => tl ρ M fun ds M1 => ds.length ≤ sizeLine ∧ P ds M1
@[simp] def lList (tl : DA) : DA := fun ρ M P => tl ρ M fun ds M1 => ∃ d xs, ds = [d] ∧ isSeq d xs ∧ P xs M1
@[simp] def sBuildN (i : Nat) (tl : DA) (t rest : DS) : DS := fun De ρ M => tl ρ M fun ds0 M1 => t { nx := (fun ρ' M' => ∃ M3 ds, M' = M3 ++ [MO.lst ds] ∧ M3.length = M1.length ∧ apartM M1.length M3 = true ∧ apartA M1.length ds = true ∧ (ρ'[i]? = some (some (D.mu M1.length))) ∧ rest De ((clean M1.length ρ').set i (some (.lst ds))) M3), rt := cutR M1.length De.rt, bk := cutE M1.length De.bk, ct := cutE M1.length De.ct } (ρ.set i (some (.mu M1.length))) (M1 ++ [.lst ds0])
end
end Pd
set_option Elab.async false
set_option linter.all false
set_option maxRecDepth 100000
set_option maxHeartbeats 3200000
namespace Pd
open PySem PySem.Spec PyProof.Rows L2
/-- an empty set, as it is made -/
abbrev Eset (w : World) : Obj := { cls := .type "set", dict := none, data := .set #[] 0 (.fresh 0 0 (!w.params.followText "set-order")) }
section
variable {P : Program} {w : World} {A : Around} {E : Value → Shared → Prop} {s : Shared}
/-- set(xs) of a list of ints -/
theorem set_of_ints {l : Addr} {its : Array Value} (ns : List Int) {Q : Value → Shared → Prop} (hd : A.handled = none) (L : s.heap.IsList l its) (hi : IntsAre its.toList ns) (hb : ns.length + 1 < scanBound)
    (fin : ∀ (g : Heap) (tk c : Nat), SetR w g s.heap.objs.size (fun j => decide (j ∈ ns)) c → c ≤ ns.length → (∀ b o, s.heap.get? b = some o → g.get? b = some o) → Q (.ref s.heap.objs.size) { s with heap := g, toks := tk }) :
    wpAny (model P w) A (call (.type "set") [.ref l]) Q E s := by
  have hz : its.size = ns.length := by have := IntsAre.length hi; rwa [Array.length_toList] at this
  obtain ⟨cc, tt, mr⟩ := F.called_set.mro
  have md := F.called_set.made
  have sb := F.called_set.sub
  refine wpAny_call (codeAny_of_tree ?_)
  show wpAny _ _ (callAny (.type "set") _) _ _ _
  refine wpAny_pure ⟨Code.quiet_builtin _ (by decide +kernel), codeAny_builtin F.entry_type_call ?_⟩
  rw [Around.under_plain (weight_type_call_type "set" [.ref l] []) rfl]
  have x1 := F.called_set.notType
  have x2 := F.called_set.canCreate
  have x3 := F.typeCall_set_1 (.ref l)
  repeat (any_goals (first | assumption | wp_step))
  refine codeAny_mono (code_set_led1 (.ref l) (E := E) (Q₁ := fun ob s₁ => ob = .ref s.heap.objs.size ∧ s₁ = { s with heap := s.heap.push (Eset w) }) ⟨rfl, rfl⟩) fun r s₁ hr => ?_
  match r, hr with
  | .error e, hr => exact hr
  | .ok (.ret ob), hr =>
    obtain ⟨rfl, rfl⟩ := hr
    have gS : (s.heap.push (Eset w)).get? s.heap.objs.size = some (Eset w) := Heap.get?_push_size _ rfl
    have tS : Shared.TypeIs { s with heap := s.heap.push (Eset w) } (.ref s.heap.objs.size) "set" := ⟨_, gS, rfl⟩
    have y1 := F.called_set.init.lookup
    have y2 := F.called_set.init.bind (.ref s.heap.objs.size)
    repeat (any_goals (first | assumption | wp_step))
    refine codeAny_mono (codeAny_call_builtin (R := wants (fun r s₂ => r = .none ∧ ∃ g tk c, s₂ = { s with heap := g, toks := tk } ∧ SetR w g s.heap.objs.size (fun j => decide (j ∈ ns)) c ∧ c ≤ ns.length ∧ (∀ b o, s.heap.get? b = some o → g.get? b = some o)) E)
      F.called_set.init.plain F.entry_set_init (check_set_init_1 tS ?_)) fun r₂ s₂ hr₂ => ?_
    · obtain ⟨⟨oc, od, dat, sls⟩, ho, hc, n, hdat⟩ := id L
      simp only at hc hdat
      subst hc hdat
      have gl : (s.heap.push (Eset w)).get? l = some { cls := .type "list", dict := od, data := .seq its n, slots := sls } := Heap.get?_push_of_some _ ho
      have z1 := F.sub_list_set
      have z2 := F.sub_list_frozenset
      have z3 : (Value.type "list" == Value.type "dict") = false := by decide
      have L1 : (s.heap.push (Eset w)).IsList l its := ⟨_, gl, rfl, n, rfl⟩
      have lt : l < s.heap.objs.size := Heap.lt_size ho
      have sz : (s.heap.push (Eset w)).objs.size = s.heap.objs.size + 1 := Heap.size_push ..
      unfold Builtin.«set.__init__» noKeywords Builtin.Frozenset.updateFrom
      generalize hq : pyIter = PI
      wp_walk
      subst hq
      refine wpAny_pyIter_list L1 (wpAny_bind (wpAny_runValue ?_))
      have nI : l ≠ (s.heap.push (Eset w)).objs.size := by rw [sz]; exact Nat.ne_of_lt (Nat.lt_succ_of_lt lt)
      have nS : s.heap.objs.size ∉ [(s.heap.push (Eset w)).objs.size, l] := by
        rw [sz]
        simp only [List.mem_cons, List.not_mem_nil, or_false, not_or]
        exact ⟨Nat.ne_of_lt (Nat.lt_succ_self _), Nat.ne_of_gt lt⟩
      have at_ : ∀ (i : Nat) (v : Value), its[i]? = some v → ∃ k t, ns[i]? = some k ∧ v = .int k t := fun i v hv => by
        have hl : i < ns.length := by rw [← hz]; exact (Array.getElem?_eq_some_iff.mp hv).1
        obtain ⟨t, e⟩ := PyProof.Rows.IntsAre.int_at hi i v (by rw [Array.getElem?_toList]; exact hv)
        have e2 : ns[i]? = some (ns.getD i 0) := by rw [List.getD_eq_getElem?_getD, List.getElem?_eq_getElem hl]; rfl
        exact ⟨_, t, e2, e⟩
      refine set_update_ints ((Walks.list (by simp [hd]) _ l nI its).toS) s.heap.objs.size nS ns hz hb at_ (its.size - 0) 0 _ (by omega) (Nat.zero_le _) ⟨⟨_, Heap.get?_push_size _ rfl, rfl, rfl⟩, L1.push _⟩ ⟨0, Nat.le_refl 0, setR_new_at (Heap.get?_push_of_some _ gS)⟩ fun s' c mv hc2 hS2 => ?_
      obtain ⟨g, g2, d2, t2, o2⟩ := s'
      obtain rfl : g2 = s.gens := mv.gens
      obtain rfl : d2 = s.drawn := mv.drawn
      obtain rfl : o2 = s.os := mv.os
      show wpAny _ _ _ _ _ _
      refine wpAny_pure ?_
      show wpAny _ _ (ret Value.none) _ _ _
      rw [hz] at hc2
      refine wpAny_pure ⟨rfl, g, t2, c, rfl, hS2, hc2, fun b o e => ?_⟩
      have hb0 : b < s.heap.objs.size := Heap.lt_size e
      refine mv.heap b o ?_ (Heap.get?_push_of_some _ (Heap.get?_push_of_some _ e))
      rw [sz]
      simp only [List.mem_cons, List.not_mem_nil, or_false, not_or]
      exact ⟨Nat.ne_of_lt hb0, Nat.ne_of_lt (Nat.lt_succ_of_lt hb0)⟩
    · match r₂, hr₂ with
      | .error e, hr₂ => exact hr₂
      | .ok (.ret r), ⟨e1, g, tk, c, e2, hS, hc, hk⟩ =>
        subst e1; subst e2
        repeat (any_goals (first | assumption | wp_step))
        exact fin _ _ _ hS hc hk
      | .ok .next, h => exact h.elim
      | .ok .brk, h => exact h.elim
      | .ok .cont, h => exact h.elim
  | .ok .next, h => exact h.elim
  | .ok .brk, h => exact h.elim
  | .ok .cont, h => exact h.elim
end
section
variable {X : Cx} {e : Expr} {t : DE} {pos pos2 p p2 : Pos}
def rSetI (K : PySem.W.Frag) (w : World) : List V → Hp → VK → Prop := fun xs H Q => ∃ (l : Addr) (ns : List Int), xs = [.ref l] ∧ SqL K H l (ns.map V.int) ∧ ns.length < 64 ∧ ∀ p c, H p = none → c ≤ ns.length → Q (.ref p) (upd H p (SetO w p (fun j => decide (j ∈ ns)) c))
theorem call_setI (hc : X.calm = true) : CallR X (.type "set") (rSetI X.K X.w) := by
  intro pins s σ H xs us Q I r h
  obtain ⟨l, ns, rfl, hl, h64, q⟩ := h
  obtain ⟨u, rfl, rx⟩ := vals1 r
  cases rx
  obtain ⟨its, rv, pl, _⟩ := I.list hl
  have hsc : scanBound = 4096 := by decide
  refine set_of_ints ns (I.ok.hd hc) pl.isList (by rw [List.toList_toArray]; exact ints_of_vals rv) (by omega) fun g tk c hS hc2 hk => ?_
  exact ⟨.ref s.heap.objs.size, _, I.laid (t' := tk) hk (Nat.le_refl _) (setO_new hS), rfl, q _ _ (I.hok.fresh (Nat.le_refl _)) hc2⟩
theorem rp_ints {K : PySem.W.Frag} {as : List Addr} {L : Hp} : ∀ ns : List Int, RpA K as L (ns.map V.int) (dI ns)
  | [] => .nil
  | n :: ns => .cons (.int n) (rp_ints ns)
/-- sorted(set(e)), e a list of ints -/
@[simp] def dSortSet (t : DE) : DE := fun ρ M P => t ρ M fun d M1 => ∃ ns : List Int, d = .lst (dI ns) ∧ ns.length < 64 ∧ ∀ ms : List Int, ms.Pairwise (· < ·) → (∀ k, k ∈ ms ↔ k ∈ ns) → P (.lst (dI ms)) M1
theorem pd_sortSet (hc : X.calm = true) (hg : Gl X "sorted") (hm : X.mg "sorted" = none) (hg2 : Gl X "set") (hm2 : X.mg "set" = none) (h : PD X e t) (hst : starEach [e] X.env = (false, eval e X.env) :: starEach [] X.env := by rfl) (hst2 : starEach [.Call (.Name "set" p2) [e] [] pos2] X.env = (false, eval (.Call (.Name "set" p2) [e] [] pos2) X.env) :: starEach [] X.env := by rfl) :
    PD X (.Call (.Name "sorted" p) [.Call (.Name "set" p2) [e] [] pos2] [] pos) (dSortSet t) := by
  obtain ⟨u, pe, s⟩ := h.ex
  refine ⟨_, pe_callB (cr_sortedSet hc) hg hm (by decide +kernel) (pa_cons (pe_callTy (call_setI hc) hg2 hm2 (by decide +kernel) (pa_cons pe pa_nil hst) (by decide) (by decide) hst (by rfl)) pa_nil hst2) (by decide) (by decide) hst2 (by rfl), ?_⟩
  intro as σ ρ L H M P Q hE A hh q
  refine s as σ ρ L H M _ _ hE A hh fun v d L1 H1 M1 s1 A1 h1 r1 => ?_
  obtain ⟨ns, rfl, h64, p1⟩ := h1
  cases r1 with
  | lst hs ra =>
    have ev := RpA.ints ra
    subst ev
    refine ⟨_, ns, rfl, ex_l A1.low hs, h64, fun a c ha hcl => ?_⟩
    refine ⟨a, _, c, rfl, upd_same, by omega, fun ms b hms hmem hlen hb => ?_⟩
    have s2 := Step.know (o := SetO X.w a (fun j => decide (j ∈ ns)) c) A1 ha
    have A2 := A1.know (o := SetO X.w a (fun j => decide (j ∈ ns)) c) ha (fun ps z => by cases z)
    have lb := lowfree A2 hb
    exact q _ _ _ _ M1 ((s1.trans A1 s2).trans A2 (Step.know A2 hb)) (A2.know hb) (p1 ms hms fun k => by rw [hmem]; simp) (.lst (.inl (.inl upd_same)) (rp_ints ms))
end
@[simp] def sBuildP (i j : Nat) (ta : DE) (t rest : DS) : DS := fun De ρ M => ta ρ M fun d M1 => t { nx := (fun ρ' M' => ∃ M3 ds, M' = M3 ++ [MO.lst ds] ∧ M3.length = M1.length ∧ apartM M1.length M3 = true ∧ apartA M1.length ds = true ∧ (ρ'[j]? = some (some (D.mu M1.length))) ∧ rest De ((clean M1.length ρ').set j (some (.lst ds))) M3), rt := cutR M1.length De.rt, bk := cutE M1.length De.bk, ct := cutE M1.length De.ct } ((ρ.set i (some d)).set j (some (.mu M1.length))) (M1 ++ [.lst []])
end Pd
set_option Elab.async false
set_option linter.all false
set_option maxRecDepth 100000
set_option maxHeartbeats 4000000
namespace Pd
open PySem PySem.Spec PyProof.Rows L2
theorem p29 : (0 : Int) < 2147483629 := by decide
theorem p47 : (0 : Int) < 2147483647 := by decide
theorem z2 : 2 ≤ sizeLine := by decide
/-- the law's source is changeable object number k -/
def SrcAt (k : Nat) (M : Ms) : Prop := ∃ n s : Int, M[k]? = some (.lst [.int n, .int s]) ∧ 0 ≤ s ∧ s < 2147483647
theorem SrcAt.set {k : Nat} {M : Ms} (h : SrcAt k M) {n s : Int} (h0 : 0 ≤ s) (h1 : s < 2147483647) : SrcAt k (M.set k (.lst [.int n, .int s])) := by
  obtain ⟨_, _, e, _⟩ := h
  exact ⟨n, s, List.getElem?_set_self (List.getElem?_eq_some_iff.mp e).1, h0, h1⟩
theorem lc_fmap {g : DG} {tt : DT} {te : DE} {ρ : Rho} {P : D → Ms → Prop} {M : Ms} (f : D → Option D) : ∀ (ds acc : List D), (∀ d ∈ ds, ∀ (R : D → Ms → Prop) (S : Ms → Prop), (∀ y, f d = some y → R y M) → (f d = none → S M) → g d ρ fun ρ' => tt ρ' M fun b M1 => if b = true then te ρ' M1 R else S M1) →
    acc.length + ds.length ≤ sizeLine → P (.lst (acc ++ ds.filterMap f)) M → lcRun g tt te ρ P ds acc M
  | [], acc, _, _, p => by
    show P (.lst acc) M
    simpa using p
  | d :: r, acc, h, hz, p => by
    rw [List.length_cons] at hz
    refine h d List.mem_cons_self (fun y M2 => acc.length < sizeLine ∧ lcRun g tt te ρ P r (acc ++ [y]) M2) (fun M1 => lcRun g tt te ρ P r acc M1) (fun y hy => ⟨by omega, ?_⟩) fun hn => ?_
    · refine lc_fmap f r (acc ++ [y]) (fun d' h' => h d' (List.mem_cons_of_mem _ h')) (by rw [List.length_append, List.length_singleton]; omega) ?_
      rw [List.filterMap_cons, hy] at p
      simpa using p
    · refine lc_fmap f r acc (fun d' h' => h d' (List.mem_cons_of_mem _ h')) (by omega) ?_
      rw [List.filterMap_cons, hn] at p
      exact p
theorem apartA_of {k : Nat} : ∀ {ds : List D}, (∀ d ∈ ds, apart k d = true) → apartA k ds = true
  | [], _ => rfl
  | d :: ds, h => by show (apart k d && apartA k ds) = true; rw [h d List.mem_cons_self, apartA_of fun x hx => h x (List.mem_cons_of_mem _ hx)]; rfl
theorem okM_set {k : Nat} {M : Ms} (h : okM M) (a b : Int) : apartM M.length (M.set k (.lst [.int a, .int b])) = true := by
  refine List.all_eq_true.mpr fun mo hmo => ?_
  rcases List.mem_or_eq_of_mem_set hmo with h2 | rfl
  · exact List.all_eq_true.mp h mo h2
  · rfl
/-- the objects as they are, but for the source -/
def Cu (k : Nat) (M M1 : Ms) : Prop := ∃ n s : Int, 0 ≤ s ∧ s < 2147483647 ∧ M1 = M.set k (.lst [.int n, .int s])
section
variable {k j : Nat} {M M1 : Ms} {mo : MO}
theorem Cu.len (c : Cu k M M1) : M1.length = M.length := by obtain ⟨_, _, _, _, rfl⟩ := c; exact List.length_set
theorem Cu.set (c : Cu k M M1) {n s : Int} (h0 : 0 ≤ s) (h1 : s < 2147483647) : Cu k M (M1.set k (.lst [.int n, .int s])) := by
  obtain ⟨_, _, _, _, rfl⟩ := c
  exact ⟨n, s, h0, h1, List.set_set _⟩
theorem Cu.ok (c : Cu k M M1) (h : okM M) : okM M1 := by
  have e := c.len
  obtain ⟨n, s, _, _, rfl⟩ := c
  unfold okM
  rw [e]
  exact okM_set h n s
theorem Cu.get (c : Cu k M M1) (hj : M[j]? = some mo) (h : j ≠ k) : M1[j]? = some mo := by
  obtain ⟨n, s, _, _, rfl⟩ := c
  rw [List.getElem?_set_ne h.symm]; exact hj
theorem SrcAt.lt (h : SrcAt k M) : k < M.length := by obtain ⟨n, s, e, _⟩ := h; exact (List.getElem?_eq_some_iff.mp e).1
theorem clean_cons (k : Nat) (d : D) (ρ : Rho) (h : apart k d = true) : clean k (some d :: ρ) = some d :: clean k ρ := by
  show (if apart k d = true then some d else none) :: clean k ρ = _
  rw [if_pos h]
end
mutual
theorem plain_apart (k : Nat) : ∀ d : D, plainR d = true → apart k d = true
  | .non, _ => rfl
  | .bl _, _ => rfl
  | .int _, _ => rfl
  | .str _, _ => rfl
  | .lst ds, h => plain_apartA k ds h
  | .tup ds, h => plain_apartA k ds h
  | .dic _ ds, h => plain_apartA k ds h
theorem plain_apartA (k : Nat) : ∀ ds : List D, plainRA ds = true → apartA k ds = true
  | [], _ => rfl
  | d :: ds, h => by
    have h' := Bool.and_eq_true_iff.mp h
    show (apart k d && apartA k ds) = true
    rw [plain_apart k d h'.1, plain_apartA k ds h'.2]; rfl
end
mutual
theorem apart_up {k k' : Nat} (hk : k ≤ k') : ∀ d : D, apart k d = true → apart k' d = true
  | .non, _ => rfl
  | .bl _, _ => rfl
  | .int _, _ => rfl
  | .str _, _ => rfl
  | .ob _, _ => rfl
  | .ty _, _ => rfl
  | .tfz _, _ => rfl
  | .tnw _, _ => rfl
  | .dx _ ds, h => apartA_up hk ds h
  | .lst ds, h => apartA_up hk ds h
  | .tup ds, h => apartA_up hk ds h
  | .dic _ ds, h => apartA_up hk ds h
  | .dit _ ds, h => apartA_up hk ds h
  | .ins _ fs, h => apartF_up hk fs h
  | .exc _ fs, h => apartF_up hk fs h
  | .mu j, h => decide_eq_true (Nat.lt_of_lt_of_le (of_decide_eq_true h) hk)
theorem apartA_up {k k' : Nat} (hk : k ≤ k') : ∀ ds : List D, apartA k ds = true → apartA k' ds = true
  | [], _ => rfl
  | d :: ds, h => by
    have h' := Bool.and_eq_true_iff.mp h
    show (apart k' d && apartA k' ds) = true
    rw [apart_up hk d h'.1, apartA_up hk ds h'.2]; rfl
theorem apartF_up {k k' : Nat} (hk : k ≤ k') : ∀ fs : List (Str × D), apartF k fs = true → apartF k' fs = true
  | [], _ => rfl
  | (f, d) :: fs, h => by
    have h' := Bool.and_eq_true_iff.mp h
    show (apart k' d && apartF k' fs) = true
    rw [apart_up hk d h'.1, apartF_up hk fs h'.2]; rfl
end
theorem okM_app {M : Ms} {ds : List D} (h : okM M) (hd : apartA M.length ds = true) : okM (M ++ [.lst ds]) := by
  unfold okM
  rw [List.length_append, List.length_singleton]
  refine List.all_eq_true.mpr fun mo hmo => ?_
  rcases List.mem_append.mp hmo with h2 | h2
  · have := List.all_eq_true.mp h mo h2
    cases mo with
    | lst ds => exact apartA_up (Nat.le_succ _) ds this
    | ins C fs => exact apartF_up (Nat.le_succ _) fs this
    | tab P q => rfl
    | dic ks ds => exact apartA_up (Nat.le_succ _) ds this
    | dit ks ds => exact apartA_up (Nat.le_succ _) ds this
  · rw [List.mem_singleton.mp h2]; exact apartA_up (Nat.le_succ _) ds hd
theorem okD_two {a x : Str} (ha : PyData.strOk a = true) (h : PyData.strOk x = true) : okD (.lst [.str a, .str x]) = true := by
  show ((true && (true && true)) && ((PyData.strOk a && (PyData.strOk x && true)) && decide (max 0 (max 0 0) + 1 ≤ 64))) = true
  rw [ha, h]; rfl
def hdsOf (st : Stmt) : List ExceptHandler := match defBody st with | .Try _ hs _ _ _ :: _ => hs | _ => []
def isI : D → Bool | .int _ => true | _ => false
/-- the built-in type of data -/
def tyN : D → Option String
  | .non => some "NoneType" | .bl _ => some "bool" | .int _ => some "int" | .str _ => some "str" | .lst _ => some "list" | .tup _ => some "tuple" | .dic _ _ => some "dict" | _ => none
theorem dty {K : PySem.W.Frag} {d : D} {t : String} (h : tyN d = some t) : DTy K d (.type t) := by
  cases d <;> simp only [tyN, Option.some.injEq, reduceCtorEq] at h <;> subst h <;> constructor
/-- has_items -/
def hasB (lo hi : Int) : D → Bool
  | .lst xs => decide (lo ≤ (xs.length : Int)) && decide ((xs.length : Int) ≤ hi)
  | .tup xs => decide (lo ≤ (xs.length : Int)) && decide ((xs.length : Int) ≤ hi)
  | _ => false
theorem seq_or {K : PySem.W.Frag} {d : D} {t : String} (h : tyN d = some t) : (∃ xs, isSeq d xs ∧ PySem.W.kitAny K (.type t) [.type "list", .type "tuple"] = some true ∧ ∀ lo hi, hasB lo hi d = (decide (lo ≤ (xs.length : Int)) && decide ((xs.length : Int) ≤ hi))) ∨ (PySem.W.kitAny K (.type t) [.type "list", .type "tuple"] = some false ∧ ∀ lo hi, hasB lo hi d = false) := by
  cases d <;> simp only [tyN, Option.some.injEq, reduceCtorEq] at h <;> subst h
  case lst xs => exact .inl ⟨xs, .inl rfl, rfl, fun _ _ => rfl⟩
  case tup xs => exact .inl ⟨xs, .inr rfl, rfl, fun _ _ => rfl⟩
  all_goals exact .inr ⟨rfl, fun _ _ => rfl⟩
/-- all_between -/
def btwB (lo hi : Int) : D → Bool
  | .int x => decide (lo ≤ x) && decide (x ≤ hi)
  | _ => false
def itemsD : D → Option (List D) | .lst xs => some xs | .tup xs => some xs | _ => none
theorem isSeq_items {d : D} {xs : List D} (h : isSeq d xs) : itemsD d = some xs := by rcases h with rfl | rfl <;> rfl
def Typed1 (d : D) : Prop := (∃ t, tyN d = some t) ∧ ∀ xs, itemsD d = some xs → xs.length ≤ 1000 ∧ ∀ x ∈ xs, ∃ t, tyN x = some t
theorem noSeq {d : D} (hb : ∀ lo hi, hasB lo hi d = false) : itemsD d = none := by
  cases d
  case lst xs => have := hb 0 (xs.length : Int); simp [hasB] at this
  case tup xs => have := hb 0 (xs.length : Int); simp [hasB] at this
  all_goals rfl
/-- data that may be compared, at most k deep -/
structure Lay (k : Nat) (d : D) : Prop where
  pl : plain d = true
  la : PyData.canLay0 (toP d) = true
  dp : (toP d).depth ≤ k
theorem Lay.up {k k' : Nat} {d : D} (h : Lay k d) (hk : k ≤ k') : Lay k' d := ⟨h.pl, h.la, Nat.le_trans h.dp hk⟩
end Pd
set_option Elab.async false
set_option linter.all false
set_option maxRecDepth 100000
set_option maxHeartbeats 3200000
namespace Pd
open PySem PySem.Spec PyProof.Rows L2
section
variable {X : Cx} {e o : Expr} {t td te : DE} {pos p : Pos}
@[simp] def dTIdx (td te : DE) : DE := fun ρ M P => td ρ M fun d M1 => ∃ ns : List Int, d = .tfz ns ∧ te ρ M1 fun y M2 => ∃ k : Int, y = .int k ∧ k ∈ ns ∧ P (.int (ns.idxOf k)) M2
def fgD : D → D | .tfz ns => .tup (dI ns) | .tnw ns => .tup (dI ns) | d => d
theorem rp_ints' {K : PySem.W.Frag} {as : List Addr} {L : Hp} : ∀ ns : List Int, RpA K as L (ns.map V.int) (dI ns)
  | [] => .nil
  | n :: ns => .cons (.int n) (rp_ints' ns)
@[simp] def dFg (t : DE) : DE := fun ρ M P => t ρ M fun d M1 => P (fgD d) M1
end
end Pd
set_option Elab.async false
set_option linter.all false
set_option maxRecDepth 100000
set_option maxHeartbeats 3200000
namespace Pd
open PySem PySem.Spec PyProof.Rows L2
@[simp] def oMkT : DC := fun xs M P => ∃ (d : D) (ns : List Int), xs = [d] ∧ ((d = .lst (dI ns) ∧ P (.tfz ns) M) ∨ (d = .tup (dI ns) ∧ P d M) ∨ (d = .tfz ns ∧ P d M))
def leD (a b : List Int) : Bool := !decide (a < b)
section
variable {X : Cx} {e : Expr} {t : DE} {pos p p2 kp : Pos} {kt : Nat}
@[simp] def dSortRev (t : DE) (tk : DA) : DE := fun ρ M P => t ρ M fun d M1 => ∃ rows : List (List Int), d = .lst (rows.map D.tfz) ∧ (∀ r ∈ rows, r ≠ []) ∧ tk ρ M1 fun zs M2 => zs = [.bl true] ∧ P (.lst ((rows.mergeSort leD).map D.tfz)) M2
@[simp] def iRev (t : DE) : DA := fun ρ M P => t ρ M fun d M1 => ∃ ds, d = .lst ds ∧ P ds.reverse M1
end
end Pd
set_option Elab.async false
set_option linter.all false
set_option maxRecDepth 100000
set_option maxHeartbeats 3200000
namespace Pd
open PySem PySem.Spec PyProof.Rows L2
def dcRun (g : DG) (tk tv : DE) (ρ : Rho) (P : D → Ms → Prop) : List D → List Key → List D → Ms → Prop
  | [], ks, acc, M => P (.dic ks acc) M
  | d :: r, ks, acc, M => g d ρ fun ρ' => tk ρ' M fun kd M1 => tv ρ' M1 fun y M2 => ∃ k, kd = keyD k ∧ k ∉ ks ∧ acc.length < sizeLine ∧ dcRun g tk tv ρ P r (ks ++ [k]) (acc ++ [y]) M2
@[simp] def dDc (it : DA) (g : DG) (tk tv : DE) (vs : List Nat) : DE := fun ρ M P => it ρ M fun ds M1 => dcRun g tk tv (wipeR ρ vs) P ds [] [] M1
theorem putK_new {ks : List Key} {xs : List V} {k : Key} {v : V} (hl : ks.length = xs.length) (h : k ∉ ks) : putK (ks.zip xs) k v = (ks ++ [k]).zip (xs ++ [v]) := by
  unfold putK
  rw [if_neg, List.zip_append hl]
  · rfl
  · intro z
    obtain ⟨kv, hm, e⟩ := List.any_eq_true.mp z
    have e := of_decide_eq_true e
    exact h (e ▸ (List.of_mem_zip (a := kv.1) (b := kv.2) hm).1)
theorem keyD_rp {K : PySem.W.Frag} {as : List Addr} {L : Hp} {v : V} {k : Key} (r : Rp K as L v (keyD k)) : v = kV k := by
  cases k with
  | inl i => cases r; rfl
  | inr i => cases r; rfl
section
variable {X : Cx}
def dicGet (ks : List Key) (ds : List D) (k : Key) : Option D := ((ks.zip ds).find? fun kv => decide (kv.1 = k)).map (·.2)
@[simp] def dGet2 (td ty tx : DE) : DE := fun ρ M P => td ρ M fun d M1 => ∃ ks ds, d = .dic ks ds ∧ ty ρ M1 fun y M2 => tx ρ M2 fun z M3 => ∃ k, y = keyD k ∧ P ((dicGet ks ds k).getD z) M3
theorem rp_get {K : PySem.W.Frag} {as : List Addr} {L : Hp} (k : Key) : ∀ {ks : List Key} {vs : List V} {ds : List D}, RpA K as L vs ds → (valV (ks.zip vs) k = none ∧ dicGet ks ds k = none) ∨ ∃ v d, valV (ks.zip vs) k = some v ∧ dicGet ks ds k = some d ∧ Rp K as L v d
  | [], vs, ds, _ => .inl ⟨rfl, rfl⟩
  | k0 :: ks, _, _, .nil => .inl ⟨rfl, rfl⟩
  | k0 :: ks, _, _, .cons (v := v) (d := d) r t => by
    by_cases e : k0 = k
    · refine .inr ⟨v, d, ?_, ?_, r⟩
      · unfold valV; rw [List.zip_cons_cons, List.find?_cons_of_pos (by simpa using e)]; rfl
      · unfold dicGet; rw [List.zip_cons_cons, List.find?_cons_of_pos (by simpa using e)]; rfl
    · rcases rp_get k (ks := ks) t with ⟨h1, h2⟩ | ⟨v', d', h1, h2, h3⟩
      · refine .inl ⟨?_, ?_⟩
        · unfold valV at h1 ⊢; rw [List.zip_cons_cons, List.find?_cons_of_neg (by simpa using e)]; exact h1
        · unfold dicGet at h2 ⊢; rw [List.zip_cons_cons, List.find?_cons_of_neg (by simpa using e)]; exact h2
      · refine .inr ⟨v', d', ?_, ?_, h3⟩
        · unfold valV at h1 ⊢; rw [List.zip_cons_cons, List.find?_cons_of_neg (by simpa using e)]; exact h1
        · unfold dicGet at h2 ⊢; rw [List.zip_cons_cons, List.find?_cons_of_neg (by simpa using e)]; exact h2
end
end Pd
set_option Elab.async false
set_option linter.all false
set_option maxRecDepth 100000
set_option maxHeartbeats 3200000
namespace Pd
open PySem PySem.Spec PyProof.Rows L2 PySem.HandSPX
section
variable {X : Cx} {k n : Nat} {C g : Addr} {fd : FuncData} {ps : List Str} {e o : Expr} {es : List Expr} {t : DE} {tl : DA} {pos apos p pos2 : Pos} {m : Str} {pl : Sem Bool}
@[simp] def dMethD (C : Addr) (m : Str) (n : Nat) (W : DC) (t : DE) (tl : DA) : DE := fun ρ M P => t ρ M fun x M1 => ∃ fs, x = .ins C fs ∧ fs.lookup m = none ∧ tl ρ M1 fun ds M2 => ds.length + 1 = n ∧ W (x :: ds) M2 P
@[simp] def dListGM (C : Addr) (m : Str) (W : DCG) (t : DE) : DE := fun ρ M P => t ρ M fun x M1 => ∃ fs, x = .ins C fs ∧ fs.lookup m = none ∧ W [x] M1 (fun out M2 => P (.lst out) M2) xNo
end
section
variable {X : Cx} {K : PySem.W.Frag}
@[simp] def oNinI : D2 := fun x y M P => ∃ ds, y = .lst ds ∧ okD x = true ∧ okD y = true ∧ (toP x).depth ≤ 60 ∧ P (.bl (!ds.any fun z => eqD z x)) M
end
section
variable {X : Cx}
@[simp] def oAnyLI : DC := fun xs M P => ∃ ns : List Int, xs = [.lst (dI ns)] ∧ P (.bl (ns.any fun n => n != 0)) M
end
end Pd
set_option Elab.async false
set_option linter.all false
set_option maxRecDepth 100000
set_option maxHeartbeats 4000000
namespace Pd
open PySem PySem.Spec PyProof.Rows L2
/-- a list without doubles whose items stand in another one is not longer -/
theorem nd_le {α : Type} [DecidableEq α] : ∀ (l U : List α), l.Nodup → (∀ x ∈ l, x ∈ U) → l.length ≤ U.length
  | [], _, _, _ => Nat.zero_le _
  | x :: l, U, h, hs => by
    have h1 := List.nodup_cons.mp h
    have hx := hs x List.mem_cons_self
    have := nd_le l (U.erase x) h1.2 fun y hy => by
      have hne : y ≠ x := fun e => by rw [e] at hy; exact h1.1 hy
      exact (List.mem_erase_of_ne hne).mpr (hs y (List.mem_cons_of_mem _ hy))
    have hp := List.length_pos_of_mem hx
    rw [List.length_erase_of_mem hx] at this
    rw [List.length_cons]
    omega
def FewOf (U : List (List Int)) (ks : List (Addr × List Int)) : Prop := U.length + 1 < 64 ∧ ∀ q ∈ ks, q.2 ∈ U
theorem FewOf.room {U : List (List Int)} {ks L : List (Addr × List Int)} {i : Nat} (f : FewOf U ks) (g : Got ks i L) (nd : (L.map (·.2)).Nodup) : L.length + 1 < 64 := by
  have h := nd_le _ U nd fun x hx => by
    obtain ⟨q, hq, rfl⟩ := List.mem_map.mp hx
    exact f.2 q (List.mem_of_mem_take (g.sub q hq))
  rw [List.length_map] at h
  have := f.1
  omega
section
variable {P : Program} {w : World} {A : Around} {E : Value → Shared → Prop}
/-- the set at z, when i items are in it -/
def Half (P : Program) (w : World) (z : Addr) (ks : List (Addr × List Int)) (g0 : Heap) (i : Nat) (h : Heap) : Prop :=
  (∀ b o, g0.get? b = some o → h.get? b = some o) ∧ ∃ L es ep t, SetTR P w h z L es ep t ∧ Got ks i L
theorem Half.same {z : Addr} {ks : List (Addr × List Int)} {g0 h h' : Heap} {i : Nat} (H : Half P w z ks g0 i h) (tup : ∀ q ∈ ks, IsT P w g0 q.2 q.1) (hz : ∀ o, h.get? z = some o → h'.get? z = some o) (k : ∀ b o, g0.get? b = some o → h'.get? b = some o) : Half P w z ks g0 i h' := by
  obtain ⟨_, L, es, ep, t, R, g⟩ := H
  exact ⟨k, L, es, ep, t, R.keep hz fun q hq => isT_keep (tup q (List.mem_of_mem_take (g.sub q hq))) k, g⟩
/-- one more -/
theorem Half.add {z : Addr} {ks : List (Addr × List Int)} {U : List (List Int)} {g0 : Heap} {i : Nat} {s : Shared} {q : Addr × List Int} (H : Half P w z ks g0 i s.heap) (few : FewOf U ks) (tup : ∀ q ∈ ks, IsT P w g0 q.2 q.1) (z0 : g0.get? z = none) (hq : ks[i]? = some q) (hu : A.units < cLine) {Q : Bool → Shared → Prop}
    (next : ∀ b h' tk, Heap.SameBut z s.heap h' → s.toks ≤ tk → Half P w z ks g0 (i + 1) h' → Q b { s with heap := h', toks := tk }) : wpAny (model P w) A (setAdd z (.ref q.1)) Q E s := by
  obtain ⟨k, L, es, ep, t, R, g⟩ := H
  have hx : IsT P w s.heap q.2 q.1 := isT_keep (tup q (List.mem_of_getElem? hq)) k
  unfold setAdd
  refine wpAny_holding (wpAny_bind (wpAny_pyHash_tuple hu hx ?_))
  refine add_at (s := { s with toks := s.toks + (q.2.length + 1) }) R hx hu (few.room g R.nd) fun b h' L' es' ep' t' sb R' old new => ?_
  refine next b h' _ sb (Nat.le_add_right _ _) ⟨fun c o e => (sb.2 c fun y => by rw [y, z0] at e; cases e).trans (k c o e), L', es', ep', t', R', ?_⟩
  by_cases c : q.2 ∈ L.map (·.2)
  · rw [old c]; exact g.same hq c
  · exact g.more hq (new c)
theorem fill_set {I z : Addr} {fp wr : List Addr} {G : Array GenState → Array GenState → Prop} {Pv : Nat → Value → Prop} {St : Nat → Shared → Prop} {R : Result → Shared → Prop} {ks : List (Addr × List Int)} {U : List (List Int)} {g0 : Heap} {s0 : Shared}
    (W : WalksS P w A.in1 I fp wr G ks.length Pv St) (zf : z ∉ fp) (few : FewOf U ks) (val : ∀ i v, Pv i v → ∃ q, ks[i]? = some q ∧ v = .ref q.1) (tup : ∀ q ∈ ks, IsT P w g0 q.2 q.1) (z0 : g0.get? z = none) (w0 : ∀ b ∈ wr, g0.get? b = none) (hu : A.in1.units < cLine)
    (fin : ∀ s', Moved (z :: wr) G s0 s' → Half P w z ks g0 ks.length s'.heap → R (.ok (.ret .none)) s') :
    ∀ (m i : Nat) (s : Shared), i + m = ks.length → Moved (z :: wr) G s0 s → St i s → Half P w z ks g0 i s.heap → codeAny (model P w) A (.builtin "set.update.loop" ⟨[.ref z, .ref I], []⟩) R s := by
  have zw : z ∉ wr := fun h => zf (W.sub _ h)
  have wide : ∀ b ∈ wr, b ∈ z :: wr := fun b hb => List.mem_cons_of_mem _ hb
  have stay : ∀ {i : Nat} {s s' : Shared}, Moved wr G s s' → Half P w z ks g0 i s.heap → Half P w z ks g0 i s'.heap := fun mv H =>
    H.same tup (fun o e => mv.heap z o zw e) fun b o e => mv.heap b o (fun hb => by rw [w0 b hb] at e; cases e) (H.1 b o e)
  intro m
  induction m with
  | zero =>
    intro i s hi m0 st H
    obtain rfl : i = ks.length := hi
    refine codeAny_builtin F.entry_set_update_loop (Around.under_plainId F.plain_set_update_loop _ ▸ ?_)
    show wpAny _ A.in1 (pyNext (.ref I) >>= _) _ _ s
    refine wpAny_bind (W.done s _ _ st fun s' mv => ?_)
    show wpAny _ A.in1 (ret Value.none) _ _ s'
    exact wpAny_pure (fin s' (m0.trans W.gtrans (mv.mono wide)) (stay mv H))
  | succ m ih =>
    intro i s hi m0 st H
    refine codeAny_builtin F.entry_set_update_loop (Around.under_plainId F.plain_set_update_loop _ ▸ ?_)
    show wpAny _ A.in1 (pyNext (.ref I) >>= _) _ _ s
    refine wpAny_bind (W.item i s _ _ (by omega) st fun v s' pv st' mv => ?_)
    obtain ⟨q, hq, rfl⟩ := val i v pv
    show wpAny _ A.in1 (holding [Value.ref q.1] (setAdd z (.ref q.1)) >>= _) _ _ s'
    refine wpAny_bind (wpAny_holding ((stay mv H).add few tup z0 hq hu fun b h' tk sb ht H' => ?_))
    have st2 : St (i + 1) { s' with heap := h', toks := tk } := W.frame _ s' _ _ st' ht fun c hc o e => (sb.2 c fun y => zf (y ▸ hc)).trans e
    refine wpAny_pure ⟨plainId_quiet F.plain_set_update_loop _, ih (i + 1) _ (by omega) ?_ st2 H'⟩
    refine m0.trans W.gtrans ((mv.mono wide).then_heap ht fun c o hc e => ?_)
    exact (sb.2 c fun y => hc (y ▸ List.mem_cons_self)).trans e
end
end Pd
namespace Pd
open PySem PySem.Spec PyProof.Rows L2
section
variable {P : Program} {w : World} {A : Around} {E : Value → Shared → Prop} {s : Shared}
abbrev bareSet (w : World) : Obj := { cls := .type "set", dict := none, data := .set #[] 0 (.fresh 0 0 (!w.params.followText "set-order")) }
theorem half_new {h : Heap} {z : Addr} {ks : List (Addr × List Int)} {g0 : Heap} (o : h.get? z = some (bareSet w)) (k : ∀ b o, g0.get? b = some o → h.get? b = some o) : Half P w z ks g0 0 h :=
  ⟨k, [], #[], 0, _, setTR_fresh o, Got.zero ks⟩
theorem none_behind {h : Heap} {b : Addr} (hb : h.objs.size ≤ b) : h.get? b = none := by
  cases q : h.get? b with
  | none => rfl
  | some o => exact absurd (Nat.lt_of_lt_of_le (Heap.lt_size q) hb) (Nat.lt_irrefl _)
set_option maxHeartbeats 8000000 in
/-- set(xs), xs a list of many tuples, few unlike -/
theorem set_of_list {l : Addr} {items : Array Value} {ks : List (Addr × List Int)} {U : List (List Int)} {Q : Value → Shared → Prop} (hh : A.handled = none) (hl : s.heap.IsList l items) (hit : items.toList = ks.map fun q => Value.ref q.1) (tup : ∀ q ∈ ks, IsT P w s.heap q.2 q.1) (few : FewOf U ks) (hu : A.units + 3 < cLine)
    (hQ : ∀ h' tk, Half P w s.heap.objs.size ks s.heap ks.length h' → Q (.ref s.heap.objs.size) { s with heap := h', toks := tk }) : wpAny (model P w) A (call (.type "set") [.ref l]) Q E s := by
  have hn : items.size = ks.length := by rw [← Array.length_toList, hit, List.length_map]
  obtain ⟨mc, mt, mro⟩ := F.called_set.mro
  have made := F.called_set.made
  have sub := F.called_set.sub
  refine wpAny_call (codeAny_of_tree ?_)
  show wpAny _ _ (callAny (.type "set") _) _ _ _
  refine wpAny_pure ⟨Code.quiet_builtin _ (by decide +kernel), codeAny_builtin F.entry_type_call ?_⟩
  rw [Around.under_plain (weight_type_call_type "set" [.ref l] []) rfl]
  have nt := F.called_set.notType
  have cc := F.called_set.canCreate
  have tc := F.typeCall_set_1 (.ref l)
  repeat (any_goals (first | assumption | wp_step))
  refine codeAny_mono (code_set_led1 (.ref l) (E := E) (Q₁ := fun v s' => v = .ref s.heap.objs.size ∧ s' = { s with heap := s.heap.push (bareSet w) }) ⟨rfl, rfl⟩) fun r s1 hr => ?_
  cases r with
  | error x => exact hr
  | ok fl =>
    cases fl with
    | ret v =>
      obtain ⟨rfl, rfl⟩ := hr
      have hz : (s.heap.push (bareSet w)).get? s.heap.objs.size = some (bareSet w) := Heap.get?_push_size _ rfl
      have ht : Shared.TypeIs { s with heap := s.heap.push (bareSet w) } (.ref s.heap.objs.size) "set" := ⟨_, hz, rfl⟩
      have il := F.called_set.init.lookup
      have ib := F.called_set.init.bind (.ref s.heap.objs.size)
      repeat (any_goals (first | assumption | wp_step))
      refine codeAny_mono (codeAny_call_builtin (R := wants (fun r s' => r = .none ∧ ∃ h' tk, s' = { s with heap := h', toks := tk } ∧ Half P w s.heap.objs.size ks s.heap ks.length h') E) F.called_set.init.plain F.entry_set_init (check_set_init_1 ht ?_)) fun r2 s2 hr2 => ?_
      · obtain ⟨ol, hol, hcl, nl, hdl⟩ := hl
        obtain ⟨oc, od, oa, os⟩ := ol
        simp only at hcl hdl
        subst hcl; subst hdl
        have hlt : l < s.heap.objs.size := Heap.lt_size hol
        have lst : (s.heap.push (bareSet w)).get? l = some { cls := .type "list", dict := od, data := .seq items nl, slots := os } := Heap.get?_push_of_some _ hol
        have ls := F.sub_list_set
        have lf := F.sub_list_frozenset
        have ld : (Value.type "list" == Value.type "dict") = false := by decide
        have isl : (s.heap.push (bareSet w)).IsList l items := ⟨_, lst, rfl, nl, rfl⟩
        unfold Builtin.«set.__init__» noKeywords Builtin.Frozenset.updateFrom
        generalize hPI : pyIter = PI
        wp_walk
        subst hPI
        refine wpAny_pyIter_list isl (wpAny_bind (wpAny_runValue ?_))
        have sz : (s.heap.push (bareSet w)).objs.size = s.heap.objs.size + 1 := Heap.size_push ..
        have hd3 : A.in1.in1.in1.handled = none := by simp [hh]
        have keep : ∀ b o, s.heap.get? b = some o → ((s.heap.push (bareSet w)).push { cls := .type "list_iterator", data := .fields #[.ref l, .int 0 0] }).get? b = some o := fun b o e => Heap.get?_push_of_some _ (Heap.get?_push_of_some _ e)
        have W := (Walks.list (prog := P) (w := w) hd3 (s.heap.push (bareSet w)).objs.size l (by rw [sz]; exact Nat.ne_of_lt (Nat.lt_succ_of_lt hlt)) items).toS
        rw [hn] at W
        refine fill_set (s0 := { s with heap := (s.heap.push (bareSet w)).push { cls := .type "list_iterator", data := .fields #[.ref l, .int 0 0] } }) W (by rw [sz]; simp only [List.mem_cons, List.not_mem_nil, or_false, not_or]; exact ⟨Nat.ne_of_lt (Nat.lt_succ_self _), Nat.ne_of_gt hlt⟩) few (fun i v e => ?_) tup (none_behind (Nat.le_refl _)) (fun b hb => none_behind (by rw [List.mem_singleton.mp hb, sz]; exact Nat.le_succ _)) hu (fun s' mv H => ?_) ks.length 0 _ (Nat.zero_add _) (Moved.refl W.grefl) ⟨⟨_, Heap.get?_push_size _ rfl, rfl, rfl⟩, isl.push _⟩ (half_new (Heap.get?_push_of_some _ hz) keep)
        · have q : items.toList[i]? = some v := by rw [Array.getElem?_toList]; exact e
          rw [hit, List.getElem?_map] at q
          obtain ⟨y, hy, e2⟩ := Option.map_eq_some_iff.mp q
          exact ⟨y, hy, e2.symm⟩
        · obtain ⟨h', g', d', tk', os'⟩ := s'
          obtain rfl : g' = s.gens := mv.gens
          obtain rfl : d' = s.drawn := mv.drawn
          obtain rfl : os' = s.os := mv.os
          show wpAny _ _ _ _ _ _
          refine wpAny_pure ?_
          show wpAny _ _ (ret Value.none) _ _ _
          exact wpAny_pure ⟨rfl, h', tk', rfl, H⟩
      · cases r2 with
        | error x => exact hr2
        | ok f2 =>
          cases f2 with
          | ret r =>
            obtain ⟨rfl, h', tk, rfl, H⟩ := hr2
            repeat (any_goals (first | assumption | wp_step))
            exact hQ _ _ H
          | _ => exact hr2.elim
    | _ => exact hr.elim
end
end Pd
set_option Elab.async false
set_option linter.all false
set_option maxRecDepth 100000
set_option maxHeartbeats 4000000
namespace Pd
open PySem PySem.Spec PyProof.Rows L2
section
variable {X : Cx} {e : Expr} {t : DE} {pos pos2 p p2 : Pos}
def rSetM (K : PySem.W.Frag) (P : Program) (w : World) : List V → Hp → VK → Prop := fun xs H Q => ∃ (l : Addr) (ks : List (Addr × List Int)) (U : List (List Int)), xs = [.ref l] ∧ SqL K H l (ks.map fun q => V.ref q.1) ∧ (∀ q ∈ ks, SqT K H q.1 (q.2.map V.int)) ∧ FewOf U ks ∧
  ∀ a L, H a = none → (∀ q ∈ L, q ∈ ks) → (∀ q ∈ ks, q.2 ∈ L.map (·.2)) → Q (.ref a) (upd H a (SetTO P w a L))
theorem call_setM (hc : X.calm = true) (hu : X.A.units + 64 < cLine) : CallR X (.type "set") (rSetM X.K X.prog X.w) := by
  intro pins s σ H xs us Q I r h
  obtain ⟨l, ks, U, rfl, hl, hk, hf, q⟩ := h
  obtain ⟨u, rfl, rx⟩ := vals1 r
  cases rx
  obtain ⟨its, rv, pl, _⟩ := I.list hl
  refine set_of_list (P := X.prog) (w := X.w) (I.ok.hd hc) pl.isList (by rw [List.toList_toArray]; exact refs_of_vals rv) (fun x hx => I.isT (hk x hx)) hf (by omega) fun h' tk H' => ?_
  obtain ⟨k, L, es, ep, t, R, g⟩ := H'
  refine ⟨.ref s.heap.objs.size, _, I.laid (t' := tk) k (Nat.le_refl _) (setTO_new R.t0), rfl, q _ L (I.hok.fresh (Nat.le_refl _)) (fun x hx => List.mem_of_mem_take (g.sub x hx)) fun x hx => g.all x (by rw [List.take_length]; exact hx)⟩
/-- tuples of ints, with their addresses -/
theorem RpA.tups {K : PySem.W.Frag} {as : List Addr} {L : Hp} : ∀ {vs : List V} {rows : List (List Int)}, RpA K as L vs (rows.map tI) → ∃ ks : List (Addr × List Int), vs = ks.map (fun q => V.ref q.1) ∧ ks.map (·.2) = rows ∧ ∀ q ∈ ks, SqT K L q.1 (q.2.map V.int)
  | _, [], .nil => ⟨[], rfl, rfl, fun _ h => nomatch h⟩
  | _, row :: rows, .cons (.tup (a := a) hs r) ra => by
    obtain ⟨ks, rfl, h2, h3⟩ := RpA.tups ra
    have e := RpA.ints r
    subst e
    exact ⟨(a, row) :: ks, rfl, by rw [List.map_cons, h2], fun q hq => by
      rcases List.mem_cons.mp hq with rfl | hq
      · exact hs
      · exact h3 q hq⟩
theorem rp_tups {K : PySem.W.Frag} {as : List Addr} {L : Hp} : ∀ {ks : List (Addr × List Int)}, (∀ q ∈ ks, SqT K L q.1 (q.2.map V.int)) → RpA K as L (ks.map fun q => V.ref q.1) ((ks.map (·.2)).map tI)
  | [], _ => .nil
  | q :: ks, h => .cons (.tup (h q List.mem_cons_self) (rp_ints _)) (rp_tups fun x hx => h x (List.mem_cons_of_mem _ hx))
/-- sorted(set(e)), e a list of tuples of n ints from 0 to B - 1 -/
@[simp] def dSortSetT (t : DE) : DE := fun ρ M P => t ρ M fun d M1 => ∃ (rows U : List (List Int)) (n : Nat) (B : Int), d = .lst (rows.map tI) ∧ 1 ≤ n ∧ (∀ r ∈ rows, r.length = n ∧ TS.Bd B r ∧ r ∈ U) ∧ U.length + 1 < 64 ∧ ∀ ms : List (List Int), ms.Pairwise (· < ·) → (∀ k, k ∈ ms ↔ k ∈ rows) → P (.lst (ms.map tI)) M1
end
end Pd
set_option Elab.async false
set_option linter.all false
set_option maxRecDepth 100000
set_option maxHeartbeats 4000000
namespace Pd
open PySem PySem.Spec PyProof.Rows L2
section
variable {X : Cx} {e o : Expr} {t td te : DE}
@[simp] def dLIdxB (td te : DE) : DE := fun ρ M P => td ρ M fun d M1 => ∃ bs : List Bool, d = .lst (bs.map D.bl) ∧ te ρ M1 fun y M2 => y = .bl true ∧ true ∈ bs ∧ P (.int (bs.idxOf true)) M2
end
theorem eqA_rows : ∀ xs ys : List (List Int), PyData.eqvAll (toPA (xs.map tI)) (toPA (ys.map tI)) = decide (xs = ys)
  | [], [] => rfl
  | [], _ :: _ => rfl
  | _ :: _, [] => rfl
  | x :: xs, y :: ys => by
    have ih := eqA_rows xs ys
    have h1 : PyData.eqvAll (toPA ((x :: xs).map tI)) (toPA ((y :: ys).map tI)) = (eqD (tI x) (tI y) && PyData.eqvAll (toPA (xs.map tI)) (toPA (ys.map tI))) := rfl
    rw [h1, ih, show eqD (tI x) (tI y) = decide (x = y) from eqD_tup x y, Bool.eq_iff_iff]
    simp
theorem eqD_rows (xs ys : List (List Int)) : eqD (.lst (xs.map tI)) (.lst (ys.map tI)) = decide (xs = ys) := eqA_rows xs ys
end Pd
set_option Elab.async false
set_option linter.all false
set_option maxRecDepth 100000
set_option maxHeartbeats 3200000
namespace Pd
open PySem PySem.Spec PyProof.Rows L2
/-- x is an instance, known or being made -/
def InsOf (M : Ms) (x : D) (C : Addr) (fs : List (Str × D)) : Prop := x = .ins C fs ∨ ∃ j, x = .mu j ∧ M[j]? = some (.ins C fs)
@[simp] def dFldA (K : PySem.W.Frag) (t : DE) (f : Str) : DE := fun ρ M P => t ρ M fun x M1 => ∃ C fs v, InsOf M1 x C fs ∧ Cls K C ∧ NoAttr K C f ∧ fs.lookup f = some v ∧ P v M1
section
variable {X : Cx} {k n : Nat} {C g : Addr} {fd : FuncData} {ps : List Str} {e o : Expr} {es : List Expr} {t : DE} {tl : DA} {pos apos p pos2 : Pos} {m : Str} {pl : Sem Bool}
/-- o.m(), its one default None -/
@[simp] def dMethA0 (C : Addr) (m : Str) (W : DC) (t : DE) : DE := fun ρ M P => t ρ M fun x M1 => ∃ fs, InsOf M1 x C fs ∧ fs.lookup m = none ∧ W [x, .non] M1 P
/-- o.m(e, ..) -/
@[simp] def dMethA (C : Addr) (m : Str) (n : Nat) (W : DC) (t : DE) (tl : DA) : DE := fun ρ M P => t ρ M fun x M1 => ∃ fs, InsOf M1 x C fs ∧ fs.lookup m = none ∧ tl ρ M1 fun ds M2 => ds.length + 1 = n ∧ W (x :: ds) M2 P
end
def kI (ns : List Int) : List Key := ns.map Sum.inl
theorem kI_V (ns : List Int) : (kI ns).map kV = ns.map V.int := by
  unfold kI
  rw [List.map_map]
  rfl
/-- what the dict holds at a tuple of ints -/
def ditGet (ks : List (List Key)) (ds : List D) (ns : List Int) : Option D := ((ks.zip ds).find? fun kv => decide (kv.1 = kI ns)).map (·.2)
theorem rp_getT {K : PySem.W.Frag} {as : List Addr} {L : Hp} {ns : List Int} {d : D} : ∀ {ks : List (List Key)} {vs : List V} {ds : List D}, RpA K as L vs ds → ditGet ks ds ns = some d → ∃ v, valV (ks.zip vs) (kI ns) = some v ∧ Rp K as L v d
  | [], _, _, _, h => nomatch h
  | _ :: _, _, _, .nil, h => nomatch h
  | k :: ks, _, _, .cons (v := v) (d := d0) r t, h => by
    unfold ditGet at h
    unfold valV
    rw [List.zip_cons_cons] at h ⊢
    by_cases e : k = kI ns
    · rw [List.find?_cons_of_pos (by simpa using e)] at h ⊢
      cases h
      exact ⟨v, rfl, r⟩
    · rw [List.find?_cons_of_neg (by simpa using e)] at h ⊢
      exact rp_getT (ks := ks) t h
@[simp] def dGetT (td ty : DE) : DE := fun ρ M P => td ρ M fun x M1 => ∃ ks ds, x = .dit ks ds ∧ ty ρ M1 fun y M2 => ∃ ns d, fgD y = .tup (dI ns) ∧ ditGet ks ds ns = some d ∧ P d M2
end Pd
set_option Elab.async false
set_option linter.all false
set_option maxRecDepth 100000
set_option maxHeartbeats 3200000
namespace Pd
open PySem PySem.Spec PyProof.Rows L2
end Pd
set_option Elab.async false
set_option linter.all false
set_option maxRecDepth 100000
set_option maxHeartbeats 3200000
namespace Pd
open PySem PySem.Spec PyProof.Rows L2
def dcRunT (g : DG) (tl : DA) (tv : DE) (ρ : Rho) (P : D → Ms → Prop) : List D → List (List Key) → List D → Ms → Prop
  | [], ks, acc, M => P (.dit ks acc) M
  | d :: r, ks, acc, M => g d ρ fun ρ' => tl ρ' M fun kds M1 => ∃ ns : List Int, kds = dI ns ∧ ns.length ≤ sizeLine ∧ kI ns ∉ ks ∧ acc.length < sizeLine ∧ tv ρ' M1 fun y M2 => dcRunT g tl tv ρ P r (ks ++ [kI ns]) (acc ++ [y]) M2
@[simp] def dDcT (it : DA) (g : DG) (tl : DA) (tv : DE) (vs : List Nat) : DE := fun ρ M P => it ρ M fun ds M1 => dcRunT g tl tv (wipeR ρ vs) P ds [] [] M1
def upA (K : PySem.W.Frag) (t : DA) : TA := fun σ H Q => ∃ as ρ L M P, En K as L σ ρ ∧ At K as M L H ∧ t ρ M P ∧ ∀ vs ds L' H' M', Step as L H as L' H' → At K as M' L' H' → P ds M' → RpA K as L' vs ds → Q vs H'
theorem PDA.up {X : Cx} {es : List Expr} {t : DA} (h : PDA X es t) : PA X es (upA X.K t) := by
  obtain ⟨u, p, s⟩ := h.ex
  refine ⟨fun pos pins s1 σ H Q I hq => ?_⟩
  obtain ⟨as, ρ, L, M, P, hE, A, h1, q⟩ := hq
  exact p.run pos pins s1 σ H _ I (s as σ ρ L H M P _ hE A h1 q)
end Pd
set_option Elab.async false
set_option linter.all false
set_option maxRecDepth 100000
set_option maxHeartbeats 3200000
namespace Pd
open PySem PySem.Spec PyProof.Rows L2
def rOr (r1 r2 : R2) : R2 := fun x y H Q => r1 x y H Q ∨ r2 x y H Q
@[simp] def oOr (o1 o2 : D2) : D2 := fun x y M P => o1 x y M P ∨ o2 x y M P
theorem op_or2 {X : Cx} {f : Value → Value → Sem Value} {r1 r2 : R2} (h1 : OpR X f r1) (h2 : OpR X f r2) : OpR X f (rOr r1 r2) := fun pins s σ H x y v u Q I rx ry h =>
  h.elim (h1 pins s σ H x y v u Q I rx ry) (h2 pins s σ H x y v u Q I rx ry)
theorem sr_or2 {K : PySem.W.Frag} {r1 r2 : R2} {o1 o2 : D2} (h1 : SimR K r1 o1) (h2 : SimR K r2 o2) : SimR K (rOr r1 r2) (oOr o1 o2) := fun as L H M x y d e P Q A a b h q =>
  h.elim (fun h => .inl (h1 as L H M x y d e P Q A a b h q)) fun h => .inr (h2 as L H M x y d e P Q A a b h q)
@[simp] def dTupR (t : DE) : DE := fun ρ M P => t ρ M fun x M1 => ∃ n : Nat, x = .int n ∧ n ≤ 1000 ∧ P (.tup (dI ((List.range n).map fun (i : Nat) => (i : Int)))) M1
/-- max of a list or a tuple of ints, not empty -/
@[simp] def oMaxS : DC := fun xs M P => ∃ (d : D) (ns : List Int), xs = [d] ∧ isSeq d (dI ns) ∧ ns ≠ [] ∧ ∀ m, m ∈ ns → (∀ y ∈ ns, y ≤ m) → P (.int m) M
end Pd
namespace Spc
abbrev Rw := List Int
def mn (p : Int) (row other : Rw) (t : Int) : Rw := List.zipWith (fun a b => (a - t * b) % p) row other
def at_ (l : Rw) (i : Nat) : Int := l.getD i 0
def ld (l : Rw) : Nat := l.idxOf 1
def rmd (p : Int) : List Rw → Rw → Rw
  | [], row => row
  | l :: R, row => rmd p R (mn p row l (at_ row (ld l)))
def nz (row : Rw) : Bool := row.any fun n => n != 0
def fst1 (row : Rw) : Int := (row.filter fun n => n != 0).headD 0
def rngL (p : Int) : List Int := (List.range p.toNat).map fun (k : Nat) => (k : Int)
def inv1 (p : Int) (f : Int) : Int := ((rngL p).filter fun k => k * f % p == 1).headD 0
def led (p : Int) (row : Rw) : Rw := row.map fun a => a * inv1 p (fst1 row) % p
/-- a > b, as Python compares tuples -/
def gtR : Rw → Rw → Bool
  | [], _ => false
  | _ :: _, [] => true
  | a :: x, b :: y => if a = b then gtR x y else decide (b < a)
def insD (x : Rw) : List Rw → List Rw
  | [] => [x]
  | y :: l => if gtR y x then y :: insD x l else x :: y :: l
def srtD : List Rw → List Rw
  | [] => []
  | x :: l => insD x (srtD l)
def step (p : Int) (R : List Rw) (y : Rw) : List Rw :=
  if nz (rmd p R y) then srtD (led p (rmd p R y) :: R.map fun o => rmd p [led p (rmd p R y)] o) else R
def red (p : Int) (rows : List Rw) : List Rw := rows.foldl (step p) []
def forced (R : List Rw) (p : Int) (free : Nat) (i : Nat) : Int := match R.find? fun r => ld r == i with | some r => -(at_ r free) % p | none => 0
def zrow (p : Int) (n : Nat) (R : List Rw) (free : Nat) : Rw := (List.range n).map fun i => if i = free then 1 else forced R p free i
def zrows (p : Int) (n : Nat) (R : List Rw) : List Rw := red p (((List.range n).filter fun i => !((R.map ld).contains i)).map (zrow p n R))
def zero (n : Nat) : Rw := List.replicate n 0
def given (p : Int) (n : Nat) (R : List Rw) : List Rw := R.foldl (fun rows l => rows.flatMap fun row => (rngL p).map fun t => mn p row l (-t)) [zero n]
/-- what is asked of the spaces of one form -/
def zs (p : Int) (n : Nat) (R : List Rw) : List Rw := given p n (zrows p n R)
end Spc
namespace Spc
set_option maxRecDepth 100000
end Spc
namespace Spc
set_option maxRecDepth 100000
end Spc
set_option Elab.async false
set_option linter.all false
set_option maxRecDepth 100000
set_option maxHeartbeats 3200000
namespace Pd
open PySem PySem.Spec PyProof.Rows L2
theorem okM_apI {M : Ms} {C : Addr} (h : okM M) : okM (M ++ [.ins C []]) := by
  unfold okM
  rw [List.length_append, List.length_singleton]
  refine List.all_eq_true.mpr fun mo hmo => ?_
  rcases List.mem_append.mp hmo with h2 | h2
  · have := List.all_eq_true.mp h mo h2
    cases mo with
    | lst ds => exact apartA_up (Nat.le_succ _) ds this
    | ins C fs => exact apartF_up (Nat.le_succ _) fs this
    | tab P q => rfl
    | dic ks ds => exact apartA_up (Nat.le_succ _) ds this
    | dit ks ds => exact apartA_up (Nat.le_succ _) ds this
  · rw [List.mem_singleton.mp h2]; rfl
end Pd
set_option Elab.async false
set_option linter.all false
set_option maxRecDepth 100000
set_option maxHeartbeats 2000000
namespace Pd
open PySem PySem.Spec PyProof.Rows L2
theorem isT {h : Heap} {a : Addr} {items : Array Value} (x : IsTup h a items) : h.IsTuple a items := x
end Pd
set_option Elab.async false
set_option linter.all false
set_option maxRecDepth 100000
set_option maxHeartbeats 2000000
namespace Pd
open PySem PySem.Spec PyProof.Rows L2
end Pd
set_option Elab.async false
set_option linter.all false
set_option maxRecDepth 100000
set_option maxHeartbeats 2000000
namespace Pd
open PySem PySem.Spec PyProof.Rows L2
end Pd
set_option Elab.async false
set_option linter.all false
set_option maxRecDepth 100000
set_option maxHeartbeats 3000000
namespace Pd
open PySem PySem.Spec PyProof.Rows L2
end Pd
set_option Elab.async false
set_option linter.all false
set_option maxRecDepth 100000
set_option maxHeartbeats 3000000
namespace Pd
open PySem PySem.Spec PyProof.Rows L2
theorem At.free {K : PySem.W.Frag} {as : List Addr} {M : Ms} {L H : Hp} {p : Addr} (A : At K as M L H) (hp : H p = none) : L p = none ∧ p ∉ as := by
  refine ⟨?_, fun z => (A.held z).2 hp⟩
  cases e : L p with
  | none => rfl
  | some o => rw [A.low p o e] at hp; cases hp
@[simp] def oListOwn (C : Addr) (f : Str) (WL : DC) : DC := fun xs M P => ∃ gs ds, xs = [.ins C gs] ∧ gs.lookup f = some (.tup ds) ∧ WL xs M fun z M' => ∃ i : Int, z = .int i ∧ (0 ≤ i ∧ i < 16777216) ∧ P (.lst ds) M'
end Pd
set_option Elab.async false
set_option linter.all false
set_option maxRecDepth 100000
namespace Pd
open PySem PySem.Spec PyProof.Rows L2
end Pd
set_option Elab.async false
set_option linter.all false
set_option maxRecDepth 100000
set_option maxHeartbeats 1000000
namespace Pd
open PySem PySem.Spec PyProof.Rows L2
end Pd
set_option Elab.async false
set_option linter.all false
set_option maxRecDepth 100000
set_option maxHeartbeats 1000000
namespace Pd
open PySem PySem.Spec PyProof.Rows L2
end Pd
set_option Elab.async false
set_option linter.all false
set_option maxRecDepth 100000
set_option maxHeartbeats 1000000
namespace Pd
open PySem PySem.Spec PyProof.Rows L2
def TupsIn (H : Hp) (ts xs : List V) : Prop := ∀ (j : Nat) (t : V), ts[j]? = some t → ∃ T x, t = .ref T ∧ H T = some (.tup [x]) ∧ xs[j]? = some x
theorem TupsIn.up {H H' : Hp} {ts xs : List V} (h : TupsIn H ts xs) (k : ∀ c xs, H c = some (.tup xs) → H' c = some (.tup xs)) : TupsIn H' ts xs := fun j t e =>
  let ⟨T, x, h1, h2, h3⟩ := h j t e
  ⟨T, x, h1, k _ _ h2, h3⟩
end Pd
set_option Elab.async false
set_option linter.all false
set_option maxRecDepth 100000
set_option maxHeartbeats 1000000
namespace Pd
open PySem PySem.Spec PyProof.Rows L2
section
variable {X : Cx} {e : Expr} {pos p pos2 p2 p3 : Pos}
@[simp] def dZipS (t : DE) : DE := fun ρ M P => t ρ M fun d M1 => ∃ cols : List D, d = .lst cols ∧ ((∃ xs, cols = [.lst xs] ∧ P (.lst (xs.map fun x => .tup [x])) M1) ∨ ∃ xs ys, cols = [.lst xs, .lst ys] ∧ P (.lst (pairs xs ys)) M1)
end
end Pd
set_option Elab.async false
set_option linter.all false
set_option maxRecDepth 100000
set_option maxHeartbeats 1000000
namespace Pd
open PySem PySem.Spec PyProof.Rows L2
end Pd
set_option Elab.async false
set_option linter.all false
set_option maxRecDepth 100000
set_option maxHeartbeats 3200000
namespace Pd
open PySem PySem.Spec PyProof.Rows L2
def dcRunI (g : DG) (tk tv : DE) (ρ : Rho) (ks : List (List Key)) (P : D → Ms → Prop) : List D → List D → Ms → Prop
  | [], acc, M => P (.dit ks acc) M
  | d :: r, acc, M => ∀ q : Addr, g (.tup [.ob q, d]) ρ fun ρ' => tk ρ' M fun kd M1 => kd = .ob q ∧ tv ρ' M1 fun y M2 => dcRunI g tk tv ρ ks P r (acc ++ [y]) M2
@[simp] def dDcI (td : DE) (g : DG) (tk tv : DE) (vs : List Nat) : DE := fun ρ M P => td ρ M fun d M1 => ∃ (nss : List (List Int)) (ds : List D), d = .dit (nss.map kI) ds ∧ nss.length = ds.length ∧ (nss.map kI).Nodup ∧ ds.length ≤ sizeLine ∧ dcRunI g tk tv (wipeR ρ vs) (nss.map kI) P ds [] M1
end Pd
set_option Elab.async false
set_option linter.all false
set_option maxRecDepth 100000
set_option maxHeartbeats 1000000
namespace Pd
open PySem PySem.Spec PyProof.Rows L2
end Pd
set_option Elab.async false
set_option linter.all false
set_option maxRecDepth 100000
set_option maxHeartbeats 1000000
namespace Pd
open PySem PySem.Spec PyProof.Rows L2
def NumsIn (H : Hp) (ts xs : List V) : Prop := ∀ (j : Nat) (t : V), ts[j]? = some t → ∃ T x, t = .ref T ∧ H T = some (.tup [.int (j : Nat), x]) ∧ xs[j]? = some x
theorem NumsIn.up {H H' : Hp} {ts xs : List V} (h : NumsIn H ts xs) (k : ∀ c xs, H c = some (.tup xs) → H' c = some (.tup xs)) : NumsIn H' ts xs := fun j t e =>
  let ⟨T, x, h1, h2, h3⟩ := h j t e
  ⟨T, x, h1, k _ _ h2, h3⟩
end Pd
set_option Elab.async false
set_option linter.all false
set_option maxRecDepth 100000
set_option maxHeartbeats 1000000
namespace Pd
open PySem PySem.Spec PyProof.Rows L2
section
variable {X : Cx} {e : Expr} {pos p pos2 p2 : Pos} {tl : DA}
@[simp] def dEnL (tl : DA) : DE := fun ρ M P => tl ρ M fun ds M1 => ∃ d xs, ds = [d] ∧ isSeq d xs ∧ P (.lst (numd 0 xs)) M1
end
end Pd
set_option Elab.async false
set_option linter.all false
set_option maxRecDepth 100000
set_option maxHeartbeats 1000000
namespace Pd
open PySem PySem.Spec PyProof.Rows L2
section
variable {X : Cx} {e o a : Expr} {es : List Expr} {t td te : DE} {tl : DA} {p pos p2 pos2 : Pos}
@[simp] def dLIdxI (td te : DE) : DE := fun ρ M P => td ρ M fun d M1 => ∃ ns : List Int, d = .lst (dI ns) ∧ te ρ M1 fun y M2 => ∃ k : Int, y = .int k ∧ k ∈ ns ∧ P (.int (ns.idxOf k)) M2
@[simp] def oMinL : DC := fun xs M P => ∃ ns : List Int, xs = [.lst (dI ns)] ∧ 0 < ns.length ∧ ∀ m, m ∈ ns → (∀ y, y ∈ ns → m ≤ y) → P (.int m) M
@[simp] def dLstR (t : DE) : DE := fun ρ M P => t ρ M fun x M1 => ∃ n : Nat, x = .int n ∧ n ≤ 1000 ∧ P (.lst (dI ((List.range n).map fun (i : Nat) => (i : Int)))) M1
/-- f(e, ..), the last parameter's default is () -/
@[simp] def dCallT (n : Nat) (W : DC) (tl : DA) : DE := fun ρ M P => tl ρ M fun ds M1 => ds.length + 1 = n ∧ W (ds ++ [.tup []]) M1 P
end
end Pd
set_option Elab.async false
set_option linter.all false
set_option maxRecDepth 100000
set_option maxHeartbeats 1000000
namespace Pd
open PySem PySem.W PySem.Calls PySem.Spec PyProof.Rows SeqAt
section
variable {prog : Program} {w : World} {A : Around} {E : Value → Shared → Prop} {s : Shared}
theorem call_tupleLt {Q : Value → Shared → Prop} {l b : Addr} {items items2 : Array Value} {e r : Nat → Bool} (hl : s.heap.IsTuple l items) (hb : s.heap.IsTuple b items2)
    (he : ∀ j (h1 : j < items.size) (h2 : j < items2.size), EqAt A.in1 s items[j] items2[j] (e j)) (hr : ∀ j (h1 : j < items.size) (h2 : j < items2.size), e j = false → RcLt A.in1 s items[j] items2[j] (r j))
    (h : Q (.bool (firstLt e r (decide (items.size < items2.size)) (List.range (min items.size items2.size)))) s) : wpAny (model prog w) A (call (.builtin "tuple.__lt__") [.ref l, .ref b]) Q E s := by
  obtain ⟨⟨cls, dd, data, sl⟩, ho, hc, n, hd⟩ := id hl
  obtain ⟨⟨cls2, dd2, data2, sl2⟩, ho2, hc2, n2, hd2⟩ := id hb
  simp only at hc hd hc2 hd2
  subst hc hd hc2 hd2
  exact call_meets F.slot_tuple_lt ⟨_, ho, rfl⟩ F.entry_tuple_lt (F.args_tuple_lt_2 _ _) (tuple_ltAt l b items items2 n n2 dd dd2 sl sl2 e r) ⟨ho, ho2, he, hr, h⟩
theorem oneLt_tup {xs ys : List PyData} {a b : Value} {as bs : List Addr} {Q : Bool → Shared → Prop} (ra : Reads s.heap a (.tuple xs) as) (rb : Reads s.heap b (.tuple ys) bs) (h : alike (.tuple xs) (.tuple ys) = true)
    (hu : A.units + min (PyData.tuple xs).depth (PyData.tuple ys).depth < cLine) (hq : Q (dataLt (.tuple xs) (.tuple ys)) s) : wpAny (model prog w) A (oneLt' true a b) Q E s := by
  have hal : alikeAll xs ys = true := by simpa [alike] using h
  cases ra with
  | @tuple l o vs n _ as₁ h1 h2 h3 h4 =>
    cases rb with
    | @tuple l' o' vs' n' _ bs₁ k1 k2 k3 k4 =>
      have n1 : vs.size = xs.length := by simpa using ReadsAll.length _ _ _ h4
      have n2 : vs'.size = ys.length := by simpa using ReadsAll.length _ _ _ k4
      rw [dataLt_tuple, ← firstLt_toks xs ys hal, ← n1, ← n2] at hq
      rw [oneLt'_eq]
      simp only [if_true]
      refine wpAny_bind (wpAny_cRoomFor (room_here hu) ?_)
      refine wpAny_bind (wpAny_callSpecialIfBound?_slot (T := "tuple") ⟨_, h1, h2⟩ F.slot_tuple_lt (call_tupleLt (e := pairEq xs ys) (r := fun j => dataLt (xs.getD j .none) (ys.getD j .none)) ⟨_, h1, h2, _, h3⟩ ⟨_, k1, k2, _, k3⟩ (fun j j1 j2 => ?_) (fun j j1 j2 hj => ?_) ?_))
      · have := eqAt_alikeAll xs ys A.in1 s vs.toList vs'.toList _ _ h4 k4 hal (room_in hu) j (by simpa using j1) (by simpa using j2)
        simpa using this
      · have := rcLt_alikeAll xs ys A.in1 s vs.toList vs'.toList _ _ h4 k4 hal (room_in hu) j (by simpa using j1) (by simpa using j2) hj
        simpa using this
      · exact wpAny_truthy_bool hq
end
end Pd
set_option Elab.async false
set_option linter.all false
set_option maxRecDepth 100000
set_option maxHeartbeats 1000000
namespace Pd
open PySem PySem.W PySem.Calls PySem.Spec PyProof.Rows SeqAt
section
variable {prog : Program} {w : World} {A : Around} {E : Value → Shared → Prop} {s : Shared}
theorem tupE_firsts : ∀ (vs : List Value) (ds : List (List PyData)) {Q : List (Option Value) → Shared → Prop}, EachIs (fun v d => ∃ as, Reads s.heap v (.tuple d) as) vs ds →
    (∀ fs : List (Option Value), fs.length = vs.length → (ds[0]? = some [] → fs[0]? = some none) → Q fs s) → wpAny (model prog w) A (vs.mapM firstOfTuple') Q E s
  | [], [], _, _, h => by rw [List.mapM_nil]; exact wpAny_pure (h [] rfl fun z => nomatch z)
  | [], _ :: _, _, t, _ => nomatch t
  | _ :: _, [], _, t, _ => nomatch t
  | v :: vs, d :: ds, Q, t, h => by
    cases t with
    | cons hd t =>
      obtain ⟨as, r⟩ := hd
      cases r with
      | @tuple l o xs n _ _ h1 h2 h3 h4 =>
        rw [List.mapM_cons]
        refine wpAny_bind ?_
        rw [kas_first_eq]
        refine wpAny_bind (Looks.here (show Looks (model prog w) s.heap (typeOf (.ref l)) o.cls from (Looks.ld h1).andThen .now) ?_)
        rw [h2, if_neg (by first | decide | simp)]
        refine wpAny_bind (listItems_at h1 h3 (wpAny_pure ?_))
        refine wpAny_bind (tupE_firsts vs ds t fun fs hl _ => wpAny_pure (h (xs[0]? :: fs) (by rw [List.length_cons, List.length_cons, hl]) fun z => ?_))
        have hd0 : d = [] := by simpa using z
        subst hd0
        have hn := ReadsAll.length _ _ _ h4
        have : xs = #[] := by
          have h5 : xs.toList = [] := by simpa using hn
          simpa using h5
        rw [this]; rfl
theorem tupE_kind {vs : List Value} {ds : List (List PyData)} {Q : SortKind → Shared → Prop} (e : EachIs (fun v d => ∃ as, Reads s.heap v (.tuple d) as) vs ds) (h2 : 2 ≤ vs.length) (h0 : ds[0]? = some []) (h : Q oneType' s) : wpAny (model prog w) A (keyKind' vs.toArray) Q E s := by
  rw [keyKind'_eq, List.mapM_toArray, map_eq_pure_bind]
  refine wpAny_bind (wpAny_bind (tupE_firsts vs ds e fun fs hl hf => wpAny_pure ?_))
  have hf0 := hf h0
  have n1 : ¬ ((fs.toArray.all fun x => x.isSome) = true) := by
    cases fs with
    | nil => cases hf0
    | cons a fs => cases hf0; simp
  rw [if_neg n1]
  have n2 : ¬ (((fs.toArray[0]?).bind id).isSome = true) := by
    rw [List.getElem?_toArray, hf0]; decide
  rw [if_neg n2]
  obtain ⟨v₁, v₂, rest, rfl⟩ : ∃ v₁ v₂ rest, vs = v₁ :: v₂ :: rest := by
    match vs, h2 with
    | [], h2 => simp at h2
    | [_], h2 => simp at h2
    | v₁ :: v₂ :: rest, _ => exact ⟨v₁, v₂, rest, rfl⟩
  have hT : ∀ v ∈ v₁ :: v₂ :: rest, Looks (model prog w) s.heap (typeOf v) (.type "tuple") := fun v hv => by
    obtain ⟨d, _, as, r⟩ := e.left v hv
    exact looks_reads r
  rw [oneTypeOnly'_eq, List.mapM_toArray, map_eq_pure_bind]
  refine wpAny_bind (wpAny_bind (wpAny_bind (kas_mapM (r := Value.type "tuple") _ (fun v hv Q' hq => (hT v hv).here hq) (wpAny_pure ?_))))
  have hall : ((List.map (fun _ => Value.type "tuple") (v₁ :: v₂ :: rest)).toArray.all fun x => x == Value.type "tuple") = true := by
    simp only [List.all_toArray, List.all_map, List.all_eq_true]
    intro _ _
    exact beq_self_eq_true _
  have hq0 : (List.map (fun _ => Value.type "tuple") (v₁ :: v₂ :: rest)).toArray[0]? = some (Value.type "tuple") := by simp
  rw [hq0]
  simp only [hall, if_true]
  exact wpAny_pure (wpAny_pure h)
/-- tuples of data, the first of them empty, can be sorted -/
theorem SortsAt.dataE {vs : List Value} {ds : List (List PyData)} (e : EachIs (fun v d => ∃ as, Reads s.heap v (.tuple d) as) vs ds) (hal : AllAlike (ds.map PyData.tuple)) (h0 : ds[0]? = some []) (hu : ∀ d, d ∈ ds → A.units + (PyData.tuple d).depth < cLine) :
    SortsAt prog w A s (dataKind s.heap (ds.map PyData.tuple)) vs := by
  refine ⟨fun v hv => ?_, oneType', ?_, fun h2 E Q hq => tupE_kind e h2 h0 hq⟩
  · obtain ⟨d, hd, as, r⟩ := e.left v hv
    exact ⟨_, dataKind_some hal (List.mem_map_of_mem hd) r⟩
  · intro E x y a b Q ha hb hq
    obtain ⟨d, as, hd, ra, rfl⟩ := dataKind_inv ha
    obtain ⟨d', as', hd', rb, rfl⟩ := dataKind_inv hb
    obtain ⟨xs, hxs, rfl⟩ := List.mem_map.mp hd
    obtain ⟨ys, hys, rfl⟩ := List.mem_map.mp hd'
    rw [keyLt'_oneType]
    exact oneLt_tup ra rb (hal _ hd _ hd') (Nat.lt_of_le_of_lt (Nat.add_le_add_left (Nat.min_le_left _ _) _) (hu _ hxs)) hq
end
end Pd
set_option Elab.async false
set_option linter.all false
set_option maxRecDepth 100000
set_option maxHeartbeats 1000000
namespace Pd
open PySem PySem.Spec PyProof.Rows L2
def tupP (ns : List Int) : PyData := .tuple (ns.map PyData.int)
theorem reads_ints {h : Heap} : ∀ {us : List Value} {ns : List Int}, Vals (ns.map V.int) us → ReadsAll h us (ns.map PyData.int) []
  | [], [], _ => .nil
  | [], _ :: _, h => nomatch h
  | _ :: _, [], h => nomatch h
  | u :: us, n :: ns, h => by
    cases h with
    | cons h1 t =>
      obtain ⟨t1, rfl⟩ := (show ∃ t, u = Value.int n t from h1)
      exact .cons (as := []) (bs := []) (.int n t1) (reads_ints t)
theorem alike_ints : ∀ xs ys : List Int, PySem.W.alikeAll (xs.map PyData.int) (ys.map PyData.int) = true
  | [], [] => by simp [PySem.W.alikeAll]
  | [], _ :: _ => by simp [PySem.W.alikeAll]
  | _ :: _, [] => by simp [PySem.W.alikeAll]
  | x :: xs, y :: ys => by
    have := alike_ints xs ys
    simp [PySem.W.alikeAll, PySem.W.alike, this]
section
variable {X : Cx}
def rSortE (K : PySem.W.Frag) : List V → Hp → VK → Prop := fun vs H Q => ∃ (a : Addr) (ks : List (Addr × List Int)), vs = [V.ref a] ∧ SqL K H a (ks.map fun q => V.ref q.1) ∧ (∀ q ∈ ks, SqT K H q.1 (q.2.map V.int)) ∧ (ks[0]?).map (·.2) = some [] ∧
  ∀ p, H p = none → Q (.ref p) (upd H p (.lst ((ks.mergeSort (PySem.W.dataLe false fun q => tupP q.2)).map fun q => V.ref q.1)))
theorem cr_sortedE (hc : X.calm = true) (hu : X.A.units + 64 < cLine) : CallR X (.builtin "sorted") (rSortE X.K) := by
  intro pins s σ H vs us Q I r h
  obtain ⟨a, ks, rfl, ha, hk, h0, q⟩ := h
  obtain ⟨its, rv, hl, hz⟩ := I.list ha
  rw [Vals.ref1 r]
  have er : its = ks.map fun q => Value.ref q.1 := refs_of_vals rv
  subst er
  have hrd : ∀ q ∈ ks, ∀ h' : Heap, (∀ b o, s.heap.get? b = some o → h'.get? b = some o) → ∃ as, Reads h' (.ref q.1) (tupP q.2) as := fun q hq h' up => by
    obtain ⟨its, rv, ⟨o, ho, hcl, n, hd⟩, _⟩ := I.tuple (hk q hq)
    exact ⟨[], .tuple (up _ _ ho) hcl hd (by simpa using reads_ints rv)⟩
  have hall : PySem.W.AllAlike ((ks.map fun q => q.2.map PyData.int).map PyData.tuple) := fun d hd d' hd' => by
    obtain ⟨_, hx, rfl⟩ := List.mem_map.mp hd
    obtain ⟨q1, _, rfl⟩ := List.mem_map.mp hx
    obtain ⟨_, hy, rfl⟩ := List.mem_map.mp hd'
    obtain ⟨q2, _, rfl⟩ := List.mem_map.mp hy
    simpa [PySem.W.alike] using alike_ints q1.2 q2.2
  have hE : ∀ h' : Heap, (∀ b o, s.heap.get? b = some o → h'.get? b = some o) → PySem.W.EachIs (fun v d => ∃ as, Reads h' v (.tuple d) as) (ks.map fun q => Value.ref q.1) (ks.map fun q => q.2.map PyData.int) := fun h' up => by
    have : ∀ L : List (Addr × List Int), (∀ q ∈ L, q ∈ ks) → PySem.W.EachIs (fun v d => ∃ as, Reads h' v (.tuple d) as) (L.map fun q => Value.ref q.1) (L.map fun q => q.2.map PyData.int) := fun L => by
      induction L with
      | nil => intro _; exact .nil
      | cons q L ih => intro hL; exact .cons (hrd q (hL q List.mem_cons_self) h' up) (ih fun x hx => hL x (List.mem_cons_of_mem _ hx))
    exact this ks fun _ h => h
  have h0' : (ks.map fun q => q.2.map PyData.int)[0]? = some [] := by
    rw [List.getElem?_map]
    cases hk0 : ks[0]? with
    | none => rw [hk0] at h0; cases h0
    | some q0 =>
      rw [hk0] at h0
      have e : q0.2 = [] := by simpa using h0
      show some (q0.2.map PyData.int) = some []
      rw [e]; rfl
  have dpt : ∀ ns : List Int, PyData.depthAll (ns.map PyData.int) ≤ 1 := fun ns => by
    induction ns with
    | nil => exact Nat.zero_le _
    | cons n ns ih =>
      show max (PyData.depth (.int n)) (PyData.depthAll (ns.map PyData.int)) ≤ 1
      exact Nat.max_le.mpr ⟨Nat.zero_le _, ih⟩
  have hkm : (ks.map fun q => q.2.map PyData.int).map PyData.tuple = ks.map fun q => tupP q.2 := by rw [List.map_map]; rfl
  have hb : ∀ d ∈ (ks.map fun q => q.2.map PyData.int), X.A.in1.in1.units + (PyData.tuple d).depth < cLine := fun d hd => by
    obtain ⟨q1, _, rfl⟩ := List.mem_map.mp hd
    have h1 : (PyData.tuple (q1.2.map PyData.int)).depth ≤ 2 := Nat.succ_le_succ (dpt q1.2)
    show X.A.units + 2 + _ < cLine
    omega
  have S := SortsAt.dataE (prog := X.prog) (w := X.w) (A := X.A.in1.in1) (s := { s with heap := PySem.W.sortingHeap (PySem.W.copyHeap s.heap (ks.map fun q => Value.ref q.1)) (s.heap.objs.size + 1) (ks.map fun q => Value.ref q.1) }) (hE _ fun b o => PySem.W.sorting_copy_old) hall h0' hb
  have hz' : (ks.map fun q => Value.ref q.1).length ≤ sizeLine := by rw [List.length_map] at hz ⊢; exact hz
  refine PySem.W.sorted_vals hl.isList S hz' ?_
  have hEt : ∀ h' : Heap, (∀ b o, s.heap.get? b = some o → h'.get? b = some o) → PySem.W.EachIs (fun v k => ∃ as, Reads h' v k as) (ks.map fun q => Value.ref q.1) (ks.map fun q => tupP q.2) := fun h' up => by
    have : ∀ L : List (Addr × List Int), (∀ q ∈ L, q ∈ ks) → PySem.W.EachIs (fun v k => ∃ as, Reads h' v k as) (L.map fun q => Value.ref q.1) (L.map fun q => tupP q.2) := fun L => by
      induction L with
      | nil => intro _; exact .nil
      | cons q L ih => intro hL; exact .cons (hrd q (hL q List.mem_cons_self) h' up) (ih fun x hx => hL x (List.mem_cons_of_mem _ hx))
    exact this ks fun _ h => h
  have hR : PySem.W.EachIs (fun v q => v = Value.ref q.1) (ks.map fun q => Value.ref q.1) ks := by
    have : ∀ L : List (Addr × List Int), PySem.W.EachIs (fun v q => v = Value.ref q.1) (L.map fun q => Value.ref q.1) L := fun L => by
      induction L with
      | nil => exact .nil
      | cons q L ih => exact .cons rfl ih
    exact this ks
  have hO := PySem.W.keyedOut_each (rev := false) (R := fun v q => v = Value.ref q.1) (bs := ks) (fun q => tupP q.2) ⟨PySem.W.sortingHeap (PySem.W.copyHeap s.heap (ks.map fun q => Value.ref q.1)) (s.heap.objs.size + 1) (ks.map fun q => Value.ref q.1), (ks.map fun q => Value.ref q.1), by rw [← hkm]; exact hall, rfl, hEt _ fun b o => PySem.W.sorting_copy_old⟩ hR
  rw [← hkm] at hO
  generalize PySem.W.sortVals _ false _ _ = out at hO ⊢
  have ho : out = (ks.mergeSort (PySem.W.dataLe false fun q => tupP q.2)).map fun q => Value.ref q.1 := by
    have : ∀ (L : List Value) (M : List (Addr × List Int)), PySem.W.EachIs (fun v q => v = Value.ref q.1) L M → L = M.map fun q => Value.ref q.1 := fun L M h => by
      induction h with
      | nil => rfl
      | cons h _ ih => rw [List.map_cons, ← ih, h]
    exact this _ _ hO
  subst ho
  obtain ⟨e, he⟩ := sortedAll_at s.heap (ks.map fun q => Value.ref q.1) ((ks.mergeSort (PySem.W.dataLe false fun q => tupP q.2)).map fun q => Value.ref q.1).toArray
  have hn : H (s.heap.objs.size + 1) = none := I.hok.fresh (Nat.le_succ _)
  have hlen : ((ks.mergeSort (PySem.W.dataLe false fun q => tupP q.2)).map fun q => V.ref q.1).length ≤ sizeLine := by
    rw [List.length_map, List.length_mergeSort]
    rw [List.length_map] at hz'; exact hz'
  have hv : Vals ((ks.mergeSort (PySem.W.dataLe false fun q => tupP q.2)).map fun q => V.ref q.1) ((ks.mergeSort (PySem.W.dataLe false fun q => tupP q.2)).map fun q => Value.ref q.1) := vals_of_refs _
  have k : ∀ b o, s.heap.get? b = some o → (sortedAll s.heap (ks.map fun q => Value.ref q.1) ((ks.mergeSort (PySem.W.dataLe false fun q => tupP q.2)).map fun q => Value.ref q.1).toArray).get? b = some o := fun b o e => sortedAll_old e
  have J := I.laid (t' := s.toks) k (Nat.le_succ _) (o := .lst ((ks.mergeSort (PySem.W.dataLe false fun q => tupP q.2)).map fun q => V.ref q.1)) ⟨hlen, _, e, hv, he⟩
  exact ⟨.ref (s.heap.objs.size + 1), _, J, rfl, q _ hn⟩
end
end Pd
set_option Elab.async false
set_option linter.all false
set_option maxRecDepth 100000
set_option maxHeartbeats 1000000
namespace Pd
open PySem PySem.Spec PyProof.Rows L2
section
variable {X : Cx}
theorem run_sortedLen (hu : X.A.units + 64 < cLine) {pins : List (Addr × Obj)} {s : Shared} {σ : L2.St} {H : Hp} {a : Addr} {ks : List (Addr × List Int)} {Q : VK} (I : Inv X pins σ H s)
    (ha : SqL X.K H a (ks.map fun q => V.ref q.1)) (hk : ∀ q ∈ ks, SqT X.K H q.1 (q.2.map V.int))
    (q : ∀ p, H p = none → Q (.ref p) (upd H p (.lst ((ks.mergeSort (PySem.W.dataLe false fun q => .int q.2.length)).map fun q => V.ref q.1)))) :
    wpAny (model X.prog X.w) X.A (call (.builtin "sorted") [.ref a] [(Str.ofString "key", .builtin "len")]) (EP X pins σ Q) X.xe s := by
  obtain ⟨its, rv, hl, hz⟩ := I.list ha
  have er : its = ks.map fun q => Value.ref q.1 := refs_of_vals rv
  subst er
  have hR : PySem.W.EachIs (fun v q => v = Value.ref q.1) (ks.map fun q => Value.ref q.1) ks := by
    have : ∀ L : List (Addr × List Int), PySem.W.EachIs (fun v q => v = Value.ref q.1) (L.map fun q => Value.ref q.1) L := fun L => by
      induction L with
      | nil => exact .nil
      | cons q L ih => exact .cons rfl ih
    exact this ks
  have hz' : ks.length ≤ sizeLine := by rw [List.length_map] at hz; exact hz
  refine PySem.W.sorted_key_data (b := false) (R := fun v q => v = Value.ref q.1) (bs := ks) (fun q => .int q.2.length) hl.isList hR (PySem.W.AllAlike.of fun _ _ => by simp [PySem.W.alike]) (PySem.W.Sortable.others fun _ => ⟨(fun h => nomatch h), (fun _ h => nomatch h)⟩) hz' (fun x _ => ?_) (ksk_s1 _ _) (fun _ => ksk_l1 _ _) (fun _ => ksk_t4 _ _) (fun v x hv hx h tk up => ?_) fun out c h' tk up hf hD hlo eo => ?_
  · show X.A.units + 2 + 0 < cLine
    omega
  · subst hv
    obtain ⟨its, rv, ⟨o, ho, hcl, n, hd⟩, hzt⟩ := I.tuple (hk x hx)
    have hle : its.length = x.2.length := by have := Paired.length rv; simpa using this.symm
    refine len_tuple (items := its.toArray) ⟨o, up _ _ ho, hcl, n, hd⟩ ?_ ?_
    · rw [List.size_toArray, hle]
      rw [List.length_map] at hzt
      rw [sizeLine_eq] at hzt
      omega
    · rw [List.size_toArray, hle]
      exact ⟨h, tk + 1 + 1, rfl, fun _ _ e => e, .int _ _⟩
  · have ho : out = (ks.mergeSort (PySem.W.dataLe false fun q => .int q.2.length)).map fun q => Value.ref q.1 := by
      have : ∀ (L : List Value) (M : List (Addr × List Int)), PySem.W.EachIs (fun v q => v = Value.ref q.1) L M → L = M.map fun q => Value.ref q.1 := fun L M h => by
        induction h with
        | nil => rfl
        | cons h _ ih => rw [List.map_cons, ← ih, h]
      exact this _ _ eo
    subst ho
    have hn : H (s.heap.objs.size + 1) = none := I.hok.fresh (Nat.le_succ _)
    have hlen : ((ks.mergeSort (PySem.W.dataLe false fun q => .int q.2.length)).map fun q => V.ref q.1).length ≤ sizeLine := by
      rw [List.length_map, List.length_mergeSort]; exact hz'
    have hv : Vals ((ks.mergeSort (PySem.W.dataLe false fun q => .int q.2.length)).map fun q => V.ref q.1) ((ks.mergeSort (PySem.W.dataLe false fun q => .int q.2.length)).map fun q => Value.ref q.1) := vals_of_refs _
    have J := I.laid (t' := tk) up (Nat.le_succ _) (o := .lst ((ks.mergeSort (PySem.W.dataLe false fun q => .int q.2.length)).map fun q => V.ref q.1)) ⟨hlen, _, c, hv, hD⟩
    exact ⟨.ref (s.heap.objs.size + 1), _, J, rfl, q _ hn⟩
def rSortLen (K : PySem.W.Frag) : List V → Hp → VK → Prop := fun vs H Q => ∃ (a : Addr) (ks : List (Addr × List Int)), vs = [V.ref a] ∧ SqL K H a (ks.map fun q => V.ref q.1) ∧ (∀ q ∈ ks, SqT K H q.1 (q.2.map V.int)) ∧
  ∀ p, H p = none → Q (.ref p) (upd H p (.lst ((ks.mergeSort (PySem.W.dataLe false fun q => .int q.2.length)).map fun q => V.ref q.1)))
/-- sorted(e, key=len) -/
theorem pe_sortedLen (hu : X.A.units + 64 < cLine) {e : Expr} {t : TA} {p p2 p3 pos : Pos} {ks kn kl : Str} (hg : Gl X ks) (hm : X.mg ks = none) (hv : bootBuiltins ks = some (.builtin "sorted")) (hg2 : Gl X kl) (hm2 : X.mg kl = none) (hv2 : bootBuiltins kl = some (.builtin "len")) (ha : PA X [e] t)
    (hk : kn = Str.ofString "key" := by rfl) (hn : ks ≠ "__name__" := by decide) (hdb : (ks == ("__debug__" : Str)) = false := by decide) (hn2 : kl ≠ "__name__" := by decide) (hdb2 : (kl == ("__debug__" : Str)) = false := by decide)
    (he : backTo pos (starEach [e] X.env) = (false, eval e X.env) :: backTo pos (starEach [] X.env) := by rfl) (hpl : (backTo pos (starEach [e] X.env)).any (·.1) = false := by rfl) :
    PE X (.Call (.Name ks p) [e] [⟨some kn, .Name kl p2, p3⟩] pos) (fun σ H Q => t σ H fun vs H1 => rSortLen X.K vs H1 Q) := by
  subst hk
  refine ⟨fun pins s σ H Q I h => ?_⟩
  refine wpAny_Call_Name_kw (ld_blt I hg hm hv ?_ hn hdb)
  refine callWith_kw (thn (ha.run pos pins s σ H _ I h) fun us s1 ⟨vs, H1, I1, r1, q1⟩ => ?_) he hpl rfl rfl
  refine kwAll_cons (ld_blt I1 hg2 hm2 hv2 ?_ hn2 hdb2)
  refine kwAll_nil ?_
  obtain ⟨a, ks, rfl, h1, h2, h3⟩ := q1
  rw [Vals.ref1 r1]
  exact run_sortedLen hu I1 h1 h2 h3
end
end Pd
set_option Elab.async false
set_option linter.all false
set_option maxRecDepth 100000
set_option maxHeartbeats 1000000
namespace Pd
open PySem PySem.Spec PyProof.Rows L2
section
variable {K : PySem.W.Frag}
theorem map_sort2 {f : List Int → PyData} (ks : List (Addr × List Int)) : (ks.mergeSort (PySem.W.dataLe false fun q => f q.2)).map (·.2) = (ks.map (·.2)).mergeSort (PySem.W.dataLe false f) :=
  List.map_mergeSort fun _ _ _ _ => rfl
/-- sorted(xs), xs a list of tuples of ints that begins with () -/
@[simp] def oSortE : DC := fun ds M P => ∃ rows : List (List Int), ds = [.lst (rows.map tI)] ∧ rows[0]? = some [] ∧ P (.lst ((rows.mergeSort (PySem.W.dataLe false tupP)).map tI)) M
theorem sc_sortE : SimC K (rSortE K) oSortE := by
  intro as L H M xs ds P Q A r h q
  obtain ⟨rows, rfl, h0, p1⟩ := h
  cases r with
  | cons r1 r2 =>
    cases r2
    cases r1 with
    | lst hs ra =>
      obtain ⟨ks, rfl, rfl, hk⟩ := RpA.tups ra
      refine ⟨_, ks, rfl, ex_l A.low hs, fun x hx => ex_t A.low (hk x hx), ?_, fun p hp => ?_⟩
      · rw [List.getElem?_map] at h0; exact h0
      have lb := lowfree A hp
      rw [← map_sort2] at p1
      refine q _ _ _ _ M (Step.know A hp) (A.know hp) p1 (.lst (.inl (.inl upd_same)) ?_)
      exact rp_tups fun x hx => ex_t (Ex.new lb) (hk x (List.mem_mergeSort.mp hx))
/-- sorted(xs, key=len), xs a list of tuples of ints -/
@[simp] def oSortLen : DC := fun ds M P => ∃ rows : List (List Int), ds = [.lst (rows.map tI)] ∧ P (.lst ((rows.mergeSort (PySem.W.dataLe false fun r => .int r.length)).map tI)) M
theorem sc_sortLen : SimC K (rSortLen K) oSortLen := by
  intro as L H M xs ds P Q A r h q
  obtain ⟨rows, rfl, p1⟩ := h
  cases r with
  | cons r1 r2 =>
    cases r2
    cases r1 with
    | lst hs ra =>
      obtain ⟨ks, rfl, rfl, hk⟩ := RpA.tups ra
      refine ⟨_, ks, rfl, ex_l A.low hs, fun x hx => ex_t A.low (hk x hx), fun p hp => ?_⟩
      have lb := lowfree A hp
      rw [← map_sort2] at p1
      refine q _ _ _ _ M (Step.know A hp) (A.know hp) p1 (.lst (.inl (.inl upd_same)) ?_)
      exact rp_tups fun x hx => ex_t (Ex.new lb) (hk x (List.mem_mergeSort.mp hx))
end
section
variable {X : Cx} {e : Expr} {tl : DA} {p p2 p3 pos : Pos}
theorem pd_sortedE {x : Str} (hc : X.calm = true) (hu : X.A.units + 64 < cLine) (hg : Gl X x) (hm : X.mg x = none) (hv : bootBuiltins x = some (.builtin "sorted")) (ha : PDA X [e] tl) (hn : x ≠ "__name__" := by decide)
    (hdb : (x == ("__debug__" : Str)) = false := by decide) (he : starEach [e] X.env = (false, eval e X.env) :: starEach [] X.env := by rfl) : PD X (.Call (.Name x p) [e] [] pos) (dCB oSortE tl) :=
  pd_callB (cr_sortedE hc hu) sc_sortE hg hm hv ha hn hdb he (by rfl)
theorem pd_sortedLen {ks kn kl : Str} (hu : X.A.units + 64 < cLine) (hg : Gl X ks) (hm : X.mg ks = none) (hv : bootBuiltins ks = some (.builtin "sorted")) (hg2 : Gl X kl) (hm2 : X.mg kl = none) (hv2 : bootBuiltins kl = some (.builtin "len")) (ha : PDA X [e] tl)
    (hk : kn = Str.ofString "key" := by rfl) (hn : ks ≠ "__name__" := by decide) (hdb : (ks == ("__debug__" : Str)) = false := by decide) (hn2 : kl ≠ "__name__" := by decide) (hdb2 : (kl == ("__debug__" : Str)) = false := by decide)
    (he : backTo pos (starEach [e] X.env) = (false, eval e X.env) :: backTo pos (starEach [] X.env) := by rfl) (hpl : (backTo pos (starEach [e] X.env)).any (·.1) = false := by rfl) :
    PD X (.Call (.Name ks p) [e] [⟨some kn, .Name kl p2, p3⟩] pos) (dCB oSortLen tl) := by
  obtain ⟨u, pa, s⟩ := ha.ex
  exact ⟨_, pe_sortedLen hu hg hm hv hg2 hm2 hv2 pa hk hn hdb hn2 hdb2 he hpl, sim_cb (r := rSortLen X.K) sc_sortLen s⟩
end
end Pd
set_option Elab.async false
set_option linter.all false
set_option maxRecDepth 100000
set_option maxHeartbeats 1000000
namespace Pd
open PySem PySem.Spec PyProof.Rows L2
@[simp] def sKeep (i : Nat) (tl : DA) (t : DS) : DS := fun De ρ M => tl ρ M fun ds0 M1 => t { nx := cutE M1.length De.nx, rt := cutR M1.length De.rt, bk := cutE M1.length De.bk, ct := cutE M1.length De.ct } (ρ.set i (some (.mu M1.length))) (M1 ++ [.lst ds0])
/-- tuple(x), x a list that is known or changeable -/
@[simp] def oTupleM : DC := fun xs M P => ∃ d ds, xs = [d] ∧ (isSeq d ds ∨ ∃ k, d = .mu k ∧ M[k]? = some (.lst ds)) ∧ P (.tup ds) M
def forRunX (g : DG) (body : SX) (De : DEnds) (Xd : XD) : List D → Rho → Ms → Prop
  | [], ρ, M => De.nx ρ M
  | d :: r, ρ, M => g d ρ fun ρ' => body { De with nx := fun ρ2 M2 => forRunX g body De Xd r ρ2 M2, ct := fun ρ2 M2 => forRunX g body De Xd r ρ2 M2, bk := De.nx } Xd ρ' M
@[simp] def zFor (it : DA) (g : DG) (body : SX) : SX := fun D Xd ρ M => it ρ M fun ds M1 => forRunX g body D Xd ds ρ M1
theorem each_valsP : ∀ {bs : List (V × D)} {us : List Value}, Vals (bs.map (·.1)) us → PySem.W.EachIs (fun u b => RelV b.1 u) us bs
  | [], _, r => by cases r; exact .nil
  | b :: bs, _, .cons r t => .cons r (each_valsP t)
theorem vals_eachP : ∀ {bs : List (V × D)} {us : List Value}, PySem.W.EachIs (fun u b => RelV b.1 u) us bs → Vals (bs.map (·.1)) us
  | _, _, .nil => .nil
  | _, _, .cons r t => .cons r (vals_eachP t)
theorem each_readsP {X : Cx} {pins : List (Addr × Obj)} {s : Shared} {σ : L2.St} {H : Hp} (I : Inv X pins σ H s) : ∀ {bs : List (V × D)} {us : List Value}, (∀ b ∈ bs, Dp X.K H b.1 (toP b.2)) → Vals (bs.map (·.1)) us → PySem.W.EachIs (fun u b => ∃ as, Reads s.heap u (toP b.2) as) us bs
  | [], _, _, r => by cases r; exact .nil
  | b :: bs, _, h, .cons r t => .cons (Dp.reads I _ _ _ (h b List.mem_cons_self) r) (each_readsP I (fun c hc => h c (List.mem_cons_of_mem _ hc)) t)
def rSortD (K : PySem.W.Frag) : List V → Hp → VK → Prop := fun xs H Q => ∃ (l : Addr) (bs : List (V × D)), xs = [.ref l] ∧ SqL K H l (bs.map (·.1)) ∧ (∀ b ∈ bs, Dp K H b.1 (toP b.2)) ∧ PySem.W.AllAlike (bs.map fun b => toP b.2) ∧ PySem.W.Sortable (bs.map fun b => toP b.2) ∧ (∀ b ∈ bs, (toP b.2).depth ≤ 60) ∧
  ∀ p, H p = none → Q (.ref p) (upd H p (.lst ((bs.mergeSort (PySem.W.dataLe false fun b => toP b.2)).map (·.1))))
theorem cr_sortD {X : Cx} (hu : X.A.units + 64 < cLine) : CallR X (.builtin "sorted") (rSortD X.K) := by
  intro pins s σ H xs us Q I r h
  obtain ⟨l, bs, rfl, hl, hb, hal, hso, hdp, q⟩ := h
  obtain ⟨u, rfl, rx⟩ := vals1 r
  obtain rfl : u = Value.ref l := rx
  obtain ⟨its, hv, pl, hz⟩ := I.list hl
  refine PySem.W.sorted_data (enc := fun b : V × D => toP b.2) (R := fun u b => RelV b.1 u) (vs := its) (bs := bs) pl.isList (each_valsP hv) (each_readsP I hb hv) hal hso (by rw [List.length_map] at hz; exact hz) (fun b hb' => ?_) (fun out hlen ho => ?_)
  · have := hdp b hb'
    omega
  · obtain ⟨e, he⟩ := sortedAll_at s.heap its out.toArray
    have keep : ∀ (b : Addr) (o : Obj), s.heap.get? b = some o → (sortedAll s.heap its out.toArray).get? b = some o := fun b o h => sortedAll_old h
    refine ⟨.ref (s.heap.objs.size + 1), _, I.laid (t' := s.toks) (a := s.heap.objs.size + 1) (o := .lst ((bs.mergeSort (PySem.W.dataLe false fun b => toP b.2)).map (·.1))) keep (Nat.le_succ _) ⟨?_, out, e, vals_eachP ho, he⟩, rfl, q _ (I.hok.fresh (Nat.le_succ _))⟩
    rw [List.length_map, List.length_mergeSort]
    rw [List.length_map] at hz; exact hz
theorem rp_zipP {K : PySem.W.Frag} {as : List Addr} {L : Hp} : ∀ {xs : List V} {rows : List D}, RpA K as L xs rows → ∃ bs : List (V × D), bs.map (·.1) = xs ∧ bs.map (·.2) = rows ∧ ∀ b ∈ bs, Rp K as L b.1 b.2
  | _, [], h => by cases h; exact ⟨[], rfl, rfl, (fun _ h => nomatch h)⟩
  | _, r :: rows, h => by
    cases h with
    | cons r1 rt =>
      rename_i v vs
      obtain ⟨bs, h1, h2, h4⟩ := rp_zipP rt
      refine ⟨(v, r) :: bs, by rw [List.map_cons, h1], by rw [List.map_cons, h2], fun b hb => ?_⟩
      rcases List.mem_cons.mp hb with rfl | hb
      · exact r1
      · exact h4 b hb
theorem rp_pairsP {K : PySem.W.Frag} {as : List Addr} {L : Hp} : ∀ {bs : List (V × D)}, (∀ b ∈ bs, Rp K as L b.1 b.2) → RpA K as L (bs.map (·.1)) (bs.map (·.2))
  | [], _ => .nil
  | b :: bs, h => .cons (h b List.mem_cons_self) (rp_pairsP fun c hc => h c (List.mem_cons_of_mem _ hc))
/-- rows that can be sorted -/
structure SortOk (rows : List D) : Prop where
  pl : ∀ d ∈ rows, plain d = true
  al : PySem.W.AllAlike (rows.map toP)
  so : PySem.W.Sortable (rows.map toP)
  dp : ∀ d ∈ rows, (toP d).depth ≤ 60
def sortD (rows : List D) : List D := rows.mergeSort (PySem.W.dataLe false toP)
@[simp] def oSortD : DC := fun ds M P => ∃ rows : List D, ds = [.lst rows] ∧ SortOk rows ∧ P (.lst (sortD rows)) M
theorem sc_sortD {K : PySem.W.Frag} : SimC K (rSortD K) oSortD := by
  intro as L H M xs ds P Q A r h q
  obtain ⟨rows, rfl, ok, p1⟩ := h
  cases r with
  | cons r1 r2 =>
    cases r2
    cases r1 with
    | lst hs ra =>
      obtain ⟨bs, rfl, e2, hk⟩ := rp_zipP ra
      have em : (bs.map fun b => toP b.2) = rows.map toP := by rw [← e2, List.map_map]; rfl
      have hin : ∀ b ∈ bs, b.2 ∈ rows := fun b hb => by rw [← e2]; exact List.mem_map_of_mem hb
      refine ⟨_, bs, rfl, ex_l A.low hs, fun b hb => (hk b hb).dp A.low (ok.pl _ (hin b hb)), by rw [em]; exact ok.al, by rw [em]; exact ok.so, fun b hb => ok.dp _ (hin b hb), fun p hp => ?_⟩
      have lb := lowfree A hp
      have e5 : (bs.mergeSort (PySem.W.dataLe false fun b => toP b.2)).map (·.2) = sortD rows := by
        unfold sortD
        rw [← e2]
        exact List.map_mergeSort (fun _ _ _ _ => rfl)
      refine q _ _ _ _ M (Step.know A hp) (A.know hp) p1 (.lst (.inl (.inl upd_same)) ?_)
      rw [← e5]
      exact (rp_pairsP fun b hb => hk b (List.mem_mergeSort.mp hb)).mono (Ex.new lb) (Pre.refl _)
theorem pd_sortD {X : Cx} {e : Expr} {tl : DA} {p pos : Pos} {x : Str} (hu : X.A.units + 64 < cLine) (hg : Gl X x) (hm : X.mg x = none) (hv : bootBuiltins x = some (.builtin "sorted")) (ha : PDA X [e] tl) (hn : x ≠ "__name__" := by decide)
    (hdb : (x == ("__debug__" : Str)) = false := by decide) (he : starEach [e] X.env = (false, eval e X.env) :: starEach [] X.env := by rfl) : PD X (.Call (.Name x p) [e] [] pos) (dCB oSortD tl) :=
  pd_callB (cr_sortD hu) sc_sortD hg hm hv ha hn hdb he (by rfl)
end Pd
set_option Elab.async false
set_option linter.all false
set_option maxRecDepth 100000
set_option maxHeartbeats 2000000
namespace Pd
open PySem PySem.Spec PyProof.Rows L2 PySem.HandSPX
abbrev DH := List (Str × D) → DE
abbrev DHA := List (Str × D) → DA
/-- the fields of what was caught stand at dx -/
structure Caught (K : PySem.W.Frag) (as : List Addr) (L : Hp) (dx : Addr) (gs : List (Str × D)) : Prop where
  ex : ∃ fs, L dx = some (.xd fs) ∧ RpF K as L fs gs
theorem Caught.mono {K : PySem.W.Frag} {as : List Addr} {L L' : Hp} {dx : Addr} {gs : List (Str × D)} (e : Ex L L') (c : Caught K as L dx gs) : Caught K as L' dx gs :=
  let ⟨fs, h1, h2⟩ := c.ex; ⟨fs, e _ _ h1, h2.mono e (Pre.refl _)⟩
section
variable {X : Cx} {C : Addr} {i : Nat} {e : Expr} {es : List Expr} {t : DH} {tl : DHA} {pos p : Pos}
@[simp] def hOf (t : DE) : DH := fun _ => t
@[simp] def hFld (f : Str) : DH := fun gs ρ M P => ∃ y, gs.lookup f = some y ∧ P y M
@[simp] def hNil : DHA := fun _ _ M P => P [] M
@[simp] def hCons (ta : DH) (tl : DHA) : DHA := fun gs ρ M P => ta gs ρ M fun x M1 => tl gs ρ M1 fun xs M2 => P (x :: xs) M2
@[simp] def hTup (tl : DHA) : DH := fun gs ρ M P => tl gs ρ M fun ds M1 => ds.length ≤ sizeLine ∧ P (.tup ds) M1
@[simp] def hLst (tl : DHA) : DH := fun gs ρ M P => tl gs ρ M fun ds M1 => ds.length ≤ sizeLine ∧ P (.lst ds) M1
end
/-- which clause takes it, and what it returns -/
def PickR (K : PySem.W.Frag) (n : Nat) (rt : D → Ms → Prop) : List (Addr × Nat × DH) → Addr → List (Str × D) → Ms → Prop
  | [], _, _, _ => False
  | (C', i, t) :: r, C, gs, M => ∃ b, PySem.W.exmOne K (.ref C) (.ref C') = some b ∧ (b = true → C = C' ∧ t gs (List.replicate n none) M rt) ∧ (b = false → PickR K n rt r C gs M)
theorem Takes.mono {X : Cx} {W W' : WX} (tk : Takes X W) (h : ∀ cls d σ H, W' cls d σ H → W cls d σ H) : Takes X W' := fun u s' ⟨a, B, sI, pins, σ, H, cls, d, e, I, nb, up, sky, na, os, ag, w⟩ =>
  tk u s' ⟨a, B, sI, pins, σ, H, cls, d, e, I, nb, up, sky, na, os, ag, h _ _ _ _ w⟩
@[simp] def sTry (K : PySem.W.Frag) (n : Nat) (l : List (Addr × Nat × DH)) (t : SX) : DS := fun De ρ M => t De (fun C gs M' => PickR K n De.rt l C gs M') ρ M
end Pd
set_option Elab.async false
set_option linter.all false
set_option maxRecDepth 100000
set_option maxHeartbeats 1000000
namespace Pd
open PySem PySem.Spec PyProof.Rows L2
section
variable {X : Cx} {E : XK} {a e : Expr} {ta : DE} {tx : DX} {pos : Pos}
@[simp] def xTup2 (ta : DE) (tx : DX) : DX := fun ρ M P Xd => ta ρ M fun x M1 => tx ρ M1 (fun y M2 => P (.tup [x, y]) M2) Xd
end
theorem ix_or2 {X : Cx} {r1 r2 : R2} (h1 : IxR X r1) (h2 : IxR X r2) : IxR X (rOr r1 r2) := fun a b pins s σ H x y v u Q I rx ry h =>
  h.elim (h1 a b pins s σ H x y v u Q I rx ry) (h2 a b pins s σ H x y v u Q I rx ry)
end Pd
set_option Elab.async false
set_option linter.all false
set_option maxRecDepth 100000
set_option maxHeartbeats 2000000
namespace Pd
open PySem PySem.Spec PyProof.Rows L2
section
variable {X : Cx}
@[simp] def iOwnD (C : Addr) (f : Str) (t : DE) : DA := fun ρ M P => t ρ M fun d M1 => ∃ gs ds, d = .ins C gs ∧ gs.lookup f = some (.tup ds) ∧ P ds M1
end
end Pd
set_option Elab.async false
set_option linter.all false
set_option maxRecDepth 100000
set_option maxHeartbeats 2000000
namespace Pd
open PySem PySem.Spec PyProof.Rows L2
abbrev DAM := Rho → Ms → ((Ms → Prop) → List D → Ms → Prop) → Prop
def lcRunM (Φ : Ms → Prop) (g : DG) (tt : DT) (te : DE) (ρ : Rho) (P : D → Ms → Prop) : List D → List D → Ms → Prop
  | [], acc, M => P (.lst acc) M
  | d :: r, acc, M => g d ρ fun ρ' => tt ρ' M fun b M1 => if b = true then te ρ' M1 fun y M2 => acc.length < sizeLine ∧ Φ M2 ∧ lcRunM Φ g tt te ρ P r (acc ++ [y]) M2 else Φ M1 ∧ lcRunM Φ g tt te ρ P r acc M1
@[simp] def dLcM (it : DAM) (g : DG) (tt : DT) (te : DE) (vs : List Nat) : DE := fun ρ M P => it ρ M fun Φ ds M1 => lcRunM Φ g tt te (wipeR ρ vs) P ds [] M1
section
variable {X : Cx}
@[simp] def iMu (i : Nat) : DAM := fun ρ M P => ∃ (k : Nat) (ds : List D), ρ[i]? = some (some (.mu k)) ∧ M[k]? = some (.lst ds) ∧ P (fun M => M[k]? = some (.lst ds)) ds M
end
@[simp] def oNinS : D2 := fun x y M P => ∃ ds, isSeq y ds ∧ okD x = true ∧ okD y = true ∧ (toP x).depth ≤ 60 ∧ P (.bl (!ds.any fun z => eqD z x)) M
end Pd
set_option Elab.async false
set_option linter.all false
set_option maxRecDepth 100000
set_option maxHeartbeats 1000000
namespace Pd
open PySem PySem.Spec PyProof.Rows L2 PySem.HandSPX
mutual
def noL : PyData → Bool
  | .list _ => false
  | .dict _ => false
  | .tuple xs => noLA xs
  | _ => true
def noLA : List PyData → Bool
  | [] => true
  | x :: xs => noL x && noLA xs
end
section
variable {P : Program} {w : World} {K : PySem.W.Frag} {mg : Str → Option Value} {base : Heap} {A : Around} {outer : List Env} {s : Shared} {H : Hp}
def dlen : D → Nat
  | .tup ds => ds.length
  | _ => 0
/-- what the lambda tells of a row -/
def keyL (d : D) : PyData := .tuple [.int (dlen d), toP d]
structure KeyOk (rows : List D) : Prop where
  tup : ∀ d ∈ rows, ∃ ds, d = .tup ds
  pl : ∀ d ∈ rows, plain d = true
  no : ∀ d ∈ rows, noL (toP d) = true
  al : PySem.W.AllAlike (rows.map keyL)
  dp : ∀ d ∈ rows, (toP d).depth ≤ 60
def sortK (rows : List D) : List D := rows.mergeSort (PySem.W.dataLe false keyL)
end
@[simp] def dSortK (P : Addr) (lq : Str) (tl : DA) : DE := fun ρ M Q => tl ρ M fun ds M1 => (∃ j : Nat, M1[j]? = some (MO.tab P lq)) ∧ ∃ rows : List D, ds = [.lst rows] ∧ KeyOk rows ∧ Q (.lst (sortK rows)) M1
end Pd
set_option Elab.async false
set_option linter.all false
set_option maxRecDepth 100000
set_option maxHeartbeats 1000000
namespace Pd
open PySem PySem.Spec PyProof.Rows L2
@[simp] def oLenM : DC := fun xs M P => ∃ (k : Nat) (es : List D), xs = [.mu k] ∧ M[k]? = some (.lst es) ∧ P (.int es.length) M
end Pd
set_option Elab.async false
set_option linter.all false
set_option maxRecDepth 100000
set_option maxHeartbeats 1000000
namespace Pd
open PySem PySem.Spec PyProof.Rows L2
theorem At.addM {K : PySem.W.Frag} {as : List Addr} {x : Addr} {M : Ms} {L H : Hp} {o : HO} {m : MO} (A : At K as M L H) (hx : H x = some o) (lx : L x = none) (xa : x ∉ as) (r : Ro K as L o m) (tb : TabOk H x o m) : At K (as ++ [x]) (M ++ [m]) L H := by
  refine ⟨A.low, by rw [List.length_append, List.length_append, A.len]; rfl, ?_, fun k a m' g1 g2 => ?_, A.nt⟩
  · rw [List.nodup_append]
    refine ⟨A.nd, by simp, fun a ha b hb => ?_⟩
    rw [List.mem_singleton] at hb
    subst hb
    exact fun z => xa (z ▸ ha)
  · by_cases hk : k < as.length
    · rw [List.getElem?_append_left hk] at g1
      rw [List.getElem?_append_left (by rw [← A.len]; exact hk)] at g2
      obtain ⟨h3, o', h4, h5⟩ := A.mo k a m' g1 g2
      exact ⟨h3, o', h4, h5.1.mono (Ex.refl _) (pre_app _ _), h5.2⟩
    · have e : k = as.length := by
        have := (List.getElem?_eq_some_iff.mp g1).1
        rw [List.length_append] at this
        simp only [List.length_cons, List.length_nil] at this
        omega
      subst e
      rw [List.getElem?_append_right (Nat.le_refl _), Nat.sub_self] at g1
      rw [A.len, List.getElem?_append_right (Nat.le_refl _), Nat.sub_self] at g2
      cases g1
      cases g2
      exact ⟨lx, o, hx, r.mono (Ex.refl _) (pre_app _ _), tb⟩
theorem At.dic {K : PySem.W.Frag} {as : List Addr} {M : Ms} {L H : Hp} {k : Nat} {a : Addr} {ks : List Key} {ds : List D} (A : At K as M L H) (h : as[k]? = some a) (hm : M[k]? = some (.dic ks ds)) : ∃ vs, H a = some (.dK (ks.zip vs)) ∧ ks.length = vs.length ∧ RpA K as L vs ds := by
  obtain ⟨_, o, h1, h2, _⟩ := A.mo k a _ h hm
  cases h2 with
  | dic l r => exact ⟨_, h1, l, r⟩
/-- what d[k] = v makes of a dict -/
def hasK (ks : List Key) (k : Key) : Bool := ks.any fun j => decide (j = k)
theorem hasK_iff {ks : List Key} {k : Key} : hasK ks k = true ↔ k ∈ ks := by
  unfold hasK
  rw [List.any_eq_true]
  exact ⟨fun ⟨j, h, e⟩ => of_decide_eq_true e ▸ h, fun h => ⟨k, h, decide_eq_true rfl⟩⟩
def putM (ks : List Key) (ds : List D) (k : Key) (v : D) : MO := if hasK ks k = true then .dic ks (List.zipWith (fun j x => if j = k then v else x) ks ds) else .dic (ks ++ [k]) (ds ++ [v])
theorem put_ro {K : PySem.W.Frag} {as : List Addr} {L : Hp} {k : Key} {v : V} {d : D} (rv : Rp K as L v d) {ks : List Key} {vs : List V} {ds : List D} (hl : ks.length = vs.length) (r : RpA K as L vs ds) : Ro K as L (.dK (putK (ks.zip vs) k v)) (putM ks ds k d) := by
  unfold putM
  by_cases h' : hasK ks k = true
  · rw [if_pos h']
    have h := hasK_iff.mp h'
    clear h'
    have e : putK (ks.zip vs) k v = ks.zip (List.zipWith (fun j x => if j = k then v else x) ks vs) := by
      unfold putK
      rw [if_pos]
      · clear r h
        induction ks generalizing vs with
        | nil => rfl
        | cons j ks ih =>
          cases vs with
          | nil => cases hl
          | cons x vs =>
            rw [List.zip_cons_cons, List.map_cons, ih (by simpa using hl), List.zipWith_cons_cons, List.zip_cons_cons]
            by_cases e : j = k
            · simp only [e, if_true]
            · simp only [e, if_false]
      · obtain ⟨i, hi, rfl⟩ := List.getElem_of_mem h
        refine List.any_eq_true.mpr ⟨(ks[i], vs[i]'(by omega)), ?_, by simp⟩
        rw [← List.getElem_zip (h := by rw [List.length_zip]; omega)]
        exact List.getElem_mem _
    rw [e]
    refine .dic (by rw [List.length_zipWith, hl, Nat.min_self]) ?_
    clear e h
    induction ks generalizing vs ds with
    | nil => cases vs <;> cases ds <;> first | exact .nil | cases hl
    | cons j ks ih =>
      cases r with
      | nil => cases hl
      | cons r1 r2 =>
        rw [List.zipWith_cons_cons, List.zipWith_cons_cons]
        refine .cons ?_ (ih (by simpa using hl) r2)
        by_cases e : j = k
        · rw [if_pos e, if_pos e]; exact rv
        · rw [if_neg e, if_neg e]; exact r1
  · rw [if_neg h', putK_new hl fun h => h' (hasK_iff.mpr h)]
    refine .dic (by rw [List.length_append, List.length_append, hl]; rfl) ?_
    exact r.append (.cons rv .nil)
/-- the thing that statements begin with is locked -/
def uFrz (t : TS) : TS := fun D σ H => ∃ a kvs, H a = some (.dK kvs) ∧ ∀ o, t D σ (upd H a (.frz o (.dK kvs)))
theorem pss_frz {X : Cx} {sts : List Stmt} {t : TS} (h : PSs X sts t) : PSs X sts (uFrz t) := ⟨fun pins s σ H D I ⟨a, kvs, e, q⟩ => by
  obtain ⟨o, I'⟩ := I.lock e True.intro
  exact h.run pins s σ _ D I' (q o)⟩
section
variable {K : PySem.W.Frag} {as : List Addr} {M1 : Ms} {L1 H1 : Hp} {x : Addr}
theorem dict_out {M4 : Ms} {ks : List Key} {ds : List D} {kv0 : List (Key × V)} {L3 H3 : Hp} (A1 : At K as M1 L1 H1) (hx : H1 x = none) (s3 : Step (as ++ [x]) L1 (upd H1 x (.dK kv0)) (as ++ [x]) L3 H3) (A3 : At K (as ++ [x]) (M4 ++ [.dic ks ds]) L3 H3)
    (hl4 : M4.length = M1.length) (hap : apartA M1.length ds = true) (hapM : apartM M1.length M4 = true) : ∃ vs, H3 x = some (.dK (ks.zip vs)) ∧ ∀ o, ∃ L4, Ex L3 L4 ∧ Step as L1 H1 as L4 (upd H3 x (.frz o (.dK (ks.zip vs)))) ∧ At K as M4 L4 (upd H3 x (.frz o (.dK (ks.zip vs)))) ∧ Rp K as L4 (.ref x) (.dic ks ds) := by
  have xa : x ∉ as := fun z => (A1.held z).2 hx
  have lx : L1 x = none := lowfree A1 hx
  have e0 : ∀ b o, H1 b = some o → (upd H1 x (.dK kv0)) b = some o := fun b o e => by
    rw [upd_ne (ne_of_none e hx)]
    exact e
  have gx : (as ++ [x])[as.length]? = some x := by rw [List.getElem?_append_right (Nat.le_refl _), Nat.sub_self]; rfl
  have gm : (M4 ++ [MO.dic ks ds])[as.length]? = some (.dic ks ds) := by rw [A1.len, ← hl4, List.getElem?_append_right (Nat.le_refl _), Nat.sub_self]; rfl
  obtain ⟨xs, g1, gl, g2⟩ := A3.dic gx gm
  have g3 : RpA K as L3 xs ds := g2.cut (by rw [A1.len]; exact hap)
  have lx3 : L3 x = none := s3.hid x lx (by rw [upd_same]; simp)
  refine ⟨xs, g1, fun ob => ⟨upd L3 x (.frz ob (.dK (ks.zip xs))), Ex.new lx3, ?_, ?_, .dic ⟨ob, upd_same⟩ gl (g3.mono (Ex.new lx3) (Pre.refl _))⟩⟩
  · refine ⟨fun b o hb e => ?_, fun b o e => ?_, fun b e e' => ?_, Pre.refl _, fun _ e => .inl e⟩
    · have hbx : b ≠ x := ne_of_none e hx
      rw [upd_ne hbx]
      refine s3.up b o (fun z => ?_) (e0 b o e)
      rcases List.mem_append.mp z with z | z
      · exact hb z
      · exact hbx (List.mem_singleton.mp z)
    · rw [upd_ne (fun z => by rw [z, lx] at e; cases e)]; exact s3.k b o e
    · have hbx : b ≠ x := fun z => e' (by rw [z]; exact hx)
      rw [upd_ne hbx]
      refine s3.hid b e ?_
      cases q2 : H1 b with
      | none => exact absurd q2 e'
      | some o => rw [e0 b o q2]; simp
  · refine ⟨fun b o e => ?_, by rw [hl4]; exact A1.len, A1.nd, fun k a m e1 e2 => ?_, A3.nt.new (fun ps z => by cases z)⟩
    · by_cases hb : b = x
      · subst hb; rw [upd_same] at e ⊢; exact e
      · rw [upd_ne hb] at e ⊢; exact A3.low b o e
    · have hk : k < as.length := (List.getElem?_eq_some_iff.mp e1).1
      obtain ⟨h5, o, h6, h7⟩ := A3.mo k a m (by rw [List.getElem?_append_left hk]; exact e1) (by rw [List.getElem?_append_left (by rw [hl4, ← A1.len]; exact hk)]; exact e2)
      have hax : a ≠ x := fun z => xa (by rw [← z]; exact List.mem_of_getElem? e1)
      exact ⟨by rw [upd_ne hax]; exact h5, o, by rw [upd_ne hax]; exact h6, (h7.1.cut (List.mem_of_getElem? e2) (by rw [A1.len]; exact hapM)).mono (Ex.new lx3) (Pre.refl _), h7.2.keep (KeepC.over g1 rfl)⟩
end
@[simp] def sBuildD (i : Nat) (t rest : DS) : DS := fun De ρ M => t { nx := (fun ρ' M' => ∃ M3 ks ds, M' = M3 ++ [MO.dic ks ds] ∧ M3.length = M.length ∧ apartM M.length M3 = true ∧ apartA M.length ds = true ∧ (ρ'[i]? = some (some (D.mu M.length))) ∧ rest De ((clean M.length ρ').set i (some (.dic ks ds))) M3), rt := cutR M.length De.rt, bk := cutE M.length De.bk, ct := cutE M.length De.ct } (ρ.set i (some (.mu M.length))) (M ++ [.dic [] []])
section
variable {X : Cx} {st : Stmt} {sts : List Stmt} {t s2 : DS} {pos p1 : Pos}
theorem pdss_buildD {i : Nat} {y : Str} {p' : Pos} (hN : X.N.Nodup) (ht : PDS X st t) (hrest : PDSs X sts s2) (hi : X.N[i]? = some y := by rfl) (hy : Loc X.env.scope y := by first | exact Or.inl rfl | exact Or.inr rfl) (hs : swapsWith (.Dict [] [] p1) (some (.Name y p')) pos.line X.env = pure false := by rfl)
    (hf : X.fn y = true ∨ X.env.scope.names.lookup y = some .local := by first | exact .inl rfl | exact .inr rfl | assumption) : PDSs X (.Assign [.Name y p'] (.Dict [] [] p1) pos :: st :: sts) (sBuildD i t s2) := by
  obtain ⟨u, pt, stt⟩ := ht.ex
  obtain ⟨ur, pr, sr⟩ := hrest.ex
  refine ⟨_, pss_cons (ps_set hN hi hy pe_dnewK hs hf) (pss_cons pt (pss_frz pr)), ?_⟩
  intro as σ ρ L H M De D hE A h c x hx
  have xa : x ∉ as := fun z => (A.held z).2 hx
  have lx : L x = none := lowfree A hx
  have Ah : At X.K as M L (upd H x (.dK [])) := hid_at A hx _
  have sh : Step as L H as L (upd H x (.dK [])) := hid_step hx _
  have A2 := Ah.addM (o := .dK []) (m := .dic [] []) upd_same lx xa (.dic (ks := []) (vs := []) rfl .nil) True.intro
  have gx : (as ++ [x])[M.length]? = some x := by rw [← A.len, List.getElem?_append_right (Nat.le_refl _), Nat.sub_self]; rfl
  have E2 : En X.K (as ++ [x]) L (σ.set i (some (.ref x))) (ρ.set i (some (.mu M.length))) := (hE.mono (Ex.refl _) (pre_app _ _)).set i (.mu gx)
  have fin : ∀ {d : Rho → Ms → Prop} {v : L2.St → Hp → Prop}, EndN X.K as L H d v → EndN X.K (as ++ [x]) L (upd H x (.dK [])) (cutE M.length d) v := by
    intro d v hd σ' ρ' L' H' M' s' A' e' q
    obtain ⟨M3, m', rfl, hl, hap, q⟩ := q
    rw [← A.len] at hap q
    exact hd σ' _ L' H' M3 (sh.cutx Ah hx s') (A'.cut hap) e'.cut q
  refine stt (as ++ [x]) _ _ L (upd H x (.dK [])) _ _ _ E2 A2 h ⟨?_, fun v d L' H' M' s' A' q rv => ?_, fin c.bk, fin c.ct⟩
  · intro σ' ρ' L' H' M' s' A' e' q
    obtain ⟨M3, ks, ds, rfl, hl, hap, hapd, hmu, q⟩ := q
    obtain ⟨vs, g1, out⟩ := dict_out A hx s' A' hl hapd hap
    refine ⟨x, _, g1, fun o => ?_⟩
    obtain ⟨L4, x4, s4, A4, r4⟩ := out o
    obtain ⟨v, hv, rv⟩ := e'.at_ i _ hmu
    have ev : v = .ref x := by
      cases rv with
      | mu hk => rw [gx] at hk; cases hk; rfl
    subst ev
    have same : σ'.set i (some (.ref x)) = σ' := by
      apply List.ext_getElem?
      intro j
      rw [List.getElem?_set]
      split
      · rename_i e; subst e
        split
        · exact hv.symm
        · rename_i hlt; exact absurd (List.getElem?_eq_some_iff.mp hv).1 hlt
      · rfl
    have e4 : En X.K as L4 σ' ((clean M.length ρ').set i (some (.dic ks ds))) := by
      rw [← same, ← A.len]
      exact (e'.cut.mono x4 (Pre.refl _)).set i r4
    exact sr as σ' _ L4 _ M3 De D e4 A4 q (c.step s4 A4)
  · obtain ⟨M3, m', rfl, hl, hap, hd, q⟩ := q
    rw [← A.len] at hap hd
    exact c.rt v d L' H' M3 (sh.cutx Ah hx s') (A'.cut hap) q (rv.cut hd)
end
@[simp] def sSetD (to ti te : DE) : DS := fun De ρ M => te ρ M fun v M1 => to ρ M1 fun x M2 => ti ρ M2 fun y M3 => ∃ (k : Nat) (ks : List Key) (ds : List D) (j : Key), x = .mu k ∧ y = keyD j ∧ M3[k]? = some (.dic ks ds) ∧ ks.length < sizeLine ∧ De.nx ρ (M3.set k (putM ks ds j v))
section
variable {X : Cx} {value o i : Expr} {to ti tv : DE} {pos pos' : Pos}
theorem pds_setItemD (hu : X.A.units + 64 < cLine) (he : PD X value tv) (ho : PD X o to) (hi : PD X i ti) (hs : swapsWith value (some (.Subscript o i pos')) pos.line X.env = pure false := by rfl) : PDS X (.Assign [.Subscript o i pos'] value pos) (sSetD to ti tv) := by
  obtain ⟨u, p, s⟩ := he.ex
  obtain ⟨u1, p1, s1⟩ := ho.ex
  obtain ⟨u2, p2, s2⟩ := hi.ex
  refine ⟨_, ps_dput (by omega) p1 p2 p hs, ?_⟩
  intro as σ ρ L H M De D hE A h c
  refine s as σ ρ L H M _ _ hE A h fun v d L1 H1 M1 t1 A1 h1 r1 => ?_
  refine s1 as σ ρ L1 H1 M1 _ _ (hE.mono t1.k t1.pre) A1 h1 fun x d2 L2 H2 M2 t2 A2 h2 r2 => ?_
  refine s2 as σ ρ L2 H2 M2 _ _ (hE.mono (t1.k.trans t2.k) (Pre.refl _)) A2 h2 fun y d3 L3 H3 M3 t3 A3 h3 r3 => ?_
  obtain ⟨k, ks, ds, j, rfl, rfl, hm, hlt, p⟩ := h3
  obtain rfl := keyD_rp r3
  cases r2 with
  | mu hk =>
    rename_i a
    obtain ⟨vs, g1, gl, g2⟩ := A3.dic hk hm
    have r1' := r1.mono (t2.k.trans t3.k) (Pre.refl as)
    refine ⟨a, _, rfl, DPut.k g1 (by rw [List.length_zip]; omega), ?_⟩
    exact c.nx σ ρ L3 _ _ ((t1.trans A1 (t2.trans A2 t3)).trans A3 (Step.put (List.mem_of_getElem? hk))) (A3.put hk (put_ro r1' gl g2)) (hE.mono (t1.k.trans (t2.k.trans t3.k)) (Pre.refl _)) p
end
@[simp] def dGetM (td ty tx : DE) : DE := fun ρ M P => td ρ M fun d M1 => ∃ k : Nat, d = .mu k ∧ (∃ ks ds, M1[k]? = some (.dic ks ds)) ∧ ty ρ M1 fun y M2 => tx ρ M2 fun z M3 => ∃ ks ds j, M3[k]? = some (.dic ks ds) ∧ y = keyD j ∧ P ((dicGet ks ds j).getD z) M3
theorem pd_dgetM {X : Cx} {o e f : Expr} {apos cpos : Pos} {td ty tx : DE} (hu : X.A.units + 64 < cLine) (ho : PD X o td) (he : PD X e ty) (hf : PD X f tx) (h1 : attributeBase o "get" X.env (eval o X.env) = eval o X.env := by rfl)
    (h2 : (((backTo cpos (starEach [e, f] X.env)).all fun x => !x.1) && ((backToKw cpos (keywordEach [] X.env)).all fun x => x.1.isSome) && decide ([e, f].length + ([] : List Keyword).length + (if ([] : List Keyword).isEmpty = true then 0 else 1) < 30)) = true := by rfl)
    (h3 : (apos.endLine == cpos.line) = true := by rfl) (h4 : backTo cpos (starEach [e, f] X.env) = [(false, eval e X.env), (false, eval f X.env)] := by rfl) :
    PD X (.Call (.Attribute o "get" apos) [e, f] [] cpos) (dGetM td ty tx) := by
  obtain ⟨u1, p1, s1⟩ := ho.ex
  obtain ⟨u2, p2, s2⟩ := he.ex
  obtain ⟨u3, p3, s3⟩ := hf.ex
  refine ⟨_, pe_dget2 (by omega) p1 p2 p3 ⟨h1, h2, h3, h4⟩, ?_⟩
  intro as σ ρ L H M P Q hE A hh q
  refine s1 as σ ρ L H M _ _ hE A hh fun v d L1 H1 M1 st1 A1 h1 r1 => ?_
  obtain ⟨k, rfl, ⟨ks0, ds0, hm0⟩, h1⟩ := h1
  cases r1 with
  | mu hk =>
    rename_i a
    obtain ⟨vs0, g0, _, _⟩ := A1.dic hk hm0
    refine ⟨_, rfl, .inl ⟨_, .inl g0⟩, ?_⟩
    refine s2 as σ ρ L1 H1 M1 _ _ (hE.mono st1.k st1.pre) A1 h1 fun y dy L2 H2 M2 st2 A2 h2 r2 => ?_
    have st12 := st1.trans A1 st2
    refine s3 as σ ρ L2 H2 M2 _ _ (hE.mono st12.k st12.pre) A2 h2 fun z dz L3 H3 M3 st3 A3 h3 r3 => ?_
    obtain ⟨ks, ds, j, hm, rfl, p⟩ := h3
    obtain rfl := keyD_rp r2
    obtain ⟨vs, g1, gl, g2⟩ := A3.dic hk hm
    refine ⟨_, DGet.k g1, ?_⟩
    have st13 := st12.trans A2 st3
    rcases rp_get j (ks := ks) g2 with ⟨e1, e2⟩ | ⟨v', d', e1, e2, e3⟩
    · rw [e1]
      rw [e2] at p
      exact q _ _ L3 H3 M3 st13 A3 p r3
    · rw [e1]
      rw [e2] at p
      exact q _ _ L3 H3 M3 st13 A3 p e3
end Pd
set_option Elab.async false
set_option linter.all false
set_option maxRecDepth 100000
set_option maxHeartbeats 2000000
namespace Pd
open PySem PySem.Spec PyProof.Rows L2
@[simp] def oTupOwn (C : Addr) (f : Str) (WL : DC) : DC := fun xs M P => ∃ gs ds, xs = [.ins C gs] ∧ gs.lookup f = some (.tup ds) ∧ WL xs M fun z M' => ∃ i : Int, z = .int i ∧ (0 ≤ i ∧ i < 16777216) ∧ P (.tup ds) M'
end Pd
set_option Elab.async false
set_option linter.all false
set_option maxRecDepth 100000
set_option maxHeartbeats 1000000
namespace Pd
open PySem PySem.Spec PyProof.Rows L2
@[simp] def dGetK (td ty : DE) : DE := fun ρ M P => td ρ M fun d M1 => ∃ ks ds, d = .dic ks ds ∧ ty ρ M1 fun y M2 => ∃ j v, y = keyD j ∧ dicGet ks ds j = some v ∧ P v M2
theorem pd_getK {X : Cx} {o i : Expr} {pos : Pos} {td ty : DE} (hu : X.A.units + 64 < cLine) (ho : PD X o td) (hi : PD X i ty) (hs : NoSl i := by intro _ _; rfl) : PD X (.Subscript o i pos) (dGetK td ty) := by
  obtain ⟨u1, p1, s1⟩ := ho.ex
  obtain ⟨u2, p2, s2⟩ := hi.ex
  refine ⟨_, pe_dget (by omega) p1 p2 hs, ?_⟩
  intro as σ ρ L H M P Q hE A h q
  refine s1 as σ ρ L H M _ _ hE A h fun v d L1 H1 M1 st1 A1 h1 r1 => ?_
  obtain ⟨ks, ds, rfl, h1⟩ := h1
  cases r1 with
  | dic hd hl ra =>
    refine s2 as σ ρ L1 H1 M1 _ _ (hE.mono st1.k st1.pre) A1 h1 fun y dy L2 H2 M2 st2 A2 h2 r2 => ?_
    obtain ⟨j, d, rfl, hg, p⟩ := h2
    obtain rfl := keyD_rp r2
    obtain ⟨ob, hd⟩ := hd
    have ra2 := ra.mono st2.k st2.pre
    rcases rp_get j ra2 with ⟨_, e2⟩ | ⟨w, d', e1, e2, rw'⟩
    · rw [e2] at hg; cases hg
    · rw [e2] at hg
      cases hg
      exact ⟨_, w, rfl, .inl ⟨_, j, .inr ⟨ob, A2.low _ _ (st2.k _ _ hd)⟩, rfl, e1.symm⟩, q w d L2 H2 M2 (st1.trans A1 st2) A2 p rw'⟩
end Pd
set_option Elab.async false
set_option linter.all false
set_option maxRecDepth 100000
set_option maxHeartbeats 1000000
namespace Pd
open PySem PySem.Spec PyProof.Rows L2
@[simp] def sKeepR (i : Nat) (tl : DA) (t : DS) : DS := fun De ρ M => tl ρ M fun ds0 M1 => t { nx := cutE M1.length De.nx, rt := (fun d M' => ∃ M3 ds, M' = M3 ++ [MO.lst ds] ∧ M3.length = M1.length ∧ apartM M1.length M3 = true ∧ apartA M1.length ds = true ∧ d = .mu M1.length ∧ De.rt (.lst ds) M3), bk := cutE M1.length De.bk, ct := cutE M1.length De.ct } (ρ.set i (some (.mu M1.length))) (M1 ++ [.lst ds0])
end Pd
set_option Elab.async false
set_option linter.all false
set_option maxRecDepth 100000
set_option maxHeartbeats 1000000
namespace Pd
open PySem PySem.Spec PyProof PyProof.Rows L2
@[simp] def oRepLL : D2 := fun x y M P => ∃ (ds : List D) (k : Int), x = .lst ds ∧ y = .int k ∧ -(2 ^ 63) ≤ k ∧ k < 2 ^ 63 ∧ ds.length * k.toNat ≤ sizeLine ∧ P (.lst (List.replicate k.toNat ds).flatten) M
end Pd
set_option Elab.async false
set_option linter.all false
set_option maxRecDepth 100000
set_option maxHeartbeats 1000000
namespace Pd
open PySem PySem.Spec PyProof PyProof.Rows L2
section
variable {X : Cx} {pos : Pos}
@[simp] def gTuL (n : Nat) (t : DGs) : DG := fun d ρ P => ∃ ds, d = .lst ds ∧ ds.length = n ∧ t ds ρ P
end
end Pd
set_option Elab.async false
set_option linter.all false
set_option maxRecDepth 100000
set_option maxHeartbeats 1000000
namespace Pd
open PySem PySem.Spec PyProof.Rows L2
theorem RpA.eraseIdx {K : PySem.W.Frag} {as : List Addr} {L : Hp} : ∀ {xs : List V} {ds : List D} (i : Nat), RpA K as L xs ds → RpA K as L (xs.eraseIdx i) (ds.eraseIdx i)
  | _, _, _, .nil => .nil
  | _, _, 0, .cons _ t => t
  | _, _, i + 1, .cons r t => .cons r (RpA.eraseIdx i t)
@[simp] def dPopA (i : Nat) (te : DE) : DE := fun ρ M P => ∃ k, ρ[i]? = some (some (.mu k)) ∧ (∃ ds, M[k]? = some (.lst ds)) ∧ te ρ M fun d M1 => ∃ (ds : List D) (n : Nat) (y : D), d = .int n ∧ M1[k]? = some (.lst ds) ∧ (n : Int) < 2 ^ 63 ∧ ds[n]? = some y ∧ P y (M1.set k (.lst (ds.eraseIdx n)))
@[simp] def lLstR (t : DE) : DA := fun ρ M P => t ρ M fun x M1 => ∃ n : Nat, x = .int n ∧ n ≤ 1000 ∧ P (dI ((List.range n).map fun (i : Nat) => (i : Int))) M1
@[simp] def sBuild2 (i j : Nat) (tl : DA) (t rest : DS) : DS := fun De ρ M => tl ρ M fun ds0 M1 => t { nx := (fun ρ' M' => ∃ M4 ds, M' = M4 ++ [MO.lst ds] ∧ M4.length = (M1 ++ [MO.lst ds0]).length ∧ apartM (M1 ++ [MO.lst ds0]).length M4 = true ∧ apartA (M1 ++ [MO.lst ds0]).length ds = true ∧ (ρ'[j]? = some (some (D.mu (M1 ++ [MO.lst ds0]).length))) ∧ cutE M1.length (rest De) ((clean (M1 ++ [MO.lst ds0]).length ρ').set j (some (.lst ds))) M4), rt := cutR (M1 ++ [MO.lst ds0]).length (cutR M1.length De.rt), bk := cutE (M1 ++ [MO.lst ds0]).length (cutE M1.length De.bk), ct := cutE (M1 ++ [MO.lst ds0]).length (cutE M1.length De.ct) } ((ρ.set i (some (.mu M1.length))).set j (some (.mu (M1 ++ [MO.lst ds0]).length))) (M1 ++ [.lst ds0] ++ [.lst []])
end Pd
set_option Elab.async false
set_option linter.all false
namespace Pd
open PySem PySem.Spec PyProof.Rows L2
end Pd
set_option Elab.async false
set_option linter.all false
namespace Pd
open PySem PySem.Spec PyProof.Rows L2
end Pd
set_option Elab.async false
set_option linter.all false
namespace Pd
open PySem PySem.Spec PyProof.Rows L2
@[simp] def oNeM : D2 := fun x y M P => ∃ k ds, x = .mu k ∧ M[k]? = some (.lst ds) ∧ okD (.lst ds) = true ∧ okD y = true ∧ P (.bl (!eqD (.lst ds) y)) M
@[simp] def oEqM : D2 := fun x y M P => ∃ k ds, x = .mu k ∧ M[k]? = some (.lst ds) ∧ okD (.lst ds) = true ∧ okD y = true ∧ P (.bl (eqD (.lst ds) y)) M
end Pd
set_option Elab.async false
set_option linter.all false
set_option maxRecDepth 100000
set_option maxHeartbeats 1000000
namespace Pd
open PySem PySem.Spec PyProof.Rows L2
section
variable {X : Cx} {e : Expr} {te : TE} {t : DE}
@[simp] def dRevT (t : DE) : DE := fun ρ M P => t ρ M fun d M1 => ∃ ds, d = .tup ds ∧ P (.tup ds.reverse) M1
end
@[simp] def oNotB : D2 := fun x y M P => ∃ a b, x = .bl a ∧ y = .bl b ∧ P (.bl (a != b)) M
end Pd
set_option Elab.async false
set_option linter.all false
set_option maxRecDepth 100000
set_option maxHeartbeats 3200000
namespace Pd
open PySem PySem.Spec PyProof.Rows L2
/-- min of plain data that can be compared: one of the least -/
structure MinOk (rows : List D) : Prop where
  ne : rows ≠ []
  pl : plainA rows = true
  al : PySem.W.AlikeAll (toPA rows)
  dp : PyData.depthAll (toPA rows) ≤ 60
@[simp] def oMinD : DC := fun ds M P => ∃ rows : List D, ds = [.lst rows] ∧ MinOk rows ∧ ∀ d ∈ rows, (∀ c ∈ rows, PySem.W.dataLt (toP c) (toP d) = false) → P d M
end Pd
set_option Elab.async false
set_option linter.all false
set_option maxRecDepth 100000
set_option maxHeartbeats 3200000
namespace Pd
open PySem PySem.Spec PyProof.Rows L2
section
variable {X : Cx} {e o : Expr} {t td te : DE} {pos p : Pos}
@[simp] def dTCnt (td te : DE) : DE := fun ρ M P => td ρ M fun d M1 => ∃ ns : List Int, d = .tfz ns ∧ te ρ M1 fun y M2 => ∃ k : Int, y = .int k ∧ P (.int ((ns.countP fun y => decide (y = k) : Nat))) M2
end
section
variable {X : Cx} {es : List Expr} {tl : DA} {pos : Pos}
@[simp] def dTupF (tl : DA) : DE := fun ρ M P => tl ρ M fun ds M1 => ∃ ns : List Int, ds = dI ns ∧ ds.length ≤ sizeLine ∧ P (.tfz ns) M1
end
end Pd
set_option Elab.async false
set_option linter.all false
set_option maxRecDepth 100000
set_option maxHeartbeats 3200000
namespace Pd
open PySem PySem.Spec PyProof.Rows L2
@[simp] def oCatF : D2 := fun x y M P => ∃ a b : List Int, x = .tfz a ∧ y = .tfz b ∧ a.length + b.length ≤ sizeLine ∧ P (.tfz (a ++ b)) M
end Pd
set_option Elab.async false
set_option linter.all false
set_option maxRecDepth 100000
set_option maxHeartbeats 2000000
namespace Pd
open PySem PySem.Spec PyProof.Rows L2 PySem.HandSPX
/-- which clause takes it, and what is told then -/
def PickCR (K : PySem.W.Frag) : List (Addr × Str × Str × Bool) → Addr → List (Str × D) → Str × D → Prop
  | [], _, _, _ => False
  | (C', word, fld, raw) :: r, C, gs, out => ∃ b, PySem.W.exmOne K (.ref C) (.ref C') = some b ∧ (b = true → C = C' ∧ ∃ y, gs.lookup fld = some y ∧ (raw = false → Shows y ∧ out = (word, .str (reprD y))) ∧ (raw = true → out = (word, y))) ∧ (b = false → PickCR K r C gs out)
@[simp] def dSaidR (K : PySem.W.Frag) (P : Addr) (lq : Str) (cl : List (Addr × Str × Str × Bool)) (dn : Str) (tb : DX) : DE := fun ρ M Pp => (∃ j : Nat, M[j]? = some (MO.tab P lq)) ∧
  tb ρ M (fun _ M1 => Pp (.lst [.str dn]) M1) (fun C gs M1 => ∃ out : Str × D, PickCR K cl C gs out ∧ Pp (.lst [.str out.1, out.2]) M1)
end Pd
set_option Elab.async false
set_option linter.all false
set_option maxRecDepth 100000
set_option maxHeartbeats 2000000
namespace Pd
open PySem PySem.Spec PyProof.Rows L2 PySem.HandSPX
@[simp] def tNeverT : DT := fun _ _ _ => False
@[simp] def tNeverE : DE := fun _ _ _ => False
end Pd
set_option Elab.async false
set_option linter.all false
set_option maxRecDepth 100000
set_option maxHeartbeats 2000000
namespace Pd
open PySem PySem.Spec PyProof.Rows L2
section
variable {X : Cx} {e : Expr} {t : DE} {pos pos2 p p2 : Pos}
@[simp] def dLenSet (t : DE) : DE := fun ρ M P => t ρ M fun d M1 => ∃ ns ms : List Int, d = .lst (dI ns) ∧ ns.length < 64 ∧ ms.Nodup ∧ (∀ k, k ∈ ms ↔ k ∈ ns) ∧ P (.int ms.length) M1
end
end Pd
set_option Elab.async false
set_option linter.all false
set_option maxRecDepth 100000
set_option maxHeartbeats 3200000
namespace Pd
open PySem PySem.Spec PyProof.Rows L2
section
variable {X : Cx} {e : Expr} {t : DE} {pos pos2 p p2 : Pos}
/-- sorted(set(e)), e a list of ints -/
@[simp] def dSortSetU (t : DE) : DE := fun ρ M P => t ρ M fun d M1 => ∃ ns : List Int, d = .tup (dI ns) ∧ ns.length < 64 ∧ ∀ ms : List Int, ms.Pairwise (· < ·) → (∀ k, k ∈ ms ↔ k ∈ ns) → P (.lst (dI ms)) M1
end
end Pd
set_option Elab.async false
set_option linter.all false
set_option maxRecDepth 100000
set_option maxHeartbeats 3200000
namespace Pd
open PySem PySem.Spec PyProof.Rows L2
section
variable {X : Cx} {k n : Nat} {C g : Addr} {fd : FuncData} {ps : List Str} {W : DC}
@[simp] def oNe2 (K : PySem.W.Frag) (C : Addr) (W : DC) : D2 := fun x y M P => ∃ (a b : D) (i : Int) (fs : List (Str × D)) (t : Value), x = .tup [a, .int i] ∧ y = .tup [b, .int i] ∧ a = .ins C fs ∧ (∃ C' gs, b = .ins C' gs) ∧ DTy K b t ∧ PySem.W.notFirst K C t = true ∧ W [a, b] M (fun z M' => z = .bl true ∧ P (.bl false) M') ∧ P (.bl false) M
end
end Pd
set_option Elab.async false
set_option linter.all false
set_option maxRecDepth 100000
set_option maxHeartbeats 3200000
namespace Pd
open PySem PySem.Spec PyProof.Rows L2
section
variable {X : Cx} {e : Expr} {t : DE} {pos pos2 p p2 : Pos}
@[simp] def dSortSetV (t : DE) : DE := fun ρ M P => t ρ M fun d M1 => ∃ rows U : List (List Int), d = .lst (rows.map tI) ∧ (∀ r ∈ rows, r ≠ [] ∧ r ∈ U) ∧ U.length + 1 < 64 ∧ ∀ ms : List (List Int), ms.Pairwise (· < ·) → (∀ k, k ∈ ms ↔ k ∈ rows) → P (.lst (ms.map tI)) M1
end
end Pd
set_option Elab.async false
set_option linter.all false
set_option maxRecDepth 100000
set_option maxHeartbeats 3200000
namespace Pd
open PySem PySem.Spec PyProof.Rows L2
def idxI (k : Int) (n : Nat) : List Nat := sliceRange (sliceBounds none none (some k) n).fst (sliceBounds none none (some k) n).snd.fst (sliceBounds none none (some k) n).snd.snd
def selI {α : Type} (k : Int) (xs : List α) : List α := (idxI k xs.length).filterMap fun i => xs[i]?
theorem RpA.at {K : PySem.W.Frag} {as : List Addr} {L : Hp} : ∀ {vs : List V} {ds : List D}, RpA K as L vs ds → ∀ {i : Nat} {v : V}, vs[i]? = some v → ∃ d, ds[i]? = some d ∧ Rp K as L v d
  | _, _, .cons r _, 0, _, h => by cases h; exact ⟨_, rfl, r⟩
  | _, _, .cons _ t, i + 1, _, h => RpA.at t (i := i) (by simpa using h)
section
variable {X : Cx} {e : Expr} {t : DE} {pos : Pos}
@[simp] def dStepL (k : Int) (t : DE) : DE := fun ρ M P => t ρ M fun d M1 => ∃ ds, d = .lst ds ∧ (idxI k ds.length).length ≤ sizeLine ∧ P (.lst (selI k ds)) M1
end
end Pd
set_option Elab.async false
set_option linter.all false
set_option maxRecDepth 100000
set_option maxHeartbeats 2000000
namespace Pd
open PySem PySem.Spec PyProof.Rows L2
theorem At.ditM {K : PySem.W.Frag} {as : List Addr} {M : Ms} {L H : Hp} {k : Nat} {a : Addr} {ks : List (List Key)} {ds : List D} (A : At K as M L H) (h : as[k]? = some a) (hm : M[k]? = some (.dit ks ds)) : ∃ vs, H a = some (.dT (ks.zip vs)) ∧ ks.length = vs.length ∧ RpA K as L vs ds := by
  obtain ⟨_, o, h1, h2, _⟩ := A.mo k a _ h hm
  cases h2 with
  | dit l r => exact ⟨_, h1, l, r⟩
theorem putK_newT {ks : List (List Key)} {xs : List V} {k : List Key} {v : V} (hl : ks.length = xs.length) (h : k ∉ ks) : putK (ks.zip xs) k v = (ks ++ [k]).zip (xs ++ [v]) := by
  unfold putK
  rw [if_neg, List.zip_append hl]
  · rfl
  · intro z
    obtain ⟨kv, hm, e⟩ := List.any_eq_true.mp z
    have e := of_decide_eq_true e
    exact h (e ▸ (List.of_mem_zip (a := kv.1) (b := kv.2) hm).1)
/-- what d[k] = v makes of a dict -/
def hasT (ks : List (List Key)) (k : List Key) : Bool := ks.any fun j => decide (j = k)
theorem hasT_iff {ks : List (List Key)} {k : List Key} : hasT ks k = true ↔ k ∈ ks := by
  unfold hasT
  rw [List.any_eq_true]
  exact ⟨fun ⟨j, h, e⟩ => of_decide_eq_true e ▸ h, fun h => ⟨k, h, decide_eq_true rfl⟩⟩
def putMT (ks : List (List Key)) (ds : List D) (k : List Key) (v : D) : MO := if hasT ks k = true then .dit ks (List.zipWith (fun j x => if j = k then v else x) ks ds) else .dit (ks ++ [k]) (ds ++ [v])
theorem put_roT {K : PySem.W.Frag} {as : List Addr} {L : Hp} {k : List Key} {v : V} {d : D} (rv : Rp K as L v d) {ks : List (List Key)} {vs : List V} {ds : List D} (hl : ks.length = vs.length) (r : RpA K as L vs ds) : Ro K as L (.dT (putK (ks.zip vs) k v)) (putMT ks ds k d) := by
  unfold putMT
  by_cases h' : hasT ks k = true
  · rw [if_pos h']
    have h := hasT_iff.mp h'
    clear h'
    have e : putK (ks.zip vs) k v = ks.zip (List.zipWith (fun j x => if j = k then v else x) ks vs) := by
      unfold putK
      rw [if_pos]
      · clear r h
        induction ks generalizing vs with
        | nil => rfl
        | cons j ks ih =>
          cases vs with
          | nil => cases hl
          | cons x vs =>
            rw [List.zip_cons_cons, List.map_cons, ih (by simpa using hl), List.zipWith_cons_cons, List.zip_cons_cons]
            by_cases e : j = k
            · simp only [e, if_true]
            · simp only [e, if_false]
      · obtain ⟨i, hi, rfl⟩ := List.getElem_of_mem h
        refine List.any_eq_true.mpr ⟨(ks[i], vs[i]'(by omega)), ?_, by simp⟩
        rw [← List.getElem_zip (h := by rw [List.length_zip]; omega)]
        exact List.getElem_mem _
    rw [e]
    refine .dit (by rw [List.length_zipWith, hl, Nat.min_self]) ?_
    clear e h
    induction ks generalizing vs ds with
    | nil => cases vs <;> cases ds <;> first | exact .nil | cases hl
    | cons j ks ih =>
      cases r with
      | nil => cases hl
      | cons r1 r2 =>
        rw [List.zipWith_cons_cons, List.zipWith_cons_cons]
        refine .cons ?_ (ih (by simpa using hl) r2)
        by_cases e : j = k
        · rw [if_pos e, if_pos e]; exact rv
        · rw [if_neg e, if_neg e]; exact r1
  · rw [if_neg h', putK_newT hl fun h => h' (hasT_iff.mpr h)]
    refine .dit (by rw [List.length_append, List.length_append, hl]; rfl) ?_
    exact r.append (.cons rv .nil)
/-- the thing that statements begin with is locked -/
def uFrzT (t : TS) : TS := fun D σ H => ∃ a kvs, H a = some (.dT kvs) ∧ ∀ o, t D σ (upd H a (.frz o (.dT kvs)))
theorem pss_frzT {X : Cx} {sts : List Stmt} {t : TS} (h : PSs X sts t) : PSs X sts (uFrzT t) := ⟨fun pins s σ H D I ⟨a, kvs, e, q⟩ => by
  obtain ⟨o, I'⟩ := I.lock e True.intro
  exact h.run pins s σ _ D I' (q o)⟩
section
variable {K : PySem.W.Frag} {as : List Addr} {M1 : Ms} {L1 H1 : Hp} {x : Addr}
theorem dict_outT {M4 : Ms} {ks : List (List Key)} {ds : List D} {kv0 : List (List Key × V)} {L3 H3 : Hp} (A1 : At K as M1 L1 H1) (hx : H1 x = none) (s3 : Step (as ++ [x]) L1 (upd H1 x (.dT kv0)) (as ++ [x]) L3 H3) (A3 : At K (as ++ [x]) (M4 ++ [.dit ks ds]) L3 H3)
    (hl4 : M4.length = M1.length) (hap : apartA M1.length ds = true) (hapM : apartM M1.length M4 = true) : ∃ vs, H3 x = some (.dT (ks.zip vs)) ∧ ∀ o, ∃ L4, Ex L3 L4 ∧ Step as L1 H1 as L4 (upd H3 x (.frz o (.dT (ks.zip vs)))) ∧ At K as M4 L4 (upd H3 x (.frz o (.dT (ks.zip vs)))) ∧ Rp K as L4 (.ref x) (.dit ks ds) := by
  have xa : x ∉ as := fun z => (A1.held z).2 hx
  have lx : L1 x = none := lowfree A1 hx
  have e0 : ∀ b o, H1 b = some o → (upd H1 x (.dT kv0)) b = some o := fun b o e => by
    rw [upd_ne (ne_of_none e hx)]
    exact e
  have gx : (as ++ [x])[as.length]? = some x := by rw [List.getElem?_append_right (Nat.le_refl _), Nat.sub_self]; rfl
  have gm : (M4 ++ [MO.dit ks ds])[as.length]? = some (.dit ks ds) := by rw [A1.len, ← hl4, List.getElem?_append_right (Nat.le_refl _), Nat.sub_self]; rfl
  obtain ⟨xs, g1, gl, g2⟩ := A3.ditM gx gm
  have g3 : RpA K as L3 xs ds := g2.cut (by rw [A1.len]; exact hap)
  have lx3 : L3 x = none := s3.hid x lx (by rw [upd_same]; simp)
  refine ⟨xs, g1, fun ob => ⟨upd L3 x (.frz ob (.dT (ks.zip xs))), Ex.new lx3, ?_, ?_, .dit ⟨ob, upd_same⟩ gl (g3.mono (Ex.new lx3) (Pre.refl _))⟩⟩
  · refine ⟨fun b o hb e => ?_, fun b o e => ?_, fun b e e' => ?_, Pre.refl _, fun _ e => .inl e⟩
    · have hbx : b ≠ x := ne_of_none e hx
      rw [upd_ne hbx]
      refine s3.up b o (fun z => ?_) (e0 b o e)
      rcases List.mem_append.mp z with z | z
      · exact hb z
      · exact hbx (List.mem_singleton.mp z)
    · rw [upd_ne (fun z => by rw [z, lx] at e; cases e)]; exact s3.k b o e
    · have hbx : b ≠ x := fun z => e' (by rw [z]; exact hx)
      rw [upd_ne hbx]
      refine s3.hid b e ?_
      cases q2 : H1 b with
      | none => exact absurd q2 e'
      | some o => rw [e0 b o q2]; simp
  · refine ⟨fun b o e => ?_, by rw [hl4]; exact A1.len, A1.nd, fun k a m e1 e2 => ?_, A3.nt.new (fun ps z => by cases z)⟩
    · by_cases hb : b = x
      · subst hb; rw [upd_same] at e ⊢; exact e
      · rw [upd_ne hb] at e ⊢; exact A3.low b o e
    · have hk : k < as.length := (List.getElem?_eq_some_iff.mp e1).1
      obtain ⟨h5, o, h6, h7⟩ := A3.mo k a m (by rw [List.getElem?_append_left hk]; exact e1) (by rw [List.getElem?_append_left (by rw [hl4, ← A1.len]; exact hk)]; exact e2)
      have hax : a ≠ x := fun z => xa (by rw [← z]; exact List.mem_of_getElem? e1)
      exact ⟨by rw [upd_ne hax]; exact h5, o, by rw [upd_ne hax]; exact h6, (h7.1.cut (List.mem_of_getElem? e2) (by rw [A1.len]; exact hapM)).mono (Ex.new lx3) (Pre.refl _), h7.2.keep (KeepC.over g1 rfl)⟩
end
@[simp] def sBuildT (i : Nat) (t rest : DS) : DS := fun De ρ M => t { nx := (fun ρ' M' => ∃ M3 ks ds, M' = M3 ++ [MO.dit ks ds] ∧ M3.length = M.length ∧ apartM M.length M3 = true ∧ apartA M.length ds = true ∧ (ρ'[i]? = some (some (D.mu M.length))) ∧ rest De ((clean M.length ρ').set i (some (.dit ks ds))) M3), rt := cutR M.length De.rt, bk := cutE M.length De.bk, ct := cutE M.length De.ct } (ρ.set i (some (.mu M.length))) (M ++ [.dit [] []])
section
variable {X : Cx} {st : Stmt} {sts : List Stmt} {t s2 : DS} {pos p1 : Pos}
theorem pdss_buildT {i : Nat} {y : Str} {p' : Pos} (hN : X.N.Nodup) (ht : PDS X st t) (hrest : PDSs X sts s2) (hi : X.N[i]? = some y := by rfl) (hy : Loc X.env.scope y := by first | exact Or.inl rfl | exact Or.inr rfl) (hs : swapsWith (.Dict [] [] p1) (some (.Name y p')) pos.line X.env = pure false := by rfl)
    (hf : X.fn y = true ∨ X.env.scope.names.lookup y = some .local := by first | exact .inl rfl | exact .inr rfl | assumption) : PDSs X (.Assign [.Name y p'] (.Dict [] [] p1) pos :: st :: sts) (sBuildT i t s2) := by
  obtain ⟨u, pt, stt⟩ := ht.ex
  obtain ⟨ur, pr, sr⟩ := hrest.ex
  refine ⟨_, pss_cons (ps_set hN hi hy pe_dnewT hs hf) (pss_cons pt (pss_frzT pr)), ?_⟩
  intro as σ ρ L H M De D hE A h c x hx
  have xa : x ∉ as := fun z => (A.held z).2 hx
  have lx : L x = none := lowfree A hx
  have Ah : At X.K as M L (upd H x (.dT [])) := hid_at A hx _
  have sh : Step as L H as L (upd H x (.dT [])) := hid_step hx _
  have A2 := Ah.addM (o := .dT []) (m := .dit [] []) upd_same lx xa (.dit (ks := []) (vs := []) rfl .nil) True.intro
  have gx : (as ++ [x])[M.length]? = some x := by rw [← A.len, List.getElem?_append_right (Nat.le_refl _), Nat.sub_self]; rfl
  have E2 : En X.K (as ++ [x]) L (σ.set i (some (.ref x))) (ρ.set i (some (.mu M.length))) := (hE.mono (Ex.refl _) (pre_app _ _)).set i (.mu gx)
  have fin : ∀ {d : Rho → Ms → Prop} {v : L2.St → Hp → Prop}, EndN X.K as L H d v → EndN X.K (as ++ [x]) L (upd H x (.dT [])) (cutE M.length d) v := by
    intro d v hd σ' ρ' L' H' M' s' A' e' q
    obtain ⟨M3, m', rfl, hl, hap, q⟩ := q
    rw [← A.len] at hap q
    exact hd σ' _ L' H' M3 (sh.cutx Ah hx s') (A'.cut hap) e'.cut q
  refine stt (as ++ [x]) _ _ L (upd H x (.dT [])) _ _ _ E2 A2 h ⟨?_, fun v d L' H' M' s' A' q rv => ?_, fin c.bk, fin c.ct⟩
  · intro σ' ρ' L' H' M' s' A' e' q
    obtain ⟨M3, ks, ds, rfl, hl, hap, hapd, hmu, q⟩ := q
    obtain ⟨vs, g1, out⟩ := dict_outT A hx s' A' hl hapd hap
    refine ⟨x, _, g1, fun o => ?_⟩
    obtain ⟨L4, x4, s4, A4, r4⟩ := out o
    obtain ⟨v, hv, rv⟩ := e'.at_ i _ hmu
    have ev : v = .ref x := by
      cases rv with
      | mu hk => rw [gx] at hk; cases hk; rfl
    subst ev
    have same : σ'.set i (some (.ref x)) = σ' := by
      apply List.ext_getElem?
      intro j
      rw [List.getElem?_set]
      split
      · rename_i e; subst e
        split
        · exact hv.symm
        · rename_i hlt; exact absurd (List.getElem?_eq_some_iff.mp hv).1 hlt
      · rfl
    have e4 : En X.K as L4 σ' ((clean M.length ρ').set i (some (.dit ks ds))) := by
      rw [← same, ← A.len]
      exact (e'.cut.mono x4 (Pre.refl _)).set i r4
    exact sr as σ' _ L4 _ M3 De D e4 A4 q (c.step s4 A4)
  · obtain ⟨M3, m', rfl, hl, hap, hd, q⟩ := q
    rw [← A.len] at hap hd
    exact c.rt v d L' H' M3 (sh.cutx Ah hx s') (A'.cut hap) q (rv.cut hd)
end
theorem rp_getTn {ns : List Int} : ∀ {ks : List (List Key)} {vs : List V} {ds : List D}, vs.length = ds.length → ditGet ks ds ns = none → valV (ks.zip vs) (kI ns) = none
  | [], _, _, _, _ => by unfold valV; rfl
  | _ :: _, [], _, _, _ => by unfold valV; rfl
  | _ :: _, _ :: _, [], h, _ => by cases h
  | k :: ks, v :: vs, d :: ds, hl, h => by
    unfold ditGet at h
    unfold valV
    rw [List.zip_cons_cons] at h ⊢
    by_cases e : k = kI ns
    · rw [List.find?_cons_of_pos (by simpa using e)] at h
      cases h
    · rw [List.find?_cons_of_neg (by simpa using e)] at h ⊢
      exact rp_getTn (ks := ks) (by simpa using hl) h
section
variable {X : Cx}
theorem d_setdT {pins : List (Addr × Obj)} {σ : L2.St} {H : Hp} {s : Shared} {E : Value → Shared → Prop} {a b : Addr} {kvs : List (List Key × V)} {ns : List Int} {d : V} {r : Value} {Q : Value → Shared → Prop} (hu : X.A.units + 1 < cLine) (I : Inv X pins σ H s)
    (ha : H a = some (.dT kvs)) (hb : H b = some (.tup (ns.map V.int))) (rd : RelV d r) (hl : kvs.length < sizeLine)
    (h1 : ∀ v, valV kvs (kI ns) = some v → ∀ (w' : Value) (s' : Shared), Inv X pins σ H s' → RelV v w' → Q w' s')
    (h2 : valV kvs (kI ns) = none → ∀ (w' : Value) (s' : Shared), Inv X pins σ (upd H a (.dT (putK kvs (kI ns) d))) s' → RelV d w' → Q w' s') :
    wpAny (model X.prog X.w) X.A (call (.builtin "dict.setdefault") [.ref a, .ref b, r]) Q E s := by
  rw [← kI_V] at hb
  obtain ⟨z, nsys, xs, rel, dd⟩ := dt_of I.hok ha
  have few : xs.length ≤ sizeLine := (Paired.length rel) ▸ z
  have more : (putK kvs (kI ns) d).length ≤ sizeLine := Nat.le_trans (length_putK kvs (kI ns) d) hl
  refine call_setdefault_heap (knd := tupleKind (mixKind X.prog X.w)) (k := kI ns) (hsz := few) (tupleKind_room_in1 hu) (key_of I.hok hb) nsys dd (fun p hp => ?_) fun hn h' now sb => ?_
  · have q := rel.val (kI ns)
    rw [hp] at q
    cases q0 : valV kvs (kI ns) with
    | none =>
      rw [q0] at q
      exact (show False from q).elim
    | some v0 =>
      rw [q0] at q
      exact h1 v0 q0 _ _ (I.tok _) q
  · have q := rel.val (kI ns)
    rw [hn] at q
    cases q0 : valV kvs (kI ns) with
    | some v0 =>
      rw [q0] at q
      exact (show False from q).elim
    | none =>
      obtain ⟨ob, es, ep, h0, c1, c2, c3, _, c5⟩ := now
      refine h2 q0 _ _ (d_write I (by rw [ha]; trivial) sb ⟨ob, h0⟩ ⟨more, nsys, _, ?_, ob, es, ep, h0, c1, c2, c3, c5⟩) rd
      exact (rel.put (kI ns) hb rd).keeps fun c ys ec => by rw [upd_ne (ne_of ec ha (fun z => nomatch z))]; exact ec
def tDSetdT (td ty tx : TE) : TE := fun σ H Q => td σ H fun x H1 => ∃ a, x = .ref a ∧ IsD H1 a ∧ ty σ H1 fun y H2 => tx σ H2 fun z H3 => ∃ (kvs : List (List Key × V)) (ns : List Int) (b : Addr), H3 a = some (.dT kvs) ∧ y = .ref b ∧ H3 b = some (.tup (ns.map V.int)) ∧ kvs.length < sizeLine ∧
  (∀ v, valV kvs (kI ns) = some v → Q v H3) ∧ (valV kvs (kI ns) = none → Q z (upd H3 a (.dT (putK kvs (kI ns) z))))
theorem pe_dsetdT {o e f : Expr} {td ty tx : TE} {apos cpos : Pos} (hu : X.A.units + 1 < cLine) (ho : PE X o td) (he : PE X e ty) (hf : PE X f tx) (m : M2 X o "setdefault" apos e f cpos) : PE X (.Call (.Attribute o "setdefault" apos) [e, f] [] cpos) (tDSetdT td ty tx) := by
  refine ⟨fun pins s σ H Q I h => ?_⟩
  refine wpAny_Call_method m.base m.few m.line PySem.F.plainAttrs_dict PySem.F.slot_dict_setdefault PySem.F.type_dict_setdefault (thn (ho.run pins s σ H _ I h) fun u s1 ⟨x, H1, I1, rx, a, ex, d, q1⟩ => ?_)
  subst ex
  obtain rfl : u = Value.ref a := rx
  obtain ⟨t1, t2, _⟩ := isD_at I1 d
  refine ⟨t1, t2, ?_⟩
  rw [m.trees]
  refine Calls.callWith_builtin rfl (Calls.evalArgs_plain (Calls.spliced_cons (thn (he.run pins s1 σ H1 _ I1 q1) fun iv s2 ⟨y, H2, I2, ry, q2⟩ =>
    Calls.spliced_cons (thn (hf.run pins s2 σ H2 _ I2 q2) fun fv s3 ⟨z, H3, I3, rz, kvs, ns, b, ea, ey, eb, hl, q3, q4⟩ => Calls.spliced_nil ?_))))
  subst ey
  obtain rfl : iv = Value.ref b := ry
  exact d_setdT hu I3 ea eb rz hl (fun v hv w' s4 I4 rw' => ⟨v, _, I4, rw', q3 v hv⟩) fun hn w' s4 I4 rw' => ⟨z, _, I4, rw', q4 hn⟩
@[simp] def dSetdT (td tx tf : DE) : DE := fun ρ M P => td ρ M fun d M1 => ∃ k : Nat, d = .mu k ∧ (∃ ks ds, M1[k]? = some (.dit ks ds)) ∧ tx ρ M1 fun y M2 => ∃ ns : List Int, y = .lst (dI ns) ∧ tf ρ M2 fun z M3 => ∃ ks ds, M3[k]? = some (.dit ks ds) ∧ ks.length < sizeLine ∧
  (∀ v, ditGet ks ds ns = some v → P v M3) ∧ (ditGet ks ds ns = none → P z (M3.set k (putMT ks ds (kI ns) z)))
theorem pd_dsetdT {o x f : Expr} {td tx tf : DE} {apos cpos p2 pos2 : Pos} (hu : X.A.units + 1 < cLine) (ho : PD X o td) (hx : PD X x tx) (hf : PD X f tf) (hg2 : Gl X "tuple") (hm2 : X.mg "tuple" = none)
    (h1 : attributeBase o "setdefault" X.env (eval o X.env) = eval o X.env := by rfl)
    (h2 : (((backTo cpos (starEach [.Call (.Name "tuple" p2) [x] [] pos2, f] X.env)).all fun x => !x.1) && ((backToKw cpos (keywordEach [] X.env)).all fun x => x.1.isSome) && decide (([.Call (.Name "tuple" p2) [x] [] pos2, f] : List Expr).length + ([] : List Keyword).length + (if ([] : List Keyword).isEmpty = true then 0 else 1) < 30)) = true := by rfl)
    (h3 : (apos.endLine == cpos.line) = true := by rfl) (h4 : backTo cpos (starEach [.Call (.Name "tuple" p2) [x] [] pos2, f] X.env) = [(false, eval (.Call (.Name "tuple" p2) [x] [] pos2) X.env), (false, eval f X.env)] := by rfl)
    (hst : starEach [x] X.env = (false, eval x X.env) :: starEach [] X.env := by rfl) :
    PD X (.Call (.Attribute o "setdefault" apos) [.Call (.Name "tuple" p2) [x] [] pos2, f] [] cpos) (dSetdT td tx tf) := by
  obtain ⟨u1, p1, s1⟩ := ho.ex
  obtain ⟨u2, q2, s2⟩ := hx.ex
  obtain ⟨u3, p3, s3⟩ := hf.ex
  refine ⟨_, pe_dsetdT hu p1 (pe_callTy call_tuple_of hg2 hm2 (by decide +kernel) (pa_cons q2 pa_nil hst) (by decide) (by decide) hst (by rfl)) p3 ⟨h1, h2, h3, h4⟩, ?_⟩
  intro as σ ρ L H M P Q hE A hh q
  refine s1 as σ ρ L H M _ _ hE A hh fun v d L1 H1 M1 st1 A1 h1 r1 => ?_
  obtain ⟨k, rfl, ⟨ks0, ds0, hm0⟩, h1⟩ := h1
  cases r1 with
  | mu hk =>
    rename_i a
    obtain ⟨vs0, g0, _, _⟩ := A1.ditM hk hm0
    refine ⟨_, rfl, .inr ⟨_, .inl g0⟩, ?_⟩
    refine s2 as σ ρ L1 H1 M1 _ _ (hE.mono st1.k st1.pre) A1 h1 fun y dy L2 H2 M2 st2 A2 h2 r2 => ?_
    obtain ⟨ns, rfl, h2⟩ := h2
    cases r2 with
    | lst hs ra =>
      have ev := RpA.ints ra
      subst ev
      refine ⟨_, _, rfl, .inl ⟨ex_l A2.low hs, fun b hb => ?_⟩⟩
      have stb := Step.know (o := .tup (ns.map V.int)) A2 hb
      have Ab := A2.know (o := .tup (ns.map V.int)) hb (fun ps z => by cases z)
      have st12 := st1.trans A1 st2
      have st1b := st12.trans A2 stb
      refine s3 as σ ρ _ _ M2 _ _ (hE.mono st1b.k st1b.pre) Ab h2 fun z dz L3 H3 M3 st3 A3 h3 r3 => ?_
      obtain ⟨ks, ds, hm, hlt, pa, pb⟩ := h3
      obtain ⟨vs, g1, gl, g2⟩ := A3.ditM hk hm
      have hb3 : H3 b = some (.tup (ns.map V.int)) := A3.low _ _ (st3.k _ _ upd_same)
      have st13 := st1b.trans Ab st3
      refine ⟨_, ns, b, g1, rfl, hb3, by rw [List.length_zip]; omega, fun v hv => ?_, fun hn => ?_⟩
      · cases hd : ditGet ks ds ns with
        | none =>
          have := rp_getTn (ks := ks) (vs := vs) g2.length hd
          rw [this] at hv; cases hv
        | some d0 =>
          obtain ⟨v', e1, e2⟩ := rp_getT (ks := ks) g2 hd
          rw [hv] at e1
          cases e1
          exact q _ _ L3 H3 M3 st13 A3 (pa _ hd) e2
      · cases hd : ditGet ks ds ns with
        | some d0 =>
          obtain ⟨v', e1, e2⟩ := rp_getT (ks := ks) g2 hd
          rw [hn] at e1; cases e1
        | none => exact q _ _ L3 _ _ (st13.trans A3 (Step.put (List.mem_of_getElem? hk))) (A3.put hk (put_roT r3 gl g2)) (pb hd) r3
end
end Pd
set_option Elab.async false
set_option linter.all false
set_option maxRecDepth 100000
set_option maxHeartbeats 2000000
namespace Pd
open PySem PySem.Spec PyProof.Rows L2
theorem valV_zip {k : Key} : ∀ {ks : List Key} {vs : List V}, ks.length = vs.length → (valV (ks.zip vs) k).isSome = hasK ks k
  | [], _, _ => by unfold valV hasK; rfl
  | _ :: _, [], h => by cases h
  | j :: ks, v :: vs, h => by
    have ih := valV_zip (k := k) (ks := ks) (vs := vs) (by simpa using h)
    unfold valV hasK at *
    rw [List.zip_cons_cons, List.any_cons]
    by_cases e : j = k
    · rw [List.find?_cons_of_pos (by simpa using e), decide_eq_true e]; rfl
    · rw [List.find?_cons_of_neg (by simpa using e), decide_eq_false e, Bool.false_or]; exact ih
section
variable {X : Cx}
@[simp] def dDinM (ti to : DE) : DT := fun ρ M P => ti ρ M fun y M1 => to ρ M1 fun x M2 => ∃ (k : Nat) (ks : List Key) (ds : List D) (j : Key), x = .mu k ∧ y = keyD j ∧ M2[k]? = some (.dic ks ds) ∧ P (hasK ks j) M2
theorem pdt_dinM {i o : Expr} {ti to : DE} {pos : Pos} (hu : X.A.units + 64 < cLine) (hi : PD X i ti) (ho : PD X o to) (hm : behindInMarks .In o = false) : PDT X (.Compare i [.In] [o] pos) (dDinM ti to) := by
  obtain ⟨u1, p1, s1⟩ := hi.ex
  obtain ⟨u2, p2, s2⟩ := ho.ex
  refine ⟨_, pt_cmp (pc_din (by omega) p1 p2) hm, ?_⟩
  intro as σ ρ L H M P Q hE A h q
  refine s1 as σ ρ L H M _ _ hE A h fun y dy L1 H1 M1 t1 A1 h1 r1 => ?_
  refine s2 as σ ρ L1 H1 M1 _ _ (hE.mono t1.k t1.pre) A1 h1 fun x dx L2 H2 M2 t2 A2 h2 r2 => ?_
  obtain ⟨k, ks, ds, j, rfl, rfl, hm, p⟩ := h2
  obtain rfl := keyD_rp r1
  cases r2 with
  | mu hk =>
    rename_i a
    obtain ⟨vs, g1, gl, g2⟩ := A2.dic hk hm
    refine ⟨a, _, rfl, DGet.k g1, _, rfl, ?_⟩
    rw [valV_zip gl]
    exact q _ L2 H2 M2 (t1.trans A1 t2) A2 p
/-- d[i] = d[j] = e -/
@[simp] def sSetD2 (to ti to2 ti2 te : DE) : DS := fun De ρ M => te ρ M fun v M1 => to ρ M1 fun x M2 => ti ρ M2 fun y M3 => ∃ (k : Nat) (ks : List Key) (ds : List D) (j : Key), x = .mu k ∧ y = keyD j ∧ M3[k]? = some (.dic ks ds) ∧ ks.length < sizeLine ∧
  to2 ρ (M3.set k (putM ks ds j v)) fun x2 M4 => ti2 ρ M4 fun y2 M5 => ∃ (k2 : Nat) (ks2 : List Key) (ds2 : List D) (j2 : Key), x2 = .mu k2 ∧ y2 = keyD j2 ∧ M5[k2]? = some (.dic ks2 ds2) ∧ ks2.length < sizeLine ∧ De.nx ρ (M5.set k2 (putM ks2 ds2 j2 v))
theorem pds_setItemD2 {value o i o2 i2 : Expr} {to ti to2 ti2 tv : DE} {pos pos' pos2 : Pos} (hu : X.A.units + 64 < cLine) (he : PD X value tv) (ho : PD X o to) (hi : PD X i ti) (ho2 : PD X o2 to2) (hi2 : PD X i2 ti2)
    (ha : (assignEach [.Subscript o i pos', .Subscript o2 i2 pos2] X.env).map (·.2) = [assign (.Subscript o i pos') X.env, assign (.Subscript o2 i2 pos2) X.env] := by rfl) (hw : swappedStores [.Subscript o i pos', .Subscript o2 i2 pos2] value X.env = pure none := by rfl)
    (ha1 : (∀ v, assign (.Subscript o i pos') X.env v = (do
      let ov ← holding [v] (eval o X.env)
      let iv ← holding [v, ov] (eval i X.env)
      standAt pos'
      holding [v, ov, iv] (setItem ov iv v)
      release [v, ov, iv] [])) := by intro _; rfl)
    (ha2 : (∀ v, assign (.Subscript o2 i2 pos2) X.env v = (do
      let ov ← holding [v] (eval o2 X.env)
      let iv ← holding [v, ov] (eval i2 X.env)
      standAt pos2
      holding [v, ov, iv] (setItem ov iv v)
      release [v, ov, iv] [])) := by intro _; rfl) :
    PDS X (.Assign [.Subscript o i pos', .Subscript o2 i2 pos2] value pos) (sSetD2 to ti to2 ti2 tv) := by
  obtain ⟨u, p, s⟩ := he.ex
  obtain ⟨u1, p1, s1⟩ := ho.ex
  obtain ⟨u2, p2, s2⟩ := hi.ex
  obtain ⟨u3, p3, s3⟩ := ho2.ex
  obtain ⟨u4, p4, s4⟩ := hi2.ex
  refine ⟨_, ps_asg2 p (pg_sub p1 p2 (set_dict (by omega)) ha1) (pg_sub p3 p4 (set_dict (by omega)) ha2) ha hw, ?_⟩
  intro as σ ρ L H M De D hE A h c
  refine s as σ ρ L H M _ _ hE A h fun v d L1 H1 M1 t1 A1 h1 r1 => ?_
  refine s1 as σ ρ L1 H1 M1 _ _ (hE.mono t1.k t1.pre) A1 h1 fun x d2 L2 H2 M2 t2 A2 h2 r2 => ?_
  refine s2 as σ ρ L2 H2 M2 _ _ (hE.mono (t1.k.trans t2.k) (Pre.refl _)) A2 h2 fun y d3 L3 H3 M3 t3 A3 h3 r3 => ?_
  obtain ⟨k, ks, ds, j, rfl, rfl, hm, hlt, h4⟩ := h3
  obtain rfl := keyD_rp r3
  cases r2 with
  | mu hk =>
    rename_i a
    obtain ⟨vs, g1, gl, g2⟩ := A3.dic hk hm
    have r1' := r1.mono (t2.k.trans t3.k) (Pre.refl as)
    refine ⟨a, _, rfl, DPut.k g1 (by rw [List.length_zip]; omega), ?_⟩
    have tp := (t1.trans A1 (t2.trans A2 t3)).trans A3 (Step.put (o := .dK (putK (ks.zip vs) j v)) (List.mem_of_getElem? hk))
    have Ap := A3.put hk (put_ro (k := j) r1' gl g2)
    refine s3 as σ ρ _ _ _ _ _ (hE.mono tp.k tp.pre) Ap h4 fun x2 d5 L5 H5 M5 t5 A5 h5 r5 => ?_
    have tp5 := tp.trans Ap t5
    refine s4 as σ ρ L5 H5 M5 _ _ (hE.mono tp5.k tp5.pre) A5 h5 fun y2 d6 L6 H6 M6 t6 A6 h6 r6 => ?_
    obtain ⟨k2, ks2, ds2, j2, rfl, rfl, hm2, hlt2, h7⟩ := h6
    obtain rfl := keyD_rp r6
    cases r5 with
    | mu hk2 =>
      rename_i a2
      obtain ⟨vs2, g12, gl2, g22⟩ := A6.dic hk2 hm2
      have r1'' := r1'.mono (t5.k.trans t6.k) (Pre.refl as)
      have tp6 := tp5.trans A5 t6
      refine ⟨a2, _, rfl, DPut.k g12 (by rw [List.length_zip]; omega), ?_⟩
      exact c.nx σ ρ L6 _ _ (tp6.trans A6 (Step.put (List.mem_of_getElem? hk2))) (A6.put hk2 (put_ro r1'' gl2 g22)) (hE.mono tp6.k tp6.pre) h7
/-- sorted(d), d a known dict with ints as keys -/
@[simp] def dSortDic (t : DE) : DE := fun ρ M P => t ρ M fun d M1 => ∃ (ns : List Int) (ds : List D), d = .dic (kI ns) ds ∧ ns.length < 64 ∧ ∀ ms : List Int, ms.Perm ns → ms.Pairwise (· ≤ ·) → P (.lst (dI ms)) M1
theorem pd_sortDic {e : Expr} {t : DE} {p pos : Pos} (hc : X.calm = true) (hg : Gl X "sorted") (hm : X.mg "sorted" = none) (h : PD X e t) (hst : starEach [e] X.env = (false, eval e X.env) :: starEach [] X.env := by rfl) :
    PD X (.Call (.Name "sorted" p) [e] [] pos) (dSortDic t) := by
  obtain ⟨u, pe, s⟩ := h.ex
  refine ⟨_, pe_callB (call_sortedDI hc) hg hm (by decide +kernel) (pa_cons pe pa_nil hst) (by decide) (by decide) hst (by rfl), ?_⟩
  intro as σ ρ L H M P Q hE A hh q
  refine s as σ ρ L H M _ _ hE A hh fun v d L1 H1 M1 s1 A1 h1 r1 => ?_
  obtain ⟨ns, ds, rfl, h64, p1⟩ := h1
  cases r1 with
  | dic hd hl ra =>
    rename_i a vs
    obtain ⟨o, ho⟩ := hd
    refine ⟨a, (kI ns).zip vs, ns, rfl, .inr ⟨o, A1.low _ _ ho⟩, ?_, h64, fun ys b hp hs hb => ?_⟩
    · rw [List.map_fst_zip (by omega)]; rfl
    · have s2 := Step.know (o := .lst (ys.map V.int)) A1 hb
      have A2 := A1.know (o := .lst (ys.map V.int)) hb (fun ps z => by cases z)
      exact q _ _ _ _ M1 (s1.trans A1 s2) A2 (p1 ys hp hs) (.lst (.inl (.inl upd_same)) (rp_ints' ys))
end
@[simp] def sBuildD1 (i ik : Nat) (b : Bool) (t rest : DS) : DS := fun De ρ M => ∃ j : Key, ρ[ik]? = some (some (keyD j)) ∧ t { nx := (fun ρ' M' => ∃ M3 ks ds, M' = M3 ++ [MO.dic ks ds] ∧ M3.length = M.length ∧ apartM M.length M3 = true ∧ apartA M.length ds = true ∧ (ρ'[i]? = some (some (D.mu M.length))) ∧ rest De ((clean M.length ρ').set i (some (.dic ks ds))) M3), rt := cutR M.length De.rt, bk := cutE M.length De.bk, ct := cutE M.length De.ct } (ρ.set i (some (.mu M.length))) (M ++ [.dic [j] [.bl b]])
section
variable {X : Cx} {st : Stmt} {sts : List Stmt} {t s2 : DS} {pos p1 : Pos}
theorem pdss_buildD1 {i : Nat} (ik : Nat) {b : Bool} {y z : Str} {p' pz pc : Pos} {kc : Nat} (hN : X.N.Nodup) (ht : PDS X st t) (hrest : PDSs X sts s2) (hi : X.N[i]? = some y := by rfl) (hy : Loc X.env.scope y := by first | exact Or.inl rfl | exact Or.inr rfl) (hs : swapsWith (.Dict [some (.Name z pz)] [.Constant (.bool b) kc pc] p1) (some (.Name y p')) pos.line X.env = pure false := by rfl)
    (hk : PE X (.Name z pz) (tVar ik)) (hf : X.fn y = true ∨ X.env.scope.names.lookup y = some .local := by first | exact .inl rfl | exact .inr rfl | assumption) : PDSs X (.Assign [.Name y p'] (.Dict [some (.Name z pz)] [.Constant (.bool b) kc pc] p1) pos :: st :: sts) (sBuildD1 i ik b t s2) := by
  obtain ⟨u, pt, stt⟩ := ht.ex
  obtain ⟨ur, pr, sr⟩ := hrest.ex
  refine ⟨_, pss_cons (ps_set hN hi hy (pe_disp (pps_cons hk pe_bl pps_nil) rfl rfl (by simp) (by show 1 ≤ 15; decide)) hs hf) (pss_cons pt (pss_frz pr)), ?_⟩
  intro as σ ρ L H M De D hE A h c x hx
  obtain ⟨j, hj, h⟩ := h
  obtain ⟨vk, hvk, rvk⟩ := hE.at_ ik _ hj
  obtain rfl := keyD_rp rvk
  refine ⟨_, hvk, upd_same, [(j, .bl b)], rfl, (by show 1 ≤ 15; decide), ?_⟩
  rw [upd_upd]
  have em : mergeK [] [(j, V.bl b)] = [(j, V.bl b)] := rfl
  rw [em]
  have xa : x ∉ as := fun z => (A.held z).2 hx
  have lx : L x = none := lowfree A hx
  have Ah : At X.K as M L (upd H x (.dK [(j, V.bl b)])) := hid_at A hx _
  have sh : Step as L H as L (upd H x (.dK [(j, V.bl b)])) := hid_step hx _
  have A2 := Ah.addM (o := .dK [(j, V.bl b)]) (m := .dic [j] [.bl b]) upd_same lx xa (.dic (ks := [j]) (vs := [V.bl b]) rfl (.cons (.bl b) .nil)) True.intro
  have gx : (as ++ [x])[M.length]? = some x := by rw [← A.len, List.getElem?_append_right (Nat.le_refl _), Nat.sub_self]; rfl
  have E2 : En X.K (as ++ [x]) L (σ.set i (some (.ref x))) (ρ.set i (some (.mu M.length))) := (hE.mono (Ex.refl _) (pre_app _ _)).set i (.mu gx)
  have fin : ∀ {d : Rho → Ms → Prop} {v : L2.St → Hp → Prop}, EndN X.K as L H d v → EndN X.K (as ++ [x]) L (upd H x (.dK [(j, V.bl b)])) (cutE M.length d) v := by
    intro d v hd σ' ρ' L' H' M' s' A' e' q
    obtain ⟨M3, m', rfl, hl, hap, q⟩ := q
    rw [← A.len] at hap q
    exact hd σ' _ L' H' M3 (sh.cutx Ah hx s') (A'.cut hap) e'.cut q
  refine stt (as ++ [x]) _ _ L (upd H x (.dK [(j, V.bl b)])) _ _ _ E2 A2 h ⟨?_, fun v d L' H' M' s' A' q rv => ?_, fin c.bk, fin c.ct⟩
  · intro σ' ρ' L' H' M' s' A' e' q
    obtain ⟨M3, ks, ds, rfl, hl, hap, hapd, hmu, q⟩ := q
    obtain ⟨vs, g1, out⟩ := dict_out A hx s' A' hl hapd hap
    refine ⟨x, _, g1, fun o => ?_⟩
    obtain ⟨L4, x4, s4, A4, r4⟩ := out o
    obtain ⟨v, hv, rv⟩ := e'.at_ i _ hmu
    have ev : v = .ref x := by
      cases rv with
      | mu hk => rw [gx] at hk; cases hk; rfl
    subst ev
    have same : σ'.set i (some (.ref x)) = σ' := by
      apply List.ext_getElem?
      intro j
      rw [List.getElem?_set]
      split
      · rename_i e; subst e
        split
        · exact hv.symm
        · rename_i hlt; exact absurd (List.getElem?_eq_some_iff.mp hv).1 hlt
      · rfl
    have e4 : En X.K as L4 σ' ((clean M.length ρ').set i (some (.dic ks ds))) := by
      rw [← same, ← A.len]
      exact (e'.cut.mono x4 (Pre.refl _)).set i r4
    exact sr as σ' _ L4 _ M3 De D e4 A4 q (c.step s4 A4)
  · obtain ⟨M3, m', rfl, hl, hap, hd, q⟩ := q
    rw [← A.len] at hap hd
    exact c.rt v d L' H' M3 (sh.cutx Ah hx s') (A'.cut hap) q (rv.cut hd)
end
end Pd
set_option Elab.async false
set_option linter.all false
set_option maxRecDepth 100000
set_option maxHeartbeats 2000000
namespace Pd
open PySem PySem.Spec PyProof.Rows L2
section
variable {X : Cx} {e : Expr} {t : DE} {pos pos2 p p2 : Pos}
def rLenT (K : PySem.W.Frag) (P : Program) (w : World) : List V → Hp → VK → Prop := fun vs H Q => ∃ (a : Addr) (L : List (Addr × List Int)), vs = [V.ref a] ∧ H a = some (SetTO P w a L) ∧ (∀ q ∈ L, SqT K H q.1 (q.2.map V.int)) ∧ ((L.map fun q => q.2).Nodup → Q (.int L.length) H)
theorem cr_lenT : CallR X (.builtin "len") (rLenT X.K X.prog X.w) := by
  intro pins s σ H vs us Q I r h
  obtain ⟨a, L, rfl, ha, hk, q⟩ := h
  have R0 : SetT0 X.prog X.w s.heap a L := (I.hok a _ ha).1
  obtain ⟨es, ep, t, R⟩ := R0.full fun x hx => I.isT (hk x hx)
  obtain ⟨u, rfl, rx⟩ := vals1 r
  cases (show u = Value.ref a from rx)
  obtain ⟨o, ho, hex, hd⟩ := R.ob
  have hs := R.size
  have few := R.few
  refine call_len_set ho hex hd R.fits (by omega) ⟨.int L.length, H, I.tok _, ⟨_, by rw [hs]⟩, q R.nd⟩
@[simp] def dLenSetT (t : DE) : DE := fun ρ M P => t ρ M fun d M1 => ∃ rows U : List (List Int), d = .lst (rows.map tI) ∧ (∀ r ∈ rows, r ∈ U) ∧ U.length + 1 < 64 ∧ ∀ ms : List (List Int), ms.Nodup → (∀ k, k ∈ ms ↔ k ∈ rows) → P (.int ms.length) M1
theorem pd_lenSetT (hc : X.calm = true) (hu : X.A.units + 64 < cLine) (hg : Gl X "len") (hm : X.mg "len" = none) (hg2 : Gl X "set") (hm2 : X.mg "set" = none) (h : PD X e t) (hst : starEach [e] X.env = (false, eval e X.env) :: starEach [] X.env := by rfl) (hst2 : starEach [.Call (.Name "set" p2) [e] [] pos2] X.env = (false, eval (.Call (.Name "set" p2) [e] [] pos2) X.env) :: starEach [] X.env := by rfl) :
    PD X (.Call (.Name "len" p) [.Call (.Name "set" p2) [e] [] pos2] [] pos) (dLenSetT t) := by
  obtain ⟨u, pe, s⟩ := h.ex
  refine ⟨_, pe_callB cr_lenT hg hm (by decide +kernel) (pa_cons (pe_callTy (call_setM hc hu) hg2 hm2 (by decide +kernel) (pa_cons pe pa_nil hst) (by decide) (by decide) hst (by rfl)) pa_nil hst2) (by decide) (by decide) hst2 (by rfl), ?_⟩
  intro as σ ρ L H M P Q hE A hh q
  refine s as σ ρ L H M _ _ hE A hh fun v d L1 H1 M1 s1 A1 h1 r1 => ?_
  obtain ⟨rows, U, rfl, hr, h64, p1⟩ := h1
  cases r1 with
  | lst hs ra =>
    obtain ⟨ks, rfl, rfl, hk⟩ := RpA.tups ra
    have hkr : ∀ q ∈ ks, q.2 ∈ U := fun q hq => hr _ (List.mem_map.mpr ⟨q, hq, rfl⟩)
    refine ⟨_, ks, U, rfl, ex_l A1.low hs, fun x hx => ex_t A1.low (hk x hx), ⟨h64, fun x hx => hkr x hx⟩, fun a S ha s1' s2' => ?_⟩
    have a2 := Step.know (o := SetTO X.prog X.w a S) A1 ha
    have A2 := A1.know (o := SetTO X.prog X.w a S) ha (fun ps z => by cases z)
    refine ⟨a, S, rfl, upd_same, fun x hx => ex_t A2.low (ex_t a2.k (hk x (s1' x hx))), fun nd => ?_⟩
    have e := p1 (S.map fun q => q.2) nd fun k => by
      constructor
      · intro h
        obtain ⟨x, hx, rfl⟩ := List.mem_map.mp h
        exact List.mem_map.mpr ⟨x, s1' x hx, rfl⟩
      · intro h
        obtain ⟨x, hx, rfl⟩ := List.mem_map.mp h
        exact s2' x hx
    rw [List.length_map] at e
    exact q _ _ _ _ M1 (s1.trans A1 a2) A2 e (.int _)
end
end Pd
set_option Elab.async false
set_option linter.all false
set_option maxRecDepth 100000
set_option maxHeartbeats 1000000
namespace Pd
open PySem PySem.Spec PyProof.Rows L2
@[simp] def oInM : D2 := fun x y M P => ∃ k ds, y = .mu k ∧ M[k]? = some (.lst ds) ∧ okD x = true ∧ okD (.lst ds) = true ∧ (toP x).depth ≤ 60 ∧ P (.bl (ds.any fun z => eqD z x)) M
@[simp] def oNinM : D2 := fun x y M P => ∃ k ds, y = .mu k ∧ M[k]? = some (.lst ds) ∧ okD x = true ∧ okD (.lst ds) = true ∧ (toP x).depth ≤ 60 ∧ P (.bl (!ds.any fun z => eqD z x)) M
end Pd
set_option Elab.async false
set_option linter.all false
set_option maxRecDepth 100000
set_option maxHeartbeats 2000000
namespace Pd
open PySem PySem.Spec PyProof.Rows L2
section
variable {X : Cx}
/-- tuple(e), e a list of ints -/
@[simp] def dTupN (t : DE) : DE := fun ρ M P => t ρ M fun d M1 => ∃ ns : List Int, d = .lst (dI ns) ∧ P (.tnw ns) M1
theorem pd_tupN {e : Expr} {t : DE} {p pos : Pos} (h : PD X e t) (hg : Gl X "tuple") (hm : X.mg "tuple" = none) (hst : starEach [e] X.env = (false, eval e X.env) :: starEach [] X.env := by rfl) :
    PD X (.Call (.Name "tuple" p) [e] [] pos) (dTupN t) := by
  obtain ⟨u, pe, s⟩ := h.ex
  refine ⟨_, pe_callTy call_tuple_of hg hm (by decide +kernel) (pa_cons pe pa_nil hst) (by decide) (by decide) hst (by rfl), ?_⟩
  intro as σ ρ L H M P Q hE A hh q
  refine s as σ ρ L H M _ _ hE A hh fun v d L1 H1 M1 s1 A1 h1 r1 => ?_
  obtain ⟨ns, rfl, p1⟩ := h1
  cases r1 with
  | lst hs ra =>
    have ev := RpA.ints ra
    subst ev
    refine ⟨_, _, rfl, .inl ⟨ex_l A1.low hs, fun b hb => ?_⟩⟩
    exact q _ _ _ _ M1 (s1.trans A1 (Step.know (o := .tup (ns.map V.int)) A1 hb)) (A1.know (o := .tup (ns.map V.int)) hb (fun ps z => by cases z)) p1 (.tnw upd_same)
/-- a dict with tuples of ints as keys, known or being filled -/
def DitOf (M : Ms) (x : D) (ks : List (List Key)) (ds : List D) : Prop := x = .dit ks ds ∨ ∃ j, x = .mu j ∧ M[j]? = some (.dit ks ds)
theorem dit_of {K : PySem.W.Frag} {as : List Addr} {M : Ms} {L H : Hp} {v : V} {x : D} {ks : List (List Key)} {ds : List D} (A : At K as M L H) (r : Rp K as L v x) (h : DitOf M x ks ds) :
    ∃ a vs, v = .ref a ∧ Rd H a (.dT (ks.zip vs)) ∧ ks.length = vs.length ∧ RpA K as L vs ds := by
  rcases h with rfl | ⟨j, rfl, hj⟩
  · cases r with
    | dit hf hl ra =>
      obtain ⟨o, hf⟩ := hf
      exact ⟨_, _, rfl, .inr ⟨o, A.low _ _ hf⟩, hl, ra⟩
  · cases r with
    | mu ha =>
      obtain ⟨vs, g1, gl, g2⟩ := A.ditM ha hj
      exact ⟨_, vs, rfl, .inl g1, gl, g2⟩
theorem dget_tnw {K : PySem.W.Frag} {as : List Addr} {M : Ms} {L H : Hp} {a : Addr} {v : V} {ns : List Int} {kvs : List (List Key × V)} (A : At K as M L H) (e : Rd H a (.dT kvs)) (r : Rp K as L v (.tnw ns)) : DGet H a v (valV kvs (kI ns)) := by
  cases r with
  | tnw hb => exact .inr ⟨kvs, kI ns, _, e, rfl, by rw [kI_V]; exact A.low _ _ hb, rfl⟩
/-- d[k] -/
@[simp] def dGetN (td ty : DE) : DE := fun ρ M P => td ρ M fun x M1 => ty ρ M1 fun y M2 => ∃ ks ds ns d, DitOf M2 x ks ds ∧ y = .tnw ns ∧ ditGet ks ds ns = some d ∧ P d M2
/-- k in d, k not in d -/
@[simp] def dInN (neg : Bool) (ty td : DE) : DT := fun ρ M P => ty ρ M fun y M1 => td ρ M1 fun x M2 => ∃ ks ds ns, DitOf M2 x ks ds ∧ y = .tnw ns ∧ P (if neg then !(ditGet ks ds ns).isSome else (ditGet ks ds ns).isSome) M2
/-- d[k] = v -/
@[simp] def sSetN (to ti te : DE) : DS := fun De ρ M => te ρ M fun v M1 => to ρ M1 fun x M2 => ti ρ M2 fun y M3 => ∃ (k : Nat) (ks : List (List Key)) (ds : List D) (ns : List Int), x = .mu k ∧ y = .tnw ns ∧ M3[k]? = some (.dit ks ds) ∧ ks.length < sizeLine ∧ De.nx ρ (M3.set k (putMT ks ds (kI ns) v))
/-- d.get(k) -/
@[simp] def dGet1N (td ty : DE) : DE := fun ρ M P => td ρ M fun x M1 => (∃ ks ds, DitOf M1 x ks ds) ∧ ty ρ M1 fun y M2 => ∃ ks ds ns, DitOf M2 x ks ds ∧ y = .tnw ns ∧ P ((ditGet ks ds ns).getD .non) M2
theorem pd_get1N {o e : Expr} {apos cpos : Pos} {td ty : DE} (hu : X.A.units + 64 < cLine) (ho : PD X o td) (he : PD X e ty) (h1 : attributeBase o "get" X.env (eval o X.env) = eval o X.env := by rfl)
    (h2 : (((backTo cpos (starEach [e] X.env)).all fun x => !x.1) && ((backToKw cpos (keywordEach [] X.env)).all fun x => x.1.isSome) && decide ([e].length + ([] : List Keyword).length + (if ([] : List Keyword).isEmpty = true then 0 else 1) < 30)) = true := by rfl)
    (h3 : (apos.endLine == cpos.line) = true := by rfl) (h4 : backTo cpos (starEach [e] X.env) = [(false, eval e X.env)] := by rfl) :
    PD X (.Call (.Attribute o "get" apos) [e] [] cpos) (dGet1N td ty) := by
  obtain ⟨u1, p1, s1⟩ := ho.ex
  obtain ⟨u2, p2, s2⟩ := he.ex
  refine ⟨_, pe_dget1 (by omega) p1 p2 ⟨h1, h2, h3, h4⟩, ?_⟩
  intro as σ ρ L H M P Q hE A hh q
  refine s1 as σ ρ L H M _ _ hE A hh fun v d L1 H1 M1 st1 A1 h1 r1 => ?_
  obtain ⟨⟨ks0, ds0, hx0⟩, h1⟩ := h1
  obtain ⟨a, vs0, rfl, rd0, _, _⟩ := dit_of A1 r1 hx0
  refine ⟨_, rfl, .inr ⟨_, rd0⟩, ?_⟩
  refine s2 as σ ρ L1 H1 M1 _ _ (hE.mono st1.k st1.pre) A1 h1 fun y dy L2 H2 M2 st2 A2 h2 r2 => ?_
  obtain ⟨ks, ds, ns, hx, rfl, p⟩ := h2
  obtain ⟨a', vs, ea, rd, hl, ra⟩ := dit_of A2 (r1.mono st2.k st2.pre) hx
  cases ea
  refine ⟨_, dget_tnw A2 rd r2, ?_⟩
  cases hd : ditGet ks ds ns with
  | none =>
    rw [rp_getTn (ks := ks) (vs := vs) ra.length hd]
    rw [hd] at p
    exact q _ _ L2 H2 M2 (st1.trans A1 st2) A2 p .non
  | some d0 =>
    obtain ⟨w, hw, rw'⟩ := rp_getT (ks := ks) ra hd
    rw [hw]
    rw [hd] at p
    exact q _ _ L2 H2 M2 (st1.trans A1 st2) A2 p rw'
end
/-- x = {}, to be filled with tuples of ints as keys, changeable to the end of the block -/
@[simp] def sKeepT (i : Nat) (t : DS) : DS := fun De ρ M => t { nx := cutE M.length De.nx, rt := cutR M.length De.rt, bk := cutE M.length De.bk, ct := cutE M.length De.ct } (ρ.set i (some (.mu M.length))) (M ++ [.dit [] []])
end Pd
set_option Elab.async false
set_option linter.all false
set_option maxRecDepth 100000
set_option maxHeartbeats 3200000
namespace Pd
open PySem PySem.Spec PyProof.Rows L2
section
variable {X : Cx} {k n : Nat} {C g : Addr} {fd : FuncData} {ps : List Str} {W : DC}
@[simp] def oNe4 (K : PySem.W.Frag) (C : Addr) (W : DC) : D2 := fun x y M P => ∃ (d1 d2 d3 a e1 e2 e3 b : D) (fs : List (Str × D)) (t : Value), x = .tup [d1, d2, d3, a] ∧ y = .tup [e1, e2, e3, b] ∧ okD d1 = true ∧ okD d2 = true ∧ okD d3 = true ∧ okD e1 = true ∧ okD e2 = true ∧ okD e3 = true ∧ eqD d1 e1 = true ∧ eqD d2 e2 = true ∧ eqD d3 e3 = true ∧
  a = .ins C fs ∧ (∃ C' gs, b = .ins C' gs) ∧ DTy K b t ∧ PySem.W.notFirst K C t = true ∧ W [a, b] M (fun z M' => z = .bl true ∧ P (.bl false) M') ∧ P (.bl false) M
end
end Pd
set_option Elab.async false
set_option linter.all false
set_option maxRecDepth 100000
set_option maxHeartbeats 1000000
namespace Pd
open PySem PySem.Spec PyProof.Rows L2
@[simp] def oLtD : D2 := fun x y M P => plain x = true ∧ plain y = true ∧ PySem.W.alike (toP x) (toP y) = true ∧ toP x ≠ .none ∧ (toP x).depth ≤ 60 ∧ P (.bl (PySem.W.dataLt (toP x) (toP y))) M
end Pd
set_option Elab.async false
set_option linter.all false
set_option maxRecDepth 100000
set_option maxHeartbeats 1000000
namespace Pd
open PySem PySem.Spec PyProof.Rows L2
theorem Cu.tr {k : Nat} {M M1 M2 : Ms} (c : Cu k M M1) (d : Cu k M1 M2) : Cu k M M2 := by
  obtain ⟨n, s, a, b, rfl⟩ := d
  exact c.set a b
theorem lc_indT {g : DG} {tt : DT} {te : DE} {ρ : Rho} {P : D → Ms → Prop} (I : Nat → List D → Ms → Prop) (ds0 : List D) (hN : ds0.length ≤ sizeLine) (hlen : ∀ k acc M, I k acc M → acc.length ≤ k)
    (step : ∀ (k : Nat) (d : D) (acc : List D) (M : Ms) (R : D → Ms → Prop) (S : Ms → Prop), ds0[k]? = some d → I k acc M → (∀ y M2, I (k + 1) (acc ++ [y]) M2 → R y M2) → (∀ M2, I (k + 1) acc M2 → S M2) → g d ρ fun ρ' => tt ρ' M fun b M1 => if b = true then te ρ' M1 R else S M1)
    (fin : ∀ acc M, I ds0.length acc M → P (.lst acc) M) {M : Ms} (h : I 0 [] M) : lcRun g tt te ρ P ds0 [] M := by
  have key : ∀ (r : List D) (k : Nat) (acc : List D) (M : Ms), ds0.drop k = r → k + r.length = ds0.length → I k acc M → lcRun g tt te ρ P r acc M := by
    intro r
    induction r with
    | nil =>
      intro k acc M _ hl h
      have : k = ds0.length := by simpa using hl
      subst this
      exact fin acc M h
    | cons d r ih =>
      intro k acc M hd hl h
      rw [List.length_cons] at hl
      have hk : k < ds0.length := by omega
      rw [List.drop_eq_getElem_cons hk] at hd
      injection hd with h1 h2
      have hl2 := hlen k acc M h
      exact step k d acc M (fun y M2 => acc.length < sizeLine ∧ lcRun g tt te ρ P r (acc ++ [y]) M2) (fun M2 => lcRun g tt te ρ P r acc M2) (by rw [List.getElem?_eq_getElem hk, h1]) h (fun y M2 hI => ⟨by omega, ih (k + 1) _ M2 h2 (by omega) hI⟩) fun M2 hI => ih (k + 1) _ M2 h2 (by omega) hI
  exact key ds0 0 [] M rfl (by omega) h
end Pd
set_option Elab.async false
set_option linter.all false
set_option maxRecDepth 100000
set_option maxHeartbeats 3200000
namespace Pd
open PySem PySem.Spec PyProof.Rows L2
section
variable {X : Cx}
/-- what the dict holds -/
def dxGet (ks : List (List Int)) (ds : List D) (ns : List Int) : Option D := ((ks.zip ds).find? fun kv => decide (kv.1 = ns)).map (·.2)
@[simp] def dGetX (td ty : DE) : DE := fun ρ M P => td ρ M fun x M1 => ∃ ks ds, x = .dx ks ds ∧ ty ρ M1 fun y M2 => ∃ ns d, fgD y = .tup (dI ns) ∧ dxGet ks ds ns = some d ∧ P d M2
end
end Pd
set_option Elab.async false
set_option linter.all false
set_option maxRecDepth 100000
set_option maxHeartbeats 3200000
namespace Pd
open PySem PySem.Spec PyProof.Rows L2
def dcRunX (g : DG) (tl : DE) (tv : DE) (ρ : Rho) (P : D → Ms → Prop) : List D → List (List Int) → List D → Ms → Prop
  | [], ks, acc, M => P (.dx ks acc) M
  | d :: r, ks, acc, M => g d ρ fun ρ' => tl ρ' M fun kd M1 => ∃ ns : List Int, fgD kd = .tup (dI ns) ∧ ns ∉ ks ∧ acc.length < sizeLine ∧ tv ρ' M1 fun y M2 => dcRunX g tl tv ρ P r (ks ++ [ns]) (acc ++ [y]) M2
@[simp] def dDcX (it : DA) (g : DG) (tl : DE) (tv : DE) (vs : List Nat) : DE := fun ρ M P => it ρ M fun ds M1 => dcRunX g tl tv (wipeR ρ vs) P ds [] [] M1
end Pd
set_option Elab.async false
set_option linter.all false
set_option maxRecDepth 100000
set_option maxHeartbeats 1000000
namespace Pd
open PySem PySem.Spec PyProof.Rows L2
@[simp] def dOrE (t1 t2 : DE) : DE := fun ρ M P => t1 ρ M P ∨ t2 ρ M P
end Pd
set_option Elab.async false
set_option linter.all false
set_option maxRecDepth 100000
set_option maxHeartbeats 1000000
namespace Pd
open PySem PySem.Spec PyProof.Rows L2
section
variable {X : Cx} {E : XK} {c : Expr} {a b : List Stmt} {pos : Pos}
@[simp] def yIf (tA : DT) (t u : GX) : GX := fun De Xd ds ρ M => tA ρ M fun k M1 => if k = true then t De Xd ds ρ M1 else u De Xd ds ρ M1
end
end Pd
set_option Elab.async false
set_option linter.all false
set_option maxRecDepth 100000
set_option maxHeartbeats 1000000
namespace Pd
open PySem PySem.Spec PyProof.Rows L2
section
variable {X : Cx} {e : Expr} {es : List Expr} {te : DE} {tl : DA} {p tp pos : Pos} {k : Nat}
@[simp] def dIsiTD (K : PySem.W.Frag) (te : DE) (tl : DA) : DE := fun ρ M P => te ρ M fun x M1 => tl ρ M1 fun cs M2 => cs.length ≤ sizeLine ∧ ∃ t us b, DTy K x t ∧ DCls cs us ∧ PySem.W.kitAny K t us = some b ∧ P (.bl b) M2
end
end Pd
set_option Elab.async false
set_option linter.all false
set_option maxRecDepth 100000
set_option maxHeartbeats 1000000
namespace Pd
open PySem PySem.Spec PyProof.Rows L2 PySem.W
end Pd
namespace Spc
open Pd
end Spc
set_option Elab.async false
set_option linter.all false
namespace Spc
def InP (p : Int) (r : Rw) : Prop := ∀ x ∈ r, 0 ≤ x ∧ x < p
theorem at_lt {r : Rw} {i : Nat} (h : i < r.length) : at_ r i = r[i] := by
  unfold at_; rw [List.getD_eq_getElem?_getD, List.getElem?_eq_getElem h]; rfl
theorem at_ge {r : Rw} {i : Nat} (h : r.length ≤ i) : at_ r i = 0 := by
  unfold at_; rw [List.getD_eq_getElem?_getD, List.getElem?_eq_none h]; rfl
theorem InP.at {p : Int} {r : Rw} (h : InP p r) (hp : 0 < p) (i : Nat) : 0 ≤ at_ r i ∧ at_ r i < p := by
  by_cases c : i < r.length
  · rw [at_lt c]; exact h _ (List.getElem_mem c)
  · rw [at_ge (by omega)]; exact ⟨Int.le_refl _, hp⟩
theorem mn_len {p t : Int} {a b : Rw} (h : a.length = b.length) : (mn p a b t).length = a.length := by
  unfold mn; rw [List.length_zipWith]; omega
theorem mn_in {p t : Int} {a b : Rw} (hp : 0 < p) : InP p (mn p a b t) := by
  intro x hx
  unfold mn at hx
  obtain ⟨i, hi, rfl⟩ := List.mem_iff_getElem.mp hx
  rw [List.getElem_zipWith]
  exact ⟨Int.emod_nonneg _ (by omega), Int.emod_lt_of_pos _ hp⟩
/-- what leads, and where -/
structure Led (W : Nat) (p : Int) (r : Rw) (k : Nat) : Prop where
  len : r.length = W
  inp : InP p r
  lt : k < W
  one : at_ r k = 1
  zer : ∀ j, j < k → at_ r j = 0
theorem Led.ld {W : Nat} {p : Int} {r : Rw} {k : Nat} (h : Led W p r k) : Spc.ld r = k := by
  have hk : k < r.length := by rw [h.len]; exact h.lt
  have h1 : r[k] = 1 := by rw [← at_lt hk]; exact h.one
  unfold Spc.ld
  have hm : (1 : Int) ∈ r := by rw [← h1]; exact List.getElem_mem hk
  have hi : r.idxOf 1 < r.length := List.idxOf_lt_length_iff.mpr hm
  have h2 : r[r.idxOf 1] = 1 := List.getElem_idxOf hi
  rcases Nat.lt_trichotomy (r.idxOf 1) k with c | c | c
  · have := h.zer _ c
    rw [at_lt hi, h2] at this
    omega
  · exact c
  · exact absurd h1 (List.not_of_lt_findIdx (p := (· == 1)) c |> fun z => by simpa using z)
structure Rref (W : Nat) (p : Int) (R : List Rw) : Prop where
  led : ∀ r ∈ R, Led W p r (Spc.ld r)
  pw : R.Pairwise fun r s => at_ s (Spc.ld r) = 0 ∧ at_ r (Spc.ld s) = 0
/-- the first place that is not 0 -/
theorem first {r : Rw} : nz r = true → ∃ k, k < r.length ∧ at_ r k = fst1 r ∧ fst1 r ≠ 0 ∧ ∀ j, j < k → at_ r j = 0 := by
  induction r with
  | nil => intro h; cases h
  | cons a r ih =>
    intro h
    by_cases c : a = 0
    · subst c
      have h2 : nz r = true := h
      obtain ⟨k, h3, h4, h5, h6⟩ := ih h2
      have e : fst1 (0 :: r) = fst1 r := rfl
      refine ⟨k + 1, Nat.succ_lt_succ h3, ?_, ?_, fun j hj => ?_⟩
      · rw [e]; exact h4
      · rw [e]; exact h5
      · cases j with
        | zero => rfl
        | succ j => exact h6 j (by omega)
    · have e : fst1 (a :: r) = a := by
        unfold fst1
        rw [List.filter_cons_of_pos (by simpa using c)]; rfl
      exact ⟨0, Nat.succ_pos _, by rw [e]; rfl, by rw [e]; exact c, fun j hj => by cases hj⟩
end Spc
set_option Elab.async false
set_option linter.all false
namespace Spc
/-- what the marks of a row give at a place -/
def comb (S : List Rw) (n : Nat) (r : Rw) (i : Nat) : Int := ((List.range S.length).map fun j => at_ r (n + j) * at_ (S.getD j []) i).sum
def off (S : List Rw) (n : Nat) (r : Rw) (i : Nat) : Int := at_ r i - comb S n r i
/-- the marks tell what the row is made of -/
def Lin (S : List Rw) (n : Nat) (p : Int) (r : Rw) : Prop := ∀ i, i < n → p ∣ off S n r i
end Spc
set_option Elab.async false
set_option linter.all false
namespace Spc
open Pd
theorem InP.take {p : Int} {r : Rw} (h : InP p r) (n : Nat) : InP p (r.take n) := fun x hx => h x (List.mem_of_mem_take hx)
def proj (n : Nat) (R : List Rw) : List Rw := (R.filter fun r => nz (r.take n)).map (List.take n)
end Spc
set_option Elab.async false
set_option linter.all false
namespace Spc
open Pd
/-- what holds of the rows while they are reduced -/
structure Wide (S : List Rw) (W n : Nat) (p : Int) (R N : List Rw) : Prop where
  rref : Rref W p R
  proj : proj n R = N
  lin : ∀ r ∈ R, r.length = W ∧ Lin S n p r
  srt : N.Pairwise fun a b => leD a b = true
theorem Wide.one {S : List Rw} {W n : Nat} {p : Int} {R N : List Rw} (h : Wide S W n p R N) (hN : ∀ l ∈ N, (1 : Int) ∈ l) : ∀ r ∈ R, nz (r.take n) = true → (1 : Int) ∈ r.take n := fun r hr c =>
  hN _ (by rw [← h.proj]; exact List.mem_map.mpr ⟨r, List.mem_filter.mpr ⟨hr, c⟩, rfl⟩)
end Spc
set_option Elab.async false
set_option linter.all false
namespace Spc
def addm (p : Int) (f : Rw) (t : Rw × Int) : Rw := mn p f t.1 (-t.2)
theorem fold_len {p : Int} {n : Nat} : ∀ {ts : List (Rw × Int)} {f : Rw}, f.length = n → (∀ t ∈ ts, t.1.length = n) → (ts.foldl (addm p) f).length = n
  | [], _, h, _ => h
  | t :: ts, f, h, ht => fold_len (ts := ts) (by unfold addm; rw [mn_len (by rw [h, ht t List.mem_cons_self]), h]) fun u hu => ht u (List.mem_cons_of_mem _ hu)
theorem fold_in {p : Int} (hp : 0 < p) : ∀ {ts : List (Rw × Int)} {f : Rw}, InP p f → InP p (ts.foldl (addm p) f)
  | [], _, h => h
  | t :: ts, f, _ => fold_in hp (ts := ts) (mn_in hp)
end Spc
set_option Elab.async false
set_option linter.all false
set_option maxRecDepth 100000
set_option maxHeartbeats 1000000
namespace Spc
open PySem
/-- what is in a and not in b -/
def less (a b : Nat) : Nat := a - (a &&& b)
def plcs (p : Int) : Nat → List Int
  | 0 => []
  | k + 1 => plcs p k ++ (rngL (p ^ k)).map fun j => p ^ k + j
/-- the data of a place -/
def dataAt (p : Int) : Nat → Int → Rw
  | 0, _ => []
  | n + 1, v => dataAt p n (v / p) ++ [v % p]
def pt (p : Int) (n : Nat) (k : Nat) : Rw := dataAt p n ((plcs p n).getD k 0)
end Spc
set_option Elab.async false
set_option linter.all false
set_option maxRecDepth 100000
set_option maxHeartbeats 1000000
namespace Pd
open PySem PySem.Spec PyProof.Rows L2
section
variable {X : Cx} {e : Expr}
@[simp] def dTruI (t : DE) : DT := fun ρ M P => t ρ M fun x M1 => ∃ i, x = .int i ∧ P (i != 0) M1
end
section
variable {X : Cx} {k n : Nat} {C g t0 : Addr} {fd : FuncData} {ps : List Str} {e o : Expr} {es : List Expr} {t : DE} {tl : DA} {pos apos : Pos} {m : Str} {pl : Sem Bool}
/-- o.m(e, ..), the last parameter's default is () -/
@[simp] def dMethAT (C : Addr) (m : Str) (n : Nat) (W : DC) (t : DE) (tl : DA) : DE := fun ρ M P => t ρ M fun x M1 => ∃ fs, InsOf M1 x C fs ∧ fs.lookup m = none ∧ tl ρ M1 fun ds M2 => ds.length + 2 = n ∧ W (x :: (ds ++ [.tup []])) M2 P
end
section
variable {X : Cx} {E : XK} {e : Expr} {es : List Expr} {tl : DA} {pos p : Pos}
/-- f(e, ..) of a def that may raise, the last parameter's default is () -/
@[simp] def dCallXT (n : Nat) (W : DCX) (tl : DA) : DX := fun ρ M P Xd => tl ρ M fun ds M1 => ds.length + 1 = n ∧ W (ds ++ [.tup []]) M1 P Xd
end
end Pd
set_option Elab.async false
set_option linter.all false
set_option maxRecDepth 100000
set_option maxHeartbeats 2000000
namespace Pd
open PySem PySem.Spec PyProof.Rows L2 PySem.HandSPX
section
variable {X : Cx} {E : XK} {e e2 : Expr} {es : List Expr} {tl : DA} {pos p : Pos}
@[simp] def zRaise2 (C : Addr) (f g : Str) (tl : DA) : SX := fun _ Xd ρ M => tl ρ M fun ds M1 => ∃ y z, ds = [y, z] ∧ Xd C [(g, z), (f, y)] M1
/-- f(e, ..) of a def that may raise, the last parameter's default is an int -/
@[simp] def dCallXI (v : Int) (n : Nat) (W : DCX) (tl : DA) : DX := fun ρ M P Xd => tl ρ M fun ds M1 => ds.length + 1 = n ∧ W (ds ++ [.int v]) M1 P Xd
@[simp] def dIfX (c : DT) (t u : DX) : DX := fun ρ M P Xd => c ρ M fun b M1 => if b = true then t ρ M1 P Xd else u ρ M1 P Xd
end
end Pd
set_option Elab.async false
set_option linter.all false
set_option maxRecDepth 100000
set_option maxHeartbeats 2000000
namespace Pd
open PySem PySem.Spec PyProof.Rows L2
section
variable {X : Cx}
/-- d[t], any tuple of ints -/
@[simp] def dGetMT (td ty : DE) : DE := fun ρ M P => td ρ M fun x M1 => ty ρ M1 fun y M2 => ∃ ks ds ns d, DitOf M2 x ks ds ∧ fgD y = .tup (dI ns) ∧ ditGet ks ds ns = some d ∧ P d M2
/-- (i, j, ..), ints, known to be just that tuple -/
@[simp] def dTupDN (tl : DA) : DE := fun ρ M P => tl ρ M fun ds M1 => ∃ ns : List Int, ds = dI ns ∧ ds.length ≤ sizeLine ∧ P (.tnw ns) M1
end
/-- x, y = e, {}: y is filled with tuples of ints as keys, changeable to the end of the block -/
@[simp] def sKeepPT (i j : Nat) (ta : DE) (t : DS) : DS := fun De ρ M => ta ρ M fun d M1 => t { nx := cutE M1.length De.nx, rt := cutR M1.length De.rt, bk := cutE M1.length De.bk, ct := cutE M1.length De.ct } ((ρ.set i (some d)).set j (some (.mu M1.length))) (M1 ++ [.dit [] []])
end Pd
set_option Elab.async false
set_option linter.all false
set_option maxRecDepth 100000
set_option maxHeartbeats 1000000
namespace Pd
open PySem PySem.W
theorem dataLe_tupI : dataLe false tupP = fun p q : List Int => decide (p ≤ q) := by
  have h : dataLe false tupP = dataLe false (fun b : List Int => .list (b.map .int)) := by
    rw [dataLe_eq, dataLe_eq]
    funext p q
    show (!dataLt (.tuple _) (.tuple _)) = (!dataLt (.list _) (.list _))
    rw [dataLt_tuple, dataLt_list]
  rw [h, dataLe_rows (fun b => b)]
theorem dataLe_lenI : dataLe false (fun r : List Int => .int r.length) = fun p q => decide (p.length ≤ q.length) := by
  rw [dataLe_int (fun r : List Int => (r.length : Int))]
  funext p q
  exact decide_eq_decide.mpr Int.ofNat_le
/-- fewer first, then ascending -/
def grpLe (p q : List Int) : Bool := decide (p.length < q.length ∨ (p.length = q.length ∧ p ≤ q))
theorem grp_total : TotalLe grpLe where
  trans a b c h1 h2 := by
    simp only [grpLe, decide_eq_true_eq] at *
    rcases h1 with h1 | ⟨h1, k1⟩ <;> rcases h2 with h2 | ⟨h2, k2⟩
    · exact .inl (by omega)
    · exact .inl (by omega)
    · exact .inl (by omega)
    · exact .inr ⟨by omega, List.le_trans k1 k2⟩
  total a b := by
    simp only [grpLe, decide_eq_true_eq]
    rcases Nat.lt_trichotomy a.length b.length with h | h | h
    · exact .inl (.inl h)
    · rcases List.le_total a b with k | k
      · exact .inl (.inr ⟨h, k⟩)
      · exact .inr (.inr ⟨h.symm, k⟩)
    · exact .inr (.inl h)
theorem len_total : TotalLe (fun p q : List Int => decide (p.length ≤ q.length)) where
  trans a b c h1 h2 := by simp only [decide_eq_true_eq] at *; omega
  total a b := by simp only [decide_eq_true_eq]; omega
theorem lex_total : TotalLe (fun p q : List Int => decide (p ≤ q)) where
  trans a b c h1 h2 := by simp only [decide_eq_true_eq] at *; exact List.le_trans h1 h2
  total a b := by simp only [decide_eq_true_eq]; exact List.le_total a b
theorem sort_groups (L : List (List Int)) : (L.mergeSort (dataLe false tupP)).mergeSort (dataLe false fun r => .int r.length) = L.mergeSort grpLe := by
  rw [dataLe_tupI, dataLe_lenI]
  refine (sort_unique len_total ?_ fun c => ?_).symm
  · refine (sort_pairwise grp_total L).imp fun {a b} h => ?_
    simp only [grpLe, decide_eq_true_eq] at *
    omega
  · refine List.Perm.eq_of_pairwise (le := fun a b : List Int => a ≤ b) (fun a b _ _ h1 h2 => List.le_antisymm h1 h2) ?_ ?_ ?_
    · refine List.Pairwise.imp_of_mem (fun {a b} ha hb h => ?_) ((sort_pairwise grp_total L).filter _)
      have h1 := (List.mem_filter.mp ha).2
      have h2 := (List.mem_filter.mp hb).2
      simp only [sameRank, grpLe, decide_eq_true_eq, Bool.and_eq_true] at h1 h2 h
      rcases h with h | h
      · omega
      · exact h.2
    · exact ((sort_pairwise lex_total L).filter _).imp fun {a b} h => of_decide_eq_true h
    · exact ((List.mergeSort_perm L _).trans (List.mergeSort_perm L _).symm).filter _
end Pd
set_option Elab.async false
set_option linter.all false
set_option maxRecDepth 100000
set_option maxHeartbeats 1000000
namespace Pd
open PySem PySem.W
def grpsUnd : Nat → List (List Int)
  | 0 => [[]]
  | n + 1 => grpsUnd n ++ (grpsUnd n).map (· ++ [(n : Int)])
def AscBelow (n : Nat) (g : List Int) : Prop := g.Pairwise (· < ·) ∧ ∀ x ∈ g, 0 ≤ x ∧ x < n
theorem grps_first : ∀ n, (grpsUnd n)[0]? = some []
  | 0 => rfl
  | n + 1 => by
    have h := grps_first n
    have hl : 0 < (grpsUnd n).length := by
      rcases Nat.eq_zero_or_pos (grpsUnd n).length with z | z
      · rw [List.getElem?_eq_none (by omega)] at h; cases h
      · exact z
    show (grpsUnd n ++ _)[0]? = _
    rw [List.getElem?_append_left hl]
    exact h
theorem asc_mono {n : Nat} {g : List Int} (h : AscBelow n g) : AscBelow (n + 1) g := ⟨h.1, fun x hx => ⟨(h.2 x hx).1, by have := (h.2 x hx).2; omega⟩⟩
theorem grps_mem : ∀ {n : Nat} {g : List Int}, g ∈ grpsUnd n ↔ AscBelow n g
  | 0, g => by
    show g ∈ [[]] ↔ _
    rw [List.mem_singleton]
    refine ⟨fun h => by subst h; exact ⟨.nil, fun x hx => nomatch hx⟩, fun h => ?_⟩
    cases g with
    | nil => rfl
    | cons x g => have := h.2 x List.mem_cons_self; omega
  | n + 1, g => by
    show g ∈ grpsUnd n ++ (grpsUnd n).map _ ↔ _
    rw [List.mem_append, List.mem_map]
    constructor
    · rintro (h | ⟨g, h, rfl⟩)
      · exact asc_mono (grps_mem.mp h)
      · have k := grps_mem.mp h
        refine ⟨List.pairwise_append.mpr ⟨k.1, List.pairwise_singleton _ _, fun x hx y hy => ?_⟩, fun x hx => ?_⟩
        · rw [List.mem_singleton] at hy; subst hy; exact (k.2 x hx).2
        · rcases List.mem_append.mp hx with hx | hx
          · exact (asc_mono k).2 x hx
          · rw [List.mem_singleton] at hx; subst hx; omega
    · intro h
      rcases List.eq_nil_or_concat g with rfl | ⟨i, x, rfl⟩
      · exact .inl (grps_mem.mpr ⟨.nil, fun x hx => nomatch hx⟩)
      · rw [List.concat_eq_append] at h ⊢
        have hp := List.pairwise_append.mp h.1
        have hx := h.2 x (by simp)
        by_cases e : x = n
        · subst e
          exact .inr ⟨i, grps_mem.mpr ⟨hp.1, fun y hy => ⟨(h.2 y (by simp [hy])).1, hp.2.2 y hy _ (by simp)⟩⟩, rfl⟩
        · refine .inl (grps_mem.mpr ⟨h.1, fun y hy => ⟨(h.2 y hy).1, ?_⟩⟩)
          rcases List.mem_append.mp hy with hy | hy
          · have := hp.2.2 y hy x (by simp); omega
          · rw [List.mem_singleton] at hy; subst hy; omega
end Pd
set_option Elab.async false
set_option linter.all false
namespace Spc
end Spc
set_option Elab.async false
set_option linter.all false
set_option maxRecDepth 100000
set_option maxHeartbeats 4000000
namespace K58
open PySem PySem.Spec PyProof.Rows L2 Pd
def topS (i : Nat) : Stmt := PySem.Challenge.pw_leastreads_k58_nets_refused.main.body.getD i (.Pass ⟨0, 0, 0, 0⟩)
abbrev s_is_integer : Stmt := topS 4
theorem sc_is_integer : FnScope ["value"] ["value"] (defScope s_is_integer) := ⟨rfl, rfl, rfl, by decide +kernel, rfl, by decide +kernel, by decide +kernel⟩
abbrev s_is_between : Stmt := topS 5
theorem sc_is_between : FnScope ["value", "low", "high"] ["value", "low", "high"] (defScope s_is_between) := ⟨rfl, rfl, rfl, by decide +kernel, rfl, by decide +kernel, by decide +kernel⟩
abbrev s_has_items : Stmt := topS 6
theorem sc_has_items : FnScope ["value", "least", "most"] ["value", "least", "most"] (defScope s_has_items) := ⟨rfl, rfl, rfl, by decide +kernel, rfl, by decide +kernel, by decide +kernel⟩
abbrev s_all_between : Stmt := topS 7
theorem sc_all_between : FnScope ["items", "low", "high", "item"] ["items", "low", "high"] (defScope s_all_between) := ⟨rfl, rfl, rfl, by decide +kernel, rfl, by decide +kernel, by decide +kernel⟩
abbrev s_is_ascending : Stmt := topS 8
theorem sc_is_ascending : FnScope ["items", "one", "other"] ["items"] (defScope s_is_ascending) := ⟨rfl, rfl, rfl, by decide +kernel, rfl, by decide +kernel, by decide +kernel⟩
abbrev s_is_spot : Stmt := topS 9
theorem sc_is_spot : FnScope ["value", "spots"] ["value", "spots"] (defScope s_is_spot) := ⟨rfl, rfl, rfl, by decide +kernel, rfl, by decide +kernel, by decide +kernel⟩
abbrev s_are_spots : Stmt := topS 10
theorem sc_are_spots : FnScope ["value", "spots", "item"] ["value", "spots"] (defScope s_are_spots) := ⟨rfl, rfl, rfl, by decide +kernel, rfl, by decide +kernel, by decide +kernel⟩
abbrev s_spots_of_parts : Stmt := topS 11
theorem sc_spots_of_parts : FnScope ["pieces", "there", "piece", "parts", "part"] ["pieces"] (defScope s_spots_of_parts) := ⟨rfl, rfl, rfl, by decide +kernel, rfl, by decide +kernel, by decide +kernel⟩
abbrev s_all_groups : Stmt := topS 12
theorem sc_all_groups : FnScope ["many", "groups", "index", "group"] ["many"] (defScope s_all_groups) := ⟨rfl, rfl, rfl, by decide +kernel, rfl, by decide +kernel, by decide +kernel⟩
abbrev s_InvalidSpots_init : Stmt := inClass (topS 15) 0
theorem sc_InvalidSpots_init : FnScope ["self", "value"] ["self", "value"] (defScope s_InvalidSpots_init) := ⟨rfl, rfl, rfl, by decide +kernel, rfl, by decide +kernel, by decide +kernel⟩
abbrev s_InvalidCost_init : Stmt := inClass (topS 16) 0
theorem sc_InvalidCost_init : FnScope ["self", "value"] ["self", "value"] (defScope s_InvalidCost_init) := ⟨rfl, rfl, rfl, by decide +kernel, rfl, by decide +kernel, by decide +kernel⟩
abbrev s_are_prices : Stmt := topS 19
theorem sc_are_prices : FnScope ["value", "least", "most"] ["value", "least", "most"] (defScope s_are_prices) := ⟨rfl, rfl, rfl, by decide +kernel, rfl, by decide +kernel, by decide +kernel⟩
abbrev s_Prices_init : Stmt := inClass (topS 20) 0
theorem sc_Prices_init : FnScope ["self", "parts", "wholes", "opens", "row"] ["self", "parts", "wholes", "opens"] (defScope s_Prices_init) := ⟨rfl, rfl, rfl, by decide +kernel, rfl, by decide +kernel, by decide +kernel⟩
abbrev s_Prices_parts : Stmt := inClass (topS 20) 1
theorem sc_Prices_parts : FnScope ["self"] ["self"] (defScope s_Prices_parts) := ⟨rfl, rfl, rfl, by decide +kernel, rfl, by decide +kernel, by decide +kernel⟩
abbrev s_Prices_call : Stmt := inClass (topS 20) 5
theorem sc_Prices_call : FnScope ["self", "spots", "prices", "piece"] ["self", "spots"] (defScope s_Prices_call) := ⟨rfl, rfl, rfl, by decide +kernel, rfl, by decide +kernel, by decide +kernel⟩
abbrev s_Prices_paid : Stmt := inClass (topS 20) 6
theorem sc_Prices_paid : FnScope ["self", "spots", "prices", "wholes", "piece", "spot"] ["self", "spots"] (defScope s_Prices_paid) := ⟨rfl, rfl, rfl, by decide +kernel, rfl, by decide +kernel, by decide +kernel⟩
abbrev s_Prices_part_prices : Stmt := inClass (topS 20) 8
theorem sc_Prices_part_prices : FnScope ["self", "spots", "prices", "piece", "part"] ["self", "spots"] (defScope s_Prices_part_prices) := ⟨rfl, rfl, rfl, by decide +kernel, rfl, by decide +kernel, by decide +kernel⟩
abbrev s_is_rack : Stmt := topS 24
theorem sc_is_rack : FnScope ["value"] ["value"] (defScope s_is_rack) := ⟨rfl, rfl, rfl, by decide +kernel, rfl, by decide +kernel, by decide +kernel⟩
abbrev s_is_link : Stmt := topS 25
theorem sc_is_link : FnScope ["value"] ["value"] (defScope s_is_link) := ⟨rfl, rfl, rfl, by decide +kernel, rfl, by decide +kernel, by decide +kernel⟩
abbrev s_are_links : Stmt := topS 26
theorem sc_are_links : FnScope ["value", "item", "one", "other", "_"] ["value"] (defScope s_are_links) := ⟨rfl, rfl, rfl, by decide +kernel, rfl, by decide +kernel, by decide +kernel⟩
abbrev s_reached : Stmt := topS 27
theorem sc_reached : FnScope ["links", "home", "racks", "_", "one", "other"] ["links", "home"] (defScope s_reached) := ⟨rfl, rfl, rfl, by decide +kernel, rfl, by decide +kernel, by decide +kernel⟩
abbrev s_least_trees : Stmt := topS 28
theorem sc_least_trees : FnScope ["links", "home", "groups", "rows", "trees", "price", "_", "group", "racks", "places", "index", "place"] ["links", "home"] (defScope s_least_trees) := ⟨rfl, rfl, rfl, by decide +kernel, rfl, by decide +kernel, by decide +kernel⟩
abbrev s_Net_init : Stmt := inClass (topS 29) 0
theorem sc_Net_init : FnScope ["self", "prices", "racks", "links", "home", "many"] ["self", "prices", "racks", "links", "home"] (defScope s_Net_init) := ⟨rfl, rfl, rfl, by decide +kernel, rfl, by decide +kernel, by decide +kernel⟩
abbrev s_Net_call : Stmt := inClass (topS 29) 6
theorem sc_Net_call : FnScope ["self", "spots", "tree", "prices"] ["self", "spots"] (defScope s_Net_call) := ⟨rfl, rfl, rfl, by decide +kernel, rfl, by decide +kernel, by decide +kernel⟩
abbrev s_Net_paid : Stmt := inClass (topS 29) 7
theorem sc_Net_paid : FnScope ["self", "spots"] ["self", "spots"] (defScope s_Net_paid) := ⟨rfl, rfl, rfl, by decide +kernel, rfl, by decide +kernel, by decide +kernel⟩
abbrev s_Net_tree : Stmt := inClass (topS 29) 8
theorem sc_Net_tree : FnScope ["self", "spots", "piece", "_"] ["self", "spots"] (defScope s_Net_tree) := ⟨rfl, rfl, rfl, by decide +kernel, rfl, by decide +kernel, by decide +kernel⟩
abbrev s_law_source : Stmt := topS 31
theorem sc_law_source : FnScope ["_law_script", "_law_turn", "_law_cell", "_law_number", "_law_seed"] ["_law_script", "_law_turn"] (defScope s_law_source) := ⟨rfl, rfl, rfl, by decide +kernel, rfl, by decide +kernel, by decide +kernel⟩
abbrev s_law_draw : Stmt := topS 32
theorem sc_law_draw : FnScope ["_law_source_here", "_law_amount", "_law_digit"] ["_law_source_here", "_law_amount"] (defScope s_law_draw) := ⟨rfl, rfl, rfl, by decide +kernel, rfl, by decide +kernel, by decide +kernel⟩
abbrev s_law_pick : Stmt := topS 33
theorem sc_law_pick : FnScope ["_law_source_here", "_law_items"] ["_law_source_here", "_law_items"] (defScope s_law_pick) := ⟨rfl, rfl, rfl, by decide +kernel, rfl, by decide +kernel, by decide +kernel⟩
abbrev s_law_said : Stmt := topS 34
theorem sc_law_said : FnScope ["_law_call", "e"] ["_law_call"] (defScope s_law_said) := ⟨rfl, rfl, rfl, by decide +kernel, rfl, by decide +kernel, by decide +kernel⟩
abbrev s_law_odd : Stmt := topS 35
theorem sc_law_odd : FnScope ["_law_source_here", "_law_place", "_law_some", "_law_odd_here", "_law_one"] ["_law_source_here", "_law_place"] (defScope s_law_odd) := ⟨rfl, rfl, rfl, by decide +kernel, rfl, by decide +kernel, by decide +kernel⟩
abbrev s_law : Stmt := topS 36
theorem sc_law : FnScope ["_law_script", "_law_prices", "_law_turn", "_law_every", "_law_one", "_law_source_here", "_law_good", "_law_attempt", "_law_net", "_law_some", "_law_odd_here", "_law_wrong", "_law_given", "_law_due", "_law_at", "_law_other", "_law_part"] ["_law_script"] (defScope s_law) := ⟨rfl, rfl, rfl, by decide +kernel, rfl, by decide +kernel, by decide +kernel⟩
structure Tx (P : Program) (w : World) (K : PySem.W.Frag) (mg : Str → Option Value) where
  a_is_integer : Addr
  f_is_integer : FuncData
  F_is_integer : Fun K "is_integer" "is_integer" s_is_integer a_is_integer f_is_integer
  b_is_integer : Binds K f_is_integer ["value"] []
  g_is_integer : mg "is_integer" = some (.ref a_is_integer)
  a_is_between : Addr
  f_is_between : FuncData
  F_is_between : Fun K "is_between" "is_between" s_is_between a_is_between f_is_between
  b_is_between : Binds K f_is_between ["value", "low", "high"] []
  g_is_between : mg "is_between" = some (.ref a_is_between)
  a_has_items : Addr
  f_has_items : FuncData
  F_has_items : Fun K "has_items" "has_items" s_has_items a_has_items f_has_items
  b_has_items : Binds K f_has_items ["value", "least", "most"] []
  g_has_items : mg "has_items" = some (.ref a_has_items)
  a_all_between : Addr
  f_all_between : FuncData
  F_all_between : Fun K "all_between" "all_between" s_all_between a_all_between f_all_between
  b_all_between : Binds K f_all_between ["items", "low", "high"] []
  g_all_between : mg "all_between" = some (.ref a_all_between)
  a_is_ascending : Addr
  f_is_ascending : FuncData
  F_is_ascending : Fun K "is_ascending" "is_ascending" s_is_ascending a_is_ascending f_is_ascending
  b_is_ascending : Binds K f_is_ascending ["items"] []
  g_is_ascending : mg "is_ascending" = some (.ref a_is_ascending)
  a_is_spot : Addr
  f_is_spot : FuncData
  F_is_spot : Fun K "is_spot" "is_spot" s_is_spot a_is_spot f_is_spot
  b_is_spot : Binds K f_is_spot ["value", "spots"] []
  g_is_spot : mg "is_spot" = some (.ref a_is_spot)
  a_are_spots : Addr
  f_are_spots : FuncData
  F_are_spots : Fun K "are_spots" "are_spots" s_are_spots a_are_spots f_are_spots
  b_are_spots : Binds K f_are_spots ["value", "spots"] []
  g_are_spots : mg "are_spots" = some (.ref a_are_spots)
  a_spots_of_parts : Addr
  f_spots_of_parts : FuncData
  F_spots_of_parts : Fun K "spots_of_parts" "spots_of_parts" s_spots_of_parts a_spots_of_parts f_spots_of_parts
  b_spots_of_parts : Binds K f_spots_of_parts ["pieces"] []
  g_spots_of_parts : mg "spots_of_parts" = some (.ref a_spots_of_parts)
  a_all_groups : Addr
  f_all_groups : FuncData
  F_all_groups : Fun K "all_groups" "all_groups" s_all_groups a_all_groups f_all_groups
  b_all_groups : Binds K f_all_groups ["many"] []
  g_all_groups : mg "all_groups" = some (.ref a_all_groups)
  a_InvalidSpots_init : Addr
  f_InvalidSpots_init : FuncData
  F_InvalidSpots_init : Fun K "__init__" "InvalidSpots.__init__" s_InvalidSpots_init a_InvalidSpots_init f_InvalidSpots_init
  b_InvalidSpots_init : Binds K f_InvalidSpots_init ["self", "value"] []
  a_InvalidCost_init : Addr
  f_InvalidCost_init : FuncData
  F_InvalidCost_init : Fun K "__init__" "InvalidCost.__init__" s_InvalidCost_init a_InvalidCost_init f_InvalidCost_init
  b_InvalidCost_init : Binds K f_InvalidCost_init ["self", "value"] []
  a_are_prices : Addr
  f_are_prices : FuncData
  F_are_prices : Fun K "are_prices" "are_prices" s_are_prices a_are_prices f_are_prices
  b_are_prices : Binds K f_are_prices ["value", "least", "most"] []
  g_are_prices : mg "are_prices" = some (.ref a_are_prices)
  a_Prices_init : Addr
  f_Prices_init : FuncData
  F_Prices_init : Fun K "__init__" "Prices.__init__" s_Prices_init a_Prices_init f_Prices_init
  b_Prices_init : Binds K f_Prices_init ["self", "parts", "wholes", "opens"] []
  a_Prices_parts : Addr
  f_Prices_parts : FuncData
  F_Prices_parts : Fun K "parts" "Prices.parts" s_Prices_parts a_Prices_parts f_Prices_parts
  b_Prices_parts : Binds K f_Prices_parts ["self"] []
  a_Prices_call : Addr
  f_Prices_call : FuncData
  F_Prices_call : Fun K "__call__" "Prices.__call__" s_Prices_call a_Prices_call f_Prices_call
  b_Prices_call : Binds K f_Prices_call ["self", "spots"] []
  a_Prices_paid : Addr
  f_Prices_paid : FuncData
  F_Prices_paid : Fun K "paid" "Prices.paid" s_Prices_paid a_Prices_paid f_Prices_paid
  b_Prices_paid : Binds K f_Prices_paid ["self", "spots"] []
  a_Prices_part_prices : Addr
  f_Prices_part_prices : FuncData
  F_Prices_part_prices : Fun K "_part_prices" "Prices._part_prices" s_Prices_part_prices a_Prices_part_prices f_Prices_part_prices
  b_Prices_part_prices : Binds K f_Prices_part_prices ["self", "spots"] []
  a_is_rack : Addr
  f_is_rack : FuncData
  F_is_rack : Fun K "is_rack" "is_rack" s_is_rack a_is_rack f_is_rack
  b_is_rack : Binds K f_is_rack ["value"] []
  g_is_rack : mg "is_rack" = some (.ref a_is_rack)
  a_is_link : Addr
  f_is_link : FuncData
  F_is_link : Fun K "is_link" "is_link" s_is_link a_is_link f_is_link
  b_is_link : Binds K f_is_link ["value"] []
  g_is_link : mg "is_link" = some (.ref a_is_link)
  a_are_links : Addr
  f_are_links : FuncData
  F_are_links : Fun K "are_links" "are_links" s_are_links a_are_links f_are_links
  b_are_links : Binds K f_are_links ["value"] []
  g_are_links : mg "are_links" = some (.ref a_are_links)
  a_reached : Addr
  f_reached : FuncData
  F_reached : Fun K "reached" "reached" s_reached a_reached f_reached
  b_reached : Binds K f_reached ["links", "home"] []
  g_reached : mg "reached" = some (.ref a_reached)
  a_least_trees : Addr
  f_least_trees : FuncData
  F_least_trees : Fun K "least_trees" "least_trees" s_least_trees a_least_trees f_least_trees
  b_least_trees : Binds K f_least_trees ["links", "home"] []
  g_least_trees : mg "least_trees" = some (.ref a_least_trees)
  a_Net_init : Addr
  f_Net_init : FuncData
  F_Net_init : Fun K "__init__" "Net.__init__" s_Net_init a_Net_init f_Net_init
  b_Net_init : Binds K f_Net_init ["self", "prices", "racks", "links", "home"] []
  a_Net_call : Addr
  f_Net_call : FuncData
  F_Net_call : Fun K "__call__" "Net.__call__" s_Net_call a_Net_call f_Net_call
  b_Net_call : Binds K f_Net_call ["self", "spots"] []
  a_Net_paid : Addr
  f_Net_paid : FuncData
  F_Net_paid : Fun K "paid" "Net.paid" s_Net_paid a_Net_paid f_Net_paid
  b_Net_paid : Binds K f_Net_paid ["self", "spots"] []
  a_Net_tree : Addr
  f_Net_tree : FuncData
  F_Net_tree : Fun K "tree" "Net.tree" s_Net_tree a_Net_tree f_Net_tree
  b_Net_tree : Binds K f_Net_tree ["self", "spots"] []
  a_law_source : Addr
  f_law_source : FuncData
  F_law_source : Fun K "_law_source" "_law_source" s_law_source a_law_source f_law_source
  b_law_source : Binds K f_law_source ["_law_script", "_law_turn"] []
  g_law_source : mg "_law_source" = some (.ref a_law_source)
  a_law_draw : Addr
  f_law_draw : FuncData
  F_law_draw : Fun K "_law_draw" "_law_draw" s_law_draw a_law_draw f_law_draw
  b_law_draw : Binds K f_law_draw ["_law_source_here", "_law_amount"] []
  g_law_draw : mg "_law_draw" = some (.ref a_law_draw)
  a_law_pick : Addr
  f_law_pick : FuncData
  F_law_pick : Fun K "_law_pick" "_law_pick" s_law_pick a_law_pick f_law_pick
  b_law_pick : Binds K f_law_pick ["_law_source_here", "_law_items"] []
  g_law_pick : mg "_law_pick" = some (.ref a_law_pick)
  a_law_said : Addr
  f_law_said : FuncData
  F_law_said : Fun K "_law_said" "_law_said" s_law_said a_law_said f_law_said
  b_law_said : Binds K f_law_said ["_law_call"] []
  g_law_said : mg "_law_said" = some (.ref a_law_said)
  a_law_odd : Addr
  f_law_odd : FuncData
  F_law_odd : Fun K "_law_odd" "_law_odd" s_law_odd a_law_odd f_law_odd
  b_law_odd : Binds K f_law_odd ["_law_source_here", "_law_place"] []
  g_law_odd : mg "_law_odd" = some (.ref a_law_odd)
  a_law : Addr
  f_law : FuncData
  F_law : Fun K "law" "law" s_law a_law f_law
  b_law : Binds K f_law ["_law_script"] []
  g_law : mg "law" = some (.ref a_law)
  a_InvalidSpots : Addr
  g_InvalidSpots : mg "InvalidSpots" = some (.ref a_InvalidSpots)
  a_InvalidCost : Addr
  g_InvalidCost : mg "InvalidCost" = some (.ref a_InvalidCost)
  a_Prices : Addr
  g_Prices : mg "Prices" = some (.ref a_Prices)
  a_Net : Addr
  g_Net : mg "Net" = some (.ref a_Net)
  n_isinstance : mg "isinstance" = none
  n_int : mg "int" = none
  n_bool : mg "bool" = none
  n_list : mg "list" = none
  n_tuple : mg "tuple" = none
  n_len : mg "len" = none
  n_all : mg "all" = none
  n_sum : mg "sum" = none
  n_zip : mg "zip" = none
  n_max : mg "max" = none
  n_min : mg "min" = none
  n_range : mg "range" = none
  n_sorted : mg "sorted" = none
  n_enumerate : mg "enumerate" = none
  n_set : mg "set" = none
  n_repr : mg "repr" = none
  c_Prices : ClsI K a_Prices
  m_Prices : Mk K a_Prices a_Prices_init
  call_Prices : StX.CallO K a_Prices a_Prices_call
  me_paid : Meth K a_Prices "paid" a_Prices_paid
  me_prices : Meth K a_Prices "_part_prices" a_Prices_part_prices
  c_Net : ClsI K a_Net
  m_Net : Mk K a_Net a_Net_init
  call_Net : StX.CallO K a_Net a_Net_call
  me_tree : Meth K a_Net "tree" a_Net_tree
  me_npaid : Meth K a_Net "paid" a_Net_paid
  kp_Prices : PySem.W.kitOne K (.ref a_Prices) (.ref a_Prices) = some true
  q_Prices_parts : Addr
  pp_Prices_parts : PropOf K a_Prices "parts" q_Prices_parts a_Prices_parts
  cl1 : Addr
  P1 : Addr
  hcl1 : f_law.code = .ref cl1
  kt_NoneType : PySem.W.kitOne K (.type "NoneType") (.ref a_Prices) = some false
  kt_int : PySem.W.kitOne K (.type "int") (.ref a_Prices) = some false
  kt_bool : PySem.W.kitOne K (.type "bool") (.ref a_Prices) = some false
  kt_str : PySem.W.kitOne K (.type "str") (.ref a_Prices) = some false
  kt_list : PySem.W.kitOne K (.type "list") (.ref a_Prices) = some false
  kt_tuple : PySem.W.kitOne K (.type "tuple") (.ref a_Prices) = some false
  kt_dict : PySem.W.kitOne K (.type "dict") (.ref a_Prices) = some false
  np_parts : NoAttr K a_Prices "_parts"
  np_wholes : NoAttr K a_Prices "_wholes"
  np_opens : NoAttr K a_Prices "_opens"
  np_spots : NoAttr K a_Prices "_spots"
  nn_prices : NoAttr K a_Net "_prices"
  nn_racks : NoAttr K a_Net "_racks"
  nn_links : NoAttr K a_Net "_links"
  nn_home : NoAttr K a_Net "_home"
  nn_spots : NoAttr K a_Net "_spots"
  nn_trees : NoAttr K a_Net "_trees"
  t_MOST_PIECES : Tok
  g_MOST_PIECES : mg "MOST_PIECES" = some (.int 6 t_MOST_PIECES)
  t_MOST_PARTS : Tok
  g_MOST_PARTS : mg "MOST_PARTS" = some (.int 3 t_MOST_PARTS)
  t_GREATEST_PRICE : Tok
  g_GREATEST_PRICE : mg "GREATEST_PRICE" = some (.int 1000 t_GREATEST_PRICE)
  t_GREATEST_RACK : Tok
  g_GREATEST_RACK : mg "GREATEST_RACK" = some (.int 4 t_GREATEST_RACK)
  t_MOST_LINKS : Tok
  g_MOST_LINKS : mg "MOST_LINKS" = some (.int 10 t_MOST_LINKS)
  x_InvalidSpots : OexT K "Exception.__new__" [.type "Exception", .type "BaseException", .type "object"] a_InvalidSpots
  i_InvalidSpots : PySem.W.findIn K (.ref a_InvalidSpots) "__init__" = some (some (.ref a_InvalidSpots_init))
  t_InvalidSpots : PySem.W.typeIn K (.ref a_InvalidSpots_init) = some (.type "function")
  h_InvalidSpots : PySem.W.findIn K (.ref a_InvalidSpots) "value" = some none
  x_InvalidCost : OexT K "Exception.__new__" [.type "Exception", .type "BaseException", .type "object"] a_InvalidCost
  i_InvalidCost : PySem.W.findIn K (.ref a_InvalidCost) "__init__" = some (some (.ref a_InvalidCost_init))
  t_InvalidCost : PySem.W.typeIn K (.ref a_InvalidCost_init) = some (.type "function")
  h_InvalidCost : PySem.W.findIn K (.ref a_InvalidCost) "value" = some none
  y_InvalidCost : XfC K a_InvalidCost
  z_InvalidCost : PySem.W.findIn K (.ref a_InvalidCost) "value" = some none
  e_InvalidCost_InvalidCost : PySem.W.exmOne K (.ref a_InvalidCost) (.ref a_InvalidCost) = some true
  e_InvalidCost_InvalidSpots : PySem.W.exmOne K (.ref a_InvalidCost) (.ref a_InvalidSpots) = some false
  y_InvalidSpots : XfC K a_InvalidSpots
  z_InvalidSpots : PySem.W.findIn K (.ref a_InvalidSpots) "value" = some none
  e_InvalidSpots_InvalidCost : PySem.W.exmOne K (.ref a_InvalidSpots) (.ref a_InvalidCost) = some false
  e_InvalidSpots_InvalidSpots : PySem.W.exmOne K (.ref a_InvalidSpots) (.ref a_InvalidSpots) = some true
end K58
set_option Elab.async false
set_option linter.all false
set_option maxRecDepth 100000
set_option maxHeartbeats 4000000
namespace K58
open PySem PySem.Spec PyProof.Rows L2 Pd Spc
section
variable {P : Program} {w : World} {K : PySem.W.Frag} {mg : Str → Option Value} {base : Heap}
def W_is_integer : DC := fun ds M Q => ∃ d t, ds = [d] ∧ tyN d = some t ∧ Q (.bl (isI d)) M
theorem ok_is_integer (T : Tx P w K mg) : FnOk P w K mg base CX0 1 T.a_is_integer T.f_is_integer ["value"] (spD 1 W_is_integer K) := by
  refine pd_fn T.F_is_integer sc_is_integer (fun cdv A outer s H E hr => ⟨_, (pdss_one (pds_ret (pd_and (pd_callB call_isi sc_isi (by rfl) T.n_isinstance (by decide +kernel) (pda_cons (pd_name 0) (pda_cons (pd_bltn (v := .ty "int") (d := .ty "int") (by rfl) T.n_int (by decide +kernel) rfl (fun _ _ => .ty _)) pda_nil))) (pd_one (pd_not (pd_callB call_isi sc_isi (by rfl) T.n_isinstance (by decide +kernel) (pda_cons (pd_name 0) (pda_cons (pd_bltn (v := .ty "bool") (d := .ty "bool") (by rfl) T.n_bool (by decide +kernel) rfl (fun _ _ => .ty _)) pda_nil)))))))), fun ds M Q hl h => ?_⟩)
  obtain ⟨d, t, rfl, ht, q⟩ := h
  refine ⟨d, rfl, ?_⟩
  have hd := dty (K := K) ht
  cases d <;> simp only [tyN, Option.some.injEq, reduceCtorEq] at ht <;> subst ht
  case int i =>
    refine ⟨_, _, _, _, _, true, rfl, hd, .ty "int", kit_ty (by decide +kernel), _, rfl, ?_⟩
    refine ⟨_, rfl, _, _, _, _, _, false, rfl, hd, .ty "bool", kit_ty (by decide +kernel), _, rfl, q⟩
  case bl b =>
    refine ⟨_, _, _, _, _, true, rfl, hd, .ty "int", kit_ty (by decide +kernel), _, rfl, ?_⟩
    refine ⟨_, rfl, _, _, _, _, _, true, rfl, hd, .ty "bool", kit_ty (by decide +kernel), _, rfl, q⟩
  all_goals
    refine ⟨_, _, _, _, _, false, rfl, hd, .ty "int", kit_ty (by decide +kernel), _, rfl, q⟩
def W_is_between : DC := fun ds M Q => ∃ d t lo hi, ds = [d, .int lo, .int hi] ∧ tyN d = some t ∧ (∀ i, d = .int i → Q (.bl (decide (lo ≤ i) && decide (i ≤ hi))) M) ∧ (isI d = false → Q (.bl false) M)
theorem ok_is_between (T : Tx P w K mg) : FnOk P w K mg base CX0 2 T.a_is_between T.f_is_between ["value", "low", "high"] (spD 3 W_is_between K) := by
  refine pd_fn T.F_is_between sc_is_between (fun cdv A outer s H E hr => ⟨_, (pdss_one (pds_ret (pd_and (pd_call (ok_is_integer T) (hr.mono (by decide)) (by rfl) T.g_is_integer T.F_is_integer.kp T.b_is_integer (pda_cons (pd_name 0) pda_nil)) (pd_one (pd_chain op_le sr_I0b op_le sr_I0b (pd_name 1) (pd_name 0) (pd_name 2)))))), fun ds M Q hl h => ?_⟩)
  obtain ⟨d, t, lo, hi, rfl, ht, q1, q2⟩ := h
  refine ⟨d, rfl, rfl, d, t, rfl, ht, _, rfl, ?_⟩
  cases e : isI d with
  | false => exact q2 e
  | true =>
    cases d <;> simp only [isI, reduceCtorEq] at e
    rename_i i
    refine ⟨_, rfl, _, rfl, _, _, rfl, rfl, _, rfl, ?_⟩
    have q := q1 i rfl
    by_cases h1 : lo ≤ i
    · rw [decide_eq_true h1] at q ⊢
      exact ⟨_, rfl, _, _, rfl, rfl, q⟩
    · rw [decide_eq_false h1] at q ⊢
      exact q
def W_has_items : DC := fun ds M Q => ∃ d t lo hi, ds = [d, .int lo, .int hi] ∧ tyN d = some t ∧ Q (.bl (hasB lo hi d)) M
theorem ok_has_items (T : Tx P w K mg) : FnOk P w K mg base CX0 1 T.a_has_items T.f_has_items ["value", "least", "most"] (spD 3 W_has_items K) := by
  refine pd_fn T.F_has_items sc_has_items (fun cdv A outer s H E hr => ⟨_, (pdss_one (pds_ret (pd_and (pd_isi2 (T1 := "list") (T2 := "tuple") (by rfl) T.n_isinstance (pd_name 0) (by rfl) T.n_list (by decide +kernel) (by rfl) T.n_tuple (by decide +kernel)) (pd_one (pd_chain op_le sr_I0b op_le sr_I0b (pd_name 1) (pd_callB call_len_seq sc_len (by rfl) T.n_len (by decide +kernel) (pda_cons (pd_name 0) pda_nil)) (pd_name 2)))))), fun ds M Q hl h => ?_⟩)
  obtain ⟨d, t, lo, hi, rfl, ht, q⟩ := h
  have hd := dty (K := K) ht
  rcases seq_or (K := K) ht with ⟨xs, hx, hk, hb⟩ | ⟨hk, hb⟩
  · rw [hb] at q
    refine ⟨d, rfl, .type t, true, hd, hk, true, rfl, ?_⟩
    refine ⟨_, rfl, d, rfl, xs, (by rcases hx with rfl | rfl; exact .inl rfl; exact .inr rfl), _, _, rfl, rfl, _, rfl, ?_⟩
    by_cases h1 : lo ≤ (xs.length : Int)
    · rw [decide_eq_true h1] at q ⊢
      exact ⟨_, rfl, _, _, rfl, rfl, q⟩
    · rw [decide_eq_false h1] at q ⊢
      exact q
  · rw [hb] at q
    exact ⟨_, rfl, _, false, hd, hk, false, rfl, q⟩
def W_all_between : DC := fun ds M Q => ∃ d xs lo hi, ds = [d, .int lo, .int hi] ∧ isSeq d xs ∧ (∀ x ∈ xs, ∃ t, tyN x = some t) ∧ xs.length ≤ sizeLine ∧ Q (.bl (xs.all (btwB lo hi))) M
theorem ok_all_between (T : Tx P w K mg) : FnOk P w K mg base CX0 3 T.a_all_between T.f_all_between ["items", "low", "high"] (spD 3 W_all_between K) := by
  refine pd_fn T.F_all_between sc_all_between (fun cdv A outer s H E hr => ⟨_, (pdss_one (pds_ret (pd_callB (cr_all rfl) sc_all (by rfl) T.n_all (by decide +kernel) (pda_cons (pd_lc [("item", 3)] rfl sc_all_between.nd (pdi_seq (pd_name 0)) (blkOk_by (N := ["items", "low", "high", "item"]) (sc := defScope s_all_between) (by decide +kernel)) (fun _ _ _ _ _ => (pdg_name 3 sc_all_between.nd)) (fun _ _ _ _ _ => pdts_nil) (fun _ _ _ _ _ => (pd_call (ok_is_between T) (hr.mono (by decide)) (by rfl) T.g_is_between T.F_is_between.kp T.b_is_between (pda_cons (pd_name 3) (pda_cons (pd_name 1) (pda_cons (pd_name 2) pda_nil)))))) pda_nil)))), fun ds M Q hl h => ?_⟩)
  obtain ⟨d, xs, lo, hi, rfl, hs, ht, hz, q⟩ := h
  refine ⟨d, rfl, xs, hs, lc_map (fun d => .bl (btwB lo hi d)) _ _ (fun e he R hR => ?_) (by simpa using hz) ?_⟩
  · obtain ⟨t, ht⟩ := ht e he
    refine ⟨e, rfl, .int lo, rfl, .int hi, rfl, rfl, e, t, lo, hi, rfl, ht, fun i z => ?_, fun z => ?_⟩
    · subst z; exact hR
    · cases e <;> first | exact hR | cases z
  · refine ⟨xs.map (btwB lo hi), ?_, ?_⟩
    · rw [List.nil_append, List.map_map]
      rfl
    · rw [List.all_map]
      exact q
end
end K58
set_option Elab.async false
set_option linter.all false
set_option maxRecDepth 100000
set_option maxHeartbeats 4000000
namespace K58
open PySem PySem.Spec PyProof.Rows L2 Pd Spc
/-- the rows of p numbers below n, ascending -/
theorem p29 : (0 : Int) < 2147483629 := by decide
theorem p47 : (0 : Int) < 2147483647 := by decide
theorem z2 : 2 ≤ sizeLine := by decide
theorem i12 : (1 : Nat) < 2 := by decide
/-- the law's source -/
def lq1 : Str := "law.<locals>.<lambda>"
def Src (P1 : Addr) (M : Ms) : Prop := ∃ n s : Int, M = [.tab P1 lq1, .lst [.int n, .int s]] ∧ 0 ≤ s ∧ s < 2147483647
theorem Src.ok {P1 : Addr} {M : Ms} (h : Src P1 M) : okM M := by
  obtain ⟨n, s, rfl, _⟩ := h
  rfl
section
variable {P : Program} {w : World} {K : PySem.W.Frag} {mg : Str → Option Value} {base : Heap}
def W_source : DCN := fun ds M Q => ∃ (ns : List Int) (k : Int), ds = [.lst (dI ns), .int k] ∧ 0 ≤ k ∧ ∀ n s : Int, 0 ≤ s → s < 2147483647 → Q [.int n, .int s] M
theorem ok_law_source (T : Tx P w K mg) : FnOk P w K mg base CX0 1 T.a_law_source T.f_law_source ["_law_script", "_law_turn"] (spN 2 W_source K) := by
  refine pd_fnN T.F_law_source sc_law_source (fun cdv A outer s H E hr => ⟨_, (pdn_cons (pds_set 2 sc_law_source.nd pd_int)
      (pdn_cons (pds_if (pdt_cmp op_lt sr_I0b (pd_name 1) (pd_callB call_len_seq sc_len (by rfl) T.n_len (by decide +kernel) (pda_cons (pd_name 0) pda_nil)) (nomark _)) (pdss_one (pds_set 2 sc_law_source.nd (pd_ix ix_list sr_ixL (pd_name 0) (pd_name 1)))) pdss_nil)
      (pdn_cons (pds_set 3 sc_law_source.nd (pd_callB (call_max2 rfl) sc_max (by rfl) T.n_max (by decide +kernel) (pda_cons (pd_name 2) (pda_cons (pd_op op_sub sr_I0i (pd_un un_neg su_U pd_int) (pd_name 2)) pda_nil))))
      (pdn_cons (pds_set 4 sc_law_source.nd (pd_op op_mod sr_I (pd_callTy call_int1 sc_int (by rfl) T.n_int (by decide +kernel) (pda_cons (pd_op op_add sr_I0i (pd_op op_add sr_I0i (pd_op op_mul sr_I (pd_op op_mod sr_I (pd_callTy call_int1 sc_int (by rfl) T.n_int (by decide +kernel) (pda_cons (pd_name 3) pda_nil)) pd_int) pd_int) (pd_op op_mul sr_I pd_int (pd_name 1))) pd_int) pda_nil)) pd_int))
      (pdn_cons (pds_if (pdt_cmp op_lt sr_I0b (pd_name 3) (pd_op op_pow sr_I pd_int pd_int) (nomark _)) (pdss_one (pds_set 3 sc_law_source.nd pd_int)) pdss_nil)
      (pdn_ret (pda_cons (pd_name 3) (pda_cons (pd_name 4) pda_nil)))))))), fun ds M Q hl h => ?_⟩)
  obtain ⟨ns, k, rfl, hk, q⟩ := h
  have m1 : ∀ x : Int, 0 ≤ x % 2147483647 ∧ x % 2147483647 < 2147483647 := fun x => ⟨Int.emod_nonneg _ (by decide), Int.emod_lt_of_pos _ (by decide)⟩
  refine ⟨.int k, rfl, _, rfl, dI ns, .inl rfl, _, _, rfl, rfl, decide (k < ((dI ns).length : Int)), rfl, ?_⟩
  by_cases hc : k < ((dI ns).length : Int)
  · rw [decide_eq_true hc]
    have hlt : k.toNat < ns.length := by rw [List.length_map] at hc; omega
    have hv : (dI ns)[k.toNat]? = some (.int ns[k.toNat]) := by rw [List.getElem?_map, List.getElem?_eq_getElem hlt]; rfl
    refine ⟨_, rfl, _, rfl, dI ns, k, _, rfl, rfl, ⟨hk, hv⟩, ?_⟩
    refine ⟨_, rfl, 1, rfl, _, rfl, _, _, rfl, rfl, _, _, rfl, ?_⟩
    refine ⟨_, rfl, .inl ⟨_, rfl, _, _, rfl, rfl, p29, _, _, rfl, rfl, .inr ⟨by decide, by decide⟩, .int k, rfl, _, _, rfl, rfl, .inl ⟨by decide, by decide⟩, _, _, rfl, rfl, _, _, rfl, rfl, .inl ⟨_, rfl, _, _, rfl, rfl, p47, ?_⟩⟩⟩
    refine ⟨_, rfl, _, _, rfl, rfl, ⟨by decide, by decide, by decide⟩, _, _, rfl, rfl, _, rfl, ?_⟩
    refine bsplit (fun _ => ?_) (fun _ => ?_)
    · exact ⟨_, rfl, _, rfl, z2, q _ _ (m1 _).1 (m1 _).2⟩
    · exact ⟨_, rfl, _, rfl, z2, q _ _ (m1 _).1 (m1 _).2⟩
  · rw [decide_eq_false hc]
    refine ⟨_, rfl, 1, rfl, _, rfl, _, _, rfl, rfl, _, _, rfl, ?_⟩
    refine ⟨_, rfl, .inl ⟨_, rfl, _, _, rfl, rfl, p29, _, _, rfl, rfl, .inr ⟨by decide, by decide⟩, .int k, rfl, _, _, rfl, rfl, .inl ⟨by decide, by decide⟩, _, _, rfl, rfl, _, _, rfl, rfl, .inl ⟨_, rfl, _, _, rfl, rfl, p47, ?_⟩⟩⟩
    refine ⟨_, rfl, _, _, rfl, rfl, ⟨by decide, by decide, by decide⟩, _, _, rfl, rfl, _, rfl, ?_⟩
    refine bsplit (fun _ => ?_) (fun _ => ?_)
    · exact ⟨_, rfl, _, rfl, z2, q _ _ (m1 _).1 (m1 _).2⟩
    · exact ⟨_, rfl, _, rfl, z2, q _ _ (m1 _).1 (m1 _).2⟩
def W_draw : DC := fun ds M Q => ∃ (a : Int), ds = [.mu 1, .int a] ∧ SrcAt 1 M ∧ 0 < a ∧ a < 1073741824 ∧ ∀ r M', Cu 1 M M' → 0 ≤ r → r < a → Q (.int r) M'
theorem ok_law_draw (T : Tx P w K mg) : FnOk P w K mg base CX0 1 T.a_law_draw T.f_law_draw ["_law_source_here", "_law_amount"] (spD 2 W_draw K) := by
  refine pd_fn T.F_law_draw sc_law_draw (fun cdv A outer s H E hr => ⟨_, (pdss_cons (pds_if (pdt_cmp op_gt sr_I0b (pd_ix ix_list sr_ixM (pd_name 0) pd_int) pd_int (nomark _)) (pdss_cons (pds_set 2 sc_law_draw.nd (pd_op op_mod sr_I (pd_callTy call_int1 sc_int (by rfl) T.n_int (by decide +kernel) (pda_cons (pd_ix ix_list sr_ixM (pd_name 0) pd_int) pda_nil)) (pd_name 1)))
      (pdss_cons (pds_setItem (pd_op op_fdiv sr_I (pd_ix ix_list sr_ixM (pd_name 0) pd_int) (pd_name 1)) (pd_name 0) pd_int)
      (pdss_one (pds_ret (pd_name 2))))) pdss_nil)
      (pdss_cons (pds_setItem (pd_op op_mod sr_I (pd_callTy call_int1 sc_int (by rfl) T.n_int (by decide +kernel) (pda_cons (pd_op op_add sr_I0i (pd_op op_mul sr_I (pd_ix ix_list sr_ixM (pd_name 0) pd_int) pd_int) pd_int) pda_nil)) pd_int) (pd_name 0) pd_int)
      (pdss_one (pds_ret (pd_op op_mod sr_I (pd_callTy call_int1 sc_int (by rfl) T.n_int (by decide +kernel) (pda_cons (pd_op op_fdiv sr_I (pd_op op_mod sr_I (pd_callTy call_int1 sc_int (by rfl) T.n_int (by decide +kernel) (pda_cons (pd_op op_mul sr_I (pd_ix ix_list sr_ixM (pd_name 0) pd_int) (pd_ix ix_list sr_ixM (pd_name 0) pd_int)) pda_nil)) pd_int) pd_int) pda_nil)) (pd_name 1)))))), fun ds M Q hl h => ?_⟩)
  obtain ⟨a, rfl, ⟨n, sd, hm, h1, h2⟩, ha, hb, q⟩ := h
  have hk : 1 < M.length := (List.getElem?_eq_some_iff.mp hm).1
  refine ⟨.mu 1, rfl, 1, _, 0, .int n, rfl, rfl, hm, ⟨by decide, rfl⟩, n, 0, rfl, rfl, decide (0 < n), rfl, ?_⟩
  by_cases hc : 0 < n
  · rw [decide_eq_true hc]
    refine ⟨.mu 1, rfl, 1, _, 0, .int n, rfl, rfl, hm, ⟨by decide, rfl⟩, .inl ⟨n, rfl, .int a, rfl, _, _, rfl, rfl, ha, ?_⟩⟩
    refine ⟨.mu 1, rfl, 1, _, 0, .int n, rfl, rfl, hm, ⟨by decide, rfl⟩, .int a, rfl, _, _, rfl, rfl, ⟨ha, hb⟩, .mu 1, rfl, 1, _, 0, rfl, rfl, hm, ⟨by decide, (by show 0 < 2; decide)⟩, ?_⟩
    exact ⟨_, rfl, q _ _ ⟨_, _, h1, h2, rfl⟩ (Int.emod_nonneg _ (by omega)) (Int.emod_lt_of_pos _ ha)⟩
  · rw [decide_eq_false hc]
    have m1 : ∀ x : Int, 0 ≤ x % 2147483647 ∧ x % 2147483647 < 2147483647 := fun x => ⟨Int.emod_nonneg _ (by decide), Int.emod_lt_of_pos _ (by decide)⟩
    refine ⟨.mu 1, rfl, 1, _, 1, .int sd, rfl, rfl, hm, ⟨by decide, rfl⟩, _, _, rfl, rfl, .inr ⟨by decide, by decide⟩, _, _, rfl, rfl, .inl ⟨_, rfl, _, _, rfl, rfl, p47, .mu 1, rfl, 1, _, 1, rfl, rfl, hm, ⟨by decide, (by show 1 < 2; decide)⟩, ?_⟩⟩
    have m2 := m1 (sd * 48271 + 11)
    have hs := List.getElem?_set_self (a := MO.lst ([D.int n, .int sd].set (1 : Int).toNat (.int ((sd * 48271 + 11) % 2147483647)))) hk
    refine ⟨.mu 1, rfl, 1, _, 1, _, rfl, rfl, hs, ⟨by decide, rfl⟩, .mu 1, rfl, 1, _, 1, _, rfl, rfl, hs, ⟨by decide, rfl⟩, _, _, rfl, rfl, .inl ⟨by omega, by omega⟩, .inl ⟨_, rfl, _, _, rfl, rfl, p29, _, _, rfl, rfl, ⟨by decide, by decide⟩, .inl ⟨_, rfl, .int a, rfl, _, _, rfl, rfl, ha, ?_⟩⟩⟩
    exact q _ _ ⟨_, _, m2.1, m2.2, rfl⟩ (Int.emod_nonneg _ (by omega)) (Int.emod_lt_of_pos _ ha)
end
end K58
set_option Elab.async false
set_option linter.all false
set_option maxRecDepth 100000
set_option maxHeartbeats 4000000
namespace K58
open PySem PySem.Spec PyProof.Rows L2 Pd
/-- a row of parts, or None -/
def rowLen : D → Nat | .tup xs => xs.length | .lst xs => xs.length | _ => 0
def rowB (d : D) : Prop := d = .non ∨ ∃ xs, isSeq d xs ∧ xs.length ≤ 3
def spotsFrom (i : Nat) : List D → List (List Int)
  | [] => []
  | d :: r => ((List.range (rowLen d)).map fun (j : Nat) => [(i : Int), (j : Int)]) ++ spotsFrom (i + 1) r
def keep : D → Option D | .tup [i, d] => if isNonD d = true then none else some (.tup [i, d]) | _ => none
def wide : D → List D | .tup [i, d] => (List.range (rowLen d)).map fun (j : Nat) => .tup [i, .int (j : Int)] | _ => []
theorem spots_eq : ∀ (rows : List D) (i : Nat), (∀ d ∈ rows, rowB d) → ((numd i rows).filterMap keep).flatMap wide = (spotsFrom i rows).map tI
  | [], _, _ => rfl
  | d :: r, i, h => by
    have ih := spots_eq r (i + 1) fun x hx => h x (List.mem_cons_of_mem _ hx)
    show ((D.tup [.int (i : Int), d] :: numd (i + 1) r).filterMap keep).flatMap wide = List.map tI (_ ++ _)
    rw [List.map_append, ← ih, List.filterMap_cons]
    rcases h d List.mem_cons_self with rfl | ⟨xs, hx, _⟩
    · rfl
    · have e : keep (.tup [.int (i : Int), d]) = some (.tup [.int (i : Int), d]) := by rcases hx with rfl | rfl <;> rfl
      rw [e]
      show List.flatMap wide (_ :: _) = _
      rw [List.flatMap_cons]
      congr 1
      show List.map _ _ = List.map _ (List.map _ _)
      rw [List.map_map]
      rfl
theorem spots_len : ∀ (rows : List D) (i : Nat), (∀ d ∈ rows, rowLen d ≤ 3) → (spotsFrom i rows).length ≤ 3 * rows.length
  | [], _, _ => Nat.zero_le _
  | d :: r, i, h => by
    have h1 := h d List.mem_cons_self
    have ih := spots_len r (i + 1) fun x hx => h x (List.mem_cons_of_mem _ hx)
    show (((List.range (rowLen d)).map fun (j : Nat) => [(i : Int), (j : Int)]) ++ spotsFrom (i + 1) r).length ≤ 3 * (r.length + 1)
    rw [List.length_append, List.length_map, List.length_range]
    omega
theorem rowB.len {d : D} (h : rowB d) : rowLen d ≤ 3 := by
  rcases h with rfl | ⟨xs, rfl | rfl, hl⟩
  · exact Nat.zero_le _
  · exact hl
  · exact hl
section
variable {P : Program} {w : World} {K : PySem.W.Frag} {mg : Str → Option Value} {base : Heap}
def W_spots_of : DC := fun ds M Q => ∃ d rows, ds = [d] ∧ isSeq d rows ∧ rows.length ≤ 6 ∧ (∀ x ∈ rows, rowB x) ∧ Q (.tup ((spotsFrom 0 rows).map tI)) M
theorem ok_spots_of_parts (T : Tx P w K mg) : FnOk P w K mg base CX0 1 T.a_spots_of_parts T.f_spots_of_parts ["pieces"] (spD 1 W_spots_of K) := by
  refine pd_fn T.F_spots_of_parts sc_spots_of_parts (fun cdv A outer s H E hr => ⟨_, (pdss_cons (pds_setLc 1 [("piece", 2), ("parts", 3)] rfl sc_spots_of_parts.nd rfl rfl (sw_true rfl rfl rfl (by decide +kernel)) (pdi_enumK (by rfl) T.n_enumerate (pda_cons (pd_name 0) pda_nil)) (blkOk_by (N := ["pieces", "there", "piece", "parts", "part"]) (sc := defScope s_spots_of_parts) (by decide +kernel)) (fun _ _ _ _ _ => (pdg_tup (n := 2) rfl (pdgs_cons (pdg_name 2 sc_spots_of_parts.nd) (pdgs_cons (pdg_name 3 sc_spots_of_parts.nd) pdgs_nil)))) (fun _ _ _ _ _ => pdts_one (pdt_cmp op_not0 sr_not0 (pd_name 3) pd_non (nomark _))) (fun _ _ _ _ _ => (pd_tup (pda_cons (pd_name 2) (pda_cons (pd_name 3) pda_nil)))))
      (pdss_one (pds_ret (pd_callTy call_tuple_of sc_tuple (by rfl) T.n_tuple (by decide +kernel) (pda_cons (pd_lc2 [("piece", 2), ("parts", 3), ("part", 4)] [4] rfl sc_spots_of_parts.nd (pdi_list (pd_name 1)) (blkOk_by (N := ["pieces", "there", "piece", "parts", "part"]) (sc := defScope s_spots_of_parts) (by decide +kernel)) (fun _ _ _ _ _ => (pdg_tup (n := 2) rfl (pdgs_cons (pdg_name 2 sc_spots_of_parts.nd) (pdgs_cons (pdg_name 3 sc_spots_of_parts.nd) pdgs_nil)))) (fun _ _ _ _ _ => pdts_nil) (fun _ _ _ _ _ => (pdi_range1 (by rfl) T.n_range (pda_cons (pd_callB call_len_seq sc_len (by rfl) T.n_len (by decide +kernel) (pda_cons (pd_name 3) pda_nil)) pda_nil))) (fun _ _ _ _ _ => (pdg_name 4 sc_spots_of_parts.nd)) (fun _ _ _ _ _ => pdts_nil) (fun _ _ _ _ _ => (pd_tup (pda_cons (pd_name 2) (pda_cons (pd_name 4) pda_nil))))) pda_nil))))), fun ds M Q hl h => ?_⟩)
  obtain ⟨d, rows, rfl, hd, h6, hb, q⟩ := h
  have hsl : sizeLine = 16777216 := by decide
  refine ⟨d, rfl, d, rows, rfl, hd, lc_fmap keep _ _ (fun e he R S hR hS => ?_) (by rw [List.length_nil, numd_len]; omega) ?_⟩
  · obtain ⟨j, hj⟩ := List.mem_iff_getElem?.mp he
    have hjl : j < rows.length := by have := (List.getElem?_eq_some_iff.mp hj).1; rwa [numd_len] at this
    have hx := numd_get rows 0 j _ (List.getElem?_eq_getElem hjl)
    rw [hx] at hj
    cases hj
    refine ⟨_, rfl, rfl, _, _, rfl, _, _, rfl, rfl, ?_⟩
    cases hn : isNonD rows[j] with
    | true => exact ⟨rows[j], rfl, rfl, false, by rw [hn]; rfl, hS (if_pos hn)⟩
    | false => exact ⟨rows[j], rfl, rfl, true, by rw [hn]; rfl, _, rfl, rows[j], rfl, (by show 2 ≤ sizeLine; decide), hR _ (if_neg (by rw [hn]; exact Bool.false_ne_true))⟩
  · refine ⟨_, rfl, _, rfl, lc2_map wide _ _ (fun e he acc k hz hk => ?_) ?_ ?_⟩
    · obtain ⟨a, ha, hka⟩ := List.mem_filterMap.mp he
      obtain ⟨j, hj⟩ := List.mem_iff_getElem?.mp ha
      have hjl : j < rows.length := by have := (List.getElem?_eq_some_iff.mp hj).1; rwa [numd_len] at this
      have hx := numd_get rows 0 j _ (List.getElem?_eq_getElem hjl)
      rw [hx] at hj
      cases hj
      have hrb := hb _ (List.getElem_mem hjl)
      generalize rows[j] = row at *
      have hnn : isNonD row = false ∧ e = .tup [.int ((0 + j : Nat) : Int), row] := by
        have h2 : (if isNonD row = true then none else some (D.tup [.int ((0 + j : Nat) : Int), row])) = some e := hka
        cases hn : isNonD row with
        | true => rw [hn, if_pos rfl] at h2; cases h2
        | false => rw [hn, if_neg Bool.false_ne_true] at h2; cases h2; exact ⟨rfl, rfl⟩
      obtain ⟨hnn, rfl⟩ := hnn
      obtain ⟨xs, hxs, hxl⟩ : ∃ xs, isSeq row xs ∧ xs.length ≤ 3 := by
        rcases hrb with rfl | h
        · cases hnn
        · exact h
      have hrl : rowLen row = xs.length := by rcases hxs with rfl | rfl <;> rfl
      have hw : wide (.tup [.int ((0 + j : Nat) : Int), row]) = (rng 0 (xs.length : Int).toNat).map (fun e => .tup [.int ((0 + j : Nat) : Int), e]) := by
        show List.map _ (List.range (rowLen row)) = _
        rw [hrl]
        unfold rng
        rw [Int.toNat_natCast, List.map_map]
        congr 1
        funext v
        show D.tup [_, D.int (v : Int)] = D.tup [_, D.int (0 + (v : Int))]
        rw [Int.zero_add]
      rw [hw] at hz hk
      rw [List.length_map] at hz
      refine ⟨_, rfl, rfl, _, _, rfl, _, _, rfl, rfl, ?_⟩
      refine ⟨row, rfl, xs, (by rcases hxs with rfl | rfl; exact .inl rfl; exact .inr rfl), _, rfl, by omega, by omega, lcIn_map (fun e => .tup [.int ((0 + j : Nat) : Int), e]) _ _ (fun e2 he2 R hR => ?_) hz hk⟩
      exact ⟨_, rfl, e2, rfl, (by show 2 ≤ sizeLine; decide), hR⟩
    · have h1 := spots_len rows 0 fun d hd => (hb d hd).len
      rw [List.nil_append, spots_eq rows 0 hb, List.length_nil, List.length_map]
      omega
    · rw [List.nil_append, List.nil_append, spots_eq rows 0 hb]
      exact ⟨_, _, rfl, .inl rfl, q⟩
end
def unI : D → Int | .int i => i | _ => 0
def ltG : D → Bool | .tup [.int a, .int b] => decide (a < b) | .tup [.tup a, .tup b] => HT.lexLt (a.map unI) (b.map unI) | _ => false
/-- each one before the next -/
def ascG (es : List D) : Bool := (pairs es (Pd.cutD es (some 1) none)).all ltG
theorem unI_map (xs : List Int) : (dI xs).map unI = xs := by
  show List.map _ (List.map _ _) = _
  rw [List.map_map]
  show List.map id xs = xs
  rw [List.map_id]
theorem pairs_in : ∀ (xs ys : List D) (d : D), d ∈ pairs xs ys → ∃ a b, a ∈ xs ∧ b ∈ ys ∧ d = .tup [a, b]
  | x :: xs, y :: ys, d, h => by
    rcases List.mem_cons.mp h with rfl | h
    · exact ⟨x, y, List.mem_cons_self, List.mem_cons_self, rfl⟩
    · obtain ⟨a, b, h1, h2, h3⟩ := pairs_in xs ys d h
      exact ⟨a, b, List.mem_cons_of_mem _ h1, List.mem_cons_of_mem _ h2, h3⟩
  | [], ys, d, h => by cases ys <;> cases h
  | _ :: _, [], d, h => by cases h
theorem cutD_in {xs : List D} {l u : Option Int} {d : D} (h : d ∈ Pd.cutD xs l u) : d ∈ xs := List.mem_of_mem_drop (List.mem_of_mem_take h)
theorem drop1 (xs : List D) : Pd.cutD xs (some 1) none = xs.drop 1 := by
  cases xs with
  | nil => rfl
  | cons x xs =>
    unfold Pd.cutD
    have e1 : HT.sIx (x :: xs).length 0 (some 1) = 1 := by
      unfold HT.sIx
      simp
      try omega
    have e2 : HT.sIx (x :: xs).length (x :: xs).length none = (x :: xs).length := rfl
    rw [e1, e2]
    show xs.take _ = xs
    exact List.take_of_length_le (by simp)
theorem ascG_of {es : List D} (h : es.Pairwise fun a b => ltG (.tup [a, b]) = true) : ascG es = true := by
  unfold ascG
  rw [drop1]
  induction es with
  | nil => rfl
  | cons a es ih =>
    cases es with
    | nil => rfl
    | cons b es =>
      obtain ⟨h1, h2⟩ := List.pairwise_cons.mp h
      have ih := ih h2
      show (ltG (.tup [a, b]) && ((pairs (b :: es) es).all ltG)) = true
      rw [h1 b List.mem_cons_self]
      exact ih
/-- one spot before another -/
def spLt (x y : List Int) : Prop := ∃ i j k l : Int, x = [i, j] ∧ y = [k, l] ∧ (i < k ∨ i = k ∧ j < l)
theorem ltT {x y : List Int} (h : spLt x y) : ltG (.tup [tI x, tI y]) = true := by
  obtain ⟨i, j, k, l, rfl, rfl, h⟩ := h
  show HT.lexLt ((dI [i, j]).map unI) ((dI [k, l]).map unI) = true
  rw [unI_map, unI_map]
  rw [HT.lexLt_cons]
  rcases h with h | ⟨rfl, h⟩
  · rw [if_neg (by omega)]; exact decide_eq_true h
  · rw [if_pos rfl, HT.lexLt_cons, if_neg (by omega)]; exact decide_eq_true h
theorem asc_spots {sp : List (List Int)} (h : sp.Pairwise spLt) : ascG (sp.map tI) = true := ascG_of (by
  rw [List.pairwise_map]
  exact h.imp fun h => ltT h)
theorem spotsFrom_mem : ∀ (rows : List D) (i : Nat) (x : List Int), x ∈ spotsFrom i rows → ∃ k j : Nat, x = [(k : Int), (j : Int)] ∧ i ≤ k ∧ ∃ d, rows[k - i]? = some d ∧ j < rowLen d
  | [], i, x, h => nomatch h
  | d :: r, i, x, h => by
    rcases List.mem_append.mp h with h | h
    · obtain ⟨j, hj, rfl⟩ := List.mem_map.mp h
      exact ⟨i, j, rfl, Nat.le_refl _, d, by rw [Nat.sub_self]; rfl, List.mem_range.mp hj⟩
    · obtain ⟨k, j, rfl, hk, e, he, hj⟩ := spotsFrom_mem r (i + 1) x h
      exact ⟨k, j, rfl, by omega, e, by rw [show k - i = (k - (i + 1)) + 1 by omega]; exact he, hj⟩
theorem spotsFrom_asc : ∀ (rows : List D) (i : Nat), (spotsFrom i rows).Pairwise spLt
  | [], _ => List.Pairwise.nil
  | d :: r, i => by
    refine List.pairwise_append.mpr ⟨?_, spotsFrom_asc r (i + 1), fun x hx y hy => ?_⟩
    · rw [List.pairwise_map]
      exact List.pairwise_lt_range.imp fun h => ⟨_, _, _, _, rfl, rfl, .inr ⟨rfl, by omega⟩⟩
    · obtain ⟨j, _, rfl⟩ := List.mem_map.mp hx
      obtain ⟨k, l, rfl, hk, _⟩ := spotsFrom_mem r (i + 1) y hy
      exact ⟨_, _, _, _, rfl, rfl, .inl (by omega)⟩
theorem okD_tuplesT (es : List (List Int)) : okD (.tup (es.map tI)) = true := okD_tuples es
section
variable {P : Program} {w : World} {K : PySem.W.Frag} {mg : Str → Option Value} {base : Heap}
def W_is_ascending : DC := fun ds M Q => ∃ d es, ds = [d] ∧ isSeq d es ∧ es.length ≤ 1000 ∧ ((∃ ns, es = dI ns) ∨ ∃ sp : List (List Int), es = sp.map tI) ∧ Q (.bl (ascG es)) M
theorem ok_is_ascending (T : Tx P w K mg) : FnOk P w K mg base CX0 1 T.a_is_ascending T.f_is_ascending ["items"] (spD 1 W_is_ascending K) := by
  refine pd_fn T.F_is_ascending sc_is_ascending (fun cdv A outer s H E hr => ⟨_, (pdss_one (pds_ret (pd_callB (cr_all rfl) sc_all (by rfl) T.n_all (by decide +kernel) (pda_cons (pd_lc [("one", 1), ("other", 2)] rfl sc_is_ascending.nd (pdi_zip (by rfl) T.n_zip (pda_cons (pd_name 0) (pda_cons (pd_slS (pd_name 0) (pdo_some pd_int) pdo_no) pda_nil))) (blkOk_by (N := ["items", "one", "other"]) (sc := defScope s_is_ascending) (by decide +kernel)) (fun _ _ _ _ _ => (pdg_tup (n := 2) rfl (pdgs_cons (pdg_name 1 sc_is_ascending.nd) (pdgs_cons (pdg_name 2 sc_is_ascending.nd) pdgs_nil)))) (fun _ _ _ _ _ => pdts_nil) (fun _ _ _ _ _ => (pd_cmp (op_or2 op_lt (op_ltT (Nat.lt_of_le_of_lt (Nat.le_add_right _ 64) hr.units))) (sr_or2 sr_I0b sr_ltT) (pd_name 1) (pd_name 2) (nomark _)))) pda_nil)))), fun ds M Q hl h => ?_⟩)
  obtain ⟨d, es, rfl, hd, hz, hk, q⟩ := h
  have hsl : sizeLine = 16777216 := by decide
  have hlike : isSeq (likeD d (Pd.cutD es (some 1) none)) (Pd.cutD es (some 1) none) := by
    rcases hd with rfl | rfl
    · exact .inl rfl
    · exact .inr rfl
  have hlen : (pairs es (Pd.cutD es (some 1) none)).length ≤ es.length := by
    rw [Pd.pairs_len]
    exact Nat.min_le_left _ _
  refine ⟨d, rfl, d, rfl, es, hd, 1, rfl, d, _, _, _, rfl, hd, hlike, lc_map (fun e => .bl (ltG e)) _ _ (fun e he R hR => ?_) (by rw [List.length_nil]; omega) ?_⟩
  · obtain ⟨a, b, ha, hb, rfl⟩ := pairs_in _ _ _ he
    have hb := cutD_in hb
    rcases hk with ⟨ns, rfl⟩ | ⟨sp, rfl⟩
    · obtain ⟨xa, _, rfl⟩ := List.mem_map.mp ha
      obtain ⟨xb, _, rfl⟩ := List.mem_map.mp hb
      exact ⟨_, rfl, rfl, _, _, rfl, _, _, rfl, rfl, _, rfl, _, rfl, .inl ⟨xa, xb, rfl, rfl, hR⟩⟩
    · obtain ⟨xa, _, rfl⟩ := List.mem_map.mp ha
      obtain ⟨xb, _, rfl⟩ := List.mem_map.mp hb
      refine ⟨_, rfl, rfl, _, _, rfl, _, _, rfl, rfl, _, rfl, _, rfl, .inr ⟨xa, xb, rfl, rfl, ?_⟩⟩
      have e : ltG (.tup [tI xa, tI xb]) = HT.lexLt xa xb := by
        show HT.lexLt ((dI xa).map unI) ((dI xb).map unI) = _
        rw [unI_map, unI_map]
      rw [← e]
      exact hR
  · refine ⟨(pairs es (Pd.cutD es (some 1) none)).map ltG, ?_, ?_⟩
    · rw [List.nil_append, List.map_map]
      rfl
    · rw [List.all_map]
      exact q
end
end K58
set_option Elab.async false
set_option linter.all false
set_option maxRecDepth 100000
set_option maxHeartbeats 4000000
namespace K58
open PySem PySem.Spec PyProof.Rows L2 Pd Spc
variable {P : Program} {w : World} {K : PySem.W.Frag} {mg : Str → Option Value} {base : Heap}
def spotB (sp : List (List Int)) : D → Bool
  | .tup [.int i, .int j] => decide ([i, j] ∈ sp)
  | _ => false
theorem spotB_len {sp : List (List Int)} {xs : List D} (h : xs.length ≠ 2) : spotB sp (.tup xs) = false := by
  match xs, h with
  | [], _ => rfl
  | [x], _ => cases x <;> rfl
  | [_, _], h => exact absurd rfl h
  | x :: y :: z :: r, _ => cases x <;> cases y <;> rfl
def W_is_spot : DC := fun ds M Q => ∃ d t sp, ds = [d, .tup (sp.map tI)] ∧ tyN d = some t ∧ (∀ xs, d = .tup xs → ∀ x ∈ xs, ∃ t, tyN x = some t) ∧ Q (.bl (spotB sp d)) M
theorem any_spot (sp : List (List Int)) (i j : Int) : ((sp.map tI).any fun z => eqD z (.tup [.int i, .int j])) = decide ([i, j] ∈ sp) := by
  rw [List.any_map]
  have : ((fun z => eqD z (.tup [.int i, .int j])) ∘ tI) = fun xs : List Int => decide (xs = [i, j]) := by
    funext xs
    exact eqD_tup xs [i, j]
  rw [this, Bool.eq_iff_iff]
  simp
theorem ok_is_spot (T : Tx P w K mg) : FnOk P w K mg base CX0 2 T.a_is_spot T.f_is_spot ["value", "spots"] (spD 2 W_is_spot K) := by
  refine pd_fn T.F_is_spot sc_is_spot (fun cdv A outer s H E hr => ⟨_, (pdss_cons (pds_if (pdt_w (pdw_or (pdt_not (pdt_val (pd_callB call_isi sc_isi (by rfl) T.n_isinstance (by decide +kernel) (pda_cons (pd_name 0) (pda_cons (pd_bltn (v := .ty "tuple") (d := .ty "tuple") (by rfl) T.n_tuple (by decide +kernel) rfl (fun _ _ => .ty _)) pda_nil))))) (pdw_or1 (pdt_cmp (op_neD hr.units) sr_ne (pd_callB call_len_seq sc_len (by rfl) T.n_len (by decide +kernel) (pda_cons (pd_name 0) pda_nil)) pd_int (nomark _))))) (pdss_one (pds_ret pd_bl)) pdss_nil)
      (pdss_one (pds_ret (pd_and (pd_call (ok_is_integer T) (hr.mono (by decide)) (by rfl) T.g_is_integer T.F_is_integer.kp T.b_is_integer (pda_cons (pd_ix ix_tup sr_ixT (pd_name 0) pd_int) pda_nil)) (pd_and (pd_call (ok_is_integer T) (hr.mono (by decide)) (by rfl) T.g_is_integer T.F_is_integer.kp T.b_is_integer (pda_cons (pd_ix ix_tup sr_ixT (pd_name 0) pd_int) pda_nil)) (pd_one (pd_cmp (op_inS' hr.units) sr_inS (pd_name 0) (pd_name 1) (by rfl)))))))), fun ds M Q hl h => ?_⟩)
  obtain ⟨d, t, sp, rfl, ht, hx, q⟩ := h
  have hd := dty (K := K) ht
  cases d <;> simp only [tyN, Option.some.injEq, reduceCtorEq] at ht <;> subst ht
  case tup xs =>
    have hx := hx xs rfl
    refine ⟨_, rfl, _, _, _, _, _, true, rfl, hd, .ty "tuple", kit_ty (by decide +kernel), true, rfl, ?_⟩
    refine ⟨_, rfl, xs, .inr rfl, rfl, rfl, ?_⟩
    rw [eqD_int]
    by_cases h2 : (xs.length : Int) = 2
    · rw [decide_eq_true h2]
      obtain ⟨a, b, rfl⟩ : ∃ a b, xs = [a, b] := by
        match xs, h2 with
        | [a, b], _ => exact ⟨a, b, rfl⟩
        | [], h => cases h
        | [_], h => cases h
        | _ :: _ :: _ :: _, h => simp at h; omega
      obtain ⟨ta, ha⟩ := hx a List.mem_cons_self
      obtain ⟨tb, hb⟩ := hx b (List.mem_cons_of_mem _ List.mem_cons_self)
      refine ⟨false, rfl, ?_⟩
      refine ⟨_, rfl, [a, b], 0, a, rfl, rfl, ⟨by decide, rfl⟩, rfl, a, ta, rfl, ha, isI a, rfl, ?_⟩
      cases hIa : isI a with
      | false =>
        have e : spotB sp (.tup [a, b]) = false := by cases a <;> first | rfl | cases hIa
        rw [e] at q
        exact q
      | true =>
        refine ⟨_, rfl, [a, b], 1, b, rfl, rfl, ⟨by decide, rfl⟩, rfl, b, tb, rfl, hb, isI b, rfl, ?_⟩
        cases hIb : isI b with
        | false =>
          have e : spotB sp (.tup [a, b]) = false := by cases a <;> cases b <;> first | rfl | cases hIb
          rw [e] at q
          exact q
        | true =>
          cases a <;> first | cases hIa | skip
          cases b <;> first | cases hIb | skip
          rename_i i j
          refine ⟨_, rfl, _, rfl, sp.map tI, .inr rfl, rfl, okD_tuplesT sp, (by show 1 ≤ 60; decide), ?_⟩
          rw [any_spot]
          exact q
    · rw [decide_eq_false h2]
      have e : spotB sp (.tup xs) = false := spotB_len fun z => h2 (by rw [z]; rfl)
      rw [e] at q
      exact ⟨true, rfl, q⟩
  all_goals
    refine ⟨_, rfl, _, _, _, _, _, false, rfl, hd, .ty "tuple", kit_ty (by decide +kernel), false, rfl, ?_⟩
    exact q
def unT : D → List Int | .tup xs => xs.map unI | _ => []
def spotsB (sp : List (List Int)) (d : D) : Bool := match itemsD d with | some xs => decide (xs.length ≤ sp.length) && (xs.all (spotB sp) && ascG xs) | none => false
theorem spotB_in {sp : List (List Int)} {d : D} (h : spotB sp d = true) : d = tI (unT d) := by
  unfold spotB at h
  split at h
  · rfl
  · cases h
def Typed (d : D) : Prop := (∃ t, tyN d = some t) ∧ ∀ xs, itemsD d = some xs → xs.length ≤ 1000 ∧ ∀ x ∈ xs, (∃ t, tyN x = some t) ∧ ∀ ys, x = .tup ys → ∀ y ∈ ys, ∃ t, tyN y = some t
def W_are_spots : DC := fun ds M Q => ∃ d sp, ds = [d, .tup (sp.map tI)] ∧ Typed d ∧ Q (.bl (spotsB sp d)) M
theorem ok_are_spots (T : Tx P w K mg) : FnOk P w K mg base CX0 3 T.a_are_spots T.f_are_spots ["value", "spots"] (spD 2 W_are_spots K) := by
  refine pd_fn T.F_are_spots sc_are_spots (fun cdv A outer s H E hr => ⟨_, (pdss_cons (pds_if (pdt_not (pdt_val (pd_call (ok_has_items T) (hr.mono (by decide)) (by rfl) T.g_has_items T.F_has_items.kp T.b_has_items (pda_cons (pd_name 0) (pda_cons pd_int (pda_cons (pd_callB call_len_seq sc_len (by rfl) T.n_len (by decide +kernel) (pda_cons (pd_name 1) pda_nil)) pda_nil)))))) (pdss_one (pds_ret pd_bl)) pdss_nil)
      (pdss_one (pds_ret (pd_and (pd_callB (cr_all rfl) sc_all (by rfl) T.n_all (by decide +kernel) (pda_cons (pd_lc [("item", 2)] rfl sc_are_spots.nd (pdi_seq (pd_name 0)) (blkOk_by (N := ["value", "spots", "item"]) (sc := defScope s_are_spots) (by decide +kernel)) (fun _ _ _ _ _ => (pdg_name 2 sc_are_spots.nd)) (fun _ _ _ _ _ => pdts_nil) (fun _ _ _ _ _ => (pd_call (ok_is_spot T) (hr.mono (by decide)) (by rfl) T.g_is_spot T.F_is_spot.kp T.b_is_spot (pda_cons (pd_name 2) (pda_cons (pd_name 1) pda_nil))))) pda_nil)) (pd_one (pd_call (ok_is_ascending T) (hr.mono (by decide)) (by rfl) T.g_is_ascending T.F_is_ascending.kp T.b_is_ascending (pda_cons (pd_name 0) pda_nil))))))), fun ds M Q hl h => ?_⟩)
  obtain ⟨d, sp, rfl, ⟨⟨t, ht⟩, hx⟩, q⟩ := h
  have hsl : sizeLine = 16777216 := by decide
  refine ⟨d, rfl, _, rfl, _, .inr rfl, rfl, d, t, 0, _, rfl, ht, hasB 0 ((sp.map tI).length : Int) d, rfl, ?_⟩
  rcases seq_or (K := K) ht with ⟨xs, hxs, hk, hb⟩ | ⟨hk, hb⟩
  · obtain ⟨hz, hty⟩ := hx xs (isSeq_items hxs)
    have e1 : hasB 0 ((sp.map tI).length : Int) d = decide (xs.length ≤ sp.length) := by
      rw [hb, decide_eq_true (by omega), Bool.true_and, List.length_map, Bool.eq_iff_iff]
      simp
    have e2 : spotsB sp d = (decide (xs.length ≤ sp.length) && (xs.all (spotB sp) && ascG xs)) := by
      unfold spotsB
      rw [isSeq_items hxs]
    rw [e1]
    rw [e2] at q
    by_cases hle : xs.length ≤ sp.length
    · rw [decide_eq_true hle] at q ⊢
      refine ⟨_, rfl, xs, hxs, lc_map (fun e => .bl (spotB sp e)) _ _ (fun e he R hR => ?_) (by rw [List.length_nil]; omega) ?_⟩
      · obtain ⟨⟨te, hte⟩, hys⟩ := hty e he
        exact ⟨e, rfl, _, rfl, rfl, e, te, sp, rfl, hte, hys, hR⟩
      · refine ⟨xs.map (spotB sp), ?_, xs.all (spotB sp), ?_, ?_⟩
        · rw [List.nil_append, List.map_map]
          rfl
        · rw [List.all_map]; rfl
        · cases hall : xs.all (spotB sp) with
          | false => rw [hall] at q; exact q
          | true =>
            rw [hall] at q
            have e3 : xs = (xs.map unT).map tI := by
              rw [List.map_map]
              refine (List.map_id xs).symm.trans (List.map_congr_left fun x hx => ?_)
              exact spotB_in (List.all_eq_true.mp hall x hx)
            refine ⟨d, rfl, rfl, d, xs, rfl, hxs, hz, .inr ⟨_, e3⟩, q⟩
    · rw [decide_eq_false hle] at q ⊢
      exact q
  · have e2 : spotsB sp d = false := by
      cases d
      case lst xs => have := hb 0 (xs.length : Int); simp [hasB] at this
      case tup xs => have := hb 0 (xs.length : Int); simp [hasB] at this
      all_goals rfl
    rw [hb]
    rw [e2] at q
    exact q
def pricesB (lo hi : Int) (d : D) : Bool := match itemsD d with | some xs => (decide (lo ≤ (xs.length : Int)) && decide ((xs.length : Int) ≤ hi)) && xs.all (btwB 0 1000) | none => false
def W_are_prices : DC := fun ds M Q => ∃ d lo hi, ds = [d, .int lo, .int hi] ∧ (∃ t, tyN d = some t) ∧ (∀ xs, itemsD d = some xs → xs.length ≤ 1000 ∧ ∀ x ∈ xs, ∃ t, tyN x = some t) ∧ Q (.bl (pricesB lo hi d)) M
theorem noSeq {d : D} (hb : ∀ lo hi, hasB lo hi d = false) : itemsD d = none := by
  cases d
  case lst xs => have := hb 0 (xs.length : Int); simp [hasB] at this
  case tup xs => have := hb 0 (xs.length : Int); simp [hasB] at this
  all_goals rfl
theorem ok_are_prices (T : Tx P w K mg) : FnOk P w K mg base CX0 4 T.a_are_prices T.f_are_prices ["value", "least", "most"] (spD 3 W_are_prices K) := by
  refine pd_fn T.F_are_prices sc_are_prices (fun cdv A outer s H E hr => ⟨_, (pdss_one (pds_ret (pd_and (pd_call (ok_has_items T) (hr.mono (by decide)) (by rfl) T.g_has_items T.F_has_items.kp T.b_has_items (pda_cons (pd_name 0) (pda_cons (pd_name 1) (pda_cons (pd_name 2) pda_nil)))) (pd_one (pd_call (ok_all_between T) (hr.mono (by decide)) (by rfl) T.g_all_between T.F_all_between.kp T.b_all_between (pda_cons (pd_name 0) (pda_cons pd_int (pda_cons (pd_glob (v := .int 1000) (d := .int 1000) (by rfl) T.g_GREATEST_PRICE ⟨_, rfl⟩ (fun _ _ => .int _)) pda_nil)))))))), fun ds M Q hl h => ?_⟩)
  obtain ⟨d, lo, hi, rfl, ⟨t, ht⟩, hx, q⟩ := h
  have hsl : sizeLine = 16777216 := by decide
  rcases seq_or (K := K) ht with ⟨xs, hxs, hk, hb⟩ | ⟨hk, hb⟩
  · obtain ⟨hz, hty⟩ := hx xs (isSeq_items hxs)
    have e2 : pricesB lo hi d = ((decide (lo ≤ (xs.length : Int)) && decide ((xs.length : Int) ≤ hi)) && xs.all (btwB 0 1000)) := by
      unfold pricesB
      rw [isSeq_items hxs]
    rw [e2] at q
    refine ⟨d, rfl, .int lo, rfl, .int hi, rfl, rfl, d, t, lo, hi, rfl, ht, hasB lo hi d, rfl, ?_⟩
    rw [hb]
    cases hc : (decide (lo ≤ (xs.length : Int)) && decide ((xs.length : Int) ≤ hi)) with
    | false => rw [hc] at q; exact q
    | true =>
      rw [hc] at q
      exact ⟨d, rfl, rfl, d, xs, 0, 1000, rfl, hxs, hty, by omega, q⟩
  · have e2 : pricesB lo hi d = false := by unfold pricesB; rw [noSeq hb]
    rw [e2] at q
    refine ⟨d, rfl, .int lo, rfl, .int hi, rfl, rfl, d, t, lo, hi, rfl, ht, false, by rw [hb], q⟩
end K58
namespace Spc
def pw (p : Int) : Nat → Int
  | 0 => 1
  | n + 1 => pw p n * p
def asc : List Nat → Bool
  | [] => true
  | [_] => true
  | a :: b :: l => decide (a < b) && asc (b :: l)
end Spc
namespace Spc
def sm (x d : Rw) : Int := (List.zipWith (fun a b => a * b) x d).sum
end Spc
set_option Elab.async false
set_option linter.all false
set_option maxRecDepth 100000
set_option maxHeartbeats 4000000
namespace K58
open PySem PySem.Spec PyProof.Rows L2 Pd Spc
def lt : D → D | .lst xs => .tup xs | d => d
def intsOf : D → List Int | .tup ds => ds.map unI | _ => []
theorem ints_tI (xs : List Int) : intsOf (tI xs) = xs := unI_map xs
theorem kI_inj {x y : List Int} (h : kI x = kI y) : x = y := by
  unfold kI at h
  have := congrArg (List.map fun k : Key => match k with | .inl i => i | .inr _ => 0) h
  rw [List.map_map, List.map_map] at this
  simpa [Function.comp_def] using this
theorem okM_ins {M : Ms} {j : Nat} {C : Addr} {fs : List (Str × D)} (h : okM M) (hf : apartF M.length fs = true) : okM (M.set j (.ins C fs)) := by
  unfold okM at h ⊢
  rw [List.length_set]
  refine List.all_eq_true.mpr fun m hm => ?_
  rcases List.mem_or_eq_of_mem_set hm with h1 | h1
  · exact List.all_eq_true.mp h m h1
  · rw [h1]; exact hf
theorem nodup_len {α : Type} [DecidableEq α] : ∀ (a b : List α), a.Nodup → (∀ x ∈ a, x ∈ b) → a.length ≤ b.length
  | [], _, _, _ => Nat.zero_le _
  | x :: a, b, hn, h => by
    obtain ⟨h1, h2⟩ := List.nodup_cons.mp hn
    have hx := h x List.mem_cons_self
    have ih := nodup_len a (b.erase x) h2 fun y hy => (List.mem_erase_of_ne (fun e => by subst e; exact h1 hy)).mpr (h y (List.mem_cons_of_mem _ hy))
    rw [List.length_erase_of_mem hx] at ih
    have := List.length_pos_of_mem hx
    rw [List.length_cons]; omega
theorem asc_nodup {g : List Int} (h : g.Pairwise (· < ·)) : g.Nodup := h.imp fun h => by omega
theorem asc_eq : ∀ {a b : List Int}, a.Pairwise (· < ·) → b.Pairwise (· < ·) → (∀ x ∈ a, x ∈ b) → a.length = b.length → a = b
  | [], [], _, _, _, _ => rfl
  | [], _ :: _, _, _, _, h => by cases h
  | _ :: _, [], _, _, _, h => by cases h
  | x :: a, y :: b, ha, hb, hs, hl => by
    obtain ⟨a1, a2⟩ := List.pairwise_cons.mp ha
    obtain ⟨b1, b2⟩ := List.pairwise_cons.mp hb
    have hxy : x = y := by
      rcases List.mem_cons.mp (hs x List.mem_cons_self) with h | h
      · exact h
      · have hlt := b1 x h
        have := nodup_len (x :: a) b (asc_nodup ha) fun z hz => by
          rcases List.mem_cons.mp (hs z hz) with e | e
          · rcases List.mem_cons.mp hz with e2 | e2
            · rw [e2]; exact h
            · have := a1 z e2; omega
          · exact e
        rw [List.length_cons] at this hl
        rw [List.length_cons] at hl
        omega
    subst hxy
    rw [asc_eq a2 b2 (fun z hz => ?_) (by simpa using hl)]
    rcases List.mem_cons.mp (hs z (List.mem_cons_of_mem _ hz)) with e | e
    · have := a1 z hz; omega
    · exact e
def ip (x : List Int) : Int := x.getD 0 0
def jp (x : List Int) : Int := x.getD 1 0
def valP (rows : List (List Int)) (x : List Int) : Int := (rows.getD (ip x).toNat []).getD (jp x).toNat 0
def bill (rows : List (List Int)) (sp : List (List Int)) (i : Int) : List Int := (sp.filter fun x => ip x == i).map (valP rows)
def psum (rows : List (List Int)) (sp : List (List Int)) (i : Int) : Int := (bill rows sp i).sum
def pkS (acc : List Int) (x : List Int) : List Int := if acc.contains (ip x) = true then acc else acc ++ [ip x]
/-- the pieces of spots, in the order of their first -/
def pk (sp : List (List Int)) : List Int := sp.foldl pkS []
def hasI (sp : List (List Int)) (i : Int) : Bool := sp.any fun x => ip x == i
theorem pk_snoc (sp : List (List Int)) (x : List Int) : pk (sp ++ [x]) = pkS (pk sp) x := by unfold pk; rw [List.foldl_append]; rfl
theorem pkF_mem (i : Int) : ∀ (sp : List (List Int)) (acc : List Int), i ∈ sp.foldl pkS acc ↔ i ∈ acc ∨ ∃ x ∈ sp, ip x = i
  | [], acc => by simp
  | x :: r, acc => by
    rw [List.foldl_cons, pkF_mem i r]
    unfold pkS
    by_cases c : acc.contains (ip x) = true
    · rw [if_pos c]
      have c' := List.contains_iff_mem.mp c
      constructor
      · rintro (h | ⟨y, h, e⟩)
        · exact .inl h
        · exact .inr ⟨y, List.mem_cons_of_mem _ h, e⟩
      · rintro (h | ⟨y, h, e⟩)
        · exact .inl h
        · rcases List.mem_cons.mp h with rfl | h
          · exact .inl (e ▸ c')
          · exact .inr ⟨y, h, e⟩
    · rw [if_neg c]
      constructor
      · rintro (h | ⟨y, h, e⟩)
        · rcases List.mem_append.mp h with h | h
          · exact .inl h
          · exact .inr ⟨x, List.mem_cons_self, (List.mem_singleton.mp h).symm⟩
        · exact .inr ⟨y, List.mem_cons_of_mem _ h, e⟩
      · rintro (h | ⟨y, h, e⟩)
        · exact .inl (List.mem_append.mpr (.inl h))
        · rcases List.mem_cons.mp h with rfl | h
          · exact .inl (List.mem_append.mpr (.inr (by rw [e]; exact List.mem_singleton.mpr rfl)))
          · exact .inr ⟨y, h, e⟩
theorem pk_mem {sp : List (List Int)} {i : Int} : i ∈ pk sp ↔ hasI sp i = true := by
  unfold pk hasI
  rw [pkF_mem, List.any_eq_true]
  constructor
  · rintro (h | ⟨x, h, e⟩)
    · cases h
    · exact ⟨x, h, by simpa using e⟩
  · rintro ⟨x, h, e⟩
    exact .inr ⟨x, h, by simpa using e⟩
theorem pkF_asc : ∀ (sp : List (List Int)) (acc : List Int), acc.Pairwise (· < ·) → (∀ a ∈ acc, ∀ x ∈ sp, a ≤ ip x) → sp.Pairwise (fun x y => ip x ≤ ip y) → (sp.foldl pkS acc).Pairwise (· < ·)
  | [], acc, h, _, _ => h
  | x :: r, acc, h, hb, hp => by
    obtain ⟨p1, p2⟩ := List.pairwise_cons.mp hp
    rw [List.foldl_cons]
    unfold pkS
    by_cases c : acc.contains (ip x) = true
    · rw [if_pos c]
      exact pkF_asc r acc h (fun a ha y hy => hb a ha y (List.mem_cons_of_mem _ hy)) p2
    · rw [if_neg c]
      refine pkF_asc r _ (List.pairwise_append.mpr ⟨h, List.pairwise_singleton _ _, fun a ha b hb' => ?_⟩) (fun a ha y hy => ?_) p2
      · rw [List.mem_singleton.mp hb']
        have h1 := hb a ha x List.mem_cons_self
        have h2 : a ≠ ip x := fun e => c (List.contains_iff_mem.mpr (e ▸ ha))
        omega
      · rcases List.mem_append.mp ha with ha | ha
        · exact hb a ha y (List.mem_cons_of_mem _ hy)
        · rw [List.mem_singleton.mp ha]; exact p1 y hy
theorem lt_ip {sp : List (List Int)} (h : sp.Pairwise spLt) : sp.Pairwise (fun x y => ip x ≤ ip y) := h.imp fun {x y} h => by
  obtain ⟨i, j, k, l, rfl, rfl, h⟩ := h
  show i ≤ k
  omega
theorem pk_eq {sp : List (List Int)} {n : Nat} (h : sp.Pairwise spLt) (hn : ∀ x ∈ sp, 0 ≤ ip x ∧ ip x < (n : Int)) : pk sp = ((List.range n).map fun (k : Nat) => (k : Int)).filter (hasI sp) := by
  have a1 : (pk sp).Pairwise (· < ·) := pkF_asc sp [] List.Pairwise.nil (fun _ h => nomatch h) (lt_ip h)
  have a2 : (((List.range n).map fun (k : Nat) => (k : Int)).filter (hasI sp)).Pairwise (· < ·) := by
    refine List.Pairwise.filter _ ?_
    rw [List.pairwise_map]
    exact List.pairwise_lt_range.imp fun h => by omega
  have s1 : ∀ i ∈ pk sp, i ∈ ((List.range n).map fun (k : Nat) => (k : Int)).filter (hasI sp) := fun i hi => by
    have hh := pk_mem.mp hi
    refine List.mem_filter.mpr ⟨?_, hh⟩
    obtain ⟨x, hx, e⟩ := List.any_eq_true.mp hh
    have e' : ip x = i := by simpa using e
    have := hn x hx
    exact List.mem_map.mpr ⟨i.toNat, List.mem_range.mpr (by omega), by omega⟩
  have s2 : ∀ i ∈ ((List.range n).map fun (k : Nat) => (k : Int)).filter (hasI sp), i ∈ pk sp := fun i hi => pk_mem.mpr (List.mem_filter.mp hi).2
  have l1 := nodup_len _ _ (asc_nodup a1) s1
  have l2 := nodup_len _ _ (asc_nodup a2) s2
  exact asc_eq a1 a2 s1 (by omega)
def term (rows : List (List Int)) (ws os : List Int) (sp : List (List Int)) (i : Int) : Int := os.getD i.toNat 0 + min (psum rows sp i) (ws.getD i.toNat 0)
def costP (rows : List (List Int)) (ws os : List Int) (sp : List (List Int)) : Int := ((pk sp).map (term rows ws os sp)).sum
end K58
set_option Elab.async false
set_option linter.all false
set_option maxRecDepth 100000
set_option maxHeartbeats 4000000
namespace K58
open PySem PySem.Spec PyProof.Rows L2 Pd Spc
def In01 (xs : List Int) : Prop := ∀ x ∈ xs, 0 ≤ x ∧ x ≤ 1000
structure PrOk (n : Nat) (rows : List (List Int)) (ws os : List Int) : Prop where
  l1 : rows.length = n
  l2 : ws.length = n
  l3 : os.length = n
  n1 : 1 ≤ n
  n6 : n ≤ 6
  r : ∀ e ∈ rows, 1 ≤ e.length ∧ e.length ≤ 3 ∧ In01 e
  w : In01 ws
  o : In01 os
def spP (rows : List (List Int)) : List (List Int) := spotsFrom 0 (rows.map tI)
def prF (rows : List (List Int)) (ws os : List Int) : List (Str × D) := [("_parts", .tup (rows.map tI)), ("_wholes", tI ws), ("_opens", tI os), ("_spots", .tup ((spP rows).map tI))]
def dPr (C : Addr) (rows : List (List Int)) (ws os : List Int) : D := .ins C (prF rows ws os)
theorem lt_row {es : List D} {rows : List (List Int)} (h : es.map lt = rows.map tI) {d : D} (hd : d ∈ es) : ∃ r ∈ rows, isSeq d (dI r) := by
  have : lt d ∈ rows.map tI := by rw [← h]; exact List.mem_map_of_mem hd
  obtain ⟨r, hr, e⟩ := List.mem_map.mp this
  refine ⟨r, hr, ?_⟩
  cases d with
  | lst xs => exact .inl (by have e : D.tup (dI r) = .tup xs := e; injection e with e; rw [e])
  | tup xs => exact .inr (by have e : D.tup (dI r) = .tup xs := e; injection e with e; rw [e])
  | _ => cases e
theorem has_call {d : D} {xs : List D} {lo hi : Int} {M : Ms} {Q : D → Ms → Prop} (h : isSeq d xs) (q : Q (.bl (decide (lo ≤ (xs.length : Int)) && decide ((xs.length : Int) ≤ hi))) M) : W_has_items [d, .int lo, .int hi] M Q := by
  rcases h with rfl | rfl <;> exact ⟨_, _, lo, hi, rfl, rfl, q⟩
theorem ty_ints (xs : List Int) : ∀ x ∈ dI xs, ∃ t, tyN x = some t := fun x hx => by obtain ⟨i, _, rfl⟩ := List.mem_map.mp hx; exact ⟨_, rfl⟩
theorem seq_ty {d : D} {xs : List D} (h : isSeq d xs) : ∃ t, tyN d = some t := by rcases h with rfl | rfl <;> exact ⟨_, rfl⟩
theorem btw_in {xs : List Int} {lo hi : Int} (h : ∀ x ∈ xs, lo ≤ x ∧ x ≤ hi) : (dI xs).all (btwB lo hi) = true := by
  rw [List.all_eq_true]
  intro d hd
  obtain ⟨x, hx, rfl⟩ := List.mem_map.mp hd
  have := h x hx
  show (decide (lo ≤ x) && decide (x ≤ hi)) = true
  rw [decide_eq_true this.1, decide_eq_true this.2]; rfl
theorem arep_call {d : D} {xs : List Int} {lo hi : Int} {M : Ms} {Q : D → Ms → Prop} (h : isSeq d (dI xs)) (h1 : lo ≤ xs.length) (h2 : (xs.length : Int) ≤ hi) (h3 : xs.length ≤ 1000) (h4 : In01 xs) (q : Q (.bl true) M) : W_are_prices [d, .int lo, .int hi] M Q := by
  refine ⟨d, lo, hi, rfl, seq_ty h, fun ys e => ?_, ?_⟩
  · rw [isSeq_items h] at e
    cases e
    exact ⟨by rw [List.length_map]; exact h3, ty_ints xs⟩
  · have e : pricesB lo hi d = true := by
      unfold pricesB
      rw [isSeq_items h]
      show ((decide (lo ≤ ((dI xs).length : Int)) && decide (((dI xs).length : Int) ≤ hi)) && (dI xs).all (btwB 0 1000)) = true
      rw [btw_in h4, List.length_map, decide_eq_true h1, decide_eq_true h2]; rfl
    rw [e]; exact q
section
variable {P : Program} {w : World} {K : PySem.W.Frag} {mg : Str → Option Value} {base : Heap}
def W_pinit (C : Addr) : DC := fun ds M Q => ∃ (j n : Nat) (d wd od : D) (es : List D) (rows : List (List Int)) (ws os : List Int), ds = [.mu j, d, wd, od] ∧ isSeq d es ∧ es.map lt = rows.map tI ∧ isSeq wd (dI ws) ∧ isSeq od (dI os) ∧ PrOk n rows ws os ∧ M[j]? = some (.ins C []) ∧ Q .non (M.set j (.ins C (prF rows ws os)))
theorem ok_Prices_init (T : Tx P w K mg) : FnOk P w K mg base CX0 6 T.a_Prices_init T.f_Prices_init ["self", "parts", "wholes", "opens"] (spD 4 (W_pinit T.a_Prices) K) := by
  refine pd_fn T.F_Prices_init sc_Prices_init (fun cdv A outer s H E hr => ⟨_, (pdss_cons (pds_if (pdt_w (pdw_or (pdt_not (pdt_val (pd_call (ok_has_items T) (hr.mono (by decide)) (by rfl) T.g_has_items T.F_has_items.kp T.b_has_items (pda_cons (pd_name 1) (pda_cons pd_int (pda_cons (pd_glob (v := .int 6) (d := .int 6) (by rfl) T.g_MOST_PIECES ⟨_, rfl⟩ (fun _ _ => .int _)) pda_nil)))))) (pdw_or1 (pdt_not (pdt_val (pd_callB (cr_all rfl) sc_all (by rfl) T.n_all (by decide +kernel) (pda_cons (pd_lc [("row", 4)] rfl sc_Prices_init.nd (pdi_seq (pd_name 1)) (blkOk_by (N := ["self", "parts", "wholes", "opens", "row"]) (sc := defScope s_Prices_init) (by decide +kernel)) (fun _ _ _ _ _ => (pdg_name 4 sc_Prices_init.nd)) (fun _ _ _ _ _ => pdts_nil) (fun _ _ _ _ _ => (pd_call (ok_are_prices T) (hr.mono (by decide)) (by rfl) T.g_are_prices T.F_are_prices.kp T.b_are_prices (pda_cons (pd_name 4) (pda_cons pd_int (pda_cons (pd_glob (v := .int 3) (d := .int 3) (by rfl) T.g_MOST_PARTS ⟨_, rfl⟩ (fun _ _ => .int _)) pda_nil)))))) pda_nil))))))) (pdss_one pds_never) pdss_nil)
      (pdss_cons (pds_if (pdt_not (pdt_val (pd_call (ok_are_prices T) (hr.mono (by decide)) (by rfl) T.g_are_prices T.F_are_prices.kp T.b_are_prices (pda_cons (pd_name 2) (pda_cons (pd_callB call_len_seq sc_len (by rfl) T.n_len (by decide +kernel) (pda_cons (pd_name 1) pda_nil)) (pda_cons (pd_callB call_len_seq sc_len (by rfl) T.n_len (by decide +kernel) (pda_cons (pd_name 1) pda_nil)) pda_nil)))))) (pdss_one pds_never) pdss_nil)
      (pdss_cons (pds_if (pdt_not (pdt_val (pd_call (ok_are_prices T) (hr.mono (by decide)) (by rfl) T.g_are_prices T.F_are_prices.kp T.b_are_prices (pda_cons (pd_name 3) (pda_cons (pd_callB call_len_seq sc_len (by rfl) T.n_len (by decide +kernel) (pda_cons (pd_name 1) pda_nil)) (pda_cons (pd_callB call_len_seq sc_len (by rfl) T.n_len (by decide +kernel) (pda_cons (pd_name 1) pda_nil)) pda_nil)))))) (pdss_one pds_never) pdss_nil)
      (pdss_cons (pds_fldM (pd_callTy call_tuple_of sc_tuple (by rfl) T.n_tuple (by decide +kernel) (pda_cons (pd_lc [("row", 4)] rfl sc_Prices_init.nd (pdi_seq (pd_name 1)) (blkOk_by (N := ["self", "parts", "wholes", "opens", "row"]) (sc := defScope s_Prices_init) (by decide +kernel)) (fun _ _ _ _ _ => (pdg_name 4 sc_Prices_init.nd)) (fun _ _ _ _ _ => pdts_nil) (fun _ _ _ _ _ => (pd_callTy call_tuple_of sc_tuple (by rfl) T.n_tuple (by decide +kernel) (pda_cons (pd_name 4) pda_nil)))) pda_nil)) (pd_name 0))
      (pdss_cons (pds_fldM (pd_callTy call_tuple_of sc_tuple (by rfl) T.n_tuple (by decide +kernel) (pda_cons (pd_name 2) pda_nil)) (pd_name 0))
      (pdss_cons (pds_fldM (pd_callTy call_tuple_of sc_tuple (by rfl) T.n_tuple (by decide +kernel) (pda_cons (pd_name 3) pda_nil)) (pd_name 0))
      (pdss_one (pds_fldM (pd_call (ok_spots_of_parts T) (hr.mono (by decide)) (by rfl) T.g_spots_of_parts T.F_spots_of_parts.kp T.b_spots_of_parts (pda_cons (pd_fldMu (K := K) rfl (pd_name 0)) pda_nil)) (pd_name 0))))))))), fun ds M Q hl h => ?_⟩)
  obtain ⟨j, n, d, wd, od, es, rows, ws, os, rfl, hd, hes, hws, hos, hp, hm, q⟩ := h
  have hsl : sizeLine = 16777216 := by decide
  have hel : es.length = rows.length := by have := congrArg List.length hes; rwa [List.length_map, List.length_map] at this
  have h1 := hp.l1
  have h2 := hp.l2
  have h3 := hp.l3
  have n1 := hp.n1
  have n6 := hp.n6
  have hj : j < M.length := (List.getElem?_eq_some_iff.mp hm).1
  have gj : ∀ fs, (M.set j (.ins T.a_Prices fs))[j]? = some (.ins T.a_Prices fs) := fun fs => List.getElem?_set_self hj
  refine ⟨d, rfl, rfl, has_call hd ⟨true, by rw [decide_eq_true (by omega), decide_eq_true (by omega)]; rfl, ?_⟩⟩
  refine ⟨d, rfl, es, hd, lc_map (fun _ => .bl true) _ _ (fun e he R hR => ?_) (by rw [List.length_nil]; omega) ?_⟩
  · obtain ⟨r, hr, hse⟩ := lt_row hes he
    obtain ⟨r1, r3, r4⟩ := hp.r r hr
    exact ⟨e, rfl, rfl, arep_call hse (by omega) (by omega) (by omega) r4 hR⟩
  refine ⟨es.map fun _ => true, by rw [List.nil_append, List.map_map]; rfl, true, by rw [show ((es.map fun _ => true).all id) = true by rw [List.all_map]; exact List.all_eq_true.mpr fun _ _ => rfl], ?_⟩
  refine ⟨wd, rfl, d, rfl, es, (by rcases hd with rfl | rfl; exact .inl rfl; exact .inr rfl), d, rfl, es, (by rcases hd with rfl | rfl; exact .inl rfl; exact .inr rfl), rfl, arep_call hws (by omega) (by omega) (by omega) hp.w ⟨true, rfl, ?_⟩⟩
  refine ⟨od, rfl, d, rfl, es, (by rcases hd with rfl | rfl; exact .inl rfl; exact .inr rfl), d, rfl, es, (by rcases hd with rfl | rfl; exact .inl rfl; exact .inr rfl), rfl, arep_call hos (by omega) (by omega) (by omega) hp.o ⟨true, rfl, ?_⟩⟩
  refine ⟨d, rfl, es, hd, lc_map lt _ _ (fun e he R hR => ?_) (by rw [List.length_nil]; omega) ?_⟩
  · obtain ⟨r, hr, hse⟩ := lt_row hes he
    have hlt : lt e = .tup (dI r) := by rcases hse with rfl | rfl <;> rfl
    rw [hlt] at hR
    exact ⟨e, rfl, e, dI r, rfl, hse, hR⟩
  rw [List.nil_append, hes]
  refine ⟨_, _, rfl, .inl rfl, .mu j, rfl, j, T.a_Prices, [], rfl, hm, T.c_Prices.cl, T.np_parts, by decide, ?_⟩
  refine ⟨wd, rfl, wd, dI ws, rfl, hws, .mu j, rfl, j, T.a_Prices, _, rfl, gj _, T.c_Prices.cl, T.np_wholes, (by show 1 < 1000; decide), ?_⟩
  rw [List.set_set]
  refine ⟨od, rfl, od, dI os, rfl, hos, .mu j, rfl, j, T.a_Prices, _, rfl, gj _, T.c_Prices.cl, T.np_opens, (by show 2 < 1000; decide), ?_⟩
  rw [List.set_set]
  refine ⟨.mu j, rfl, j, T.a_Prices, _, _, rfl, gj _, T.c_Prices.cl, T.np_parts, rfl, rfl, _, rows.map tI, rfl, .inr rfl, by rw [List.length_map]; omega, fun x hx => ?_, .mu j, rfl, j, T.a_Prices, _, rfl, gj _, T.c_Prices.cl, T.np_spots, (by show 3 < 1000; decide), ?_⟩
  · obtain ⟨r, hr, rfl⟩ := List.mem_map.mp hx
    exact .inr ⟨dI r, .inr rfl, by rw [List.length_map]; exact (hp.r r hr).2.1⟩
  · rw [List.set_set]
    exact q
end
end K58
set_option Elab.async false
set_option linter.all false
set_option maxRecDepth 100000
set_option maxHeartbeats 4000000
namespace K58
open PySem PySem.Spec PyProof.Rows L2 Pd Spc
def kys (L : List Int) : List Key := L.map Sum.inl
theorem dicGet_kys (f : Int → Int) (i : Int) : ∀ L : List Int, dicGet (kys L) (dI (L.map f)) (.inl i) = if L.contains i = true then some (.int (f i)) else none
  | [] => rfl
  | j :: L => by
    have ih := dicGet_kys f i L
    unfold dicGet kys at ih ⊢
    by_cases e : j = i
    · subst e
      rw [List.map_cons, List.map_cons]
      show Option.map _ (List.find? _ ((Sum.inl j, D.int (f j)) :: _)) = _
      rw [List.find?_cons_of_pos (by simp)]
      rw [if_pos (by simp)]; rfl
    · rw [List.map_cons, List.map_cons]
      show Option.map _ (List.find? _ ((Sum.inl j, D.int (f j)) :: List.zip (L.map Sum.inl) (dI (L.map f)))) = _
      rw [List.find?_cons_of_neg (by simp; exact e), ih]
      have : (j :: L).contains i = L.contains i := by
        rw [Bool.eq_iff_iff, List.contains_iff_mem, List.contains_iff_mem, List.mem_cons]
        exact ⟨fun h => h.resolve_left fun z => e z.symm, .inr⟩
      rw [this]
theorem psum_snoc (rows : List (List Int)) (sp : List (List Int)) (x : List Int) (i : Int) : psum rows (sp ++ [x]) i = psum rows sp i + if ip x = i then valP rows x else 0 := by
  unfold psum bill
  rw [List.filter_append, List.map_append, List.sum_append]
  by_cases e : ip x = i
  · rw [if_pos e, List.filter_cons_of_pos (by simpa using e)]
    show _ + (valP rows x + 0) = _
    omega
  · rw [if_neg e, List.filter_cons_of_neg (by simpa using e)]
    rfl
theorem psum_none {rows : List (List Int)} {sp : List (List Int)} {i : Int} (h : ¬ hasI sp i = true) : psum rows sp i = 0 := by
  unfold psum bill
  have : sp.filter (fun x => ip x == i) = [] := List.filter_eq_nil_iff.mpr fun x hx e => h (List.any_eq_true.mpr ⟨x, hx, e⟩)
  rw [this]; rfl
theorem hasK_kys (L : List Int) (i : Int) : hasK (kys L) (.inl i) = L.contains i := by
  rw [Bool.eq_iff_iff, hasK_iff, List.contains_iff_mem]
  unfold kys
  constructor
  · intro h
    obtain ⟨j, hj, e⟩ := List.mem_map.mp h
    injection e with e
    exact e ▸ hj
  · exact fun h => List.mem_map_of_mem h
theorem zip_kys (f g : Int → Int) (i v : Int) (h : ∀ j, g j = if j = i then v else f j) : ∀ L : List Int, List.zipWith (fun (j : Key) (x : D) => if j = .inl i then D.int v else x) (kys L) (dI (L.map f)) = dI (L.map g)
  | [] => rfl
  | j :: L => by
    have ih := zip_kys f g i v h L
    show (if (Sum.inl j : Key) = .inl i then D.int v else D.int (f j)) :: List.zipWith _ (kys L) (dI (L.map f)) = D.int (g j) :: dI (L.map g)
    rw [ih, h j]
    by_cases e : j = i
    · rw [if_pos (by rw [e]), if_pos e]
    · rw [if_neg (fun z => e (by injection z)), if_neg e]
theorem put_pk (rows : List (List Int)) (sp : List (List Int)) (x : List Int) : putM (kys (pk sp)) (dI ((pk sp).map (psum rows sp))) (.inl (ip x)) (.int (psum rows sp (ip x) + valP rows x)) = .dic (kys (pk (sp ++ [x]))) (dI ((pk (sp ++ [x])).map (psum rows (sp ++ [x])))) := by
  unfold putM
  rw [hasK_kys, pk_snoc]
  unfold pkS
  by_cases c : (pk sp).contains (ip x) = true
  · rw [if_pos c, if_pos c, zip_kys (psum rows sp) (psum rows (sp ++ [x])) (ip x) _ fun j => ?_]
    rw [psum_snoc]
    by_cases e : j = ip x
    · rw [if_pos e.symm, if_pos e, e]
    · rw [if_neg (fun z => e z.symm), if_neg e, Int.add_zero]
  · rw [if_neg c, if_neg c]
    have e1 : (pk sp).map (psum rows (sp ++ [x])) = (pk sp).map (psum rows sp) := List.map_congr_left fun j hj => by
      rw [psum_snoc, if_neg (fun z : ip x = j => c (List.contains_iff_mem.mpr (by rw [z]; exact hj))), Int.add_zero]
    unfold kys
    rw [List.map_append, List.map_append, e1]
    show MO.dic _ _ = MO.dic _ (List.map D.int (_ ++ _))
    rw [List.map_append]
    show MO.dic _ (_ ++ [D.int _]) = MO.dic _ (_ ++ [D.int (psum rows (sp ++ [x]) (ip x))])
    rw [psum_snoc, if_pos rfl]
    rfl
/-- spots of a table of such prices -/
structure SpIn (rows : List (List Int)) (sp : List (List Int)) : Prop where
  sub : sp.Sublist (spP rows)
section
variable {n : Nat} {rows : List (List Int)} {ws os : List Int} {sp : List (List Int)}
theorem spP_mem {x : List Int} (h : x ∈ spP rows) : ∃ (i j : Nat) (r : List Int), x = [(i : Int), (j : Int)] ∧ rows[i]? = some r ∧ j < r.length := by
  obtain ⟨k, j, rfl, _, d, hd, hj⟩ := spotsFrom_mem _ _ _ h
  rw [Nat.sub_zero, List.getElem?_map] at hd
  cases e : rows[k]? with
  | none => rw [e] at hd; cases hd
  | some r =>
    rw [e] at hd
    cases hd
    refine ⟨k, j, r, rfl, e, ?_⟩
    have : rowLen (tI r) = r.length := by show (dI r).length = _; rw [List.length_map]
    rwa [this] at hj
theorem spP_len (hp : PrOk n rows ws os) : (spP rows).length ≤ 18 := by
  have := spots_len (rows.map tI) 0 fun d hd => by
    obtain ⟨r, hr, rfl⟩ := List.mem_map.mp hd
    have : rowLen (tI r) = r.length := by show (dI r).length = _; rw [List.length_map]
    rw [this]
    exact (hp.r r hr).2.1
  have h1 := hp.l1
  have h6 := hp.n6
  rw [List.length_map] at this
  unfold spP
  omega
theorem SpIn.asc (h : SpIn rows sp) : sp.Pairwise spLt := List.Pairwise.sublist h.sub (spotsFrom_asc _ _)
theorem SpIn.rng (h : SpIn rows sp) : ∀ x ∈ sp, 0 ≤ ip x ∧ ip x < (rows.length : Int) := fun x hx => by
  obtain ⟨i, j, r, rfl, hr, _⟩ := spP_mem (h.sub.subset hx)
  have := (List.getElem?_eq_some_iff.mp hr).1
  show 0 ≤ (i : Int) ∧ (i : Int) < _
  omega
theorem pk_len (h : SpIn rows sp) : (pk sp).length ≤ rows.length := by
  rw [pk_eq h.asc h.rng]
  refine Nat.le_trans (List.length_filter_le _ _) ?_
  rw [List.length_map, List.length_range]; exact Nat.le_refl _
end
section
variable {P : Program} {w : World} {K : PySem.W.Frag} {mg : Str → Option Value} {base : Heap}
def W_pfld (C : Addr) (f : Str) : DC := fun ds M Q => ∃ (rows : List (List Int)) (ws os : List Int) (v : D), ds = [dPr C rows ws os] ∧ (prF rows ws os).lookup f = some v ∧ Q v M
theorem ok_Prices_parts (T : Tx P w K mg) : FnOk P w K mg base CX0 1 T.a_Prices_parts T.f_Prices_parts ["self"] (spD 1 (W_pfld T.a_Prices "_parts") K) := by
  refine pd_fn T.F_Prices_parts sc_Prices_parts (fun cdv A outer s H E hr => ⟨_, (pdss_one (pds_ret (pd_fldK (K := K) rfl (pd_name 0)))), fun ds M Q hl h => ?_⟩)
  obtain ⟨rows, ws, os, v, rfl, hv, q⟩ := h
  exact ⟨_, rfl, _, _, _, rfl, T.c_Prices.cl, T.np_parts, hv, q⟩
theorem ok_InvalidCost_init (T : Tx P w K mg) : FnOk P w K mg base CX0 1 T.a_InvalidCost_init T.f_InvalidCost_init ["self", "value"] (spI1 "Exception.__new__" [.type "Exception", .type "BaseException", .type "object"] T.a_InvalidCost "value" K) :=
  fn_init1 T.F_InvalidCost_init sc_InvalidCost_init (fun cdv A outer s H E => pss_one (ps_ostT tail_Exception (pv 0) (pv 1)))
theorem ok_InvalidSpots_init (T : Tx P w K mg) : FnOk P w K mg base CX0 1 T.a_InvalidSpots_init T.f_InvalidSpots_init ["self", "value"] (spI1 "Exception.__new__" [.type "Exception", .type "BaseException", .type "object"] T.a_InvalidSpots "value" K) :=
  fn_init1 T.F_InvalidSpots_init sc_InvalidSpots_init (fun cdv A outer s H E => pss_one (ps_ostT tail_Exception (pv 0) (pv 1)))
/-- spots that a net or prices are asked of: odd ones are told, right ones go on -/
def SpC (EC : Addr) (rows : List (List Int)) (d : D) (Xd : XD) (M : Ms) (R : List (List Int) → Prop) : Prop := (Typed d ∧ spotsB (spP rows) d = false ∧ Xd EC [("value", d)] M) ∨ ∃ sp, isSeq d (sp.map tI) ∧ SpIn rows sp ∧ R sp
theorem asc_sp {sp : List (List Int)} (h3 : sp.Pairwise spLt) : ascG (sp.map tI) = true := asc_spots h3
theorem spots_in {rows sp : List (List Int)} {d : D} (hd : isSeq d (sp.map tI)) (hs : SpIn rows sp) (h18 : (spP rows).length ≤ 18) : Typed d ∧ spotsB (spP rows) d = true := by
  have hl := hs.sub.length_le
  refine ⟨⟨seq_ty hd, fun xs e => ?_⟩, ?_⟩
  · rw [isSeq_items hd] at e
    cases e
    refine ⟨by rw [List.length_map]; omega, fun x hx => ?_⟩
    obtain ⟨r, _, rfl⟩ := List.mem_map.mp hx
    exact ⟨⟨_, rfl⟩, fun ys e => by cases e; exact ty_ints r⟩
  · unfold spotsB
    rw [isSeq_items hd]
    show (decide ((sp.map tI).length ≤ (spP rows).length) && ((sp.map tI).all (spotB (spP rows)) && ascG (sp.map tI))) = true
    rw [asc_sp hs.asc, List.length_map, decide_eq_true hl, List.all_map]
    rw [List.all_eq_true.mpr fun x hx => ?_]
    · rfl
    · obtain ⟨i, j, r, e, _⟩ := spP_mem (hs.sub.subset hx)
      subst e
      show decide _ = true
      exact decide_eq_true (hs.sub.subset hx)
def W_pp (C EC : Addr) : DCX := fun ds M Q Xd => ∃ (n : Nat) (rows : List (List Int)) (ws os : List Int) (d : D), ds = [dPr C rows ws os, d] ∧ PrOk n rows ws os ∧ okM M ∧ SpC EC rows d Xd M fun sp => Q (.dic (kys (pk sp)) (dI ((pk sp).map (psum rows sp)))) M
theorem ok_Prices_part_prices (T : Tx P w K mg) : FnOk P w K mg base (L2.CX P w) 6 T.a_Prices_part_prices T.f_Prices_part_prices ["self", "spots"] (spX 2 (W_pp T.a_Prices T.a_InvalidSpots) K) := by
  refine pd_fnX T.F_Prices_part_prices sc_Prices_part_prices (fun cdv A outer s H E hr => ⟨_, (pdssx_cons (pdsx_if (pdt_not (pdt_val (pd_call (ok_are_spots T) (hr.mono (by decide)) (by rfl) T.g_are_spots T.F_are_spots.kp T.b_are_spots (pda_cons (pd_name 1) (pda_cons (pd_fldK (K := K) rfl (pd_name 0)) pda_nil))))) (pdssx_one (pdsx_raise tail_Exception rfl (takes_of rfl rfl rfl rfl) T.x_InvalidSpots T.i_InvalidSpots T.t_InvalidSpots T.h_InvalidSpots (ok_InvalidSpots_init T) (hr.mono (by decide)) T.b_InvalidSpots_init (by rfl) T.g_InvalidSpots (pda_cons (pd_name 1) pda_nil))) pdssx_nil)
      (pdssx_of (pdss_buildD (i := 2) sc_Prices_part_prices.nd (pds_for PassesOwn.leaving rfl (pdi_seq (pd_name 1)) (pdg_tup (n := 2) rfl (pdgs_cons (pdg_name 3 sc_Prices_part_prices.nd) (pdgs_cons (pdg_name 4 sc_Prices_part_prices.nd) pdgs_nil))) (pdss_one (pds_setItemD hr.units (pd_op op_add sr_I0i (pd_dgetM hr.units (pd_name 2) (pd_name 3) pd_int) (pd_ix ix_tup sr_ixT (pd_ix ix_tup sr_ixT (pd_fldK (K := K) rfl (pd_name 0)) (pd_name 3)) (pd_name 4))) (pd_name 2) (pd_name 3))))
      (pdss_one (pds_ret (pd_name 2)))))), fun ds M Q Xd hl h => ?_⟩)
  obtain ⟨n, rows, ws, os, d, rfl, hp, hM, hc⟩ := h
  rcases hc with ⟨ht, hn, q⟩ | ⟨sp, hd, hs, q⟩
  · refine ⟨d, rfl, _, rfl, _, _, _, rfl, T.c_Prices.cl, T.np_spots, rfl, rfl, d, spP rows, rfl, ht, false, by rw [hn], ?_⟩
    exact ⟨_, rfl, _, rfl, q⟩
  have hsl : sizeLine = 16777216 := by decide
  have h18 := spP_len hp
  have hspl := hs.sub.length_le
  have h1 := hp.l1
  have n6 := hp.n6
  obtain ⟨ht, hb⟩ := spots_in hd hs h18
  refine ⟨d, rfl, _, rfl, _, _, _, rfl, T.c_Prices.cl, T.np_spots, rfl, rfl, d, spP rows, rfl, ht, true, by rw [hb], ?_⟩
  refine ⟨d, rfl, sp.map tI, hd, for_ind (fun k ρ M' => ∃ x3 x4, M' = M ++ [.dic (kys (pk (sp.take k))) (dI ((pk (sp.take k)).map (psum rows (sp.take k))))] ∧ ρ = [some (dPr T.a_Prices rows ws os), some d, some (.mu M.length), x3, x4]) _ ?_ ?_ ⟨_, _, rfl, rfl⟩⟩
  · rintro k e ρ M' N he ⟨x3, x4, rfl, rfl⟩ hN
    have hk : k < sp.length := by have := (List.getElem?_eq_some_iff.mp he).1; rwa [List.length_map] at this
    rw [List.getElem?_map, List.getElem?_eq_getElem hk] at he
    cases he
    obtain ⟨i, j, r, ex, hr, hj⟩ := spP_mem (hs.sub.subset (List.getElem_mem hk))
    have htk := List.take_succ_eq_append_getElem hk
    rw [ex] at htk ⊢
    have hin : SpIn rows (sp.take k) := ⟨(List.take_sublist _ _).trans hs.sub⟩
    have hpl := pk_len hin
    have hput := put_pk rows (sp.take k) [(i : Int), (j : Int)]
    rw [← htk] at hput
    have hrm := List.mem_of_getElem? hr
    have hval : valP rows [(i : Int), (j : Int)] = r[j] := by
      show (rows.getD ((i : Int)).toNat []).getD ((j : Int)).toNat 0 = _
      rw [Int.toNat_natCast, Int.toNat_natCast, List.getD_eq_getElem?_getD, List.getD_eq_getElem?_getD, hr]
      show (r[j]?).getD 0 = _
      rw [List.getElem?_eq_getElem hj]; rfl
    have hg : (dicGet (kys (pk (sp.take k))) (dI ((pk (sp.take k)).map (psum rows (sp.take k)))) (.inl (i : Int))).getD (.int 0) = .int (psum rows (sp.take k) (i : Int)) := by
      rw [dicGet_kys]
      split
      · rfl
      · rename_i c
        rw [psum_none fun z => c (List.contains_iff_mem.mpr (pk_mem.mpr z))]; rfl
    refine ⟨_, rfl, rfl, _, _, rfl, _, _, rfl, rfl, ?_⟩
    refine ⟨_, rfl, M.length, rfl, ⟨_, _, get_last _ _⟩, .int (i : Int), rfl, _, _, .inl (i : Int), get_last _ _, rfl, ?_⟩
    rw [hg]
    refine ⟨_, rfl, _, _, _, rfl, T.c_Prices.cl, T.np_parts, rfl, _, rfl, rows.map tI, (i : Int), tI r, rfl, rfl, ⟨Int.natCast_nonneg _, by rw [Int.toNat_natCast, List.getElem?_map, hr]; rfl⟩, _, rfl, dI r, (j : Int), .int r[j], rfl, rfl, ⟨Int.natCast_nonneg _, by rw [Int.toNat_natCast, List.getElem?_map, List.getElem?_eq_getElem hj]; rfl⟩, _, _, rfl, rfl, ?_⟩
    refine ⟨_, rfl, _, rfl, M.length, _, _, .inl (i : Int), rfl, rfl, get_last _ _, by unfold kys; rw [List.length_map]; omega, ?_⟩
    rw [set_last]
    rw [hval] at hput
    have hput' : putM (kys (pk (sp.take k))) (dI ((pk (sp.take k)).map (psum rows (sp.take k)))) (.inl (i : Int)) (.int (psum rows (sp.take k) (i : Int) + r[j])) = _ := hput
    refine hN _ _ ⟨_, _, ?_, rfl⟩
    rw [← hput']
  · rintro ρ M' ⟨x3, x4, rfl, rfl⟩
    rw [List.length_map, List.take_length]
    exact ⟨M, _, _, rfl, rfl, hM, apartA_ints _ _, rfl, _, rfl, q⟩
end
end K58
set_option Elab.async false
set_option linter.all false
set_option maxRecDepth 100000
set_option maxHeartbeats 4000000
namespace K58
open PySem PySem.Spec PyProof.Rows L2 Pd Spc
theorem kys_D (L : List Int) : (kys L).map keyD = dI L := by
  unfold kys
  rw [List.map_map]; rfl
theorem getD_get {xs : List Int} {i : Int} (h0 : 0 ≤ i) (h : i < (xs.length : Int)) : (dI xs)[i.toNat]? = some (.int (xs.getD i.toNat 0)) := by
  have hl : i.toNat < xs.length := by omega
  rw [List.getElem?_map, List.getElem?_eq_getElem hl, List.getD_eq_getElem?_getD, List.getElem?_eq_getElem hl]; rfl
def intA : D → Int | .int i => i | _ => 0
def intT : D → List Int | .tup es => es.map intA | _ => []
theorem intT_tI (x : List Int) : intT (tI x) = x := by
  show (dI x).map intA = x
  unfold dI
  rw [List.map_map]
  exact (List.map_congr_left fun i _ => rfl).trans (List.map_id x)
def keepS (f : List Int → Bool) (d : D) : Option D := if f (intT d) = true then some d else none
theorem keepS_eq (f : List Int → Bool) : ∀ L : List (List Int), (L.map tI).filterMap (keepS f) = (L.filter f).map tI
  | [] => rfl
  | k :: L => by
    have ih := keepS_eq f L
    rw [List.map_cons]
    by_cases c : f k = true
    · rw [List.filterMap_cons_some (show keepS f (tI k) = some (tI k) by unfold keepS; rw [intT_tI, if_pos c]), ih, List.filter_cons_of_pos c]; rfl
    · rw [List.filterMap_cons_none (show keepS f (tI k) = none by unfold keepS; rw [intT_tI, if_neg c]), ih, List.filter_cons_of_neg c]
theorem any_int (L : List Int) (i : Int) : ((dI L).any fun z => eqD z (.int i)) = L.contains i := by
  rw [show dI L = L.map D.int from rfl, List.any_map]
  have : ((fun y => eqD y (.int i)) ∘ D.int) = fun x : Int => decide (x = i) := by
    funext x; exact eqD_int _ _
  rw [this, Bool.eq_iff_iff, List.contains_iff_mem]
  simp
section
variable {P : Program} {w : World} {K : PySem.W.Frag} {mg : Str → Option Value} {base : Heap}
def W_pcall (C : Addr) : DC := fun ds M Q => ∃ (n : Nat) (rows : List (List Int)) (ws os : List Int) (d : D) (sp : List (List Int)), ds = [dPr C rows ws os, d] ∧ PrOk n rows ws os ∧ isSeq d (sp.map tI) ∧ SpIn rows sp ∧ okM M ∧ Q (.int (costP rows ws os sp)) M
theorem ok_Prices_call (T : Tx P w K mg) : FnOk P w K mg base CX0 8 T.a_Prices_call T.f_Prices_call ["self", "spots"] (spD 2 (W_pcall T.a_Prices) K) := by
  refine pd_fn T.F_Prices_call sc_Prices_call (fun cdv A outer s H E hr => ⟨_, (pdss_cons (pds_set 2 sc_Prices_call.nd (pd_methN (pd_name 0) T.c_Prices.cl T.me_prices (ok_Prices_part_prices T) (hr.mono (by decide)) T.b_Prices_part_prices (pda_cons (pd_name 1) pda_nil)))
      (pdss_one (pds_ret (pd_callB (cr_sum rfl) sc_sum (by rfl) T.n_sum (by decide +kernel) (pda_cons (pd_lc [("piece", 3)] rfl sc_Prices_call.nd (pdi_keys (pd_name 2)) (blkOk_by (N := ["self", "spots", "prices", "piece"]) (sc := defScope s_Prices_call) (by decide +kernel)) (fun _ _ _ _ _ => (pdg_name 3 sc_Prices_call.nd)) (fun _ _ _ _ _ => pdts_nil) (fun _ _ _ _ _ => (pd_op op_add sr_I0i (pd_ix ix_tup sr_ixT (pd_fldK (K := K) rfl (pd_name 0)) (pd_name 3)) (pd_callB (call_min2 rfl) sc_min (by rfl) T.n_min (by decide +kernel) (pda_cons (pd_getK hr.units (pd_name 2) (pd_name 3)) (pda_cons (pd_ix ix_tup sr_ixT (pd_fldK (K := K) rfl (pd_name 0)) (pd_name 3)) pda_nil)))))) pda_nil))))), fun ds M Q hl h => ?_⟩)
  obtain ⟨n, rows, ws, os, d, sp, rfl, hp, hd, hs, hM, q⟩ := h
  have hsl : sizeLine = 16777216 := by decide
  have h1 := hp.l1
  have h2 := hp.l2
  have h3 := hp.l3
  have n6 := hp.n6
  have hpl := pk_len hs
  refine ⟨_, rfl, _, rfl, rfl, d, rfl, rfl, n, rows, ws, os, d, rfl, hp, hM, .inr ⟨sp, hd, hs, ?_⟩⟩
  refine ⟨_, rfl, kys (pk sp), _, rfl, ?_⟩
  rw [kys_D]
  refine lc_map (fun d => match d with | .int i => .int (term rows ws os sp i) | d => d) _ _ (fun e he R hR => ?_) (by rw [List.length_nil, List.length_map]; omega) ?_
  · obtain ⟨i, hi, rfl⟩ := List.mem_map.mp he
    have hR' : R (.int (term rows ws os sp i)) M := hR
    have hir := hs.rng
    obtain ⟨x, hx, ex⟩ := List.any_eq_true.mp (pk_mem.mp hi)
    have ex' : ip x = i := by simpa using ex
    have hix := hir x hx
    rw [ex'] at hix
    refine ⟨_, rfl, _, _, _, rfl, T.c_Prices.cl, T.np_opens, rfl, _, rfl, dI os, i, _, rfl, rfl, ⟨hix.1, getD_get hix.1 (by omega)⟩, ?_⟩
    have hdg : dicGet (kys (pk sp)) (dI ((pk sp).map (psum rows sp))) (.inl i) = some (.int (psum rows sp i)) := by
      rw [dicGet_kys, if_pos (List.contains_iff_mem.mpr hi)]
    refine ⟨_, rfl, _, _, rfl, _, rfl, .inl i, _, rfl, hdg, _, rfl, _, _, _, rfl, T.c_Prices.cl, T.np_wholes, rfl, _, rfl, dI ws, i, _, rfl, rfl, ⟨hix.1, getD_get hix.1 (by omega)⟩, _, _, rfl, ?_⟩
    have hmin : ∀ a b : Int, (if b < a then b else a) = min a b := fun a b => by
      split <;> omega
    refine ⟨_, _, rfl, rfl, ?_⟩
    rw [hmin]
    exact hR'
  · rw [List.nil_append]
    refine ⟨(pk sp).map (term rows ws os sp), ?_, q⟩
    show [D.lst ((List.map D.int (pk sp)).map _)] = _
    rw [List.map_map, List.map_map]; rfl
def W_paid (C EC : Addr) : DCX := fun ds M Q Xd => ∃ (n : Nat) (rows : List (List Int)) (ws os : List Int) (d : D), ds = [dPr C rows ws os, d] ∧ PrOk n rows ws os ∧ okM M ∧ Typed d ∧ spotsB (spP rows) d = false ∧ Xd EC [("value", d)] M
theorem ok_Prices_paid (T : Tx P w K mg) : FnOk P w K mg base (L2.CX P w) 8 T.a_Prices_paid T.f_Prices_paid ["self", "spots"] (spX 2 (W_paid T.a_Prices T.a_InvalidSpots) K) := by
  refine pd_fnX T.F_Prices_paid sc_Prices_paid (fun cdv A outer s H E hr => ⟨_, (pdssx_cons (pdsx_set 2 sc_Prices_paid.nd (pdx_meth (takes_of rfl rfl rfl rfl) (pd_name 0) T.c_Prices.cl T.me_prices (ok_Prices_part_prices T) (hr.mono (by decide)) T.b_Prices_part_prices (pda_cons (pd_name 1) pda_nil)))
      (pdssx_of pdss_never)), fun ds M Q Xd hl h => ?_⟩)
  obtain ⟨n, rows, ws, os, d, rfl, hp, hM, ht, hn, q⟩ := h
  exact ⟨_, rfl, _, rfl, rfl, d, rfl, rfl, n, rows, ws, os, d, rfl, hp, hM, .inl ⟨ht, hn, q⟩⟩
end
end K58
set_option Elab.async false
set_option linter.all false
set_option maxRecDepth 100000
set_option maxHeartbeats 4000000
namespace K58
open PySem PySem.Spec PyProof.Rows L2 Pd Spc
theorem rng_at {lo : Int} {n k : Nat} {d : D} (h : (rng lo n)[k]? = some d) : k < n ∧ d = .int (lo + (k : Nat)) := by
  unfold rng at h
  rw [List.getElem?_map] at h
  cases hk : (List.range n)[k]? with
  | none => rw [hk] at h; cases h
  | some j =>
    rw [hk] at h
    obtain ⟨h1, h2⟩ := List.getElem?_eq_some_iff.mp hk
    rw [List.length_range] at h1
    rw [List.getElem_range] at h2
    subst h2
    cases h
    exact ⟨h1, rfl⟩
theorem grpsUnd_len : ∀ n, (grpsUnd n).length = 2 ^ n
  | 0 => rfl
  | n + 1 => by
    show (grpsUnd n ++ (grpsUnd n).map _).length = _
    rw [List.length_append, List.length_map, grpsUnd_len n, Nat.pow_succ]; omega
/-- all groups, fewer first, then ascending -/
def grps (m : Nat) : List (List Int) := (grpsUnd m).mergeSort grpLe
theorem grps_in {m : Nat} {g : List Int} : g ∈ grps m ↔ AscBelow m g := by unfold grps; rw [List.mem_mergeSort]; exact grps_mem
theorem grps_len (m : Nat) : (grps m).length = 2 ^ m := by unfold grps; rw [List.length_mergeSort]; exact grpsUnd_len m
theorem asc_len {m : Nat} {g : List Int} (h : AscBelow m g) : g.length ≤ m := by
  have h1 : g.Nodup := h.1.imp fun h => by omega
  have h2 : g ⊆ (List.range m).map fun (i : Nat) => (i : Int) := fun x hx => by
    obtain ⟨a, b⟩ := h.2 x hx
    exact List.mem_map.mpr ⟨x.toNat, List.mem_range.mpr (by omega), by omega⟩
  have := nodup_len _ _ h1 h2
  rwa [List.length_map, List.length_range] at this
section
variable {P : Program} {w : World} {K : PySem.W.Frag} {mg : Str → Option Value} {base : Heap}
def W_agroups : DC := fun ds M Q => ∃ m : Nat, ds = [.int m] ∧ m ≤ 10 ∧ Q (.lst ((grps m).map tI)) M
theorem ok_all_groups (T : Tx P w K mg) : FnOk P w K mg base CX0 1 T.a_all_groups T.f_all_groups ["many"] (spD 1 W_agroups K) := by
  refine pd_fn T.F_all_groups sc_all_groups (fun cdv A outer s H E hr => ⟨_, (pdss_cons (pds_set 1 sc_all_groups.nd (pd_lst (pda_cons (pd_tup pda_nil) pda_nil)))
      (pdss_cons (pds_for PassesOwn.never rfl (pdi_range1 (by rfl) T.n_range (pda_cons (pd_name 0) pda_nil)) (pdg_name 2 sc_all_groups.nd) (pdss_one (pds_set 1 sc_all_groups.nd (pd_lst (pda_star (pd_name 1) (pda_star (pd_lc [("group", 3)] rfl sc_all_groups.nd (pdi_list (pd_name 1)) (blkOk_by (N := ["many", "groups", "index", "group"]) (sc := defScope s_all_groups) (by decide +kernel)) (fun _ _ _ _ _ => (pdg_name 3 sc_all_groups.nd)) (fun _ _ _ _ _ => pdts_nil) (fun _ _ _ _ _ => (pd_tup (pda_star (pd_name 3) (pda_cons (pd_name 2) pda_nil))))) pda_nil))))))
      (pdss_one (pds_ret (pd_sortedLen hr.units (by rfl) T.n_sorted (by decide +kernel) (by rfl) T.n_len (by decide +kernel) (pda_cons (pd_sortedE rfl hr.units (by rfl) T.n_sorted (by decide +kernel) (pda_cons (pd_name 1) pda_nil)) pda_nil)))))), fun ds M Q hl h => ?_⟩)
  obtain ⟨m, rfl, hm, q⟩ := h
  have hsl : sizeLine = 16777216 := by decide
  refine ⟨by decide, by decide, .int m, rfl, m, rfl, by omega, by omega, ?_⟩
  refine for_ind (fun k ρ M' => M' = M ∧ ∃ x2 x3, ρ = [some (.int m), some (.lst ((grpsUnd k).map tI)), x2, x3]) _ ?_ ?_ ⟨rfl, none, none, rfl⟩
  · rintro k d ρ M' N hd ⟨rfl, x2, x3, rfl⟩ hN
    obtain ⟨hk, rfl⟩ := rng_at hd
    rw [Int.toNat_natCast] at hk
    have hl2 := grpsUnd_len k
    have hp2 : 2 ^ k ≤ 1024 := Nat.le_trans (Nat.pow_le_pow_right (by decide) (by omega : k ≤ 10)) (by decide)
    refine ⟨_, rfl, _, .inl rfl, ?_⟩
    refine ⟨_, rfl, _, rfl, lc_map (fun d => match d with | .tup ds => .tup (ds ++ [.int (k : Int)]) | d => d) _ _ (fun e he R hR => ?_) (by rw [List.length_nil, List.length_map]; omega) ?_⟩
    · obtain ⟨g, hg, rfl⟩ := List.mem_map.mp he
      have hR' : R (.tup (dI g ++ [.int (k : Int)])) M' := hR
      have hgl := asc_len (grps_mem.mp hg)
      rw [show (k : Int) = 0 + (k : Nat) by omega] at hR'
      exact ⟨_, rfl, _, .inr rfl, _, rfl, by rw [List.length_append, List.length_map, List.length_singleton]; omega, hR'⟩
    · have e : ((grpsUnd k).map tI).map (fun d => match d with | .tup ds => D.tup (ds ++ [.int (k : Int)]) | d => d) = ((grpsUnd k).map (· ++ [(k : Int)])).map tI := by
        rw [List.map_map, List.map_map]
        exact List.map_congr_left fun g _ => by show D.tup (dI g ++ [.int (k : Int)]) = D.tup (List.map D.int (g ++ [(k : Int)])); rw [List.map_append]; rfl
      rw [List.nil_append, e]
      refine ⟨_, .inl rfl, ?_⟩
      have e2 : (grpsUnd k).map tI ++ (((grpsUnd k).map (· ++ [(k : Int)])).map tI ++ []) = (grpsUnd (k + 1)).map tI := by
        rw [List.append_nil, ← List.map_append]; rfl
      refine ⟨(by show ((grpsUnd k).map tI ++ (((grpsUnd k).map (· ++ [(k : Int)])).map tI ++ [])).length ≤ sizeLine; rw [e2, List.length_map, grpsUnd_len, Nat.pow_succ]; omega), ?_⟩
      rw [e2]
      exact hN _ _ ⟨rfl, _, _, rfl⟩
  · rintro ρ M' ⟨rfl, x2, x3, rfl⟩
    rw [rng_len, Int.toNat_natCast]
    refine ⟨_, rfl, grpsUnd m, rfl, grps_first m, _, rfl, ?_⟩
    rw [sort_groups]
    exact q
end
end K58
set_option Elab.async false
set_option linter.all false
set_option maxRecDepth 100000
set_option maxHeartbeats 4000000
namespace K58
open PySem PySem.Spec PyProof.Rows L2 Pd Spc
theorem iff0 {A B : Prop} (h : B) : if false = true then A else B := by rw [if_neg Bool.false_ne_true]; exact h
theorem iff1 {A B : Prop} (h : A) : if true = true then A else B := by rw [if_pos rfl]; exact h
abbrev Lk := Int × Int × Int
def lkD (l : Lk) : D := .tup [.int l.1, .int l.2.1, .int l.2.2]
structure LkOk (l : Lk) : Prop where
  a0 : 0 ≤ l.1
  ab : l.1 < l.2.1
  b4 : l.2.1 ≤ 4
  c0 : 0 ≤ l.2.2
  c9 : l.2.2 ≤ 1000
def prL (l : Lk) : List Int := [l.1, l.2.1]
def prD : D → D | .tup [a, b, _] => .tup [a, b] | d => d
def prU : List (List Int) := (List.range 5).flatMap fun (i : Nat) => (List.range 5).map fun (j : Nat) => [(i : Int), (j : Int)]
theorem prU_mem {l : Lk} (h : LkOk l) : prL l ∈ prU := by
  have h0 := h.a0
  have h1 := h.ab
  have h2 := h.b4
  refine List.mem_flatMap.mpr ⟨l.1.toNat, List.mem_range.mpr (by omega), List.mem_map.mpr ⟨l.2.1.toNat, List.mem_range.mpr (by omega), ?_⟩⟩
  unfold prL
  rw [Int.toNat_of_nonneg h0, Int.toNat_of_nonneg (by omega)]
theorem prU_len : prU.length = 25 := by decide +kernel
def addR (R : List Int) (x : Int) : List Int := if R.contains x then R else R ++ [x]
def stp (R : List Int) (l : Lk) : List Int := if R.contains l.1 || R.contains l.2.1 then addR (addR R l.1) l.2.1 else R
def pas (L : List Lk) (R : List Int) : List Int := L.foldl stp R
def rchL (L : List Lk) (h : Int) : List Int := L.foldl (fun R _ => pas L R) [h]
def rng5 : List Int := (List.range 5).map fun (i : Nat) => (i : Int)
def rch (L : List Lk) (h : Int) : List Int := rng5.filter fun x => (rchL L h).contains x
def rep (R : List Int) : List D := R.map fun _ => D.bl true
structure RkOk (R : List Int) : Prop where
  nd : R.Nodup
  bd : ∀ x ∈ R, 0 ≤ x ∧ x ≤ 4
theorem addR_ok {R : List Int} {x : Int} (h : RkOk R) (h0 : 0 ≤ x) (h4 : x ≤ 4) : RkOk (addR R x) := by
  unfold addR
  cases hc : R.contains x with
  | true => rw [if_pos rfl]; exact h
  | false =>
    rw [if_neg Bool.false_ne_true]
    have hn : x ∉ R := fun z => by rw [List.contains_iff_mem.mpr z] at hc; cases hc
    refine ⟨List.nodup_append.mpr ⟨h.nd, by simp, fun a ha b hb => ?_⟩, fun y hy => ?_⟩
    · rw [List.mem_singleton.mp hb]
      exact fun z => hn (z ▸ ha)
    · rcases List.mem_append.mp hy with hy | hy
      · exact h.bd y hy
      · rw [List.mem_singleton.mp hy]; exact ⟨h0, h4⟩
theorem stp_ok {R : List Int} {l : Lk} (h : RkOk R) (hl : LkOk l) : RkOk (stp R l) := by
  have h0 := hl.a0
  have h1 := hl.ab
  have h2 := hl.b4
  unfold stp
  split
  · exact addR_ok (addR_ok h h0 (by omega)) (by omega) h2
  · exact h
theorem pas_ok : ∀ {L : List Lk} {R : List Int}, RkOk R → (∀ l ∈ L, LkOk l) → RkOk (L.foldl stp R)
  | [], _, h, _ => h
  | l :: L, R, h, hl => pas_ok (L := L) (stp_ok h (hl l List.mem_cons_self)) fun x hx => hl x (List.mem_cons_of_mem _ hx)
theorem rk_len {R : List Int} (h : RkOk R) : R.length ≤ 5 := by
  have := nodup_len R rng5 h.nd fun x hx => by
    obtain ⟨h0, h4⟩ := h.bd x hx
    exact List.mem_map.mpr ⟨x.toNat, List.mem_range.mpr (by omega), by omega⟩
  exact this
theorem has_kI (R : List Int) (x : Int) : hasK (kI R) (.inl x) = R.contains x := by
  unfold hasK kI
  rw [List.any_map, Bool.eq_iff_iff, List.contains_iff_mem, List.any_eq_true]
  constructor
  · rintro ⟨y, hy, e⟩
    have := of_decide_eq_true e
    injection this with e2
    exact e2 ▸ hy
  · intro h
    exact ⟨x, h, decide_eq_true rfl⟩
theorem zip_rep (x : Int) : ∀ R : List Int, List.zipWith (fun (j : Key) (y : D) => if j = .inl x then D.bl true else y) (kI R) (rep R) = rep R
  | [] => rfl
  | r :: R => by
    have ih := zip_rep x R
    show (if (Sum.inl r : Key) = .inl x then D.bl true else D.bl true) :: List.zipWith _ (kI R) (rep R) = _
    rw [ih]
    split <;> rfl
theorem put_kI (R : List Int) (x : Int) : putM (kI R) (rep R) (.inl x) (.bl true) = .dic (kI (addR R x)) (rep (addR R x)) := by
  unfold putM addR
  rw [has_kI]
  cases hc : R.contains x with
  | true => rw [if_pos rfl, if_pos rfl, zip_rep]
  | false =>
    rw [if_neg Bool.false_ne_true, if_neg Bool.false_ne_true]
    unfold kI rep
    rw [List.map_append, List.map_append]; rfl
theorem ap_rep (k : Nat) (R : List Int) : apartA k (rep R) = true := apartA_of fun d hd => by obtain ⟨_, _, rfl⟩ := List.mem_map.mp hd; rfl
theorem rch_sorted {L : List Lk} {h : Int} (hR : RkOk (rchL L h)) {ms : List Int} (hp : ms.Perm (rchL L h)) (hs : ms.Pairwise (· ≤ ·)) : ms = rch L h := by
  have hn : ms.Nodup := hp.nodup_iff.mpr hR.nd
  have h1 : ms.Pairwise (· < ·) := (hs.and hn).imp fun {a b} hc => by have := hc.1; have := hc.2; omega
  have h2 : (rch L h).Pairwise (· < ·) := by
    unfold rch rng5
    refine List.Pairwise.filter _ ?_
    rw [List.pairwise_map]
    exact List.pairwise_lt_range.imp fun h => by omega
  refine List.Perm.eq_of_pairwise (le := fun a b : Int => a < b) (fun x y _ _ h1 h2 => by omega) h1 h2 ?_
  refine (List.perm_ext_iff_of_nodup hn (h2.imp fun h => by omega)).mpr fun x => ?_
  unfold rch
  rw [hp.mem_iff, List.mem_filter, List.contains_iff_mem]
  refine ⟨fun hx => ⟨?_, hx⟩, fun hx => hx.2⟩
  obtain ⟨h0, h4⟩ := hR.bd x hx
  exact List.mem_map.mpr ⟨x.toNat, List.mem_range.mpr (by omega), by omega⟩
theorem btw_call {d : D} {t : String} {lo hi : Int} {M : Ms} {Q : D → Ms → Prop} (ht : tyN d = some t) (q : Q (.bl (btwB lo hi d)) M) : W_is_between [d, .int lo, .int hi] M Q :=
  ⟨d, t, lo, hi, rfl, ht, fun i e => by subst e; exact q, fun z => by cases d <;> first | exact q | cases z⟩
def ltO : D → D → Bool | .int x, .int y => decide (x < y) | _, _ => false
def linkB : D → Bool
  | .tup [a, b, c] => btwB 0 4 a && (btwB 0 4 b && (btwB 0 1000 c && ltO a b))
  | _ => false
theorem linkB_len {xs : List D} (h : xs.length ≠ 3) : linkB (.tup xs) = false := by
  match xs, h with
  | [], _ => rfl
  | [_], _ => rfl
  | [_, _], _ => rfl
  | [_, _, _], h => exact absurd rfl h
  | _ :: _ :: _ :: _ :: _, _ => rfl
def unL : D → Lk | .tup [.int a, .int b, .int c] => (a, b, c) | _ => (0, 0, 0)
theorem btwB_in {lo hi : Int} {d : D} (h : btwB lo hi d = true) : ∃ x : Int, d = .int x ∧ lo ≤ x ∧ x ≤ hi := by
  cases d <;> first | cases h | skip
  rename_i x
  have := Bool.and_eq_true_iff.mp h
  exact ⟨x, rfl, of_decide_eq_true this.1, of_decide_eq_true this.2⟩
theorem linkB_in {d : D} (h : linkB d = true) : d = lkD (unL d) ∧ LkOk (unL d) := by
  unfold linkB at h
  split at h
  · rename_i a b c
    obtain ⟨h1, h⟩ := Bool.and_eq_true_iff.mp h
    obtain ⟨h2, h⟩ := Bool.and_eq_true_iff.mp h
    obtain ⟨h3, h4⟩ := Bool.and_eq_true_iff.mp h
    obtain ⟨x, rfl, x0, x4⟩ := btwB_in h1
    obtain ⟨y, rfl, y0, y4⟩ := btwB_in h2
    obtain ⟨z, rfl, z0, z4⟩ := btwB_in h3
    exact ⟨rfl, x0, of_decide_eq_true h4, y4, z0, z4⟩
  · cases h
def linksB (d : D) : Bool := match itemsD d with | some xs => decide (xs.length ≤ 10) && (xs.all linkB && decide (((xs.map unL).map prL).Nodup)) | none => false
theorem shorter {α : Type} [DecidableEq α] : ∀ l : List α, ¬ l.Nodup → ∃ l' : List α, (∀ x ∈ l, x ∈ l') ∧ l'.length < l.length
  | [], h => absurd List.nodup_nil h
  | a :: r, h => by
    by_cases ha : a ∈ r
    · exact ⟨r, fun x hx => by rcases List.mem_cons.mp hx with rfl | hx; exact ha; exact hx, Nat.lt_succ_self _⟩
    · obtain ⟨l', h1, h2⟩ := shorter r fun z => h (List.nodup_cons.mpr ⟨ha, z⟩)
      exact ⟨a :: l', fun x hx => by rcases List.mem_cons.mp hx with rfl | hx; exact List.mem_cons_self; exact List.mem_cons_of_mem _ (h1 x hx), by rw [List.length_cons, List.length_cons]; omega⟩
theorem set_len {α : Type} [DecidableEq α] {ms l : List α} (h : ms.Nodup) (hm : ∀ x, x ∈ ms ↔ x ∈ l) : decide (ms.length = l.length) = decide l.Nodup := by
  refine decide_eq_decide.mpr ⟨fun e => ?_, fun hn => ((List.perm_ext_iff_of_nodup h hn).mpr hm).length_eq⟩
  refine Decidable.byContradiction fun hn => ?_
  obtain ⟨l', h1, h2⟩ := shorter l hn
  have := nodup_len ms l' h fun x hx => h1 x ((hm x).mp hx)
  omega
section
variable {P : Program} {w : World} {K : PySem.W.Frag} {mg : Str → Option Value} {base : Heap}
def W_rack : DC := fun ds M Q => ∃ d t, ds = [d] ∧ tyN d = some t ∧ Q (.bl (btwB 0 4 d)) M
theorem ok_is_rack (T : Tx P w K mg) : FnOk P w K mg base CX0 3 T.a_is_rack T.f_is_rack ["value"] (spD 1 W_rack K) := by
  refine pd_fn T.F_is_rack sc_is_rack (fun cdv A outer s H E hr => ⟨_, (pdss_one (pds_ret (pd_call (ok_is_between T) (hr.mono (by decide)) (by rfl) T.g_is_between T.F_is_between.kp T.b_is_between (pda_cons (pd_name 0) (pda_cons pd_int (pda_cons (pd_glob (v := .int 4) (d := .int 4) (by rfl) T.g_GREATEST_RACK ⟨_, rfl⟩ (fun _ _ => .int _)) pda_nil)))))), fun ds M Q hl h => ?_⟩)
  obtain ⟨d, t, rfl, ht, q⟩ := h
  exact ⟨_, rfl, rfl, btw_call ht q⟩
def W_link : DC := fun ds M Q => ∃ d t, ds = [d] ∧ tyN d = some t ∧ (∀ xs, d = .tup xs → ∀ x ∈ xs, ∃ t, tyN x = some t) ∧ Q (.bl (linkB d)) M
theorem ok_is_link (T : Tx P w K mg) : FnOk P w K mg base CX0 4 T.a_is_link T.f_is_link ["value"] (spD 1 W_link K) := by
  refine pd_fn T.F_is_link sc_is_link (fun cdv A outer s H E hr => ⟨_, (pdss_cons (pds_if (pdt_w (pdw_or (pdt_not (pdt_val (pd_callB call_isi sc_isi (by rfl) T.n_isinstance (by decide +kernel) (pda_cons (pd_name 0) (pda_cons (pd_bltn (v := .ty "tuple") (d := .ty "tuple") (by rfl) T.n_tuple (by decide +kernel) rfl (fun _ _ => .ty _)) pda_nil))))) (pdw_or1 (pdt_cmp (op_neD hr.units) sr_ne (pd_callB call_len_seq sc_len (by rfl) T.n_len (by decide +kernel) (pda_cons (pd_name 0) pda_nil)) pd_int (nomark _))))) (pdss_one (pds_ret pd_bl)) pdss_nil)
      (pdss_cons (pds_if (pdt_w (pdw_or (pdt_not (pdt_val (pd_call (ok_is_rack T) (hr.mono (by decide)) (by rfl) T.g_is_rack T.F_is_rack.kp T.b_is_rack (pda_cons (pd_ix ix_tup sr_ixT (pd_name 0) pd_int) pda_nil)))) (pdw_or (pdt_not (pdt_val (pd_call (ok_is_rack T) (hr.mono (by decide)) (by rfl) T.g_is_rack T.F_is_rack.kp T.b_is_rack (pda_cons (pd_ix ix_tup sr_ixT (pd_name 0) pd_int) pda_nil)))) (pdw_or1 (pdt_not (pdt_val (pd_call (ok_is_between T) (hr.mono (by decide)) (by rfl) T.g_is_between T.F_is_between.kp T.b_is_between (pda_cons (pd_ix ix_tup sr_ixT (pd_name 0) pd_int) (pda_cons pd_int (pda_cons (pd_glob (v := .int 1000) (d := .int 1000) (by rfl) T.g_GREATEST_PRICE ⟨_, rfl⟩ (fun _ _ => .int _)) pda_nil)))))))))) (pdss_one (pds_ret pd_bl)) pdss_nil)
      (pdss_one (pds_ret (pd_cmp op_lt sr_I0b (pd_ix ix_tup sr_ixT (pd_name 0) pd_int) (pd_ix ix_tup sr_ixT (pd_name 0) pd_int) (nomark _)))))), fun ds M Q hl h => ?_⟩)
  obtain ⟨d, t, rfl, ht, hx, q⟩ := h
  have hd := dty (K := K) ht
  cases d <;> simp only [tyN, Option.some.injEq, reduceCtorEq] at ht <;> subst ht
  case tup xs =>
    have hx := hx xs rfl
    refine ⟨_, rfl, _, _, _, _, _, true, rfl, hd, .ty "tuple", kit_ty (by decide +kernel), true, rfl, iff0 ?_⟩
    by_cases h3 : xs.length = 3
    rotate_left
    · rw [linkB_len h3] at q
      exact ⟨_, rfl, xs, .inr rfl, rfl, rfl, true, by rw [eqD_int, decide_eq_false (by omega)]; rfl, iff1 q⟩
    refine ⟨_, rfl, xs, .inr rfl, rfl, rfl, false, by rw [eqD_int, decide_eq_true (by omega)]; rfl, iff0 ?_⟩
    obtain ⟨a, b, c, rfl⟩ : ∃ a b c, xs = [a, b, c] := by
      match xs, h3 with
      | [a, b, c], _ => exact ⟨a, b, c, rfl⟩
    obtain ⟨ta, ha⟩ := hx a List.mem_cons_self
    obtain ⟨tb, hb⟩ := hx b (List.mem_cons_of_mem _ List.mem_cons_self)
    obtain ⟨tc, hc⟩ := hx c (List.mem_cons_of_mem _ (List.mem_cons_of_mem _ List.mem_cons_self))
    have eq : linkB (.tup [a, b, c]) = (btwB 0 4 a && (btwB 0 4 b && (btwB 0 1000 c && ltO a b))) := rfl
    rw [eq] at q
    refine ⟨_, rfl, [a, b, c], 0, a, rfl, rfl, ⟨by decide, rfl⟩, rfl, a, ta, rfl, ha, btwB 0 4 a, rfl, ?_⟩
    cases h1 : btwB 0 4 a with
    | false => rw [h1] at q; exact iff1 q
    | true =>
    rw [h1] at q
    refine iff0 ⟨_, rfl, [a, b, c], 1, b, rfl, rfl, ⟨by decide, rfl⟩, rfl, b, tb, rfl, hb, btwB 0 4 b, rfl, ?_⟩
    cases h2 : btwB 0 4 b with
    | false => rw [h2] at q; exact iff1 q
    | true =>
    rw [h2] at q
    refine iff0 ⟨_, rfl, [a, b, c], 2, c, rfl, rfl, ⟨by decide, rfl⟩, rfl, btw_call hc ⟨btwB 0 1000 c, rfl, ?_⟩⟩
    cases h3 : btwB 0 1000 c with
    | false => rw [h3] at q; exact iff1 q
    | true =>
    rw [h3] at q
    obtain ⟨x, rfl, _⟩ := btwB_in h1
    obtain ⟨y, rfl, _⟩ := btwB_in h2
    exact iff0 ⟨_, rfl, [.int x, .int y, c], 0, .int x, rfl, rfl, ⟨by decide, rfl⟩, _, rfl, [.int x, .int y, c], 1, .int y, rfl, rfl, ⟨by decide, rfl⟩, _, _, rfl, rfl, q⟩
  all_goals
    exact ⟨_, rfl, _, _, _, _, _, false, rfl, hd, .ty "tuple", kit_ty (by decide +kernel), false, rfl, iff1 q⟩
def W_links : DC := fun ds M Q => ∃ d, ds = [d] ∧ Typed d ∧ Q (.bl (linksB d)) M
theorem ok_are_links (T : Tx P w K mg) : FnOk P w K mg base CX0 5 T.a_are_links T.f_are_links ["value"] (spD 1 W_links K) := by
  refine pd_fn T.F_are_links sc_are_links (fun cdv A outer s H E hr => ⟨_, (pdss_cons (pds_if (pdt_w (pdw_or (pdt_not (pdt_val (pd_call (ok_has_items T) (hr.mono (by decide)) (by rfl) T.g_has_items T.F_has_items.kp T.b_has_items (pda_cons (pd_name 0) (pda_cons pd_int (pda_cons (pd_glob (v := .int 10) (d := .int 10) (by rfl) T.g_MOST_LINKS ⟨_, rfl⟩ (fun _ _ => .int _)) pda_nil)))))) (pdw_or1 (pdt_not (pdt_val (pd_callB (cr_all rfl) sc_all (by rfl) T.n_all (by decide +kernel) (pda_cons (pd_lc [("item", 1)] rfl sc_are_links.nd (pdi_seq (pd_name 0)) (blkOk_by (N := ["value", "item", "one", "other", "_"]) (sc := defScope s_are_links) (by decide +kernel)) (fun _ _ _ _ _ => (pdg_name 1 sc_are_links.nd)) (fun _ _ _ _ _ => pdts_nil) (fun _ _ _ _ _ => (pd_call (ok_is_link T) (hr.mono (by decide)) (by rfl) T.g_is_link T.F_is_link.kp T.b_is_link (pda_cons (pd_name 1) pda_nil)))) pda_nil))))))) (pdss_one (pds_ret pd_bl)) pdss_nil)
      (pdss_one (pds_ret (pd_cmp (op_eqD hr.units) sr_eq (pd_lenSetT rfl hr.units (by rfl) T.n_len (by rfl) T.n_set (pd_lc [("one", 2), ("other", 3), ("_", 4)] rfl sc_are_links.nd (pdi_seq (pd_name 0)) (blkOk_by (N := ["value", "item", "one", "other", "_"]) (sc := defScope s_are_links) (by decide +kernel)) (fun _ _ _ _ _ => (pdg_tup (n := 3) rfl (pdgs_cons (pdg_name 2 sc_are_links.nd) (pdgs_cons (pdg_name 3 sc_are_links.nd) (pdgs_cons (pdg_name 4 sc_are_links.nd) pdgs_nil))))) (fun _ _ _ _ _ => pdts_nil) (fun _ _ _ _ _ => (pd_tup (pda_cons (pd_name 2) (pda_cons (pd_name 3) pda_nil)))))) (pd_callB call_len_seq sc_len (by rfl) T.n_len (by decide +kernel) (pda_cons (pd_name 0) pda_nil)) (nomark _))))), fun ds M Q hl h => ?_⟩)
  obtain ⟨d, rfl, ⟨⟨t, ht⟩, hx⟩, q⟩ := h
  have hsl : sizeLine = 16777216 := by decide
  refine ⟨d, rfl, rfl, d, t, 0, 10, rfl, ht, hasB 0 10 d, rfl, ?_⟩
  rcases seq_or (K := K) ht with ⟨xs, hxs, hk, hb⟩ | ⟨hk, hb⟩
  rotate_left
  · have e2 : linksB d = false := by unfold linksB; rw [noSeq hb]
    rw [hb]
    rw [e2] at q
    exact iff1 q
  obtain ⟨hz, hty⟩ := hx xs (isSeq_items hxs)
  have e1 : hasB 0 10 d = decide (xs.length ≤ 10) := by
    rw [hb, decide_eq_true (by omega), Bool.true_and]
    exact decide_eq_decide.mpr (by omega)
  have e2 : linksB d = (decide (xs.length ≤ 10) && (xs.all linkB && decide (((xs.map unL).map prL).Nodup))) := by
    unfold linksB
    rw [isSeq_items hxs]
  rw [e1]
  rw [e2] at q
  by_cases hle : xs.length ≤ 10
  rotate_left
  · rw [decide_eq_false hle] at q ⊢
    exact iff1 q
  rw [decide_eq_true hle] at q ⊢
  refine iff0 ⟨_, rfl, xs, hxs, lc_map (fun e => .bl (linkB e)) _ _ (fun e he R hR => ?_) (by rw [List.length_nil]; omega) ?_⟩
  · obtain ⟨⟨te, hte⟩, hys⟩ := hty e he
    exact ⟨e, rfl, rfl, e, te, rfl, hte, hys, hR⟩
  refine ⟨xs.map linkB, by rw [List.nil_append, List.map_map]; rfl, xs.all linkB, by rw [List.all_map]; rfl, ?_⟩
  cases hall : xs.all linkB with
  | false => rw [hall] at q; exact iff1 q
  | true =>
  rw [hall] at q
  have hin := fun x hx => linkB_in (List.all_eq_true.mp hall x hx)
  have e3 : xs = (xs.map unL).map lkD := by
    rw [List.map_map]
    exact (List.map_id xs).symm.trans (List.map_congr_left fun x hx => (hin x hx).1)
  have hk : ∀ l ∈ xs.map unL, LkOk l := fun l hl => by obtain ⟨x, hx, rfl⟩ := List.mem_map.mp hl; exact (hin x hx).2
  have hLl : (xs.map unL).length = xs.length := List.length_map _
  generalize xs.map unL = L at e3 hk q hLl
  subst e3
  refine iff0 ⟨_, rfl, L.map lkD, hxs, lc_map prD _ _ (fun d hd R hR => ?_) (by rw [List.length_nil]; omega) ?_⟩
  · obtain ⟨l, hl, rfl⟩ := List.mem_map.mp hd
    exact ⟨_, rfl, rfl, _, _, rfl, _, _, rfl, _, _, rfl, rfl, _, rfl, _, rfl, (by show 2 ≤ sizeLine; decide), hR⟩
  have ep : ([] : List D) ++ (L.map lkD).map prD = (L.map prL).map tI := by
    rw [List.nil_append, List.map_map, List.map_map]; rfl
  rw [ep]
  refine ⟨_, prU, rfl, fun r hr => ?_, by rw [prU_len]; decide, fun ms hms hmm => ?_⟩
  · obtain ⟨l, hl, rfl⟩ := List.mem_map.mp hr
    exact prU_mem (hk l hl)
  refine ⟨_, rfl, L.map lkD, hxs.imp (congrArg fun d => [d]) (congrArg fun d => [d]), rfl, rfl, ?_⟩
  show Q (.bl (eqD (.int ms.length) (.int (L.map lkD).length))) M
  have hs := set_len hms hmm
  rw [List.length_map] at hs
  have e4 : eqD (.int ms.length) (.int (L.map lkD).length) = decide (L.map prL).Nodup := by
    rw [eqD_int, ← hs, List.length_map]
    exact decide_eq_decide.mpr (by omega)
  rw [e4]
  exact q
def W_reached : DC := fun ds M Q => ∃ (L : List Lk) (h : Int), ds = [.lst (L.map lkD), .int h] ∧ okM M ∧ L.length ≤ 10 ∧ (∀ l ∈ L, LkOk l) ∧ 0 ≤ h ∧ h ≤ 4 ∧ Q (.lst (dI (rch L h))) M
theorem ok_reached (T : Tx P w K mg) : FnOk P w K mg base CX0 1 T.a_reached T.f_reached ["links", "home"] (spD 2 W_reached K) := by
  refine pd_fn T.F_reached sc_reached (fun cdv A outer s H E hr => ⟨_, (pdss_buildD1 (i := 2) 1 sc_reached.nd (pds_for PassesOwn.never rfl (pdi_list (pd_name 0)) (pdg_name 3 sc_reached.nd) (pdss_one (pds_for PassesOwn.never rfl (pdi_list (pd_name 0)) (pdg_tup (n := 3) rfl (pdgs_cons (pdg_name 4 sc_reached.nd) (pdgs_cons (pdg_name 5 sc_reached.nd) (pdgs_cons (pdg_name 3 sc_reached.nd) pdgs_nil)))) (pdss_one (pds_if (pdt_w (pdw_or (pdt_dinM hr.units (pd_name 4) (pd_name 2) (by rfl)) (pdw_or1 (pdt_dinM hr.units (pd_name 5) (pd_name 2) (by rfl))))) (pdss_one (pds_setItemD2 hr.units pd_bl (pd_name 2) (pd_name 4) (pd_name 2) (pd_name 5))) pdss_nil)))))
      (pdss_one (pds_ret (pd_sortDic rfl (by rfl) T.n_sorted (pd_name 2)))) (hk := pv 1)), fun ds M Q hl h => ?_⟩)
  obtain ⟨L, h, rfl, hM, h10, hk, h0, h4, q⟩ := h
  have hsl : sizeLine = 16777216 := by decide
  have hone : RkOk [h] := ⟨by simp, fun x hx => by rw [List.mem_singleton.mp hx]; exact ⟨h0, h4⟩⟩
  have hfold : ∀ {L2 : List Lk} {R : List Int}, RkOk R → RkOk (L2.foldl (fun R _ => pas L R) R) := fun {L2} => by
    induction L2 with
    | nil => exact fun h => h
    | cons l L2 ih => exact fun h => ih (pas_ok h hk)
  refine ⟨.inl h, rfl, _, rfl, _, rfl, ?_⟩
  refine for_ind (fun k ρ M' => M' = M ++ [.dic (kI ((L.take k).foldl (fun R _ => pas L R) [h])) (rep ((L.take k).foldl (fun R _ => pas L R) [h]))] ∧ ∃ x3 x4 x5, ρ = [some (.lst (L.map lkD)), some (.int h), some (.mu M.length), x3, x4, x5]) _ ?_ ?_ ⟨rfl, none, none, none, rfl⟩
  · rintro k d ρ M' N hd ⟨rfl, x3, x4, x5, rfl⟩ hN
    have hk1 : k < L.length := by have := (List.getElem?_eq_some_iff.mp hd).1; rwa [List.length_map] at this
    have htk : L.take (k + 1) = L.take k ++ [L[k]] := List.take_succ_eq_append_getElem hk1
    have hRk : RkOk ((L.take k).foldl (fun R _ => pas L R) [h]) := hfold hone
    have hnx : (L.take (k + 1)).foldl (fun R _ => pas L R) [h] = pas L ((L.take k).foldl (fun R _ => pas L R) [h]) := by
      rw [htk, List.foldl_append]; rfl
    rw [hnx] at hN
    generalize (L.take k).foldl (fun R _ => pas L R) [h] = R at hRk hN ⊢
    refine ⟨_, rfl, _, rfl, ?_⟩
    refine for_ind (fun j ρ M' => M' = M ++ [.dic (kI ((L.take j).foldl stp R)) (rep ((L.take j).foldl stp R))] ∧ ∃ x3 x4 x5, ρ = [some (.lst (L.map lkD)), some (.int h), some (.mu M.length), x3, x4, x5]) _ ?_ ?_ ⟨rfl, _, _, _, rfl⟩
    · rintro j d2 ρ M' N2 hd2 ⟨rfl, x3, x4, x5, rfl⟩ hN2
      have hj : j < L.length := by have := (List.getElem?_eq_some_iff.mp hd2).1; rwa [List.length_map] at this
      rw [List.getElem?_map, List.getElem?_eq_getElem hj] at hd2
      cases hd2
      have hl := hk _ (List.getElem_mem hj)
      have htj : (L.take (j + 1)).foldl stp R = stp ((L.take j).foldl stp R) L[j] := by
        rw [List.take_succ_eq_append_getElem hj, List.foldl_append]; rfl
      rw [htj] at hN2
      have hRj : RkOk ((L.take j).foldl stp R) := pas_ok hRk fun x hx => hk x (List.mem_of_mem_take hx)
      generalize (L.take j).foldl stp R = S at hRj hN2 ⊢
      generalize L[j] = l at hl hN2
      have hSl := rk_len hRj
      have hSl2 := rk_len (addR_ok hRj hl.a0 (by have := hl.ab; have := hl.b4; omega))
      refine ⟨_, rfl, rfl, _, _, rfl, _, _, rfl, _, _, rfl, rfl, ?_⟩
      refine ⟨_, rfl, _, rfl, M.length, kI S, rep S, .inl l.1, rfl, rfl, get_last _ _, ?_⟩
      rw [has_kI]
      have hyes : (S.contains l.1 || S.contains l.2.1) = true → stp S l = addR (addR S l.1) l.2.1 := fun h => if_pos h
      have hno : (S.contains l.1 || S.contains l.2.1) = false → stp S l = S := fun h => if_neg (by rw [h]; exact Bool.false_ne_true)
      have e1 : (M ++ [MO.dic (kI S) (rep S)]).set M.length (putM (kI S) (rep S) (.inl l.1) (.bl true)) = M ++ [.dic (kI (addR S l.1)) (rep (addR S l.1))] := by rw [set_last, put_kI]
      have e2 : (M ++ [MO.dic (kI (addR S l.1)) (rep (addR S l.1))]).set M.length (putM (kI (addR S l.1)) (rep (addR S l.1)) (.inl l.2.1) (.bl true)) = M ++ [.dic (kI (addR (addR S l.1) l.2.1)) (rep (addR (addR S l.1) l.2.1))] := by rw [set_last, put_kI]
      have kl : ∀ R : List Int, (kI R).length = R.length := fun R => by unfold kI; rw [List.length_map]
      cases hc1 : S.contains l.1
      case' true =>
        have hy := hyes (by rw [hc1]; rfl)
        refine iff1 (iff1 ?_)
      case' false =>
        refine iff0 ⟨_, rfl, _, rfl, M.length, kI S, rep S, .inl l.2.1, rfl, rfl, get_last _ _, ?_⟩
        rw [has_kI]
        cases hc2 : S.contains l.2.1
        case' false =>
          exact iff0 (hN2 _ _ ⟨by rw [hno (by rw [hc1, hc2]; rfl)], _, _, _, rfl⟩)
        case' true =>
          have hy := hyes (by rw [hc2, Bool.or_true])
          refine iff1 ?_
      all_goals
        rw [hy] at hN2
        refine ⟨_, rfl, _, rfl, M.length, kI S, rep S, .inl l.1, rfl, rfl, get_last _ _, by rw [kl]; omega, ?_⟩
        rw [e1]
        refine ⟨_, rfl, _, rfl, M.length, kI (addR S l.1), rep (addR S l.1), .inl l.2.1, rfl, rfl, get_last _ _, by rw [kl]; omega, ?_⟩
        rw [e2]
        exact hN2 _ _ ⟨rfl, _, _, _, rfl⟩
    · rintro ρ M' ⟨rfl, x3, x4, x5, rfl⟩
      rw [List.length_map, List.take_length]
      exact hN _ _ ⟨rfl, _, _, _, rfl⟩
  · rintro ρ M' ⟨rfl, x3, x4, x5, rfl⟩
    rw [List.length_map, List.take_length]
    have hR : RkOk (rchL L h) := hfold hone
    refine ⟨M, kI (rchL L h), rep (rchL L h), rfl, rfl, hM, ap_rep _ _, rfl, ?_⟩
    refine ⟨_, rfl, rchL L h, rep (rchL L h), rfl, by have := rk_len hR; omega, fun ms hp hs => ?_⟩
    have e : ms = rch L h := rch_sorted hR hp hs
    rw [e]
    exact q
end
end K58
set_option Elab.async false
set_option linter.all false
set_option maxRecDepth 100000
set_option maxHeartbeats 4000000
namespace K58
open PySem PySem.Spec PyProof.Rows L2 Pd Spc
def nth (L : List Lk) (i : Int) : Lk := L.getD i.toNat (0, 0, 0)
def pri (L : List Lk) (g : List Int) : Int := (g.map fun i => (nth L i).2.2).sum
def rowD (L : List Lk) (g : List Int) : D := .tup [.int (pri L g), .int ((dI g).length : Nat), tI g]
def rowK (L : List Lk) : D → D | .tup es => rowD L (intsOf (.tup es)) | d => d
def priK (L : List Lk) : D → D | .int i => .int (nth L i).2.2 | d => d
def nthK (L : List Lk) : D → D | .int i => lkD (nth L i) | d => d
def rkK (R : List Int) : D → D | .int i => .int (R.getD i.toNat 0) | d => d
def gsL (n : Nat) : List (List Int) := (grps n).filter fun g => decide (g.length ≤ 4)
def rwS (L : List Lk) : List (List Int) := (gsL L.length).mergeSort (PySem.W.dataLe false fun g => toP (rowD L g))
def selL (L : List Lk) (g : List Int) : List Lk := g.map (nth L)
def rkS (L : List Lk) (h : Int) (g : List Int) : List Int := rch (selL L g) h
def subK (R pl : List Int) : List Int := pl.map fun i => R.getD i.toNat 0
def trv (L : List Lk) (g : List Int) : D := .tup [.int (pri L g), tI g]
abbrev Tr := List (List Int × D)
def tks (T : Tr) : List (List Key) := T.map fun t => kI t.1
def tds (T : Tr) : List D := T.map fun t => t.2
def tget (T : Tr) (ns : List Int) : Option D := (T.find? fun t => decide (t.1 = ns)).map (·.2)
def setd (T : Tr) (ns : List Int) (v : D) : Tr := if (tget T ns).isSome then T else T ++ [(ns, v)]
def inT (L : List Lk) (h : Int) (g : List Int) (T : Tr) : Tr := (grps (rkS L h g).length).foldl (fun T pl => setd T (subK (rkS L h g) pl) (trv L g)) T
def treeL (L : List Lk) (h : Int) : Tr := (rwS L).foldl (fun T g => inT L h g T) []
theorem tget_eq (ns : List Int) : ∀ T : Tr, ditGet (tks T) (tds T) ns = tget T ns
  | [] => rfl
  | t :: T => by
    have ih := tget_eq ns T
    unfold ditGet tget tks tds at *
    rw [List.map_cons, List.map_cons, List.zip_cons_cons]
    by_cases e : t.1 = ns
    · rw [List.find?_cons_of_pos (by simp [e]), List.find?_cons_of_pos (by simp [e])]; rfl
    · rw [List.find?_cons_of_neg (by simp; exact fun z => e (kI_inj z)), List.find?_cons_of_neg (by simp [e])]; exact ih
theorem put_tree {T : Tr} {ns : List Int} (v : D) (h : tget T ns = none) : putMT (tks T) (tds T) (kI ns) v = .dit (tks (setd T ns v)) (tds (setd T ns v)) := by
  have hn : hasT (tks T) (kI ns) = false := by
    cases hc : hasT (tks T) (kI ns) with
    | false => rfl
    | true =>
      obtain ⟨t, ht, e⟩ := List.mem_map.mp (hasT_iff.mp hc)
      unfold tget at h
      rw [Option.map_eq_none_iff, List.find?_eq_none] at h
      exact absurd (decide_eq_true (kI_inj e)) (h t ht)
  unfold putMT setd
  rw [hn, h, if_neg Bool.false_ne_true, if_neg (by simp)]
  unfold tks tds
  rw [List.map_append, List.map_append]; rfl
theorem setd_len (T : Tr) (ns : List Int) (v : D) : (setd T ns v).length ≤ T.length + 1 := by
  unfold setd
  split
  · omega
  · rw [List.length_append, List.length_singleton]; omega
theorem fold_len (R : List Int) (v : D) : ∀ (l : List (List Int)) (T : Tr), (l.foldl (fun T pl => setd T (subK R pl) v) T).length ≤ T.length + l.length
  | [], T => by show T.length ≤ _; omega
  | pl :: l, T => by
    have h1 := fold_len R v l (setd T (subK R pl) v)
    have h2 := setd_len T (subK R pl) v
    rw [List.length_cons]
    show (List.foldl _ (setd T (subK R pl) v) l).length ≤ _
    omega
theorem priK_map (L : List Lk) (g : List Int) : ([] : List D) ++ (dI g).map (priK L) = (g.map fun i => (nth L i).2.2).map D.int := by
  rw [List.nil_append]
  show List.map _ (List.map _ _) = _
  rw [List.map_map, List.map_map]; rfl
theorem nthK_map (L : List Lk) (g : List Int) : ([] : List D) ++ (dI g).map (nthK L) = (selL L g).map lkD := by
  rw [List.nil_append]
  unfold selL
  show List.map _ (List.map _ _) = _
  rw [List.map_map, List.map_map]; rfl
theorem rkK_map (R pl : List Int) : ([] : List D) ++ (dI pl).map (rkK R) = dI (subK R pl) := by
  rw [List.nil_append]
  unfold subK
  show List.map _ (List.map _ _) = List.map _ (List.map _ _)
  rw [List.map_map, List.map_map]; rfl
theorem rows_sort (L : List Lk) : sortD ((gsL L.length).map (rowD L)) = (rwS L).map (rowD L) := by
  unfold sortD rwS
  exact (List.map_mergeSort (f := rowD L) fun _ _ _ _ => rfl).symm
theorem toPA_ints (xs : List Int) : toPA (dI xs) = xs.map PyData.int := by
  induction xs with
  | nil => rfl
  | cons x xs ih => show PyData.int x :: toPA (dI xs) = _; rw [ih]; rfl
theorem row_ok (L : List Lk) (G : List (List Int)) : SortOk (G.map (rowD L)) := by
  have e : (G.map (rowD L)).map toP = G.map fun x => toP (rowD L x) := by rw [List.map_map]; rfl
  refine ⟨fun d hd => ?_, ?_, ?_, fun d hd => ?_⟩
  · obtain ⟨x, _, rfl⟩ := List.mem_map.mp hd
    show (true && (true && (plainA (dI _) && true))) = true
    rw [plain_ints]; rfl
  · rw [e]
    refine PySem.W.AllAlike.of fun x y => ?_
    show PySem.W.alike (.tuple [.int _, .int _, .tuple (toPA (dI _))]) (.tuple [.int _, .int _, .tuple (toPA (dI _))]) = true
    rw [toPA_ints, toPA_ints]
    simp [PySem.W.alike, PySem.W.alikeAll, Pd.alike_ints]
  · rw [e]
    exact PySem.W.Sortable.tuples fun x => ⟨_, _, rfl⟩
  · obtain ⟨x, _, rfl⟩ := List.mem_map.mp hd
    show max 0 (max 0 (max (PyData.depthAll (toPA (dI _)) + 1) 0)) + 1 ≤ 60
    rw [depth_ints]; decide
theorem nth_get {L : List Lk} {i : Int} (h0 : 0 ≤ i) (h1 : i < (L.length : Int)) : (L.map lkD)[i.toNat]? = some (lkD (nth L i)) ∧ nth L i ∈ L := by
  have hl : i.toNat < L.length := by omega
  unfold nth
  rw [List.getD_eq_getElem?_getD, List.getElem?_eq_getElem hl, List.getElem?_map, List.getElem?_eq_getElem hl]
  exact ⟨rfl, List.getElem_mem hl⟩
theorem rk_get {R : List Int} {i : Int} (h0 : 0 ≤ i) (h1 : i < (R.length : Int)) : (dI R)[i.toNat]? = some (.int (R.getD i.toNat 0)) := by
  have hl : i.toNat < R.length := by omega
  rw [List.getD_eq_getElem?_getD, List.getElem?_eq_getElem hl]
  show (R.map D.int)[_]? = _
  rw [List.getElem?_map, List.getElem?_eq_getElem hl]; rfl
theorem rch_len (L : List Lk) (h : Int) : (rch L h).length ≤ 5 := by
  unfold rch
  exact Nat.le_trans (List.length_filter_le _ _) (by decide)
theorem okM_dit {M : Ms} {ks : List (List Key)} {ds : List D} (h : okM M) (hd : apartA M.length ds = true) : okM (M ++ [.dit ks ds]) := by
  have h2 := okM_app h hd
  unfold okM at h2 ⊢
  rw [List.length_append, List.length_singleton] at h2 ⊢
  unfold apartM at h2 ⊢
  rw [List.all_append] at h2 ⊢
  exact h2
theorem ap_tree {k : Nat} {T : Tr} (h : ∀ t ∈ T, ∃ L g, t.2 = trv L g) : apartA k (tds T) = true := apartA_of fun d hd => by
  obtain ⟨t, ht, rfl⟩ := List.mem_map.mp hd
  obtain ⟨L, g, e⟩ := h t ht
  rw [e]
  show (true && (apartA k (dI g) && true)) = true
  rw [apartA_ints]; rfl
theorem setd_in {T : Tr} {ns : List Int} {L : List Lk} {g : List Int} (h : ∀ t ∈ T, ∃ L g, t.2 = trv L g) : ∀ t ∈ setd T ns (trv L g), ∃ L g, t.2 = trv L g := fun t ht => by
  unfold setd at ht
  split at ht
  · exact h t ht
  · rcases List.mem_append.mp ht with ht | ht
    · exact h t ht
    · rw [List.mem_singleton.mp ht]; exact ⟨L, g, rfl⟩
theorem fold_in (R : List Int) (L : List Lk) (g : List Int) : ∀ (l : List (List Int)) (T : Tr), (∀ t ∈ T, ∃ L g, t.2 = trv L g) → ∀ t ∈ l.foldl (fun T pl => setd T (subK R pl) (trv L g)) T, ∃ L g, t.2 = trv L g
  | [], _, h => h
  | pl :: l, _, h => fold_in R L g l _ (setd_in h)
section
variable {P : Program} {w : World} {K : PySem.W.Frag} {mg : Str → Option Value} {base : Heap}
def W_ltrees : DC := fun ds M Q => ∃ (L : List Lk) (h : Int), ds = [.tup (L.map lkD), .int h] ∧ okM M ∧ L.length ≤ 10 ∧ (∀ l ∈ L, LkOk l) ∧ 0 ≤ h ∧ h ≤ 4 ∧ Q (.dit (tks (treeL L h)) (tds (treeL L h))) M
theorem ok_least_trees (T : Tx P w K mg) : FnOk P w K mg base CX0 3 T.a_least_trees T.f_least_trees ["links", "home"] (spD 2 W_ltrees K) := by
  refine pd_fn T.F_least_trees sc_least_trees (fun cdv A outer s H E hr => ⟨_, (pdss_cons (pds_setLc 2 [("group", 7)] rfl sc_least_trees.nd rfl rfl (sw_true rfl rfl rfl (by decide +kernel)) (pdi_list (pd_call (ok_all_groups T) (hr.mono (by decide)) (by rfl) T.g_all_groups T.F_all_groups.kp T.b_all_groups (pda_cons (pd_callB call_len_seq sc_len (by rfl) T.n_len (by decide +kernel) (pda_cons (pd_name 0) pda_nil)) pda_nil))) (blkOk_by (N := ["links", "home", "groups", "rows", "trees", "price", "_", "group", "racks", "places", "index", "place"]) (sc := defScope s_least_trees) (by decide +kernel)) (fun _ _ _ _ _ => (pdg_name 7 sc_least_trees.nd)) (fun _ _ _ _ _ => pdts_one (pdt_cmp op_le sr_I0b (pd_callB call_len_seq sc_len (by rfl) T.n_len (by decide +kernel) (pda_cons (pd_name 7) pda_nil)) (pd_glob (v := .int 4) (d := .int 4) (by rfl) T.g_GREATEST_RACK ⟨_, rfl⟩ (fun _ _ => .int _)) (nomark _))) (fun _ _ _ _ _ => (pd_name 7)))
      (pdss_cons (pds_set 3 sc_least_trees.nd (pd_sortD hr.units (by rfl) T.n_sorted (by decide +kernel) (pda_cons (pd_lc [("group", 7)] rfl sc_least_trees.nd (pdi_list (pd_name 2)) (blkOk_by (N := ["links", "home", "groups", "rows", "trees", "price", "_", "group", "racks", "places", "index", "place"]) (sc := defScope s_least_trees) (by decide +kernel)) (fun _ _ _ _ _ => (pdg_name 7 sc_least_trees.nd)) (fun _ _ _ _ _ => pdts_nil) (fun _ _ _ _ _ => (pd_tup (pda_cons (pd_callB (cr_sum rfl) sc_sum (by rfl) T.n_sum (by decide +kernel) (pda_cons (pd_lc [("index", 10)] rfl sc_least_trees.nd (pdi_tup (pd_name 7)) (blkOk_by (by kernel_rfl)) (fun _ _ _ _ _ => (pdg_name 10 sc_least_trees.nd)) (fun _ _ _ _ _ => pdts_nil) (fun _ _ _ _ _ => (pd_ix ix_tup sr_ixT (pd_ix ix_tup sr_ixT (pd_name 0) (pd_name 10)) pd_int))) pda_nil)) (pda_cons (pd_callB call_len_seq sc_len (by rfl) T.n_len (by decide +kernel) (pda_cons (pd_name 7) pda_nil)) (pda_cons (pd_name 7) pda_nil)))))) pda_nil)))
      (pdss_buildT (i := 4) sc_least_trees.nd (pds_for PassesOwn.never rfl (pdi_list (pd_name 3)) (pdg_tup (n := 3) rfl (pdgs_cons (pdg_name 5 sc_least_trees.nd) (pdgs_cons (pdg_name 6 sc_least_trees.nd) (pdgs_cons (pdg_name 7 sc_least_trees.nd) pdgs_nil)))) (pdss_cons (pds_set 8 sc_least_trees.nd (pd_call (ok_reached T) (hr.mono (by decide)) (by rfl) T.g_reached T.F_reached.kp T.b_reached (pda_cons (pd_lc [("index", 10)] rfl sc_least_trees.nd (pdi_tup (pd_name 7)) (blkOk_by (N := ["links", "home", "groups", "rows", "trees", "price", "_", "group", "racks", "places", "index", "place"]) (sc := defScope s_least_trees) (by decide +kernel)) (fun _ _ _ _ _ => (pdg_name 10 sc_least_trees.nd)) (fun _ _ _ _ _ => pdts_nil) (fun _ _ _ _ _ => (pd_ix ix_tup sr_ixT (pd_name 0) (pd_name 10)))) (pda_cons (pd_name 1) pda_nil))))
      (pdss_one (pds_for PassesOwn.never rfl (pdi_list (pd_call (ok_all_groups T) (hr.mono (by decide)) (by rfl) T.g_all_groups T.F_all_groups.kp T.b_all_groups (pda_cons (pd_callB call_len_seq sc_len (by rfl) T.n_len (by decide +kernel) (pda_cons (pd_name 8) pda_nil)) pda_nil))) (pdg_name 9 sc_least_trees.nd) (pdss_one (pds_expr (pd_dsetdT (Nat.lt_of_le_of_lt (Nat.add_le_add_left (by decide : 1 ≤ 64) _) hr.units) (pd_name 4) (pd_lc [("place", 11)] rfl sc_least_trees.nd (pdi_tup (pd_name 9)) (blkOk_by (N := ["links", "home", "groups", "rows", "trees", "price", "_", "group", "racks", "places", "index", "place"]) (sc := defScope s_least_trees) (by decide +kernel)) (fun _ _ _ _ _ => (pdg_name 11 sc_least_trees.nd)) (fun _ _ _ _ _ => pdts_nil) (fun _ _ _ _ _ => (pd_ix ix_list sr_ixL (pd_name 8) (pd_name 11)))) (pd_tup (pda_cons (pd_name 5) (pda_cons (pd_name 7) pda_nil))) (by rfl) T.n_tuple)))))))
      (pdss_one (pds_ret (pd_name 4)))))), fun ds M Q hl h => ?_⟩)
  obtain ⟨L, h, rfl, hM, h6, hk, h0, h4, q⟩ := h
  have hsl : sizeLine = 16777216 := by decide
  have hgl := grps_len L.length
  have hg64 : 2 ^ L.length ≤ 1024 := Nat.le_trans (Nat.pow_le_pow_right (by decide) h6) (by decide)
  refine ⟨_, rfl, L.map lkD, .inr rfl, rfl, L.length, by rw [List.length_map], h6, _, rfl, lc_fmap (keepS fun g => decide (g.length ≤ 4)) _ _ (fun e he R S hR hS => ?_) (by rw [List.length_nil, List.length_map]; omega) ?_⟩
  · obtain ⟨g, hg, rfl⟩ := List.mem_map.mp he
    have hR' : ∀ y, (if decide ((intT (tI g)).length ≤ 4) = true then some (tI g) else none) = some y → R y M := hR
    have hS' : (if decide ((intT (tI g)).length ≤ 4) = true then some (tI g) else none) = none → S M := hS
    rw [intT_tI] at hR' hS'
    refine ⟨_, rfl, dI g, .inr rfl, _, _, rfl, rfl, decide (((dI g).length : Int) ≤ 4), rfl, ?_⟩
    have e4 : decide (((dI g).length : Int) ≤ 4) = decide (g.length ≤ 4) := by rw [List.length_map]; exact decide_eq_decide.mpr (by omega)
    rw [e4]
    cases hc : decide (g.length ≤ 4) with
    | true => rw [hc] at hR'; exact ⟨_, rfl, hR' _ rfl⟩
    | false => rw [hc] at hS'; exact hS' rfl
  rw [List.nil_append, keepS_eq]
  have hGl : (gsL L.length).length ≤ 1024 := Nat.le_trans (List.length_filter_le _ _) (by omega)
  have hGm : ∀ g ∈ gsL L.length, AscBelow L.length g := fun g hg => grps_in.mp (List.mem_filter.mp hg).1
  show _
  refine ⟨_, rfl, _, rfl, lc_map (rowK L) _ _ (fun d hd R hR => ?_) (by rw [List.length_nil, List.length_map]; show 0 + (gsL L.length).length ≤ _; omega) ?_⟩
  · obtain ⟨g, hg, rfl⟩ := List.mem_map.mp hd
    have ha := hGm g hg
    have hal := asc_len ha
    have hR' : R (rowD L (intsOf (tI g))) M := hR
    rw [ints_tI] at hR'
    refine ⟨_, rfl, dI g, rfl, lc_map (priK L) _ _ (fun d2 hd2 R2 hR2 => ?_) (by rw [List.length_nil, List.length_map]; omega) ?_⟩
    · obtain ⟨i, hi, rfl⟩ := List.mem_map.mp hd2
      obtain ⟨i0, i1⟩ := ha.2 i hi
      exact ⟨_, rfl, _, rfl, L.map lkD, i, lkD (nth L i), rfl, rfl, ⟨i0, (nth_get i0 i1).1⟩, [.int (nth L i).1, .int (nth L i).2.1, .int (nth L i).2.2], 2, .int (nth L i).2.2, rfl, rfl, ⟨by decide, rfl⟩, hR2⟩
    rw [priK_map]
    exact ⟨_, rfl, _, rfl, dI g, .inr rfl, _, rfl, (by show 3 ≤ sizeLine; decide), hR'⟩
  have er : ([] : List D) ++ ((gsL L.length).map tI).map (rowK L) = (gsL L.length).map (rowD L) := by
    rw [List.nil_append, List.map_map]
    refine List.map_congr_left fun g _ => ?_
    show rowD L (intsOf (tI g)) = _
    rw [ints_tI]
  have er' := er
  unfold gsL at er'
  rw [er']
  refine ⟨_, rfl, row_ok L _, ?_⟩
  have es := rows_sort L
  unfold gsL at es
  rw [es]
  have hrl : (rwS L).length ≤ 1024 := by unfold rwS; rw [List.length_mergeSort]; exact hGl
  have hrm : ∀ g ∈ rwS L, AscBelow L.length g := fun g hg => hGm g (List.mem_mergeSort.mp hg)
  refine ⟨_, rfl, _, rfl, ?_⟩
  refine for_ind (fun k ρ M' => ∃ Tk : Tr, Tk = ((rwS L).take k).foldl (fun T g => inT L h g T) [] ∧ Tk.length ≤ 32 * k ∧ (∀ t ∈ Tk, ∃ L g, t.2 = trv L g) ∧ M' = M ++ [.dit (tks Tk) (tds Tk)] ∧ ∃ x2 x3 x5 x6 x7 x8 x9 x10 x11, ρ = [some (.tup (L.map lkD)), some (.int h), x2, x3, some (.mu M.length), x5, x6, x7, x8, x9, x10, x11]) _ ?_ ?_ ⟨[], rfl, by decide, (fun _ z => nomatch z), rfl, _, _, _, _, _, _, _, _, _, rfl⟩
  · rintro k d ρ M' N hd ⟨Tk, hTk, hTl, hTi, rfl, x2, x3, x5, x6, x7, x8, x9, x10, x11, rfl⟩ hN
    have hk1 : k < (rwS L).length := by have := (List.getElem?_eq_some_iff.mp hd).1; rwa [List.length_map] at this
    have htk := List.take_succ_eq_append_getElem hk1
    rw [List.getElem?_map, List.getElem?_eq_getElem hk1] at hd
    cases hd
    have ha := hrm _ (List.getElem_mem hk1)
    generalize (rwS L)[k] = g at ha htk
    have hal := asc_len ha
    have hnx : ((rwS L).take (k + 1)).foldl (fun T g => inT L h g T) [] = inT L h g Tk := by
      rw [htk, List.foldl_append, hTk]; rfl
    have hok : okM (M ++ [.dit (tks Tk) (tds Tk)]) := okM_dit hM (ap_tree hTi)
    refine ⟨_, rfl, rfl, _, _, rfl, _, _, rfl, _, _, rfl, rfl, ?_⟩
    refine ⟨_, rfl, dI g, rfl, lc_map (nthK L) _ _ (fun d2 hd2 R2 hR2 => ?_) (by rw [List.length_nil, List.length_map]; omega) ?_⟩
    · obtain ⟨i, hi, rfl⟩ := List.mem_map.mp hd2
      obtain ⟨i0, i1⟩ := ha.2 i hi
      exact ⟨_, rfl, _, rfl, L.map lkD, i, lkD (nth L i), rfl, rfl, ⟨i0, (nth_get i0 i1).1⟩, hR2⟩
    rw [nthK_map]
    have hsl2 : (selL L g).length ≤ 10 := by unfold selL; rw [List.length_map]; omega
    have hso : ∀ l ∈ selL L g, LkOk l := fun l hl => by
      obtain ⟨i, hi, rfl⟩ := List.mem_map.mp hl
      exact hk _ (nth_get (ha.2 i hi).1 (ha.2 i hi).2).2
    refine ⟨_, rfl, rfl, selL L g, h, rfl, hok, hsl2, hso, h0, h4, ?_⟩
    have hr5 := rch_len (selL L g) h
    have hgr := grps_len (rkS L h g).length
    have h32 : 2 ^ (rkS L h g).length ≤ 32 := Nat.le_trans (Nat.pow_le_pow_right (by decide) hr5) (by decide)
    refine ⟨_, rfl, dI (rch (selL L g) h), .inl rfl, rfl, (rkS L h g).length, by rw [List.length_map]; rfl, by show (rch (selL L g) h).length ≤ 10; omega, _, rfl, ?_⟩
    refine for_ind (fun j ρ M' => M' = M ++ [.dit (tks (((grps (rkS L h g).length).take j).foldl (fun T pl => setd T (subK (rkS L h g) pl) (trv L g)) Tk)) (tds (((grps (rkS L h g).length).take j).foldl (fun T pl => setd T (subK (rkS L h g) pl) (trv L g)) Tk))] ∧ ∃ x2 x3 x6 x9 x10 x11, ρ = [some (.tup (L.map lkD)), some (.int h), x2, x3, some (.mu M.length), some (.int (pri L g)), x6, some (tI g), some (.lst (dI (rkS L h g))), x9, x10, x11]) _ ?_ ?_ ⟨rfl, _, _, _, _, _, _, rfl⟩
    · rintro j d ρ M' N2 hd ⟨rfl, x2, x3, x6, x9, x10, x11, rfl⟩ hN2
      have hj : j < (grps (rkS L h g).length).length := by have := (List.getElem?_eq_some_iff.mp hd).1; rwa [List.length_map] at this
      have htj := List.take_succ_eq_append_getElem hj
      rw [List.getElem?_map, List.getElem?_eq_getElem hj] at hd
      cases hd
      have hp := grps_in.mp (List.getElem_mem hj)
      rw [htj, List.foldl_append] at hN2
      have hlen := fold_len (rkS L h g) (trv L g) ((grps (rkS L h g).length).take j) Tk
      rw [List.length_take] at hlen
      generalize ((grps (rkS L h g).length).take j).foldl (fun T pl => setd T (subK (rkS L h g) pl) (trv L g)) Tk = S at hN2 hlen ⊢
      generalize (grps (rkS L h g).length)[j] = pl at hp hN2 ⊢
      have hpl := asc_len hp
      have kl : (tks S).length = S.length := by unfold tks; rw [List.length_map]
      refine ⟨_, rfl, M.length, rfl, ⟨_, _, get_last _ _⟩, ?_⟩
      refine ⟨_, rfl, dI pl, rfl, lc_map (rkK (rkS L h g)) _ _ (fun d2 hd2 R2 hR2 => ?_) (by rw [List.length_nil, List.length_map]; have : (rkS L h g).length ≤ 5 := hr5; omega) ?_⟩
      · obtain ⟨i, hi, rfl⟩ := List.mem_map.mp hd2
        obtain ⟨i0, i1⟩ := hp.2 i hi
        exact ⟨_, rfl, _, rfl, dI (rkS L h g), i, _, rfl, rfl, ⟨i0, rk_get i0 i1⟩, hR2⟩
      rw [rkK_map]
      refine ⟨_, rfl, _, rfl, _, rfl, (by show 2 ≤ sizeLine; decide), tks S, tds S, get_last _ _, by rw [kl]; omega, fun v hv => ?_, fun hn => ?_⟩
      · rw [tget_eq] at hv
        refine hN2 _ _ ⟨?_, _, _, _, _, _, _, rfl⟩
        show _ = M ++ [.dit (tks (setd S (subK (rkS L h g) pl) (trv L g))) (tds (setd S (subK (rkS L h g) pl) (trv L g)))]
        rw [show setd S (subK (rkS L h g) pl) (trv L g) = S from if_pos (by rw [hv]; rfl)]
      · rw [tget_eq] at hn
        refine hN2 _ _ ⟨?_, _, _, _, _, _, _, rfl⟩
        rw [set_last]
        show M ++ [putMT (tks S) (tds S) (kI (subK (rkS L h g) pl)) (trv L g)] = _
        rw [put_tree _ hn]; rfl
    · rintro ρ M' ⟨rfl, x2, x3, x6, x9, x10, x11, rfl⟩
      rw [List.length_map, List.take_length]
      refine hN _ _ ⟨inT L h g Tk, hnx.symm, ?_, fold_in _ L g _ _ hTi, rfl, _, _, _, _, _, _, _, _, _, rfl⟩
      have := fold_len (rkS L h g) (trv L g) (grps (rkS L h g).length) Tk
      unfold inT
      omega
  · rintro ρ M' ⟨Tk, hTk, hTl, hTi, rfl, x2, x3, x5, x6, x7, x8, x9, x10, x11, rfl⟩
    rw [List.length_map, List.take_length] at hTk
    subst hTk
    exact ⟨M, _, _, rfl, rfl, hM, ap_tree hTi, rfl, _, rfl, q⟩
end
end K58
set_option Elab.async false
set_option linter.all false
set_option maxRecDepth 100000
set_option maxHeartbeats 4000000
namespace K58
open PySem PySem.Spec PyProof.Rows L2 Pd Spc
theorem tget_setd (T : Tr) (ns ms : List Int) (v : D) : tget (setd T ns v) ms = (tget T ms).or (if ns = ms then some v else none) := by
  unfold setd
  by_cases h : (tget T ns).isSome
  · rw [if_pos h]
    by_cases e : ns = ms
    · subst e
      obtain ⟨x, hx⟩ := Option.isSome_iff_exists.mp h
      rw [hx]; rfl
    · rw [if_neg e, Option.or_none]
  · rw [if_neg h]
    unfold tget
    rw [List.find?_append]
    cases hf : T.find? fun t => decide (t.1 = ms) with
    | some t => rfl
    | none =>
      by_cases e : ns = ms
      · rw [List.find?_cons_of_pos (by simp [e]), if_pos e]; rfl
      · rw [List.find?_cons_of_neg (by simp [e]), if_neg e]; rfl
theorem tget_fold (R ms : List Int) (v : D) : ∀ (l : List (List Int)) (T : Tr), tget (l.foldl (fun T pl => setd T (subK R pl) v) T) ms = (tget T ms).or (if (l.any fun pl => decide (subK R pl = ms)) = true then some v else none)
  | [], T => by
    show tget T ms = _
    rw [List.any_nil, if_neg Bool.false_ne_true, Option.or_none]
  | pl :: l, T => by
    show tget (l.foldl _ (setd T (subK R pl) v)) ms = _
    rw [tget_fold R ms v l, tget_setd, List.any_cons]
    cases h : tget T ms with
    | some x => rfl
    | none =>
      by_cases e : subK R pl = ms
      · rw [if_pos e, decide_eq_true e, Bool.true_or, if_pos rfl]; rfl
      · rw [if_neg e, decide_eq_false e, Bool.false_or]; rfl
theorem asc_one {a b : List Int} (ha : a.Pairwise (· < ·)) (hb : b.Pairwise (· < ·)) (h : ∀ k, k ∈ a ↔ k ∈ b) : a = b := by
  refine List.Perm.eq_of_pairwise (le := fun a b : Int => a < b) (fun x y _ _ h1 h2 => by omega) ha hb ?_
  exact (List.perm_ext_iff_of_nodup (ha.imp fun h => by omega) (hb.imp fun h => by omega)).mpr h
theorem rch_asc (L : List Lk) (h : Int) : (rch L h).Pairwise (· < ·) := by
  unfold rch rng5
  refine List.Pairwise.filter _ ?_
  rw [List.pairwise_map]
  exact List.pairwise_lt_range.imp fun h => by omega
theorem sub_any {R ms : List Int} (hR : R.Pairwise (· < ·)) (hm : ms.Pairwise (· < ·)) : ((grps R.length).any fun pl => decide (subK R pl = ms)) = ms.all fun x => R.contains x := by
  rw [Bool.eq_iff_iff, List.any_eq_true, List.all_eq_true]
  constructor
  · rintro ⟨pl, hp, e⟩ x hx
    have e := of_decide_eq_true e
    subst e
    obtain ⟨i, hi, rfl⟩ := List.mem_map.mp hx
    obtain ⟨i0, i1⟩ := (grps_in.mp hp).2 i hi
    have hl : i.toNat < R.length := by omega
    rw [List.contains_iff_mem, List.getD_eq_getElem?_getD, List.getElem?_eq_getElem hl]
    exact List.getElem_mem hl
  · intro h
    refine ⟨((List.range R.length).map fun (i : Nat) => (i : Int)).filter fun i => ms.contains (R.getD i.toNat 0), grps_in.mpr ⟨?_, fun i hi => ?_⟩, decide_eq_true ?_⟩
    · refine List.Pairwise.filter _ ?_
      rw [List.pairwise_map]
      exact List.pairwise_lt_range.imp fun h => by omega
    · obtain ⟨k, hk, rfl⟩ := List.mem_map.mp (List.mem_filter.mp hi).1
      have := List.mem_range.mp hk
      omega
    · have hat : ∀ {i : Nat} (hi : i < R.length), R.getD ((i : Nat) : Int).toNat 0 = R[i] := fun {i} hi => by
        rw [Int.toNat_natCast, List.getD_eq_getElem?_getD, List.getElem?_eq_getElem hi]; rfl
      refine asc_one ?_ hm fun k => ?_
      · unfold subK
        rw [List.pairwise_map]
        have hp : (((List.range R.length).map fun (i : Nat) => (i : Int)).filter fun i => ms.contains (R.getD i.toNat 0)).Pairwise (· < ·) := by
          refine List.Pairwise.filter _ ?_
          rw [List.pairwise_map]
          exact List.pairwise_lt_range.imp fun h => by omega
        refine hp.imp_of_mem fun {a b} ha hb hab => ?_
        obtain ⟨i, hi, rfl⟩ := List.mem_map.mp (List.mem_filter.mp ha).1
        obtain ⟨j, hj, rfl⟩ := List.mem_map.mp (List.mem_filter.mp hb).1
        have hi := List.mem_range.mp hi
        have hj := List.mem_range.mp hj
        rw [hat hi, hat hj]
        exact List.pairwise_iff_getElem.mp hR i j hi hj (by omega)
      · unfold subK
        rw [List.mem_map]
        constructor
        · rintro ⟨i, hi, rfl⟩
          exact List.contains_iff_mem.mp (List.mem_filter.mp hi).2
        · intro hk
          have := List.contains_iff_mem.mp (h k hk)
          obtain ⟨i, hi, rfl⟩ := List.getElem_of_mem this
          refine ⟨(i : Int), List.mem_filter.mpr ⟨List.mem_map.mpr ⟨i, List.mem_range.mpr hi, rfl⟩, ?_⟩, hat hi⟩
          rw [hat hi]
          exact List.contains_iff_mem.mpr hk
def holdsB (L : List Lk) (h : Int) (ms g : List Int) : Bool := ms.all fun x => (rkS L h g).contains x
theorem tget_tree (L : List Lk) (h : Int) {ms : List Int} (hm : ms.Pairwise (· < ·)) : tget (treeL L h) ms = ((rwS L).find? (holdsB L h ms)).map (trv L) := by
  have key : ∀ (G : List (List Int)) (T : Tr), tget (G.foldl (fun T g => inT L h g T) T) ms = (tget T ms).or ((G.find? (holdsB L h ms)).map (trv L)) := fun G => by
    induction G with
    | nil => intro T; show tget T ms = _; rw [List.find?_nil, Option.map_none, Option.or_none]
    | cons g G ih =>
      intro T
      show tget (G.foldl _ (inT L h g T)) ms = _
      rw [ih]
      unfold inT
      rw [tget_fold, sub_any (R := rkS L h g) (rch_asc _ _) hm]
      show ((tget T ms).or (if holdsB L h ms g = true then _ else _)).or _ = _
      cases hb : holdsB L h ms g with
      | true =>
        rw [if_pos rfl, List.find?_cons_of_pos hb]
        cases tget T ms <;> rfl
      | false =>
        rw [if_neg Bool.false_ne_true, List.find?_cons_of_neg (by rw [hb]; exact Bool.false_ne_true), Option.or_none]
  have := key (rwS L) []
  rw [show tget [] ms = none from rfl, Option.none_or] at this
  exact this
end K58
set_option Elab.async false
set_option linter.all false
set_option maxRecDepth 100000
set_option maxHeartbeats 4000000
namespace K58
open PySem PySem.Spec PyProof.Rows L2 Pd Spc
def rk (L : List Lk) (g : List Int) : List Int := pri L g :: ((dI g).length : Int) :: g
theorem row_lt (L : List Lk) (g k : List Int) : PySem.W.dataLt (toP (rowD L g)) (toP (rowD L k)) = decide (rk L g < rk L k) := by
  have e : PySem.W.dataLt (toP (rowD L g)) (toP (rowD L k)) = PyProof.Rows.lexLt PyProof.Rows.itemOrd (PySem.W.keyToksAll [.int (pri L g), .int ((dI g).length : Nat), .tuple (g.map PyData.int)]) (PySem.W.keyToksAll [.int (pri L k), .int ((dI k).length : Nat), .tuple (k.map PyData.int)]) := by
    show PySem.W.dataLt (.tuple [.int _, .int _, .tuple (toPA (dI g))]) (.tuple [.int _, .int _, .tuple (toPA (dI k))]) = _
    rw [toPA_ints, toPA_ints, PySem.W.dataLt_tuple]
  have hg : PySem.W.dataLt (.tuple (g.map PyData.int)) (.tuple (k.map PyData.int)) = decide (g < k) := by
    rw [← PySem.W.dataLt_ints]; rfl
  have hal : PySem.W.alike (.tuple (g.map PyData.int)) (.tuple (k.map PyData.int)) = true := Pd.alike_ints g k
  have lt_iff : ∀ (a b : Int) (as bs : List Int), (a :: as < b :: bs) ↔ (a < b ∨ (a = b ∧ as < bs)) := fun a b as bs => List.cons_lt_cons_iff
  rw [e, PySem.W.dataLt_cons rfl]
  unfold rk
  by_cases h1 : pri L g = pri L k
  · rw [if_pos (by show decide _ = true; exact decide_eq_true h1), PySem.W.dataLt_cons rfl]
    by_cases h2 : ((dI g).length : Int) = (dI k).length
    · rw [if_pos (by show decide _ = true; exact decide_eq_true h2), PySem.W.dataLt_cons hal]
      have e3 : decide (pri L g :: ((dI g).length : Int) :: g < pri L k :: ((dI k).length : Int) :: k) = decide (g < k) := decide_eq_decide.mpr (by
        rw [lt_iff, lt_iff, h1, h2]
        constructor
        · rintro (h | ⟨_, h | ⟨_, h⟩⟩)
          · omega
          · omega
          · exact h
        · exact fun h => .inr ⟨rfl, .inr ⟨rfl, h⟩⟩)
      rw [e3]
      cases he : PyData.eqv (.tuple (g.map PyData.int)) (.tuple (k.map PyData.int)) with
      | false => rw [if_neg Bool.false_ne_true]; exact hg
      | true =>
        rw [if_pos rfl]
        have : g = k := by
          have h3 : eqD (tI g) (tI k) = true := by
            show PyData.eqv (.tuple (toPA (dI g))) (.tuple (toPA (dI k))) = true
            rw [toPA_ints, toPA_ints]; exact he
          have h4 : (eqD (tI g) (tI k) && true) = decide ([g] = [k]) := eqD_rows [g] [k]
          rw [h3] at h4
          have h5 := of_decide_eq_true h4.symm
          injection h5
        subst this
        rw [decide_eq_false (List.lt_irrefl _)]
        rfl
    · rw [if_neg (by show ¬ decide _ = true; rw [decide_eq_false h2]; exact Bool.false_ne_true), PySem.W.dataLt_int]
      refine decide_eq_decide.mpr ?_
      rw [lt_iff, lt_iff, h1]
      constructor
      · exact fun h => .inr ⟨rfl, .inl h⟩
      · rintro (h | ⟨_, h | ⟨h, _⟩⟩)
        · omega
        · exact h
        · exact absurd h h2
  · rw [if_neg (by show ¬ decide _ = true; rw [decide_eq_false h1]; exact Bool.false_ne_true), PySem.W.dataLt_int]
    refine decide_eq_decide.mpr ?_
    rw [lt_iff]
    constructor
    · exact .inl
    · rintro (h | ⟨h, _⟩)
      · exact h
      · exact absurd h h1
theorem rows_asc (L : List Lk) : (rwS L).Pairwise fun g k => rk L g ≤ rk L k := by
  have e : (PySem.W.dataLe false fun g => toP (rowD L g)) = fun g k => decide (rk L g ≤ rk L k) := by
    funext g k
    rw [PySem.W.dataLe_eq]
    show (!PySem.W.dataLt (toP (rowD L k)) (toP (rowD L g))) = _
    rw [row_lt]
    by_cases h : rk L k < rk L g
    · rw [decide_eq_true h, decide_eq_false (fun c => absurd h (List.not_lt.mpr c))]; rfl
    · rw [decide_eq_false h, decide_eq_true (List.not_lt.mp h)]; rfl
  have ht : PySem.W.TotalLe (PySem.W.dataLe false fun g => toP (rowD L g)) := by
    rw [e]
    exact ⟨fun a b c h1 h2 => decide_eq_true (List.le_trans (of_decide_eq_true h1) (of_decide_eq_true h2)), fun a b => (List.le_total (rk L a) (rk L b)).imp decide_eq_true decide_eq_true⟩
  have hp := PySem.W.sort_pairwise ht (gsL L.length)
  refine hp.imp fun {g k} h => ?_
  rw [e] at h
  exact of_decide_eq_true h
end K58
set_option Elab.async false
set_option linter.all false
set_option maxRecDepth 100000
set_option maxHeartbeats 4000000
namespace K58
open PySem PySem.Spec PyProof.Rows L2 Pd Spc
def lkI (l : Lk) : List Int := [l.1, l.2.1, l.2.2]
theorem toP_tI (xs : List Int) : toP (tI xs) = .tuple (xs.map PyData.int) := by
  show PyData.tuple (toPA (dI xs)) = _
  rw [toPA_ints]
theorem lk_ok (G : List Lk) : SortOk (G.map lkD) := by
  have e : (G.map lkD).map toP = G.map fun x => toP (lkD x) := by rw [List.map_map]; rfl
  refine ⟨fun d hd => ?_, ?_, ?_, fun d hd => ?_⟩
  · obtain ⟨x, _, rfl⟩ := List.mem_map.mp hd
    rfl
  · rw [e]
    exact PySem.W.AllAlike.of fun x y => Pd.alike_ints (lkI x) (lkI y)
  · rw [e]
    exact PySem.W.Sortable.tuples fun x => ⟨_, _, rfl⟩
  · obtain ⟨x, _, rfl⟩ := List.mem_map.mp hd
    show max 0 (max 0 (max 0 0)) + 1 ≤ 60
    decide
theorem sort_lk {L L' : List Lk} (hp : L'.Perm L) (ha : (L.map lkI).Pairwise (· < ·)) : sortD (L'.map lkD) = L.map lkD := by
  have e1 : ∀ G : List Lk, G.map lkD = (G.map lkI).map tI := fun G => by rw [List.map_map]; rfl
  have e2 : (PySem.W.dataLe false fun g => toP (tI g)) = fun a b : List Int => decide (a ≤ b) := by
    funext a b
    rw [PySem.W.dataLe_eq]
    show (!PySem.W.dataLt (toP (tI b)) (toP (tI a))) = _
    rw [toP_tI, toP_tI]
    have : PySem.W.dataLt (.tuple (b.map PyData.int)) (.tuple (a.map PyData.int)) = decide (b < a) := by rw [← PySem.W.dataLt_ints]; rfl
    rw [this]
    by_cases h : b < a
    · rw [decide_eq_true h, decide_eq_false (fun c => absurd h (List.not_lt.mpr c))]; rfl
    · rw [decide_eq_false h, decide_eq_true (List.not_lt.mp h)]; rfl
  have ht : PySem.W.TotalLe (fun a b : List Int => decide (a ≤ b)) := ⟨fun a b c h1 h2 => decide_eq_true (List.le_trans (of_decide_eq_true h1) (of_decide_eq_true h2)), fun a b => (List.le_total a b).imp decide_eq_true decide_eq_true⟩
  have e3 : sortD ((L'.map lkI).map tI) = ((L'.map lkI).mergeSort (PySem.W.dataLe false fun g => toP (tI g))).map tI := by
    unfold sortD
    exact (List.map_mergeSort (f := tI) fun _ _ _ _ => rfl).symm
  rw [e1, e1, e3, e2]
  congr 1
  refine List.Perm.eq_of_pairwise (le := fun a b : List Int => a ≤ b) (fun a b _ _ h1 h2 => List.le_antisymm h1 h2) ((PySem.W.sort_pairwise ht _).imp fun {a b} h => of_decide_eq_true h) (ha.imp fun h => List.le_of_lt h) ?_
  exact (List.mergeSort_perm _ _).trans (hp.map _)
structure NtOk (n : Nat) (rows : List (List Int)) (ws os rs : List Int) (L : List Lk) (h : Int) : Prop where
  pr : PrOk n rows ws os
  rl : rs.length = n
  rr : ∀ r ∈ rs, 0 ≤ r ∧ r ≤ 4
  l10 : L.length ≤ 10
  lk : ∀ l ∈ L, LkOk l
  asc : (L.map lkI).Pairwise (· < ·)
  pn : (L.map prL).Nodup
  h0 : 0 ≤ h
  h4 : h ≤ 4
def racksB (n : Nat) (d : D) : Bool := match itemsD d with | some xs => decide (xs.length = n) && xs.all (btwB 0 4) | none => false
/-- the first argument that is wrong -/
def WrongN (PC : Addr) (d0 d1 d2 d3 x : D) : Prop := (∃ t, tyN d0 = some t ∧ x = d0) ∨ ∃ (n : Nat) (rows : List (List Int)) (ws os : List Int), d0 = dPr PC rows ws os ∧ PrOk n rows ws os ∧ Typed1 d1 ∧
  ((racksB n d1 = false ∧ x = d1) ∨ (racksB n d1 = true ∧ Typed d2 ∧ ((linksB d2 = false ∧ x = d2) ∨ (linksB d2 = true ∧ (∃ t, tyN d3 = some t) ∧ btwB 0 4 d3 = false ∧ x = d3))))
theorem NtOk.links {n : Nat} {rows : List (List Int)} {ws os rs : List Int} {L : List Lk} {h : Int} (k : NtOk n rows ws os rs L h) {d : D} (hd : isSeq d (L.map lkD)) : Typed d ∧ linksB d = true := by
  have h10 := k.l10
  refine ⟨⟨seq_ty hd, fun xs e => ?_⟩, ?_⟩
  · rw [isSeq_items hd] at e
    cases e
    refine ⟨by rw [List.length_map]; omega, fun x hx => ?_⟩
    obtain ⟨l, _, rfl⟩ := List.mem_map.mp hx
    refine ⟨⟨_, rfl⟩, fun ys e y hy => ?_⟩
    have e : D.tup [.int l.1, .int l.2.1, .int l.2.2] = .tup ys := e
    injection e with e
    subst e
    simp only [List.mem_cons, List.not_mem_nil, or_false] at hy
    rcases hy with rfl | rfl | rfl <;> exact ⟨_, rfl⟩
  · unfold linksB
    rw [isSeq_items hd]
    show (decide ((L.map lkD).length ≤ 10) && ((L.map lkD).all linkB && decide ((((L.map lkD).map unL).map prL).Nodup))) = true
    have e : (L.map lkD).map unL = L := by
      rw [List.map_map]
      exact (List.map_congr_left fun l _ => rfl).trans (List.map_id L)
    rw [e, decide_eq_true k.pn, List.length_map, decide_eq_true h10, List.all_map]
    rw [List.all_eq_true.mpr fun l hl => ?_]
    · rfl
    · have hk := k.lk l hl
      obtain ⟨a0, ab, b4, c0, c9⟩ := hk
      show (btwB 0 4 (.int l.1) && (btwB 0 4 (.int l.2.1) && (btwB 0 1000 (.int l.2.2) && decide (l.1 < l.2.1)))) = true
      unfold btwB
      simp only [Bool.and_eq_true, decide_eq_true_eq]
      omega
theorem NtOk.racks {n : Nat} {rows : List (List Int)} {ws os rs : List Int} {L : List Lk} {h : Int} (k : NtOk n rows ws os rs L h) {d : D} (hd : isSeq d (dI rs)) : Typed1 d ∧ racksB n d = true := by
  have n6 := k.pr.n6
  have rl := k.rl
  refine ⟨⟨seq_ty hd, fun xs e => ?_⟩, ?_⟩
  · rw [isSeq_items hd] at e
    cases e
    exact ⟨by rw [List.length_map]; omega, ty_ints rs⟩
  · unfold racksB
    rw [isSeq_items hd]
    show (decide ((dI rs).length = n) && (dI rs).all (btwB 0 4)) = true
    rw [btw_in k.rr, List.length_map, decide_eq_true rl]; rfl
def ntF (PC : Addr) (rows : List (List Int)) (ws os rs : List Int) (L : List Lk) (h : Int) : List (Str × D) := [("_prices", dPr PC rows ws os), ("_racks", tI rs), ("_links", .tup (L.map lkD)), ("_home", .int h), ("_spots", .tup ((spP rows).map tI)), ("_trees", .dit (tks (treeL L h)) (tds (treeL L h)))]
def dNt (C PC : Addr) (rows : List (List Int)) (ws os rs : List Int) (L : List Lk) (h : Int) : D := .ins C (ntF PC rows ws os rs L h)
theorem ap_tups (k : Nat) (X : List (List Int)) : apartA k (X.map tI) = true := apartA_of fun d hd => by
  obtain ⟨x, _, rfl⟩ := List.mem_map.mp hd
  exact apartA_ints k x
theorem ap_lks (k : Nat) (L : List Lk) : apartA k (L.map lkD) = true := apartA_of fun d hd => by
  obtain ⟨x, _, rfl⟩ := List.mem_map.mp hd
  rfl
theorem ap_prF (k : Nat) (rows : List (List Int)) (ws os : List Int) : apartF k (prF rows ws os) = true := by
  show (apartA k (rows.map tI) && (apartA k (dI ws) && (apartA k (dI os) && (apartA k ((spP rows).map tI) && true)))) = true
  rw [ap_tups, ap_tups, apartA_ints, apartA_ints]; rfl
section
variable {P : Program} {w : World} {K : PySem.W.Frag} {mg : Str → Option Value} {base : Heap}
theorem kt_all (T : Tx P w K mg) {d : D} {t : String} (h : tyN d = some t) : PySem.W.kitOne K (.type t) (.ref T.a_Prices) = some false := by
  cases d <;> simp only [tyN, Option.some.injEq, reduceCtorEq] at h <;> subst h
  · exact T.kt_NoneType
  · exact T.kt_bool
  · exact T.kt_int
  · exact T.kt_str
  · exact T.kt_list
  · exact T.kt_tuple
  · exact T.kt_dict
def W_ninit (C PC EC : Addr) : DCX := fun ds M Q Xd => ∃ (j : Nat) (d0 d1 d2 d3 : D), ds = [.mu j, d0, d1, d2, d3] ∧ M[j]? = some (.ins C []) ∧ okM M ∧
  ((∃ x, WrongN PC d0 d1 d2 d3 x ∧ Xd EC [("value", x)] M) ∨ ∃ (n : Nat) (rows : List (List Int)) (ws os rs : List Int) (L : List Lk) (h : Int), d0 = dPr PC rows ws os ∧ isSeq d1 (dI rs) ∧ d2 = .lst (L.map lkD) ∧ d3 = .int h ∧ NtOk n rows ws os rs L h ∧ Q .non (M.set j (.ins C (ntF PC rows ws os rs L h))))
theorem ok_Net_init (T : Tx P w K mg) : FnOk P w K mg base (L2.CX P w) 6 T.a_Net_init T.f_Net_init ["self", "prices", "racks", "links", "home"] (spX 5 (W_ninit T.a_Net T.a_Prices T.a_InvalidCost) K) := by
  refine pd_fnX T.F_Net_init sc_Net_init (fun cdv A outer s H E hr => ⟨_, (pdssx_cons (pdsx_if (pdt_not (pdt_val (pd_callB call_isi sc_isi (by rfl) T.n_isinstance (by decide +kernel) (pda_cons (pd_name 1) (pda_cons (pd_glob (v := .ref T.a_Prices) (d := .ob T.a_Prices) (by rfl) T.g_Prices rfl (fun _ _ => .ob _)) pda_nil))))) (pdssx_one (pdsx_raise tail_Exception rfl (takes_of rfl rfl rfl rfl) T.x_InvalidCost T.i_InvalidCost T.t_InvalidCost T.h_InvalidCost (ok_InvalidCost_init T) (hr.mono (by decide)) T.b_InvalidCost_init (by rfl) T.g_InvalidCost (pda_cons (pd_name 1) pda_nil))) pdssx_nil)
      (pdssx_cons (pdsx_of (pds_set 5 sc_Net_init.nd (pd_callB call_len_seq sc_len (by rfl) T.n_len (by decide +kernel) (pda_cons (pd_prop (pd_name 1) T.c_Prices.cl T.pp_Prices_parts (ok_Prices_parts T) (hr.mono (by decide)) T.b_Prices_parts) pda_nil))))
      (pdssx_cons (pdsx_if (pdt_w (pdw_or (pdt_not (pdt_val (pd_call (ok_has_items T) (hr.mono (by decide)) (by rfl) T.g_has_items T.F_has_items.kp T.b_has_items (pda_cons (pd_name 2) (pda_cons (pd_name 5) (pda_cons (pd_name 5) pda_nil)))))) (pdw_or1 (pdt_not (pdt_val (pd_call (ok_all_between T) (hr.mono (by decide)) (by rfl) T.g_all_between T.F_all_between.kp T.b_all_between (pda_cons (pd_name 2) (pda_cons pd_int (pda_cons (pd_glob (v := .int 4) (d := .int 4) (by rfl) T.g_GREATEST_RACK ⟨_, rfl⟩ (fun _ _ => .int _)) pda_nil))))))))) (pdssx_one (pdsx_raise tail_Exception rfl (takes_of rfl rfl rfl rfl) T.x_InvalidCost T.i_InvalidCost T.t_InvalidCost T.h_InvalidCost (ok_InvalidCost_init T) (hr.mono (by decide)) T.b_InvalidCost_init (by rfl) T.g_InvalidCost (pda_cons (pd_name 2) pda_nil))) pdssx_nil)
      (pdssx_cons (pdsx_if (pdt_not (pdt_val (pd_call (ok_are_links T) (hr.mono (by decide)) (by rfl) T.g_are_links T.F_are_links.kp T.b_are_links (pda_cons (pd_name 3) pda_nil)))) (pdssx_one (pdsx_raise tail_Exception rfl (takes_of rfl rfl rfl rfl) T.x_InvalidCost T.i_InvalidCost T.t_InvalidCost T.h_InvalidCost (ok_InvalidCost_init T) (hr.mono (by decide)) T.b_InvalidCost_init (by rfl) T.g_InvalidCost (pda_cons (pd_name 3) pda_nil))) pdssx_nil)
      (pdssx_cons (pdsx_if (pdt_not (pdt_val (pd_call (ok_is_rack T) (hr.mono (by decide)) (by rfl) T.g_is_rack T.F_is_rack.kp T.b_is_rack (pda_cons (pd_name 4) pda_nil)))) (pdssx_one (pdsx_raise tail_Exception rfl (takes_of rfl rfl rfl rfl) T.x_InvalidCost T.i_InvalidCost T.t_InvalidCost T.h_InvalidCost (ok_InvalidCost_init T) (hr.mono (by decide)) T.b_InvalidCost_init (by rfl) T.g_InvalidCost (pda_cons (pd_name 4) pda_nil))) pdssx_nil)
      (pdssx_cons (pdsx_of (pds_fldM (pd_name 1) (pd_name 0)))
      (pdssx_cons (pdsx_of (pds_fldM (pd_callTy call_tuple_of sc_tuple (by rfl) T.n_tuple (by decide +kernel) (pda_cons (pd_name 2) pda_nil)) (pd_name 0)))
      (pdssx_cons (pdsx_of (pds_fldM (pd_callTy call_tuple_of sc_tuple (by rfl) T.n_tuple (by decide +kernel) (pda_cons (pd_sortD hr.units (by rfl) T.n_sorted (by decide +kernel) (pda_cons (pd_name 3) pda_nil)) pda_nil)) (pd_name 0)))
      (pdssx_cons (pdsx_of (pds_fldM (pd_name 4) (pd_name 0)))
      (pdssx_cons (pdsx_of (pds_fldM (pd_call (ok_spots_of_parts T) (hr.mono (by decide)) (by rfl) T.g_spots_of_parts T.F_spots_of_parts.kp T.b_spots_of_parts (pda_cons (pd_prop (pd_name 1) T.c_Prices.cl T.pp_Prices_parts (ok_Prices_parts T) (hr.mono (by decide)) T.b_Prices_parts) pda_nil)) (pd_name 0)))
      (pdssx_one (pdsx_of (pds_fldM (pd_call (ok_least_trees T) (hr.mono (by decide)) (by rfl) T.g_least_trees T.F_least_trees.kp T.b_least_trees (pda_cons (pd_fldMu (K := K) rfl (pd_name 0)) (pda_cons (pd_name 4) pda_nil))) (pd_name 0)))))))))))))), fun ds M Q Xd hl h => ?_⟩)
  obtain ⟨j, d0, d1, d2, d3, rfl, hm, hM, h⟩ := h
  have hsl : sizeLine = 16777216 := by decide
  rcases h with ⟨x, hw, q⟩ | ⟨n, rows, ws, os, rs, L, h, rfl, hrd, rfl, rfl, hk, q⟩
  · rcases hw with ⟨t, ht, rfl⟩ | ⟨n, rows, ws, os, rfl, hp, ht1, hw⟩
    · refine ⟨_, rfl, _, _, _, _, _, false, rfl, dty ht, .ob T.a_Prices, kt_all T ht, false, rfl, ?_⟩
      exact ⟨_, rfl, _, rfl, q⟩
    · refine ⟨_, rfl, _, _, _, _, _, true, rfl, .ins T.c_Prices, .ob T.a_Prices, T.kp_Prices, true, rfl, ?_⟩
      refine ⟨_, rfl, _, rfl, rows, ws, os, _, rfl, rfl, rows.map tI, .inr rfl, ?_⟩
      obtain ⟨⟨t1, ht1⟩, hx1⟩ := ht1
      have hn : (rows.map tI).length = n := by rw [List.length_map, hp.l1]
      rw [hn]
      refine ⟨d1, rfl, _, rfl, _, rfl, rfl, d1, t1, _, _, rfl, ht1, hasB n n d1, rfl, ?_⟩
      rcases seq_or (K := K) ht1 with ⟨xs, hxs, _, hb⟩ | ⟨_, hb⟩
      rotate_left
      · have e : racksB n d1 = false := by unfold racksB; rw [noSeq hb]
        rw [hb]
        rcases hw with ⟨_, rfl⟩ | ⟨z, _⟩
        · exact iff1 ⟨_, rfl, _, rfl, q⟩
        · rw [e] at z; cases z
      obtain ⟨hz1, hty1⟩ := hx1 xs (isSeq_items hxs)
      have er : racksB n d1 = (decide (xs.length = n) && xs.all (btwB 0 4)) := by unfold racksB; rw [isSeq_items hxs]
      have e1 : hasB n n d1 = decide (xs.length = n) := by
        rw [hb]
        by_cases c : xs.length = n
        · rw [decide_eq_true (by omega), decide_eq_true (by omega), decide_eq_true c]; rfl
        · rw [decide_eq_false c]
          by_cases c2 : (n : Int) ≤ (xs.length : Int)
          · rw [decide_eq_false (p := (xs.length : Int) ≤ (n : Int)) (by omega), Bool.and_false]
          · rw [decide_eq_false c2]; rfl
      rw [e1]
      by_cases hl1 : xs.length = n
      rotate_left
      · rw [decide_eq_false hl1] at er ⊢
        rcases hw with ⟨_, rfl⟩ | ⟨z, _⟩
        · exact iff1 ⟨_, rfl, _, rfl, q⟩
        · rw [er] at z; cases z
      rw [decide_eq_true hl1] at er ⊢
      refine iff0 ⟨d1, rfl, rfl, d1, xs, 0, 4, rfl, hxs, hty1, by omega, xs.all (btwB 0 4), rfl, ?_⟩
      cases hall : xs.all (btwB 0 4) with
      | false =>
        rw [hall] at er
        rcases hw with ⟨_, rfl⟩ | ⟨z, _⟩
        · exact iff1 ⟨_, rfl, _, rfl, q⟩
        · rw [er] at z; cases z
      | true =>
      rw [hall] at er
      rcases hw with ⟨z, _⟩ | ⟨_, ht2, hw⟩
      · rw [er] at z; cases z
      refine iff0 ⟨d2, rfl, rfl, d2, rfl, ht2, linksB d2, rfl, ?_⟩
      rcases hw with ⟨hb2, rfl⟩ | ⟨hb2, ⟨t3, ht3⟩, hb3, rfl⟩
      · rw [hb2]
        exact ⟨_, rfl, _, rfl, q⟩
      · rw [hb2]
        refine ⟨_, rfl, rfl, _, t3, rfl, ht3, false, by rw [hb3], ?_⟩
        exact ⟨_, rfl, _, rfl, q⟩
  have h1 := hk.pr.l1
  have n6 := hk.pr.n6
  have rl := hk.rl
  have hj : j < M.length := (List.getElem?_eq_some_iff.mp hm).1
  have gj : ∀ fs, (M.set j (.ins T.a_Net fs))[j]? = some (.ins T.a_Net fs) := fun fs => List.getElem?_set_self hj
  obtain ⟨ht2, hb2⟩ := hk.links (.inl rfl)
  refine ⟨_, rfl, _, _, _, _, _, true, rfl, .ins T.c_Prices, .ob T.a_Prices, T.kp_Prices, true, rfl, ?_⟩
  refine ⟨_, rfl, _, rfl, rows, ws, os, _, rfl, rfl, rows.map tI, .inr rfl, ?_⟩
  refine ⟨d1, rfl, _, rfl, _, rfl, rfl, has_call hrd ⟨true, congrArg D.bl (by rw [List.length_map, List.length_map, decide_eq_true (by omega), decide_eq_true (by omega)]; rfl), iff0 ?_⟩⟩
  refine ⟨d1, rfl, rfl, d1, dI rs, 0, 4, rfl, hrd, ty_ints rs, by rw [List.length_map]; omega, true, congrArg D.bl (btw_in hk.rr), iff0 ?_⟩
  refine ⟨_, rfl, rfl, _, rfl, ht2, true, by rw [hb2], ?_⟩
  refine ⟨_, rfl, rfl, _, _, rfl, rfl, true, congrArg D.bl (by show (decide (0 ≤ h) && decide (h ≤ 4)) = true; rw [decide_eq_true hk.h0, decide_eq_true hk.h4]; rfl), ?_⟩
  refine ⟨_, rfl, .mu j, rfl, j, T.a_Net, [], rfl, hm, T.c_Net.cl, T.nn_prices, by decide, ?_⟩
  refine ⟨d1, rfl, _, _, rfl, hrd, .mu j, rfl, j, T.a_Net, _, rfl, gj _, T.c_Net.cl, T.nn_racks, (by show 1 < 1000; decide), ?_⟩
  rw [List.set_set]
  refine ⟨_, rfl, _, rfl, lk_ok L, ?_⟩
  rw [sort_lk (List.Perm.refl L) hk.asc]
  refine ⟨_, _, rfl, .inl rfl, .mu j, rfl, j, T.a_Net, _, rfl, gj _, T.c_Net.cl, T.nn_links, (by show 2 < 1000; decide), ?_⟩
  rw [List.set_set]
  refine ⟨_, rfl, .mu j, rfl, j, T.a_Net, _, rfl, gj _, T.c_Net.cl, T.nn_home, (by show 3 < 1000; decide), ?_⟩
  rw [List.set_set]
  refine ⟨_, rfl, _, rfl, rows, ws, os, _, rfl, rfl, rfl, _, rows.map tI, rfl, .inr rfl, by rw [List.length_map]; omega, fun x hx => ?_, ?_⟩
  · obtain ⟨r, hr, rfl⟩ := List.mem_map.mp hx
    exact .inr ⟨dI r, .inr rfl, by rw [List.length_map]; exact (hk.pr.r r hr).2.1⟩
  refine ⟨.mu j, rfl, j, T.a_Net, _, rfl, gj _, T.c_Net.cl, T.nn_spots, (by show 4 < 1000; decide), ?_⟩
  rw [List.set_set]
  refine ⟨.mu j, rfl, j, T.a_Net, _, _, rfl, gj _, T.c_Net.cl, T.nn_links, rfl, _, rfl, rfl, L, h, rfl, ?_, hk.l10, hk.lk, hk.h0, hk.h4, ?_⟩
  · refine okM_ins hM ?_
    show (apartF M.length (prF rows ws os) && (apartA M.length (dI rs) && (apartA M.length (L.map lkD) && (true && (apartA M.length ((spP rows).map tI) && true))))) = true
    rw [ap_prF, apartA_ints, ap_lks, ap_tups]; rfl
  refine ⟨.mu j, rfl, j, T.a_Net, _, rfl, gj _, T.c_Net.cl, T.nn_trees, (by show 5 < 1000; decide), ?_⟩
  rw [List.set_set]
  exact q
end
end K58
set_option Elab.async false
set_option linter.all false
set_option maxRecDepth 100000
set_option maxHeartbeats 4000000
namespace K58
open PySem PySem.Spec PyProof.Rows L2 Pd Spc
/-- the racks of some spots -/
def ndr (rs : List Int) (sp : List (List Int)) : List Int := rng5.filter fun x => (sp.map fun s => rs.getD (ip s).toNat 0).contains x
def rackK (rs : List Int) (d : D) : D := .int (rs.getD (ip (intT d)).toNat 0)
def treeD (L : List Lk) (h : Int) (ms : List Int) : D := (((rwS L).find? (holdsB L h ms)).map (trv L)).getD .non
theorem rackK_map (rs : List Int) (sp : List (List Int)) : ([] : List D) ++ (sp.map tI).map (rackK rs) = dI (sp.map fun s => rs.getD (ip s).toNat 0) := by
  rw [List.nil_append, List.map_map]
  show _ = List.map _ (List.map _ _)
  rw [List.map_map]
  refine List.map_congr_left fun s _ => ?_
  show D.int (rs.getD (ip (intT (tI s))).toNat 0) = _
  rw [intT_tI]; rfl
theorem ndr_asc (rs : List Int) (sp : List (List Int)) : (ndr rs sp).Pairwise (· < ·) := by
  unfold ndr rng5
  refine List.Pairwise.filter _ ?_
  rw [List.pairwise_map]
  exact List.pairwise_lt_range.imp fun h => by omega
theorem getD_bd {rs : List Int} (h : ∀ r ∈ rs, 0 ≤ r ∧ r ≤ 4) (k : Nat) : 0 ≤ rs.getD k 0 ∧ rs.getD k 0 ≤ 4 := by
  rw [List.getD_eq_getElem?_getD]
  cases e : rs[k]? with
  | none => exact ⟨Int.le_refl _, by show (0 : Int) ≤ 4; decide⟩
  | some r => exact h r (List.mem_of_getElem? e)
theorem ndr_mem {rs : List Int} {sp : List (List Int)} (h : ∀ r ∈ rs, 0 ≤ r ∧ r ≤ 4) {k : Int} : k ∈ ndr rs sp ↔ k ∈ sp.map fun s => rs.getD (ip s).toNat 0 := by
  unfold ndr
  rw [List.mem_filter, List.contains_iff_mem]
  refine ⟨fun z => z.2, fun z => ⟨?_, z⟩⟩
  obtain ⟨s, _, rfl⟩ := List.mem_map.mp z
  obtain ⟨h0, h4⟩ := getD_bd h (ip s).toNat
  exact List.mem_map.mpr ⟨(rs.getD (ip s).toNat 0).toNat, List.mem_range.mpr (by omega), by omega⟩
section
variable {P : Program} {w : World} {K : PySem.W.Frag} {mg : Str → Option Value} {base : Heap}
def W_ntree (C PC EC : Addr) : DCX := fun ds M Q Xd => ∃ (n : Nat) (rows : List (List Int)) (ws os rs : List Int) (L : List Lk) (h : Int) (d : D), ds = [dNt C PC rows ws os rs L h, d] ∧ NtOk n rows ws os rs L h ∧ SpC EC rows d Xd M fun sp => Q (treeD L h (ndr rs sp)) M
theorem ok_Net_tree (T : Tx P w K mg) : FnOk P w K mg base (L2.CX P w) 5 T.a_Net_tree T.f_Net_tree ["self", "spots"] (spX 2 (W_ntree T.a_Net T.a_Prices T.a_InvalidSpots) K) := by
  refine pd_fnX T.F_Net_tree sc_Net_tree (fun cdv A outer s H E hr => ⟨_, (pdssx_cons (pdsx_if (pdt_not (pdt_val (pd_call (ok_are_spots T) (hr.mono (by decide)) (by rfl) T.g_are_spots T.F_are_spots.kp T.b_are_spots (pda_cons (pd_name 1) (pda_cons (pd_fldK (K := K) rfl (pd_name 0)) pda_nil))))) (pdssx_one (pdsx_raise tail_Exception rfl (takes_of rfl rfl rfl rfl) T.x_InvalidSpots T.i_InvalidSpots T.t_InvalidSpots T.h_InvalidSpots (ok_InvalidSpots_init T) (hr.mono (by decide)) T.b_InvalidSpots_init (by rfl) T.g_InvalidSpots (pda_cons (pd_name 1) pda_nil))) pdssx_nil)
      (pdssx_one (pdsx_ret (pdx_of (pd_get1N hr.units (pd_fldK (K := K) rfl (pd_name 0)) (pd_tupN (pd_sortSet rfl (by rfl) T.n_sorted (by rfl) T.n_set (pd_lc [("piece", 2), ("_", 3)] rfl sc_Net_tree.nd (pdi_seq (pd_name 1)) (blkOk_by (N := ["self", "spots", "piece", "_"]) (sc := defScope s_Net_tree) (by decide +kernel)) (fun _ _ _ _ _ => (pdg_tup (n := 2) rfl (pdgs_cons (pdg_name 2 sc_Net_tree.nd) (pdgs_cons (pdg_name 3 sc_Net_tree.nd) pdgs_nil)))) (fun _ _ _ _ _ => pdts_nil) (fun _ _ _ _ _ => (pd_ix ix_tup sr_ixT (pd_fldK (K := K) rfl (pd_name 0)) (pd_name 2))))) (by rfl) T.n_tuple)))))), fun ds M Q Xd hl h => ?_⟩)
  obtain ⟨n, rows, ws, os, rs, L, h, d, rfl, hk, hc⟩ := h
  have hsl : sizeLine = 16777216 := by decide
  rcases hc with ⟨ht, hn, q⟩ | ⟨sp, hd, hs, q⟩
  · refine ⟨d, rfl, _, rfl, _, _, _, rfl, T.c_Net.cl, T.nn_spots, rfl, rfl, d, spP rows, rfl, ht, false, by rw [hn], ?_⟩
    exact ⟨_, rfl, _, rfl, q⟩
  have h18 := spP_len hk.pr
  have hspl := hs.sub.length_le
  have h1 := hk.pr.l1
  have rl := hk.rl
  obtain ⟨ht, hb⟩ := spots_in hd hs h18
  refine ⟨d, rfl, _, rfl, _, _, _, rfl, T.c_Net.cl, T.nn_spots, rfl, rfl, d, spP rows, rfl, ht, true, by rw [hb], ?_⟩
  refine ⟨_, rfl, _, _, _, rfl, T.c_Net.cl, T.nn_trees, rfl, ⟨_, _, .inl rfl⟩, ?_⟩
  refine ⟨d, rfl, sp.map tI, hd, lc_map (rackK rs) _ _ (fun e he R hR => ?_) (by rw [List.length_nil, List.length_map]; omega) ?_⟩
  · obtain ⟨x, hx, rfl⟩ := List.mem_map.mp he
    obtain ⟨i, j, r, rfl, hr, hj⟩ := spP_mem (hs.sub.subset hx)
    have hi := (List.getElem?_eq_some_iff.mp hr).1
    have hR' : R (.int (rs.getD ((i : Int)).toNat 0)) M := hR
    exact ⟨_, rfl, rfl, _, _, rfl, _, _, rfl, rfl, _, rfl, _, _, _, rfl, T.c_Net.cl, T.nn_racks, rfl, _, rfl, dI rs, (i : Int), _, rfl, rfl, ⟨Int.natCast_nonneg _, getD_get (Int.natCast_nonneg _) (by omega)⟩, hR'⟩
  rw [rackK_map]
  refine ⟨_, rfl, by rw [List.length_map]; omega, fun ms hms hmm => ⟨ms, rfl, _, _, ms, .inl rfl, rfl, ?_⟩⟩
  have e : ms = ndr rs sp := asc_one hms (ndr_asc _ _) fun k => by rw [hmm, ndr_mem hk.rr]
  rw [tget_eq, tget_tree L h hms, e]
  exact q
def callD (rows : List (List Int)) (ws os : List Int) (L : List Lk) (h : Int) (ms : List Int) (sp : List (List Int)) : D := match (rwS L).find? (holdsB L h ms) with | none => .non | some g => .int (costP rows ws os sp + pri L g)
def W_ncall (C PC EC : Addr) : DCX := fun ds M Q Xd => ∃ (n : Nat) (rows : List (List Int)) (ws os rs : List Int) (L : List Lk) (h : Int) (d : D), ds = [dNt C PC rows ws os rs L h, d] ∧ NtOk n rows ws os rs L h ∧ okM M ∧ SpC EC rows d Xd M fun sp => Q (callD rows ws os L h (ndr rs sp) sp) M
theorem ok_Net_call (T : Tx P w K mg) : FnOk P w K mg base (L2.CX P w) 9 T.a_Net_call T.f_Net_call ["self", "spots"] (spX 2 (W_ncall T.a_Net T.a_Prices T.a_InvalidSpots) K) := by
  refine pd_fnX T.F_Net_call sc_Net_call (fun cdv A outer s H E hr => ⟨_, (pdssx_cons (pdsx_set 2 sc_Net_call.nd (pdx_meth (takes_of rfl rfl rfl rfl) (pd_name 0) T.c_Net.cl T.me_tree (ok_Net_tree T) (hr.mono (by decide)) T.b_Net_tree (pda_cons (pd_name 1) pda_nil)))
      (pdssx_cons (pdsx_of (pds_set 3 sc_Net_call.nd (pd_fldK (K := K) rfl (pd_name 0))))
      (pdssx_one (pdsx_ret (pdx_of (pd_ifExp (pdt_cmp op_is0 sr_is0 (pd_name 2) pd_non (nomark _)) pd_non (pd_op op_add sr_I0i (pd_callO (pd_name 3) T.call_Prices (ok_Prices_call T) T.b_Prices_call (hr.mono (by decide)) (pda_cons (pd_name 1) pda_nil)) (pd_ix ix_tup sr_ixT (pd_name 2) pd_int)))))))), fun ds M Q Xd hl h => ?_⟩)
  obtain ⟨n, rows, ws, os, rs, L, h, d, rfl, hk, hM, hc⟩ := h
  refine ⟨_, rfl, _, rfl, rfl, d, rfl, rfl, n, rows, ws, os, rs, L, h, d, rfl, hk, ?_⟩
  rcases hc with ⟨ht, hn, q⟩ | ⟨sp, hd, hs, q⟩
  · exact .inl ⟨ht, hn, q⟩
  refine .inr ⟨sp, hd, hs, ?_⟩
  refine ⟨_, rfl, _, _, _, rfl, T.c_Net.cl, T.nn_prices, rfl, ?_⟩
  unfold callD at q
  unfold treeD
  cases hf : (rwS L).find? (holdsB L h (ndr rs sp)) with
  | none =>
    rw [hf] at q
    exact ⟨_, rfl, rfl, true, rfl, q⟩
  | some g =>
    rw [hf] at q
    refine ⟨_, rfl, rfl, false, rfl, iff0 ?_⟩
    exact ⟨_, rfl, _, rfl, d, rfl, rfl, n, rows, ws, os, d, sp, rfl, hk.pr, hd, hs, hM, _, rfl, [.int (pri L g), tI g], 0, .int (pri L g), rfl, rfl, ⟨by decide, rfl⟩, _, _, rfl, rfl, q⟩
def W_npaid (C PC EC : Addr) : DCX := fun ds M Q Xd => ∃ (n : Nat) (rows : List (List Int)) (ws os rs : List Int) (L : List Lk) (h : Int) (d : D), ds = [dNt C PC rows ws os rs L h, d] ∧ PrOk n rows ws os ∧ okM M ∧ Typed d ∧ spotsB (spP rows) d = false ∧ Xd EC [("value", d)] M
theorem ok_Net_paid (T : Tx P w K mg) : FnOk P w K mg base (L2.CX P w) 9 T.a_Net_paid T.f_Net_paid ["self", "spots"] (spX 2 (W_npaid T.a_Net T.a_Prices T.a_InvalidSpots) K) := by
  refine pd_fnX T.F_Net_paid sc_Net_paid (fun cdv A outer s H E hr => ⟨_, (pdssx_one (pdsx_ret (pdx_meth (takes_of rfl rfl rfl rfl) (pd_fldK (K := K) rfl (pd_name 0)) T.c_Prices.cl T.me_paid (ok_Prices_paid T) (hr.mono (by decide)) T.b_Prices_paid (pda_cons (pd_name 1) pda_nil)))), fun ds M Q Xd hl h => ?_⟩)
  obtain ⟨n, rows, ws, os, rs, L, h, d, rfl, hp, hM, ht, hn, q⟩ := h
  exact ⟨_, rfl, _, _, _, rfl, T.c_Net.cl, T.nn_prices, rfl, _, rfl, rfl, _, rfl, rfl, n, rows, ws, os, d, rfl, hp, hM, ht, hn, q⟩
end
end K58
set_option Elab.async false
set_option linter.all false
set_option maxRecDepth 100000
set_option maxHeartbeats 4000000
namespace K58
open PySem PySem.Spec PyProof.Rows L2 Pd Spc
def lksF : List Lk := [(0, 1, 1), (0, 2, 1), (0, 3, 1), (0, 4, 1), (1, 2, 1), (1, 3, 1), (1, 4, 1), (2, 3, 1), (2, 4, 1), (3, 4, 1)]
def rowsF : List (List Int) := [[1, 2], [3]]
theorem prF_ok : PrOk 2 rowsF [4, 4] [0, 1] := ⟨rfl, rfl, rfl, by decide, by decide, by unfold In01; decide +kernel, by unfold In01; decide +kernel, by unfold In01; decide +kernel⟩
theorem lksF_ok : ∀ l ∈ lksF, LkOk l := by
  have h : lksF.all (fun l => decide (0 ≤ l.1) && (decide (l.1 < l.2.1) && (decide (l.2.1 ≤ 4) && (decide (0 ≤ l.2.2) && decide (l.2.2 ≤ 1000))))) = true := by decide +kernel
  intro l hl
  have := List.all_eq_true.mp h l hl
  simp only [Bool.and_eq_true, decide_eq_true_eq] at this
  exact ⟨this.1, this.2.1, this.2.2.1, this.2.2.2.1, this.2.2.2.2⟩
theorem ntF_ok : NtOk 2 rowsF [4, 4] [0, 1] [4, 3] lksF 2 := ⟨prF_ok, rfl, by decide +kernel, by decide, lksF_ok, by decide +kernel, by decide +kernel, by decide, by decide⟩
theorem spF_in : SpIn rowsF [[0, 0], [1, 0]] := ⟨by decide +kernel⟩
theorem priF {g : List Int} (h : AscBelow lksF.length g) : pri lksF g = g.length := by
  have h2 : ∀ i ∈ g, (nth lksF i).2.2 = 1 := fun i hi => by
    obtain ⟨a, b⟩ := h.2 i hi
    have hb : i < 10 := b
    have : i = 0 ∨ i = 1 ∨ i = 2 ∨ i = 3 ∨ i = 4 ∨ i = 5 ∨ i = 6 ∨ i = 7 ∨ i = 8 ∨ i = 9 := by omega
    rcases this with rfl | rfl | rfl | rfl | rfl | rfl | rfl | rfl | rfl | rfl <;> rfl
  unfold pri
  rw [List.map_congr_left h2]
  clear h h2
  induction g with
  | nil => rfl
  | cons a g ih =>
    rw [List.map_cons, List.sum_cons, ih, List.length_cons]
    omega
theorem few_no : (holdsB lksF 2 [3, 4] [] || [0, 1, 2, 3, 4, 5, 6, 7, 8, 9].any fun i => holdsB lksF 2 [3, 4] [i]) = false := by decide +kernel
theorem two_yes : holdsB lksF 2 [3, 4] [7, 8] = true := by decide +kernel
theorem mem_rwS {L : List Lk} {g : List Int} : g ∈ rwS L ↔ AscBelow L.length g ∧ g.length ≤ 4 := by
  unfold rwS gsL
  rw [List.mem_mergeSort, List.mem_filter, grps_in]
  exact and_congr_right fun _ => ⟨fun h => of_decide_eq_true h, fun h => decide_eq_true h⟩
theorem lastF : ∃ g, (rwS lksF).find? (holdsB lksF 2 [3, 4]) = some g ∧ pri lksF g = 2 := by
  have h78 : [7, 8] ∈ rwS lksF := mem_rwS.mpr ⟨⟨by decide, by decide⟩, by decide⟩
  cases hf : (rwS lksF).find? (holdsB lksF 2 [3, 4]) with
  | none => exact absurd two_yes (List.find?_eq_none.mp hf _ h78)
  | some g =>
    refine ⟨g, rfl, ?_⟩
    have hg := List.find?_some hf
    obtain ⟨ha, h4⟩ := mem_rwS.mp (List.mem_of_find?_eq_some hf)
    have hp := priF ha
    have hlow : 2 ≤ g.length := by
      refine Decidable.byContradiction fun c => ?_
      have hfn := few_no
      match g, c, hg, ha with
      | [], _, hg, _ => rw [hg] at hfn; cases hfn
      | [i], _, hg, ha =>
        obtain ⟨a, b⟩ := ha.2 i List.mem_cons_self
        have hb : i < 10 := b
        have hm : i ∈ ([0, 1, 2, 3, 4, 5, 6, 7, 8, 9] : List Int) := by
          have : i = 0 ∨ i = 1 ∨ i = 2 ∨ i = 3 ∨ i = 4 ∨ i = 5 ∨ i = 6 ∨ i = 7 ∨ i = 8 ∨ i = 9 := by omega
          rcases this with rfl | rfl | rfl | rfl | rfl | rfl | rfl | rfl | rfl | rfl <;> simp
        rw [List.any_eq_true.mpr ⟨i, hm, hg⟩, Bool.or_true] at hfn
        cases hfn
      | _ :: _ :: _, c, _, _ => exact c (by simp)
    have hup : pri lksF g ≤ 2 := by
      obtain ⟨hx, as, bs, e, hno⟩ := List.find?_eq_some_iff_append.mp hf
      have hs := rows_asc lksF
      rw [e] at hs h78
      have h2 := (List.pairwise_append.mp hs).2.1
      rcases List.mem_append.mp h78 with hm | hm
      · have := hno _ hm
        rw [two_yes] at this
        cases this
      rcases List.mem_cons.mp hm with hm | hm
      · rw [← hm]; decide +kernel
      · have := (List.pairwise_cons.mp h2).1 _ hm
        have h78p : pri lksF [7, 8] = 2 := by decide +kernel
        refine Decidable.byContradiction fun c => ?_
        refine absurd this (List.not_le.mpr ?_)
        unfold rk
        rw [List.cons_lt_cons_iff]
        exact .inl (by omega)
    omega
theorem costF : costP rowsF [4, 4] [0, 1] [[0, 0], [1, 0]] = 5 := by decide +kernel
theorem ndrF : ndr [4, 3] [[0, 0], [1, 0]] = [3, 4] := by decide +kernel
theorem seven : callD rowsF [4, 4] [0, 1] lksF 2 (ndr [4, 3] [[0, 0], [1, 0]]) [[0, 0], [1, 0]] = .int 7 := by
  obtain ⟨g, h1, h2⟩ := lastF
  unfold callD
  rw [ndrF, h1, costF]
  show D.int (5 + pri lksF g) = _
  rw [h2]; rfl
end K58
set_option Elab.async false
set_option linter.all false
set_option maxRecDepth 100000
set_option maxHeartbeats 4000000
namespace K58
open PySem PySem.Spec PyProof.Rows L2 Pd Spc
def ty1 (d : D) : Bool := (tyN d).isSome
theorem ty1_of {d : D} (h : ty1 d = true) : ∃ t, tyN d = some t := Option.isSome_iff_exists.mp h
def typed1B (d : D) : Bool := ty1 d && match itemsD d with | some xs => decide (xs.length ≤ 1000) && xs.all ty1 | none => true
def ty2 (x : D) : Bool := ty1 x && match x with | .tup ys => ys.all ty1 | _ => true
def typedB (d : D) : Bool := ty1 d && match itemsD d with | some xs => decide (xs.length ≤ 1000) && xs.all ty2 | none => true
theorem typed1_of {d : D} (h : typed1B d = true) : Typed1 d := by
  unfold typed1B at h
  obtain ⟨h1, h2⟩ := Bool.and_eq_true_iff.mp h
  refine ⟨ty1_of h1, fun xs e => ?_⟩
  rw [e] at h2
  obtain ⟨h3, h4⟩ := Bool.and_eq_true_iff.mp h2
  exact ⟨of_decide_eq_true h3, fun x hx => ty1_of (List.all_eq_true.mp h4 x hx)⟩
theorem typed_of {d : D} (h : typedB d = true) : Typed d := by
  unfold typedB at h
  obtain ⟨h1, h2⟩ := Bool.and_eq_true_iff.mp h
  refine ⟨ty1_of h1, fun xs e => ?_⟩
  rw [e] at h2
  obtain ⟨h3, h4⟩ := Bool.and_eq_true_iff.mp h2
  refine ⟨of_decide_eq_true h3, fun x hx => ?_⟩
  have h5 := List.all_eq_true.mp h4 x hx
  unfold ty2 at h5
  obtain ⟨h6, h7⟩ := Bool.and_eq_true_iff.mp h5
  refine ⟨ty1_of h6, fun ys e y hy => ?_⟩
  subst e
  exact ty1_of (List.all_eq_true.mp h7 y hy)
def oddL : List D := [tI [0, 1], tI [0, 1, 2, 3], tI [1, 0, 2], tI [0, 0, 1], tI [0, 5, 1], tI [0, 1, -1], tI [0, 1, 1001], .tup [.int 0, .bl true, .int 1], .non, .int 5]
def odds : Nat → List D
  | 0 => [.non, .int 5, .tup [.lst [.lst [.int 1]], .lst [.int 1], .lst [.int 1]], .str "prices", .lst [], .bl true]
  | 1 => [.non, .int 5, tI [0], tI [0, 1, 2], tI [0, 5], tI [0, -1], .tup [.bl true, .int 0], .tup [.int 0, .non], .tup [.str "0", .int 1], .dic [.inl 0, .inl 1] [.int 0, .int 1]]
  | 2 => [.non, .int 5, .str "links", .dic [] [], .lst [.lst (dI [0, 1, 2])], .lst [tI [0, 1, 2], tI [0, 1, 3]], .lst (List.replicate 11 [tI [0, 1, 1]]).flatten] ++ oddL.map fun d => .lst [tI [0, 2, 1], d]
  | _ => [.non, .int (-1), .int 5, .bl true, .str "0", tI [0], .lst (dI [0])]
def badB : Nat → D → Bool
  | 0, d => ty1 d
  | 1, d => typed1B d && !racksB 2 d
  | 2, d => typedB d && !linksB d
  | _, d => ty1 d && !btwB 0 4 d
theorem odds_bad : ∀ p, p ≤ 3 → ∀ d ∈ odds p, badB p d = true := fun p hp d hd => by
  have h : ([0, 1, 2, 3].all fun p => (odds p).all (badB p)) = true := by decide +kernel
  have hm : p ∈ [0, 1, 2, 3] := by
    have : p = 0 ∨ p = 1 ∨ p = 2 ∨ p = 3 := by omega
    rcases this with rfl | rfl | rfl | rfl <;> simp
  exact List.all_eq_true.mp (List.all_eq_true.mp h p hm) d hd
def oddS : List D := [.non, .int 5, .str "0", .dic [] [], .lst [tI [0, 0], tI [0, 0]], .lst [tI [0, 1], tI [0, 0]], .lst [tI [0, 2]], .lst [tI [1, 1]], .lst [tI [2, 0]], .lst [.lst (dI [0, 0])]] ++ [.lst [.tup [.bl true, .int 0]]]
theorem oddS_bad : ∀ d ∈ oddS, Typed d ∧ spotsB (spP rowsF) d = false := fun d hd => by
  have h : oddS.all (fun d => typedB d && !spotsB (spP rowsF) d) = true := by decide +kernel
  obtain ⟨h1, h2⟩ := Bool.and_eq_true_iff.mp (List.all_eq_true.mp h d hd)
  exact ⟨typed_of h1, by cases e : spotsB (spP rowsF) d with | false => rfl | true => rw [e] at h2; cases h2⟩
end K58
set_option Elab.async false
set_option linter.all false
set_option maxRecDepth 100000
set_option maxHeartbeats 4000000
namespace K58
open PySem PySem.Spec PyProof.Rows L2 Pd Spc
def smB (d : D) : Bool := plainR d && ((toP d).showable && (decide ((reprD d).length ≤ 1000) && (decide ((toP d).depth ≤ 5) && PyData.strOk (reprD d))))
theorem sm_of {d : D} (h : smB d = true) : Sm 1000 5 d := by
  obtain ⟨h1, h⟩ := Bool.and_eq_true_iff.mp h
  obtain ⟨h2, h⟩ := Bool.and_eq_true_iff.mp h
  obtain ⟨h3, h⟩ := Bool.and_eq_true_iff.mp h
  obtain ⟨h4, h⟩ := Bool.and_eq_true_iff.mp h
  exact ⟨h1, h2, of_decide_eq_true h3, of_decide_eq_true h4, h⟩
theorem odds_sm : ∀ p, p ≤ 3 → ∀ d ∈ odds p, Sm 1000 5 d := fun p hp d hd => by
  have h : ([0, 1, 2, 3].all fun p => (odds p).all smB) = true := by decide +kernel
  have hm : p ∈ [0, 1, 2, 3] := by
    have : p = 0 ∨ p = 1 ∨ p = 2 ∨ p = 3 := by omega
    rcases this with rfl | rfl | rfl | rfl <;> simp
  exact sm_of (List.all_eq_true.mp (List.all_eq_true.mp h p hm) d hd)
theorem oddS_sm : ∀ d ∈ oddS, Sm 1000 5 d := fun d hd => by
  have h : oddS.all smB = true := by decide +kernel
  exact sm_of (List.all_eq_true.mp h d hd)
section
variable {P : Program} {w : World} {K : PySem.W.Frag} {mg : Str → Option Value} {base : Heap}
def W_pick : DC := fun ds M Q => ∃ (d : D) (es : List D), ds = [.mu 1, d] ∧ isSeq d es ∧ SrcAt 1 M ∧ 0 < (es.length : Int) ∧ (es.length : Int) < 1073741824 ∧ ∀ d M', Cu 1 M M' → d ∈ es → Q d M'
theorem ok_law_pick (T : Tx P w K mg) : FnOk P w K mg base CX0 2 T.a_law_pick T.f_law_pick ["_law_source_here", "_law_items"] (spD 2 W_pick K) := by
  refine pd_fn T.F_law_pick sc_law_pick (fun cdv A outer s H E hr => ⟨_, (pdss_one (pds_ret (pd_ix (ix_or2 ix_list ix_tup) (sr_or2 sr_ixL sr_ixT) (pd_name 1) (pd_call (ok_law_draw T) (hr.mono (by decide)) (by rfl) T.g_law_draw T.F_law_draw.kp T.b_law_draw (pda_cons (pd_name 0) (pda_cons (pd_callB call_len_seq sc_len (by rfl) T.n_len (by decide +kernel) (pda_cons (pd_name 1) pda_nil)) pda_nil)))))), fun ds M Q hl h => ?_⟩)
  obtain ⟨d, es, rfl, hd, hs, h1, h2, q⟩ := h
  refine ⟨_, rfl, .mu 1, rfl, _, rfl, es, (by rcases hd with rfl | rfl; exact .inl rfl; exact .inr rfl), rfl, _, rfl, hs, h1, h2, fun r M' hs' r0 r1 => ?_⟩
  have hlt : r.toNat < es.length := by omega
  rcases hd with rfl | rfl
  · exact .inl ⟨es, r, _, rfl, rfl, ⟨r0, List.getElem?_eq_getElem hlt⟩, q _ _ hs' (List.getElem_mem hlt)⟩
  · exact .inr ⟨es, r, _, rfl, rfl, ⟨r0, List.getElem?_eq_getElem hlt⟩, q _ _ hs' (List.getElem_mem hlt)⟩
def W_odd : DC := fun ds M Q => ∃ p : Nat, ds = [.mu 1, .int p] ∧ p ≤ 3 ∧ SrcAt 1 M ∧ ∀ d M', Cu 1 M M' → d ∈ odds p → Q d M'
theorem ok_law_odd (T : Tx P w K mg) : FnOk P w K mg base CX0 3 T.a_law_odd T.f_law_odd ["_law_source_here", "_law_place"] (spD 2 W_odd K) := by
  refine pd_fn T.F_law_odd sc_law_odd (fun cdv A outer s H E hr => ⟨_, (pdss_cons (pds_if (pdt_cmp (op_eqD hr.units) sr_eq (pd_name 1) pd_int (nomark _)) (pdss_one (pds_ret (pd_call (ok_law_pick T) (hr.mono (by decide)) (by rfl) T.g_law_pick T.F_law_pick.kp T.b_law_pick (pda_cons (pd_name 0) (pda_cons (pd_lst (pda_cons pd_non (pda_cons pd_int (pda_cons (pd_tup (pda_cons (pd_lst (pda_cons (pd_lst (pda_cons pd_int pda_nil)) pda_nil)) (pda_cons (pd_lst (pda_cons pd_int pda_nil)) (pda_cons (pd_lst (pda_cons pd_int pda_nil)) pda_nil)))) (pda_cons pd_str (pda_cons (pd_lst pda_nil) (pda_cons pd_bl pda_nil))))))) pda_nil))))) pdss_nil)
      (pdss_cons (pds_if (pdt_cmp (op_eqD hr.units) sr_eq (pd_name 1) pd_int (nomark _)) (pdss_cons (pds_set 2 sc_law_odd.nd (pd_lst (pda_cons pd_non (pda_cons pd_int (pda_cons (pd_tup (pda_cons pd_int pda_nil)) (pda_cons (pd_tup (pda_cons pd_int (pda_cons pd_int (pda_cons pd_int pda_nil)))) (pda_cons (pd_tup (pda_cons pd_int (pda_cons pd_int pda_nil))) (pda_cons (pd_tup (pda_cons pd_int (pda_cons (pd_un un_neg su_U pd_int) pda_nil))) (pda_cons (pd_tup (pda_cons pd_bl (pda_cons pd_int pda_nil))) (pda_cons (pd_tup (pda_cons pd_int (pda_cons pd_non pda_nil))) pda_nil))))))))))
      (pdss_one (pds_ret (pd_call (ok_law_pick T) (hr.mono (by decide)) (by rfl) T.g_law_pick T.F_law_pick.kp T.b_law_pick (pda_cons (pd_name 0) (pda_cons (pd_op op_catL sr_catL (pd_name 2) (pd_lst (pda_cons (pd_tup (pda_cons pd_str (pda_cons pd_int pda_nil))) (pda_cons (pd_dic (pdp_cons pd_int pd_int (pdp_cons pd_int pd_int pdp_nil))) pda_nil)))) pda_nil)))))) pdss_nil)
      (pdss_cons (pds_if (pdt_cmp (op_eqD hr.units) sr_eq (pd_name 1) pd_int (nomark _)) (pdss_cons (pds_set 3 sc_law_odd.nd (pd_lst (pda_cons (pd_tup (pda_cons pd_int (pda_cons pd_int pda_nil))) (pda_cons (pd_tup (pda_cons pd_int (pda_cons pd_int (pda_cons pd_int (pda_cons pd_int pda_nil))))) (pda_cons (pd_tup (pda_cons pd_int (pda_cons pd_int (pda_cons pd_int pda_nil)))) (pda_cons (pd_tup (pda_cons pd_int (pda_cons pd_int (pda_cons pd_int pda_nil)))) (pda_cons (pd_tup (pda_cons pd_int (pda_cons pd_int (pda_cons pd_int pda_nil)))) (pda_cons (pd_tup (pda_cons pd_int (pda_cons pd_int (pda_cons (pd_un un_neg su_U pd_int) pda_nil)))) (pda_cons (pd_tup (pda_cons pd_int (pda_cons pd_int (pda_cons pd_int pda_nil)))) (pda_cons (pd_tup (pda_cons pd_int (pda_cons pd_bl (pda_cons pd_int pda_nil)))) (pda_cons pd_non (pda_cons pd_int pda_nil))))))))))))
      (pdss_cons (pds_set 2 sc_law_odd.nd (pd_lst (pda_cons pd_non (pda_cons pd_int (pda_cons pd_str (pda_cons pd_dic0 (pda_cons (pd_lst (pda_cons (pd_lst (pda_cons pd_int (pda_cons pd_int (pda_cons pd_int pda_nil)))) pda_nil)) (pda_cons (pd_lst (pda_cons (pd_tup (pda_cons pd_int (pda_cons pd_int (pda_cons pd_int pda_nil)))) (pda_cons (pd_tup (pda_cons pd_int (pda_cons pd_int (pda_cons pd_int pda_nil)))) pda_nil))) (pda_cons (pd_repL (pda_cons (pd_tup (pda_cons pd_int (pda_cons pd_int (pda_cons pd_int pda_nil)))) pda_nil) pd_int) pda_nil)))))))))
      (pdss_one (pds_ret (pd_call (ok_law_pick T) (hr.mono (by decide)) (by rfl) T.g_law_pick T.F_law_pick.kp T.b_law_pick (pda_cons (pd_name 0) (pda_cons (pd_op op_catL sr_catL (pd_name 2) (pd_lc [("_law_one", 4)] rfl sc_law_odd.nd (pdi_list (pd_name 3)) (blkOk_by (N := ["_law_source_here", "_law_place", "_law_some", "_law_odd_here", "_law_one"]) (sc := defScope s_law_odd) (by decide +kernel)) (fun _ _ _ _ _ => (pdg_name 4 sc_law_odd.nd)) (fun _ _ _ _ _ => pdts_nil) (fun _ _ _ _ _ => (pd_lst (pda_cons (pd_tup (pda_cons pd_int (pda_cons pd_int (pda_cons pd_int pda_nil)))) (pda_cons (pd_name 4) pda_nil)))))) pda_nil))))))) pdss_nil)
      (pdss_one (pds_ret (pd_call (ok_law_pick T) (hr.mono (by decide)) (by rfl) T.g_law_pick T.F_law_pick.kp T.b_law_pick (pda_cons (pd_name 0) (pda_cons (pd_lst (pda_cons pd_non (pda_cons (pd_un un_neg su_U pd_int) (pda_cons pd_int (pda_cons pd_bl (pda_cons pd_str (pda_cons (pd_tup (pda_cons pd_int pda_nil)) (pda_cons (pd_lst (pda_cons pd_int pda_nil)) pda_nil)))))))) pda_nil)))))))), fun ds M Q hl h => ?_⟩)
  obtain ⟨p, rfl, hp, hs, q⟩ := h
  have hsl : sizeLine = 16777216 := by decide
  have l0 : (0 : Nat) ≤ sizeLine := by decide
  have l1 : (1 : Nat) ≤ sizeLine := by decide
  have l2 : (2 : Nat) ≤ sizeLine := by decide
  have l3 : (3 : Nat) ≤ sizeLine := by decide
  have l4 : (4 : Nat) ≤ sizeLine := by decide
  have l6 : (6 : Nat) ≤ sizeLine := by decide
  have l7 : (7 : Nat) ≤ sizeLine := by decide
  have l8 : (8 : Nat) ≤ sizeLine := by decide
  have l10 : (10 : Nat) ≤ sizeLine := by decide
  have : p = 0 ∨ p = 1 ∨ p = 2 ∨ p = 3 := by omega
  rcases this with rfl | rfl | rfl | rfl
  · refine ⟨.int 0, rfl, rfl, rfl, true, rfl, ?_⟩
    refine ⟨_, rfl, l1, l1, l1, l1, l3, l0, l6, rfl, ?_⟩
    exact ⟨_, _, rfl, .inl rfl, hs, by decide, by decide, q⟩
  · refine ⟨.int 1, rfl, rfl, rfl, false, rfl, .int 1, rfl, rfl, rfl, true, rfl, ?_⟩
    refine ⟨l1, l3, l2, 1, rfl, l2, l2, l2, l8, ?_⟩
    refine ⟨_, rfl, _, rfl, l2, .inl 0, rfl, .inl 1, rfl, by decide, by decide, l2, ?_⟩
    exact ⟨_, _, rfl, rfl, l10, rfl, _, _, rfl, .inl rfl, hs, by decide, by decide, q⟩
  · refine ⟨.int 2, rfl, rfl, rfl, false, rfl, .int 2, rfl, rfl, rfl, false, rfl, .int 2, rfl, rfl, rfl, true, rfl, ?_⟩
    refine ⟨l2, l4, l3, l3, l3, 1, rfl, l3, l3, l3, l10, ?_⟩
    refine ⟨l3, l1, l3, l3, l2, l3, l1, 11, rfl, by decide, by decide, by decide, l7, ?_⟩
    refine ⟨_, rfl, _, rfl, _, rfl, _, rfl, lc_map (fun e => .lst [tI [0, 2, 1], e]) _ _ (fun e he R hR => ⟨l3, _, rfl, l2, hR⟩) (by decide) ?_⟩
    exact ⟨_, _, rfl, rfl, (by decide), rfl, _, _, rfl, .inl rfl, hs, by decide, by decide, q⟩
  · refine ⟨.int 3, rfl, rfl, rfl, false, rfl, .int 3, rfl, rfl, rfl, false, rfl, .int 3, rfl, rfl, rfl, false, rfl, ?_⟩
    refine ⟨_, rfl, 1, rfl, l1, l1, l7, rfl, ?_⟩
    exact ⟨_, _, rfl, .inl rfl, hs, by decide, by decide, q⟩
theorem said_hs (T : Tx P w K mg) : SaidHs K mg (defScope s_law_said) (hdsOf s_law_said) [(T.a_InvalidCost, "cost", "value"), (T.a_InvalidSpots, "spots", "value")] :=
  .cons rfl rfl T.g_InvalidCost T.y_InvalidCost T.z_InvalidCost (.cons rfl rfl T.g_InvalidSpots T.y_InvalidSpots T.z_InvalidSpots .nil)
theorem pickC (T : Tx P w K mg) {d : D} (s : Shows d) : PickC K [(T.a_InvalidCost, "cost", "value"), (T.a_InvalidSpots, "spots", "value")] T.a_InvalidCost [("value", d)] ("cost", reprD d) :=
  ⟨true, T.e_InvalidCost_InvalidCost, fun _ => ⟨rfl, d, rfl, s, rfl⟩, fun z => (by cases z)⟩
theorem pickS (T : Tx P w K mg) {d : D} (s : Shows d) : PickC K [(T.a_InvalidCost, "cost", "value"), (T.a_InvalidSpots, "spots", "value")] T.a_InvalidSpots [("value", d)] ("spots", reprD d) :=
  ⟨false, T.e_InvalidSpots_InvalidCost, fun z => (by cases z), fun _ => ⟨true, T.e_InvalidSpots_InvalidSpots, fun _ => ⟨rfl, d, rfl, s, rfl⟩, fun z => (by cases z)⟩⟩
end
end K58
set_option Elab.async false
set_option linter.all false
set_option maxRecDepth 100000
set_option maxHeartbeats 4000000
namespace K58
open PySem PySem.Spec PyProof.Rows L2 Pd Spc
theorem Src.at {P1 : Addr} {M : Ms} (h : Src P1 M) : SrcAt 1 M := by
  obtain ⟨n, s, rfl, a, b⟩ := h
  exact ⟨n, s, rfl, a, b⟩
theorem Src.cu {P1 : Addr} {M M' : Ms} (h : Src P1 M) (c : Cu 1 M M') : Src P1 M' := by
  obtain ⟨n, s, rfl, a, b⟩ := h
  obtain ⟨n', s', a', b', rfl⟩ := c
  exact ⟨n', s', rfl, a', b'⟩
theorem Src.tab {P1 : Addr} {M : Ms} (h : Src P1 M) : M[0]? = some (.tab P1 lq1) := by
  obtain ⟨n, s, rfl, _⟩ := h
  rfl
def lksG : List Lk := [(0, 1, 5), (1, 4, 0)]
theorem lksG_ok : ∀ l ∈ lksG, LkOk l := by
  intro l hl
  simp only [lksG, List.mem_cons, List.not_mem_nil, or_false] at hl
  rcases hl with rfl | rfl <;> exact ⟨by decide, by decide, by decide, by decide, by decide⟩
theorem ntG {a b c : Int} (a0 : 0 ≤ a) (a5 : a < 5) (b0 : 0 ≤ b) (b5 : b < 5) (c0 : 0 ≤ c) (c5 : c < 5) : NtOk 2 rowsF [4, 4] [0, 1] [a, b] lksG c :=
  ⟨prF_ok, rfl, fun r hr => by
    simp only [List.mem_cons, List.not_mem_nil, or_false] at hr
    rcases hr with rfl | rfl <;> omega, by decide, lksG_ok, by decide +kernel, by decide +kernel, c0, by omega⟩
def prG (PC : Addr) : D := dPr PC rowsF [4, 4] [0, 1]
def goodD (PC : Addr) (a b c : Int) : List D := [prG PC, .lst [.int a, .int b], .lst (lksG.map lkD), .int c]
theorem ap_ntF (PC : Addr) (k : Nat) (rows : List (List Int)) (ws os rs : List Int) (L : List Lk) (h : Int) : apartF k (ntF PC rows ws os rs L h) = true := by
  have ht : ∀ t ∈ treeL L h, ∃ L g, t.2 = trv L g := by
    have key : ∀ (G : List (List Int)) (T : Tr), (∀ t ∈ T, ∃ L g, t.2 = trv L g) → ∀ t ∈ G.foldl (fun T g => inT L h g T) T, ∃ L g, t.2 = trv L g := fun G => by
      induction G with
      | nil => exact fun T hT => hT
      | cons g G ih => exact fun T hT => ih _ (fold_in _ L g _ _ hT)
    exact key (rwS L) [] fun _ z => nomatch z
  show (apartF k (prF rows ws os) && (apartA k (dI rs) && (apartA k (L.map lkD) && (true && (apartA k ((spP rows).map tI) && (apartA k (tds (treeL L h)) && true)))))) = true
  rw [ap_prF, apartA_ints, ap_lks, ap_tups, ap_tree ht]; rfl
theorem wrong_ok {PC : Addr} {a b c : Int} (hg : NtOk 2 rowsF [4, 4] [0, 1] [a, b] lksG c) {w0 : Int} {rest : List Int} {g : List D} (ha : (w0 :: rest).Pairwise (· < ·)) (hb : ∀ x ∈ w0 :: rest, 0 ≤ x ∧ x < 4) (hgl : g.length = 4)
    (hin : ∀ i : Nat, i < 4 → ((i : Int) ∈ w0 :: rest → ∃ d, g[i]? = some d ∧ d ∈ odds i) ∧ ((i : Int) ∉ w0 :: rest → g[i]? = (goodD PC a b c)[i]?)) :
    ∃ g0 g1 g2 g3 x, g = [g0, g1, g2, g3] ∧ g[w0.toNat]? = some x ∧ 0 ≤ w0 ∧ Sm 1000 5 x ∧ WrongN PC g0 g1 g2 g3 x := by
  obtain ⟨g0, g1, g2, g3, rfl⟩ : ∃ g0 g1 g2 g3, g = [g0, g1, g2, g3] := by
    match g, hgl with
    | [g0, g1, g2, g3], _ => exact ⟨g0, g1, g2, g3, rfl⟩
  obtain ⟨w00, w04⟩ := hb w0 List.mem_cons_self
  have hlow : ∀ i : Int, i < w0 → i ∉ w0 :: rest := fun i hi hm => by
    rcases List.mem_cons.mp hm with rfl | hm
    · omega
    · have := (List.pairwise_cons.mp ha).1 i hm
      omega
  have h0 := hin 0 (by decide)
  have h1 := hin 1 (by decide)
  have h2 := hin 2 (by decide)
  have h3 := hin 3 (by decide)
  have odd : ∀ p d, p ≤ 3 → d ∈ odds p → Sm 1000 5 d ∧ badB p d = true := fun p d hp hd => ⟨odds_sm p hp d hd, odds_bad p hp d hd⟩
  have gt0 : 0 < w0 → g0 = prG PC := fun h => by
    have := h0.2 (hlow 0 h)
    injection this
  have gt1 : 1 < w0 → g1 = .lst (dI [a, b]) := fun h => by
    have := h1.2 (hlow 1 h)
    injection this
  have gt2 : 2 < w0 → g2 = .lst (lksG.map lkD) := fun h => by
    have := h2.2 (hlow 2 h)
    injection this
  have : w0 = 0 ∨ w0 = 1 ∨ w0 = 2 ∨ w0 = 3 := by omega
  refine ⟨g0, g1, g2, g3, ?_⟩
  rcases this with rfl | rfl | rfl | rfl
  · obtain ⟨d, e, hd⟩ := h0.1 List.mem_cons_self
    obtain ⟨s, t⟩ := odd 0 d (by decide) hd
    have e : some g0 = some d := e
    cases e
    obtain ⟨t1, ht1⟩ := ty1_of (d := g0) t
    exact ⟨g0, rfl, rfl, by decide, s, .inl ⟨t1, ht1, rfl⟩⟩
  · obtain ⟨d, e, hd⟩ := h1.1 List.mem_cons_self
    obtain ⟨s, t⟩ := odd 1 d (by decide) hd
    have e : some g1 = some d := e
    cases e
    obtain ⟨t1, t2⟩ := Bool.and_eq_true_iff.mp t
    have t2' : racksB 2 g1 = false := by cases z : racksB 2 g1 with | false => rfl | true => rw [z] at t2; cases t2
    exact ⟨g1, rfl, rfl, by decide, s, .inr ⟨2, rowsF, [4, 4], [0, 1], gt0 (by decide), prF_ok, typed1_of t1, .inl ⟨t2', rfl⟩⟩⟩
  · obtain ⟨d, e, hd⟩ := h2.1 List.mem_cons_self
    obtain ⟨s, t⟩ := odd 2 d (by decide) hd
    have e : some g2 = some d := e
    cases e
    obtain ⟨t1, t2⟩ := Bool.and_eq_true_iff.mp t
    have t2' : linksB g2 = false := by cases z : linksB g2 with | false => rfl | true => rw [z] at t2; cases t2
    obtain ⟨k1, k2⟩ := hg.racks (d := g1) (.inl (gt1 (by decide)))
    exact ⟨g2, rfl, rfl, by decide, s, .inr ⟨2, rowsF, [4, 4], [0, 1], gt0 (by decide), prF_ok, k1, .inr ⟨k2, typed_of t1, .inl ⟨t2', rfl⟩⟩⟩⟩
  · obtain ⟨d, e, hd⟩ := h3.1 List.mem_cons_self
    obtain ⟨s, t⟩ := odd 3 d (by decide) hd
    have e : some g3 = some d := e
    cases e
    obtain ⟨t1, t2⟩ := Bool.and_eq_true_iff.mp t
    have t2' : btwB 0 4 g3 = false := by cases z : btwB 0 4 g3 with | false => rfl | true => rw [z] at t2; cases t2
    obtain ⟨k1, k2⟩ := hg.racks (d := g1) (.inl (gt1 (by decide)))
    obtain ⟨k3, k4⟩ := hg.links (d := g2) (.inl (gt2 (by decide)))
    exact ⟨g3, rfl, rfl, by decide, s, .inr ⟨2, rowsF, [4, 4], [0, 1], gt0 (by decide), prF_ok, k1, .inr ⟨k2, k3, .inr ⟨k4, ty1_of t1, t2', rfl⟩⟩⟩⟩
def evL (k : Nat) : List Lk := (List.range k).flatMap fun (i : Nat) => (List.range (4 - i)).map fun (j : Nat) => ((i : Int), (i : Int) + 1 + (j : Int), 1)
theorem evL5 : evL 5 = lksF := by decide +kernel
theorem ne_same {d : D} (h : okD d = true) : D.bl (!eqD d d) = .bl false := by rw [eqD_refl h]; rfl
theorem kMade : okD (.lst [.str "made"]) = true := by decide +kernel
end K58
set_option Elab.async false
set_option linter.all false
set_option maxRecDepth 100000
set_option maxHeartbeats 4000000
namespace K58
open PySem PySem.Spec PyProof.Rows L2 Pd Spc
section
variable {P : Program} {w : World} {K : PySem.W.Frag} {mg : Str → Option Value} {base : Heap}
def W_law (P1 : Addr) : DC := fun ds M Q => ∃ ns : List Int, ds = [.lst (dI ns)] ∧ M = [.tab P1 lq1] ∧ Q (.bl true) [.tab P1 lq1]
theorem ok_law (T : Tx P w K mg) (TB : LamX.TabB base mg T.cl1 T.P1) : FnG P w K mg base 16 T.a_law T.f_law ["_law_script"] (spD 1 (W_law T.P1) K) := by
  refine pd_fnGC T.F_law sc_law T.hcl1 (fun A outer s H E hgu hr => ⟨_, (pdss_cons (pds_set 1 sc_law.nd (pd_make T.m_Prices (ok_Prices_init T) (hr.mono (by decide)) (by rfl) T.g_Prices T.b_Prices_init (pda_cons (pd_lst (pda_cons (pd_lst (pda_cons pd_int (pda_cons pd_int pda_nil))) (pda_cons (pd_lst (pda_cons pd_int pda_nil)) pda_nil))) (pda_cons (pd_lst (pda_cons pd_int (pda_cons pd_int pda_nil))) (pda_cons (pd_lst (pda_cons pd_int (pda_cons pd_int pda_nil))) pda_nil)))))
      (pdss_cons (pds_for PassesOwn.never rfl (pdi_range1 (by rfl) T.n_range (pda_cons (pd_callB (call_max2 rfl) sc_max (by rfl) T.n_max (by decide +kernel) (pda_cons pd_int (pda_cons (pd_callB (call_min2 rfl) sc_min (by rfl) T.n_min (by decide +kernel) (pda_cons (pd_callB call_len_seq sc_len (by rfl) T.n_len (by decide +kernel) (pda_cons (pd_name 0) pda_nil)) (pda_cons pd_int pda_nil))) pda_nil))) pda_nil)) (pdg_name 2 sc_law.nd) (pdss_newN (i := 5) sc_law.nd (ok_law_source T) (hr.mono (by decide)) (by rfl) T.g_law_source T.F_law_source.kp T.b_law_source (pda_cons (pd_name 0) (pda_cons (pd_name 2) pda_nil))
      (pdss_cons (pds_set 6 sc_law.nd (pd_lst (pda_cons (pd_name 1) (pda_cons (pd_lst (pda_cons (pd_call (ok_law_draw T) (hr.mono (by decide)) (by rfl) T.g_law_draw T.F_law_draw.kp T.b_law_draw (pda_cons (pd_name 5) (pda_cons pd_int pda_nil))) (pda_cons (pd_call (ok_law_draw T) (hr.mono (by decide)) (by rfl) T.g_law_draw T.F_law_draw.kp T.b_law_draw (pda_cons (pd_name 5) (pda_cons pd_int pda_nil))) pda_nil))) (pda_cons (pd_lst (pda_cons (pd_tup (pda_cons pd_int (pda_cons pd_int (pda_cons pd_int pda_nil)))) (pda_cons (pd_tup (pda_cons pd_int (pda_cons pd_int (pda_cons pd_int pda_nil)))) pda_nil))) (pda_cons (pd_call (ok_law_draw T) (hr.mono (by decide)) (by rfl) T.g_law_draw T.F_law_draw.kp T.b_law_draw (pda_cons (pd_name 5) (pda_cons pd_int pda_nil))) pda_nil))))))
      (pdss_cons (pds_if (pdt_cmp (op_neD hr.units) sr_ne (pd_said (k := 12) hgu T.F_law_said sc_law_said T.b_law_said rfl (said_hs T) (by rfl) T.g_law_said T.n_repr TB rfl (hr.mono (by decide)) (lamS_by (sc := defScope s_law) (by decide +kernel)) rfl (fun _ _ _ _ _ => rfl) (hbody := fun A outer s H E f c hr => (pdx_make (takes_of rfl rfl rfl rfl) T.m_Net (ok_Net_init T) (hr.mono (by decide)) (by rfl) T.g_Net T.b_Net_init (pda_cons (pd_ix ix_list sr_ixL (pd_name 6) pd_int) (pda_cons (pd_ix ix_list sr_ixL (pd_name 6) pd_int) (pda_cons (pd_ix ix_list sr_ixL (pd_name 6) pd_int) (pda_cons (pd_ix ix_list sr_ixL (pd_name 6) pd_int) pda_nil))))))) (pd_lst (pda_cons pd_str pda_nil)) (nomark _)) (pdss_one (pds_ret pd_bl)) pdss_nil)
      (pdss_cons (pds_for PassesOwn.never rfl (pdi_range1 (by rfl) T.n_range (pda_cons pd_int pda_nil)) (pdg_name 7 sc_law.nd) (pdss_cons (pds_set 11 sc_law.nd (pd_sortSet rfl (by rfl) T.n_sorted (by rfl) T.n_set (pd_lc [("_law_part", 16)] rfl sc_law.nd (pdi_range1 (by rfl) T.n_range (pda_cons pd_int pda_nil)) (blkOk_by (N := ["_law_script", "_law_prices", "_law_turn", "_law_every", "_law_one", "_law_source_here", "_law_good", "_law_attempt", "_law_net", "_law_some", "_law_odd_here", "_law_wrong", "_law_given", "_law_due", "_law_at", "_law_other", "_law_part"]) (sc := defScope s_law) (by decide +kernel)) (fun _ _ _ _ _ => (pdg_name 16 sc_law.nd)) (fun _ _ _ _ _ => pdts_nil) (fun _ _ _ _ _ => (pd_call (ok_law_draw T) (hr.mono (by decide)) (by rfl) T.g_law_draw T.F_law_draw.kp T.b_law_draw (pda_cons (pd_name 5) (pda_cons pd_int pda_nil)))))))
      (pdss_cons (pds_set 12 sc_law.nd (pd_lc [("_law_at", 14)] rfl sc_law.nd (pdi_range1 (by rfl) T.n_range (pda_cons pd_int pda_nil)) (blkOk_by (N := ["_law_script", "_law_prices", "_law_turn", "_law_every", "_law_one", "_law_source_here", "_law_good", "_law_attempt", "_law_net", "_law_some", "_law_odd_here", "_law_wrong", "_law_given", "_law_due", "_law_at", "_law_other", "_law_part"]) (sc := defScope s_law) (by decide +kernel)) (fun _ _ _ _ _ => (pdg_name 14 sc_law.nd)) (fun _ _ _ _ _ => pdts_nil) (fun _ _ _ _ _ => (pd_ifExp (pdt_cmp (op_inS' hr.units) sr_inS (pd_name 14) (pd_name 11) (by rfl)) (pd_call (ok_law_odd T) (hr.mono (by decide)) (by rfl) T.g_law_odd T.F_law_odd.kp T.b_law_odd (pda_cons (pd_name 5) (pda_cons (pd_name 14) pda_nil))) (pd_ix ix_list sr_ixL (pd_name 6) (pd_name 14))))))
      (pdss_cons (pds_set 13 sc_law.nd (pd_lst (pda_cons pd_str (pda_cons (pd_callB (call_repr hgu hr.units) sc_repr (by rfl) T.n_repr (by decide +kernel) (pda_cons (pd_ix ix_list sr_ixL (pd_name 12) (pd_ix ix_list sr_ixL (pd_name 11) pd_int)) pda_nil)) pda_nil))))
      (pdss_one (pds_if (pdt_cmp (op_neD hr.units) sr_ne (pd_said (k := 12) hgu T.F_law_said sc_law_said T.b_law_said rfl (said_hs T) (by rfl) T.g_law_said T.n_repr TB rfl (hr.mono (by decide)) (lamS_by (sc := defScope s_law) (by decide +kernel)) rfl (fun _ _ _ _ _ => rfl) (hbody := fun A outer s H E f c hr => (pdx_make (takes_of rfl rfl rfl rfl) T.m_Net (ok_Net_init T) (hr.mono (by decide)) (by rfl) T.g_Net T.b_Net_init (pda_cons (pd_ix ix_list sr_ixL (pd_name 12) pd_int) (pda_cons (pd_ix ix_list sr_ixL (pd_name 12) pd_int) (pda_cons (pd_ix ix_list sr_ixL (pd_name 12) pd_int) (pda_cons (pd_ix ix_list sr_ixL (pd_name 12) pd_int) pda_nil))))))) (pd_name 13) (nomark _)) (pdss_one (pds_ret pd_bl)) pdss_nil))))))
      (pdss_cons (pds_set 8 sc_law.nd (pd_makeN T.m_Net (ok_Net_init T) (hr.mono (by decide)) (by rfl) T.g_Net T.b_Net_init (pda_cons (pd_ix ix_list sr_ixL (pd_name 6) pd_int) (pda_cons (pd_ix ix_list sr_ixL (pd_name 6) pd_int) (pda_cons (pd_ix ix_list sr_ixL (pd_name 6) pd_int) (pda_cons (pd_ix ix_list sr_ixL (pd_name 6) pd_int) pda_nil))))))
      (pdss_cons (pds_set 9 sc_law.nd (pd_lst (pda_cons pd_non (pda_cons pd_int (pda_cons pd_str (pda_cons pd_dic0 (pda_cons (pd_lst (pda_cons (pd_tup (pda_cons pd_int (pda_cons pd_int pda_nil))) (pda_cons (pd_tup (pda_cons pd_int (pda_cons pd_int pda_nil))) pda_nil))) (pda_cons (pd_lst (pda_cons (pd_tup (pda_cons pd_int (pda_cons pd_int pda_nil))) (pda_cons (pd_tup (pda_cons pd_int (pda_cons pd_int pda_nil))) pda_nil))) (pda_cons (pd_lst (pda_cons (pd_tup (pda_cons pd_int (pda_cons pd_int pda_nil))) pda_nil)) (pda_cons (pd_lst (pda_cons (pd_tup (pda_cons pd_int (pda_cons pd_int pda_nil))) pda_nil)) (pda_cons (pd_lst (pda_cons (pd_tup (pda_cons pd_int (pda_cons pd_int pda_nil))) pda_nil)) (pda_cons (pd_lst (pda_cons (pd_lst (pda_cons pd_int (pda_cons pd_int pda_nil))) pda_nil)) pda_nil))))))))))))
      (pdss_one (pds_for PassesOwn.never rfl (pdi_list (pd_op op_catL sr_catL (pd_name 9) (pd_lst (pda_cons (pd_lst (pda_cons (pd_tup (pda_cons pd_bl (pda_cons pd_int pda_nil))) pda_nil)) pda_nil)))) (pdg_name 10 sc_law.nd) (pdss_cons (pds_set 13 sc_law.nd (pd_lst (pda_cons pd_str (pda_cons (pd_callB (call_repr hgu hr.units) sc_repr (by rfl) T.n_repr (by decide +kernel) (pda_cons (pd_name 10) pda_nil)) pda_nil))))
      (pdss_cons (pds_if (pdt_cmp (op_neD hr.units) sr_ne (pd_said (k := 12) hgu T.F_law_said sc_law_said T.b_law_said rfl (said_hs T) (by rfl) T.g_law_said T.n_repr TB rfl (hr.mono (by decide)) (lamS_by (sc := defScope s_law) (by decide +kernel)) rfl (fun _ _ _ _ _ => rfl) (hbody := fun A outer s H E f c hr => (pdx_callO (takes_of rfl rfl rfl rfl) (pd_name 8) T.call_Net (ok_Net_call T) T.b_Net_call (hr.mono (by decide)) (pda_cons (pd_name 10) pda_nil)))) (pd_name 13) (nomark _)) (pdss_one (pds_ret pd_bl)) pdss_nil)
      (pdss_cons (pds_if (pdt_cmp (op_neD hr.units) sr_ne (pd_said (k := 12) hgu T.F_law_said sc_law_said T.b_law_said rfl (said_hs T) (by rfl) T.g_law_said T.n_repr TB rfl (hr.mono (by decide)) (lamS_by (sc := defScope s_law) (by decide +kernel)) rfl (fun _ _ _ _ _ => rfl) (hbody := fun A outer s H E f c hr => (pdx_meth (takes_of rfl rfl rfl rfl) (pd_name 8) T.c_Net.cl T.me_npaid (ok_Net_paid T) (hr.mono (by decide)) T.b_Net_paid (pda_cons (pd_name 10) pda_nil)))) (pd_name 13) (nomark _)) (pdss_one (pds_ret pd_bl)) pdss_nil)
      (pdss_one (pds_if (pdt_cmp (op_neD hr.units) sr_ne (pd_said (k := 12) hgu T.F_law_said sc_law_said T.b_law_said rfl (said_hs T) (by rfl) T.g_law_said T.n_repr TB rfl (hr.mono (by decide)) (lamS_by (sc := defScope s_law) (by decide +kernel)) rfl (fun _ _ _ _ _ => rfl) (hbody := fun A outer s H E f c hr => (pdx_meth (takes_of rfl rfl rfl rfl) (pd_name 8) T.c_Net.cl T.me_tree (ok_Net_tree T) (hr.mono (by decide)) T.b_Net_tree (pda_cons (pd_name 10) pda_nil)))) (pd_name 13) (nomark _)) (pdss_one (pds_ret pd_bl)) pdss_nil))))))))))))))
      (pdss_cons (pds_set 3 sc_law.nd (pd_lst pda_nil))
      (pdss_cons (pds_for PassesOwn.never rfl (pdi_range1 (by rfl) T.n_range (pda_cons pd_int pda_nil)) (pdg_name 4 sc_law.nd) (pdss_one (pds_set 3 sc_law.nd (pd_op op_catL sr_catL (pd_name 3) (pd_lc [("_law_other", 15)] rfl sc_law.nd (pdi_range2 (by rfl) T.n_range (pda_cons (pd_op op_add sr_I0i (pd_name 4) pd_int) (pda_cons pd_int pda_nil))) (blkOk_by (N := ["_law_script", "_law_prices", "_law_turn", "_law_every", "_law_one", "_law_source_here", "_law_good", "_law_attempt", "_law_net", "_law_some", "_law_odd_here", "_law_wrong", "_law_given", "_law_due", "_law_at", "_law_other", "_law_part"]) (sc := defScope s_law) (by decide +kernel)) (fun _ _ _ _ _ => (pdg_name 15 sc_law.nd)) (fun _ _ _ _ _ => pdts_nil) (fun _ _ _ _ _ => (pd_tup (pda_cons (pd_name 4) (pda_cons (pd_name 15) (pda_cons pd_int pda_nil))))))))))
      (pdss_one (pds_ret (pd_cmp (op_eqD hr.units) sr_eq (pd_callON (pd_makeN T.m_Net (ok_Net_init T) (hr.mono (by decide)) (by rfl) T.g_Net T.b_Net_init (pda_cons (pd_name 1) (pda_cons (pd_tup (pda_cons pd_int (pda_cons pd_int pda_nil))) (pda_cons (pd_name 3) (pda_cons pd_int pda_nil))))) T.call_Net (ok_Net_call T) T.b_Net_call (hr.mono (by decide)) (pda_cons (pd_tup (pda_cons (pd_tup (pda_cons pd_int (pda_cons pd_int pda_nil))) (pda_cons (pd_tup (pda_cons pd_int (pda_cons pd_int pda_nil))) pda_nil))) pda_nil)) pd_int (nomark _)))))))), fun ds M Q hl h => ?_⟩)
  obtain ⟨ns, rfl, rfl, q⟩ := h
  have hsl : sizeLine = 16777216 := by decide
  have l0 : (0 : Nat) ≤ sizeLine := by decide
  have l1 : (1 : Nat) ≤ sizeLine := by decide
  have l2 : (2 : Nat) ≤ sizeLine := by decide
  have l3 : (3 : Nat) ≤ sizeLine := by decide
  have l4 : (4 : Nat) ≤ sizeLine := by decide
  have l10 : (10 : Nat) ≤ sizeLine := by decide
  have l11 : (11 : Nat) ≤ sizeLine := by decide
  have ok0 : okM [MO.tab T.P1 lq1] := rfl
  have apP : ∀ k, apart k (prG T.a_Prices) = true := fun k => ap_prF k _ _ _
  refine ⟨l2, l1, l2, l2, l2, rfl, _, 2, _, _, _, _, rowsF, [4, 4], [0, 1], rfl, .inl rfl, rfl, .inl rfl, .inl rfl, prF_ok, get_last _ _, [.tab T.P1 lq1], _, rfl, set_last _ _ _, rfl, ap_prF _ _ _ _, ok0, ?_⟩
  have hr1 : ∀ n : Nat, -(2 ^ 62) ≤ (if (if (6 : Int) < (n : Int) then (6 : Int) else (n : Int)) > 1 then (if (6 : Int) < (n : Int) then (6 : Int) else (n : Int)) else 1) ∧ (if (if (6 : Int) < (n : Int) then (6 : Int) else (n : Int)) > 1 then (if (6 : Int) < (n : Int) then (6 : Int) else (n : Int)) else 1) < 2 ^ 62 := fun n => by
    constructor <;> (repeat' split) <;> omega
  refine ⟨_, rfl, dI ns, .inl rfl, _, _, rfl, _, _, rfl, _, rfl, (hr1 _).1, (hr1 _).2, ?_⟩
  refine for_ind (fun i ρ M => M = [.tab T.P1 lq1] ∧ ∃ x2 x3 x4 x5 x6 x7 x8 x9 x10 x11 x12 x13 x14 x15 x16, ρ = [some (.lst (dI ns)), some (prG T.a_Prices), x2, x3, x4, x5, x6, x7, x8, x9, x10, x11, x12, x13, x14, x15, x16]) _ ?_ ?_ ⟨rfl, none, none, none, none, none, none, none, none, none, none, none, none, none, none, none, rfl⟩
  · rintro i d ρ M N hd ⟨rfl, x2, x3, x4, x5, x6, x7, x8, x9, x10, x11, x12, x13, x14, x15, x16, rfl⟩ hN
    obtain ⟨kk, _, rfl⟩ := List.mem_map.mp (List.mem_of_getElem? hd)
    refine ⟨_, rfl, .int _, rfl, rfl, ns, _, rfl, by omega, fun n0 s0 h0 h1 => ⟨rfl, ?_⟩⟩
    have hs0 : Src T.P1 ([.tab T.P1 lq1] ++ [.lst [.int n0, .int s0]]) := ⟨n0, s0, rfl, h0, h1⟩
    generalize ([.tab T.P1 lq1] ++ [.lst [.int n0, .int s0]] : Ms) = M0 at hs0
    refine ⟨_, rfl, .mu 1, rfl, rfl, 5, rfl, hs0.at, by decide, by decide, fun a M1 hc1 a0 a5 => ?_⟩
    have hs1 := hs0.cu hc1
    refine ⟨.mu 1, rfl, rfl, 5, rfl, hs1.at, by decide, by decide, fun b M2 hc2 b0 b5 => ⟨l2, l3, l3, l2, ?_⟩⟩
    have hs2 := hs1.cu hc2
    refine ⟨.mu 1, rfl, rfl, 5, rfl, hs2.at, by decide, by decide, fun c M3 hc3 c0 c5 => ⟨l4, ?_⟩⟩
    have hs3 := hs2.cu hc3
    have hM3 := hs3.ok
    clear hs0 hs1 hs2 hc1 hc2 hc3
    have hnt := ntG a0 a5 b0 b5 c0 c5
    refine ⟨⟨0, hs3.tab⟩, _, rfl, goodD T.a_Prices a b c, 0, _, rfl, rfl, ⟨by decide, rfl⟩, _, rfl, goodD T.a_Prices a b c, 1, _, rfl, rfl, ⟨by decide, rfl⟩, _, rfl, goodD T.a_Prices a b c, 2, _, rfl, rfl, ⟨by decide, rfl⟩, _, rfl, goodD T.a_Prices a b c, 3, _, rfl, rfl, ⟨by decide, rfl⟩, rfl, ?_⟩
    refine ⟨_, _, _, _, _, rfl, get_last _ _, okM_apI hM3, .inr ⟨2, rowsF, [4, 4], [0, 1], [a, b], lksG, c, rfl, .inl rfl, rfl, rfl, hnt, ?_⟩⟩
    refine ⟨M3, _, rfl, set_last _ _ _, rfl, ap_ntF _ _ _ _ _ _ _ _, hM3, ?_⟩
    refine ⟨l1, kMade, kMade, false, ne_same kMade, iff0 ?_⟩
    refine ⟨_, rfl, by decide, by decide, ?_⟩
    refine for_ind (fun i ρ M => Src T.P1 M ∧ ∃ x3 x4 x7 x8 x9 x10 x11 x12 x13 x14 x15 x16, ρ = [some (.lst (dI ns)), some (prG T.a_Prices), some (.int (0 + (kk : Int))), x3, x4, some (.mu 1), some (.lst (goodD T.a_Prices a b c)), x7, x8, x9, x10, x11, x12, x13, x14, x15, x16]) _ ?_ ?_ ⟨hs3, _, _, _, _, _, _, _, _, _, _, _, _, rfl⟩
    · rintro i d ρ M N2 hd ⟨hs, x3, x4, x7, x8, x9, x10, x11, x12, x13, x14, x15, x16, rfl⟩ hN2
      refine ⟨2, rfl, by decide, by decide, ?_⟩
      refine lc_ind (fun acc M' => Src T.P1 M' ∧ ∃ fs : List Int, acc = dI fs ∧ ∀ x ∈ fs, 0 ≤ x ∧ x < 4) 2 l2 (fun d acc M' R hI hlt hR => ?_) (fun acc M' hI hlen => ?_) _ _ _ ⟨hs, [], rfl, fun _ z => nomatch z⟩ (by rw [rng_len]; rfl)
      · obtain ⟨hs', fs, rfl, hf⟩ := hI
        refine ⟨.mu 1, rfl, rfl, 4, rfl, hs'.at, by decide, by decide, fun r M2 hc r0 r4 => hR _ _ ⟨hs'.cu hc, fs ++ [r], by simp, fun x hx => ?_⟩⟩
        rcases List.mem_append.mp hx with hx | hx
        · exact hf x hx
        · rw [List.mem_singleton.mp hx]; exact ⟨r0, r4⟩
      obtain ⟨hs', fs, rfl, hf⟩ := hI
      rw [List.length_map] at hlen
      refine ⟨fs, rfl, by omega, fun ms hms hmm => ?_⟩
      obtain ⟨w0, rest, rfl⟩ : ∃ w0 rest, ms = w0 :: rest := by
        cases ms with
        | cons w0 rest => exact ⟨w0, rest, rfl⟩
        | nil =>
          match fs, hlen with
          | x :: r, _ => exact absurd ((hmm x).mpr List.mem_cons_self) (by simp)
      have hb4 : ∀ x ∈ w0 :: rest, 0 ≤ x ∧ x < 4 := fun x hx => hf x ((hmm x).mp hx)
      refine ⟨4, rfl, by decide, by decide, ?_⟩
      refine lc_indT (fun k acc M2 => Src T.P1 M2 ∧ acc.length = k ∧ ∀ i : Nat, i < k → ((i : Int) ∈ w0 :: rest → ∃ d, acc[i]? = some d ∧ d ∈ odds i) ∧ ((i : Int) ∉ w0 :: rest → acc[i]? = (goodD T.a_Prices a b c)[i]?)) _ (by rw [rng_len]; exact l4) (fun k acc M2 h => by rw [h.2.1]; exact Nat.le_refl _) (fun k d acc M2 R S hd hI hR hS => ?_) (fun acc M2 hI => ?_) ⟨hs', rfl, fun i hi => absurd hi (Nat.not_lt_zero _)⟩
      · obtain ⟨hs2, hal, hacc⟩ := hI
        obtain ⟨hk, rfl⟩ := rng_at hd
        have hk : k < 4 := hk
        rw [show (0 : Int) + ((k : Nat) : Int) = (k : Int) by omega]
        refine ⟨_, rfl, _, rfl, _, .inl rfl, rfl, okD_lst _, (by show 0 ≤ 60; decide), (w0 :: rest).contains (k : Int), by rw [any_int], ?_⟩
        have ext : ∀ (y : D) (M4 : Ms), Src T.P1 M4 → ((k : Int) ∈ w0 :: rest → y ∈ odds k) → ((k : Int) ∉ w0 :: rest → some y = (goodD T.a_Prices a b c)[k]?) → R y M4 := fun y M4 hs4 h1 h2 => hR _ _ ⟨hs4, by rw [List.length_append, hal]; rfl, fun i hi => by
          by_cases e : i < k
          · rw [List.getElem?_append_left (by omega)]
            exact hacc i e
          · obtain rfl : i = k := by omega
            rw [List.getElem?_append_right (by omega), hal, Nat.sub_self]
            exact ⟨fun z => ⟨y, rfl, h1 z⟩, fun z => h2 z⟩⟩
        cases hc : (w0 :: rest).contains (k : Int) with
        | true =>
          have hm := List.contains_iff_mem.mp hc
          refine iff1 ⟨.mu 1, rfl, _, rfl, rfl, k, rfl, by omega, hs2.at, fun y M4 hcu hy => ext y M4 (hs2.cu hcu) (fun _ => hy) fun z => absurd hm z⟩
        | false =>
          have hm : (k : Int) ∉ w0 :: rest := fun z => by rw [List.contains_iff_mem.mpr z] at hc; cases hc
          obtain ⟨y, hy⟩ : ∃ y, (goodD T.a_Prices a b c)[k]? = some y := ⟨_, List.getElem?_eq_getElem (by show k < 4; exact hk)⟩
          exact iff0 ⟨_, rfl, _, rfl, goodD T.a_Prices a b c, (k : Int), y, rfl, rfl, ⟨by omega, by rw [Int.toNat_natCast]; exact hy⟩, ext y M2 hs2 (fun z => absurd z hm) fun _ => hy.symm⟩
      rw [rng_len] at hI
      obtain ⟨hs2, hal, hacc⟩ := hI
      obtain ⟨g0, g1, g2, g3, x, rfl, hgx, hw0, sm, hwr⟩ := wrong_ok hnt hms hb4 hal hacc
      have sh : Shows x := sm.shows (by omega) (by decide)
      have k2 := okD_two (a := "cost") (by decide +kernel) sm.ok
      have hM2 := hs2.ok
      refine ⟨_, rfl, _, rfl, dI (w0 :: rest), 0, .int w0, rfl, rfl, ⟨by decide, rfl⟩, [g0, g1, g2, g3], w0, x, rfl, rfl, ⟨hw0, hgx⟩, x, rfl, sh, l2, ?_⟩
      refine ⟨⟨0, hs2.tab⟩, _, rfl, [g0, g1, g2, g3], 0, g0, rfl, rfl, ⟨by decide, rfl⟩, _, rfl, [g0, g1, g2, g3], 1, g1, rfl, rfl, ⟨by decide, rfl⟩, _, rfl, [g0, g1, g2, g3], 2, g2, rfl, rfl, ⟨by decide, rfl⟩, _, rfl, [g0, g1, g2, g3], 3, g3, rfl, rfl, ⟨by decide, rfl⟩, rfl, ?_⟩
      refine ⟨_, _, _, _, _, rfl, get_last _ _, okM_apI hM2, .inl ⟨x, hwr, _, _, rfl, rfl, (by show (apart _ x && true) = true; rw [plain_apart _ x sm.pl]; rfl), hM2, _, pickC T sh, ?_⟩⟩
      exact ⟨_, rfl, k2, k2, false, ne_same k2, iff0 (hN2 _ _ ⟨hs2, _, _, _, _, _, _, _, _, _, _, _, _, rfl⟩)⟩
    rintro ρ M ⟨hs, x3, x4, x7, x8, x9, x10, x11, x12, x13, x14, x15, x16, rfl⟩
    have hM := hs.ok
    refine ⟨_, rfl, goodD T.a_Prices a b c, 0, _, rfl, rfl, ⟨by decide, rfl⟩, _, rfl, goodD T.a_Prices a b c, 1, _, rfl, rfl, ⟨by decide, rfl⟩, _, rfl, goodD T.a_Prices a b c, 2, _, rfl, rfl, ⟨by decide, rfl⟩, _, rfl, goodD T.a_Prices a b c, 3, _, rfl, rfl, ⟨by decide, rfl⟩, rfl, ?_⟩
    refine ⟨_, _, _, _, _, rfl, get_last _ _, okM_apI hM, .inr ⟨2, rowsF, [4, 4], [0, 1], [a, b], lksG, c, rfl, .inl rfl, rfl, rfl, hnt, ?_⟩⟩
    refine ⟨M, _, rfl, set_last _ _ _, rfl, ap_ntF _ _ _ _ _ _ _ _, hM, ?_⟩
    refine ⟨l2, l2, l2, l2, l2, l2, l2, l1, l2, l1, l2, l1, l2, l1, l10, ?_⟩
    refine ⟨_, rfl, l2, l1, l1, _, _, rfl, rfl, l11, _, rfl, ?_⟩
    refine for_ind (fun i ρ M' => M' = M ∧ ∃ x10 x13, ρ = [some (.lst (dI ns)), some (prG T.a_Prices), some (.int (0 + (kk : Int))), x3, x4, some (.mu 1), some (.lst (goodD T.a_Prices a b c)), x7, some (dNt T.a_Net T.a_Prices rowsF [4, 4] [0, 1] [a, b] lksG c), some (.lst (oddS.take 10)), x10, x11, x12, x13, x14, x15, x16]) _ ?_ ?_ ⟨rfl, _, _, rfl⟩
    · rintro i d ρ M' N2 hd ⟨rfl, x10, x13, rfl⟩ hN2
      have hm : d ∈ oddS := List.mem_of_getElem? hd
      obtain ⟨ht, hno⟩ := oddS_bad d hm
      have sm := oddS_sm d hm
      have sh : Shows d := sm.shows (by omega) (by decide)
      have k2 := okD_two (a := "spots") (by decide +kernel) sm.ok
      refine ⟨d, rfl, d, rfl, sh, l2, ?_⟩
      refine ⟨⟨0, hs.tab⟩, _, rfl, _, rfl, d, rfl, rfl, 2, rowsF, [4, 4], [0, 1], [a, b], lksG, c, d, rfl, hnt, hM, .inl ⟨ht, hno, _, pickS T sh, ?_⟩⟩
      refine ⟨_, rfl, k2, k2, false, ne_same k2, iff0 ?_⟩
      refine ⟨⟨0, hs.tab⟩, _, rfl, _, rfl, rfl, d, rfl, rfl, 2, rowsF, [4, 4], [0, 1], [a, b], lksG, c, d, rfl, prF_ok, hM, ht, hno, _, pickS T sh, ?_⟩
      refine ⟨_, rfl, k2, k2, false, ne_same k2, iff0 ?_⟩
      refine ⟨⟨0, hs.tab⟩, _, rfl, _, rfl, rfl, d, rfl, rfl, 2, rowsF, [4, 4], [0, 1], [a, b], lksG, c, d, rfl, hnt, .inl ⟨ht, hno, _, pickS T sh, ?_⟩⟩
      exact ⟨_, rfl, k2, k2, false, ne_same k2, iff0 (hN2 _ _ ⟨rfl, _, _, rfl⟩)⟩
    rintro ρ M' ⟨rfl, x10, x13, rfl⟩
    obtain ⟨n5, s5, rfl, _, _⟩ := hs
    refine ⟨[.tab T.P1 lq1], _, rfl, rfl, rfl, hN _ _ ⟨rfl, ?_⟩⟩
    have ec : ∀ r : Rho, clean 1 (some (.lst (dI ns)) :: some (prG T.a_Prices) :: r) = some (.lst (dI ns)) :: some (prG T.a_Prices) :: clean 1 r := fun r => by
      rw [clean_cons 1 (.lst (dI ns)) _ (apartA_ints 1 ns), clean_cons 1 (prG T.a_Prices) _ (apP 1)]
    exact ⟨_, _, _, _, _, _, _, _, _, _, _, _, _, _, _, ec _⟩
  · rintro ρ M ⟨rfl, x2, x3, x4, x5, x6, x7, x8, x9, x10, x11, x12, x13, x14, x15, x16, rfl⟩
    refine ⟨l0, ?_⟩
    refine ⟨_, rfl, by decide, by decide, ?_⟩
    refine for_ind (fun i ρ M => M = [.tab T.P1 lq1] ∧ ∃ x2 x4 x5 x6 x7 x8 x9 x10 x11 x12 x13 x14 x15 x16, ρ = [some (.lst (dI ns)), some (prG T.a_Prices), x2, some (.lst ((evL i).map lkD)), x4, x5, x6, x7, x8, x9, x10, x11, x12, x13, x14, x15, x16]) _ ?_ ?_ ⟨rfl, _, _, _, _, _, _, _, _, _, _, _, _, _, _, rfl⟩
    · rintro i d ρ M N2 hd ⟨rfl, x2, x4, x5, x6, x7, x8, x9, x10, x11, x12, x13, x14, x15, x16, rfl⟩ hN2
      obtain ⟨hi, rfl⟩ := rng_at hd
      have hi : i < 5 := hi
      refine ⟨_, rfl, _, rfl, ?_⟩
      refine ⟨_, _, rfl, rfl, ?_⟩
      have hrl : (rng (0 + (i : Int) + 1) (5 - (0 + (i : Int) + 1)).toNat).length = 4 - i := by rw [rng_len]; omega
      refine ⟨_, _, rfl, ⟨by omega, by omega, by omega, by omega⟩, lc_map (fun e => .tup [.int (0 + (i : Int)), e, .int 1]) _ _ (fun e he R hR => ⟨_, rfl, e, rfl, l3, hR⟩) (by rw [hrl]; show 0 + (4 - i) ≤ sizeLine; omega) ?_⟩
      have ev : (evL i).map lkD ++ ([] ++ (rng (0 + (i : Int) + 1) (5 - (0 + (i : Int) + 1)).toNat).map fun e => D.tup [.int (0 + (i : Int)), e, .int 1]) = (evL (i + 1)).map lkD := by
        unfold evL
        rw [List.range_succ, List.flatMap_append, List.map_append, List.nil_append]
        congr 1
        rw [List.flatMap_cons, List.flatMap_nil, List.append_nil, List.map_map]
        unfold rng
        rw [List.map_map, show (5 - (0 + (i : Int) + 1)).toNat = 4 - i by omega]
        refine List.map_congr_left fun j _ => ?_
        show D.tup [.int (0 + (i : Int)), .int (0 + (i : Int) + 1 + (j : Int)), .int 1] = .tup [.int (i : Int), .int ((i : Int) + 1 + (j : Int)), .int 1]
        rw [Int.zero_add]
      have hel : ((evL i).map lkD ++ ([] ++ (rng (0 + (i : Int) + 1) (5 - (0 + (i : Int) + 1)).toNat).map fun e => D.tup [.int (0 + (i : Int)), e, .int 1])).length ≤ sizeLine := by
        rw [ev, List.length_map]
        have : i = 0 ∨ i = 1 ∨ i = 2 ∨ i = 3 ∨ i = 4 := by omega
        rcases this with rfl | rfl | rfl | rfl | rfl <;> decide
      refine ⟨_, _, rfl, rfl, by rw [← List.length_append]; exact hel, ?_⟩
      rw [ev]
      exact hN2 _ _ ⟨rfl, _, _, _, _, _, _, _, _, _, _, _, _, _, _, rfl⟩
    · rintro ρ M ⟨rfl, x2, x4, x5, x6, x7, x8, x9, x10, x11, x12, x13, x14, x15, x16, rfl⟩
      have e5 : evL (rng 0 (5 : Int).toNat).length = lksF := by rw [rng_len]; exact evL5
      rw [e5]
      refine ⟨_, rfl, l2, _, rfl, rfl, ?_⟩
      refine ⟨_, _, _, _, _, rfl, get_last _ _, okM_apI ok0, .inr ⟨2, rowsF, [4, 4], [0, 1], [4, 3], lksF, 2, rfl, .inr rfl, rfl, rfl, ntF_ok, ?_⟩⟩
      refine ⟨[.tab T.P1 lq1], _, rfl, set_last _ _ _, rfl, ap_ntF _ _ _ _ _ _ _ _, ok0, ?_⟩
      refine ⟨_, rfl, l2, l2, l2, rfl, ?_⟩
      refine ⟨2, rowsF, [4, 4], [0, 1], [4, 3], lksF, 2, _, rfl, ntF_ok, ok0, .inr ⟨[[0, 0], [1, 0]], .inr rfl, spF_in, ?_⟩⟩
      refine (congrArg (fun z : D => okD z = true ∧ okD (.int 7) = true ∧ Q (.bl (eqD z (.int 7))) [.tab T.P1 lq1]) seven).mpr ?_
      exact ⟨rfl, rfl, q⟩
end
end K58
set_option Elab.async false
set_option linter.all false
set_option maxRecDepth 100000
set_option maxHeartbeats 4000000
namespace K58
open PySem PySem.Spec PyProof.Rows L2 Pd
theorem tab_mk {K : PySem.W.Frag} {x : Str} {f c P : Addr} {oc : Value} {od : Option Addr} {sl : Array (Option Value)} {fd : FuncData} {oc2 : Value} {od2 : Option Addr} {sl2 : Array (Option Value)} {vs : Array Value} (h1 : PySem.W.nsIn K mainGlobals x = some (some (.ref f)))
    (h2 : K.lookup f = some ⟨oc, od, .func fd, sl⟩) (h3 : fd.code = .ref c) (h4 : K.lookup c = some ⟨oc2, od2, .fields vs, sl2⟩) (h5 : vs[11]? = some (.ref P)) : PySem.W.tabIn K x = some (c, P) := by
  unfold PySem.W.tabIn
  rw [h1]; simp only; rw [h2]; simp only; rw [h3]; simp only; rw [h4]; simp only; rw [h5]
/-- what a code object's record must hold -/
def codeB (vs : Array Value) (c P : Addr) : Bool := ((((match vs.getD 18 Value.none with | .str _ _ => true | _ => false) && match vs.getD 7 Value.none with | .int _ _ => true | _ => false) && match vs.getD 9 Value.none with | .bool _ => true | _ => false) && match vs.getD 10 Value.none with | .int _ _ => true | _ => false) && c != P
theorem codeB_hd {K : PySem.W.Frag} {c P : Addr} {od : Option Addr} {sl : Array (Option Value)} {vs : Array Value} (h4 : K.lookup c = some ⟨.type "code", od, .fields vs, sl⟩) (h5 : vs[11]? = some (.ref P)) (h : codeB vs c P = true) : PySem.W.codeHdIn K c P = true := by
  unfold PySem.W.codeHdIn
  rw [h4]
  simp only [h5, beq_self_eq_true, Bool.true_and]
  exact h
theorem all_mk {l : PySem.W.OpenLaw} {w : World} {K : PySem.W.Frag} {h : Heap} {mg : Str → Option Value} {fa : Addr} (X : K.In h) (G : h.Ns mainGlobals mg) (hfa : mg "law" = some (.ref fa))
    {a_InvalidSpots a_InvalidCost a_Prices a_Net a_is_integer a_is_between a_has_items a_all_between a_is_ascending a_is_spot a_are_spots a_spots_of_parts a_all_groups a_InvalidSpots_init a_InvalidCost_init a_are_prices a_Prices_init a_Prices_parts q_Prices_parts a_Prices_call a_Prices_paid a_Prices_part_prices a_is_rack a_is_link a_are_links a_reached a_least_trees a_Net_init a_Net_call a_Net_paid a_Net_tree a_law_source a_law_draw a_law_pick a_law_said a_law_odd a_law cl1 P1 : Addr}
    {od_is_integer an_is_integer od_is_between an_is_between od_has_items an_has_items od_all_between an_all_between od_is_ascending an_is_ascending od_is_spot an_is_spot od_are_spots an_are_spots od_spots_of_parts an_spots_of_parts od_all_groups an_all_groups od_InvalidSpots_init an_InvalidSpots_init od_InvalidCost_init an_InvalidCost_init od_are_prices an_are_prices od_Prices_init an_Prices_init od_Prices_parts an_Prices_parts od_Prices_call an_Prices_call od_Prices_paid an_Prices_paid od_Prices_part_prices an_Prices_part_prices od_is_rack an_is_rack od_is_link an_is_link od_are_links an_are_links od_reached an_reached od_least_trees an_least_trees od_Net_init an_Net_init od_Net_call an_Net_call od_Net_paid an_Net_paid od_Net_tree an_Net_tree od_law_source an_law_source od_law_draw an_law_draw od_law_pick an_law_pick od_law_said an_law_said od_law_odd an_law_odd od_law an_law : Option Addr}
    {sl_is_integer sl_is_between sl_has_items sl_all_between sl_is_ascending sl_is_spot sl_are_spots sl_spots_of_parts sl_all_groups sl_InvalidSpots_init sl_InvalidCost_init sl_are_prices sl_Prices_init sl_Prices_parts sl_Prices_call sl_Prices_paid sl_Prices_part_prices sl_is_rack sl_is_link sl_are_links sl_reached sl_least_trees sl_Net_init sl_Net_call sl_Net_paid sl_Net_tree sl_law_source sl_law_draw sl_law_pick sl_law_said sl_law_odd sl_law : Array (Option Value)}
    {oc_is_integer kV_is_integer dc_is_integer pm_is_integer cd_is_integer ct_is_integer oc_is_between kV_is_between dc_is_between pm_is_between cd_is_between ct_is_between oc_has_items kV_has_items dc_has_items pm_has_items cd_has_items ct_has_items oc_all_between kV_all_between dc_all_between pm_all_between cd_all_between ct_all_between oc_is_ascending kV_is_ascending dc_is_ascending pm_is_ascending cd_is_ascending ct_is_ascending oc_is_spot kV_is_spot dc_is_spot pm_is_spot cd_is_spot ct_is_spot oc_are_spots kV_are_spots dc_are_spots pm_are_spots cd_are_spots ct_are_spots oc_spots_of_parts kV_spots_of_parts dc_spots_of_parts pm_spots_of_parts cd_spots_of_parts ct_spots_of_parts oc_all_groups kV_all_groups dc_all_groups pm_all_groups cd_all_groups ct_all_groups oc_InvalidSpots_init kV_InvalidSpots_init dc_InvalidSpots_init pm_InvalidSpots_init cd_InvalidSpots_init ct_InvalidSpots_init oc_InvalidCost_init kV_InvalidCost_init dc_InvalidCost_init pm_InvalidCost_init cd_InvalidCost_init ct_InvalidCost_init oc_are_prices kV_are_prices dc_are_prices pm_are_prices cd_are_prices ct_are_prices oc_Prices_init kV_Prices_init dc_Prices_init pm_Prices_init cd_Prices_init ct_Prices_init oc_Prices_parts kV_Prices_parts dc_Prices_parts pm_Prices_parts cd_Prices_parts ct_Prices_parts oc_Prices_call kV_Prices_call dc_Prices_call pm_Prices_call cd_Prices_call ct_Prices_call oc_Prices_paid kV_Prices_paid dc_Prices_paid pm_Prices_paid cd_Prices_paid ct_Prices_paid oc_Prices_part_prices kV_Prices_part_prices dc_Prices_part_prices pm_Prices_part_prices cd_Prices_part_prices ct_Prices_part_prices oc_is_rack kV_is_rack dc_is_rack pm_is_rack cd_is_rack ct_is_rack oc_is_link kV_is_link dc_is_link pm_is_link cd_is_link ct_is_link oc_are_links kV_are_links dc_are_links pm_are_links cd_are_links ct_are_links oc_reached kV_reached dc_reached pm_reached cd_reached ct_reached oc_least_trees kV_least_trees dc_least_trees pm_least_trees cd_least_trees ct_least_trees oc_Net_init kV_Net_init dc_Net_init pm_Net_init cd_Net_init ct_Net_init oc_Net_call kV_Net_call dc_Net_call pm_Net_call cd_Net_call ct_Net_call oc_Net_paid kV_Net_paid dc_Net_paid pm_Net_paid cd_Net_paid ct_Net_paid oc_Net_tree kV_Net_tree dc_Net_tree pm_Net_tree cd_Net_tree ct_Net_tree oc_law_source kV_law_source dc_law_source pm_law_source cd_law_source ct_law_source oc_law_draw kV_law_draw dc_law_draw pm_law_draw cd_law_draw ct_law_draw oc_law_pick kV_law_pick dc_law_pick pm_law_pick cd_law_pick ct_law_pick oc_law_said kV_law_said dc_law_said pm_law_said cd_law_said ct_law_said oc_law_odd kV_law_odd dc_law_odd pm_law_odd cd_law_odd ct_law_odd oc_law kV_law dc_law pm_law cd_law ct_law : Value}
    {pr_Prices_parts : List Value}
    {t_MOST_PIECES : Tok}
    {t_MOST_PARTS : Tok}
    {t_GREATEST_PRICE : Tok}
    {t_GREATEST_RACK : Tok}
    {t_MOST_LINKS : Tok}
    {nm_InvalidSpots qn_InvalidSpots : Str} {N_InvalidSpots : Addr} {bs_InvalidSpots bm_InvalidSpots sub_InvalidSpots : List Value} {sn_InvalidSpots : List Str} {ab_InvalidSpots : Bool} {col_InvalidSpots : Option Bool} {dd_InvalidSpots : Option Addr} {k0_InvalidSpots k1_InvalidSpots k2_InvalidSpots k3_InvalidSpots k5_InvalidSpots : Option Value}
    {nm_InvalidCost qn_InvalidCost : Str} {N_InvalidCost : Addr} {bs_InvalidCost bm_InvalidCost sub_InvalidCost : List Value} {sn_InvalidCost : List Str} {ab_InvalidCost : Bool} {col_InvalidCost : Option Bool} {dd_InvalidCost : Option Addr} {k0_InvalidCost k1_InvalidCost k2_InvalidCost k3_InvalidCost k5_InvalidCost : Option Value}
    {q : Program}
    {dr1 : DefRec} {odc1 : Option Addr} {vsc1 : Array Value} {slc1 : Array (Option Value)}
    (g_InvalidSpots : PySem.W.nsIn K mainGlobals "InvalidSpots" = some (some (.ref a_InvalidSpots)))
    (g_InvalidCost : PySem.W.nsIn K mainGlobals "InvalidCost" = some (some (.ref a_InvalidCost)))
    (g_Prices : PySem.W.nsIn K mainGlobals "Prices" = some (some (.ref a_Prices)))
    (g_Net : PySem.W.nsIn K mainGlobals "Net" = some (some (.ref a_Net)))
    (g_is_integer : PySem.W.nsIn K mainGlobals "is_integer" = some (some (.ref a_is_integer)))
    (i_is_integer : PySem.W.isFn K (.ref a_is_integer) = true)
    (l_is_integer : K.lookup a_is_integer = some ⟨oc_is_integer, od_is_integer, .func (PySem.W.fnOf "is_integer" "is_integer" (defArgs s_is_integer) (defBody s_is_integer) (defScope s_is_integer) .none kV_is_integer dc_is_integer pm_is_integer an_is_integer cd_is_integer ct_is_integer), sl_is_integer⟩)
    (c_is_integer : PySem.W.codeIn K cd_is_integer "is_integer" = true)
    (k_is_integer : PySem.W.keepIn K (.ref a_is_integer) = true)
    (g_is_between : PySem.W.nsIn K mainGlobals "is_between" = some (some (.ref a_is_between)))
    (i_is_between : PySem.W.isFn K (.ref a_is_between) = true)
    (l_is_between : K.lookup a_is_between = some ⟨oc_is_between, od_is_between, .func (PySem.W.fnOf "is_between" "is_between" (defArgs s_is_between) (defBody s_is_between) (defScope s_is_between) .none kV_is_between dc_is_between pm_is_between an_is_between cd_is_between ct_is_between), sl_is_between⟩)
    (c_is_between : PySem.W.codeIn K cd_is_between "is_between" = true)
    (k_is_between : PySem.W.keepIn K (.ref a_is_between) = true)
    (g_has_items : PySem.W.nsIn K mainGlobals "has_items" = some (some (.ref a_has_items)))
    (i_has_items : PySem.W.isFn K (.ref a_has_items) = true)
    (l_has_items : K.lookup a_has_items = some ⟨oc_has_items, od_has_items, .func (PySem.W.fnOf "has_items" "has_items" (defArgs s_has_items) (defBody s_has_items) (defScope s_has_items) .none kV_has_items dc_has_items pm_has_items an_has_items cd_has_items ct_has_items), sl_has_items⟩)
    (c_has_items : PySem.W.codeIn K cd_has_items "has_items" = true)
    (k_has_items : PySem.W.keepIn K (.ref a_has_items) = true)
    (g_all_between : PySem.W.nsIn K mainGlobals "all_between" = some (some (.ref a_all_between)))
    (i_all_between : PySem.W.isFn K (.ref a_all_between) = true)
    (l_all_between : K.lookup a_all_between = some ⟨oc_all_between, od_all_between, .func (PySem.W.fnOf "all_between" "all_between" (defArgs s_all_between) (defBody s_all_between) (defScope s_all_between) .none kV_all_between dc_all_between pm_all_between an_all_between cd_all_between ct_all_between), sl_all_between⟩)
    (c_all_between : PySem.W.codeIn K cd_all_between "all_between" = true)
    (k_all_between : PySem.W.keepIn K (.ref a_all_between) = true)
    (g_is_ascending : PySem.W.nsIn K mainGlobals "is_ascending" = some (some (.ref a_is_ascending)))
    (i_is_ascending : PySem.W.isFn K (.ref a_is_ascending) = true)
    (l_is_ascending : K.lookup a_is_ascending = some ⟨oc_is_ascending, od_is_ascending, .func (PySem.W.fnOf "is_ascending" "is_ascending" (defArgs s_is_ascending) (defBody s_is_ascending) (defScope s_is_ascending) .none kV_is_ascending dc_is_ascending pm_is_ascending an_is_ascending cd_is_ascending ct_is_ascending), sl_is_ascending⟩)
    (c_is_ascending : PySem.W.codeIn K cd_is_ascending "is_ascending" = true)
    (k_is_ascending : PySem.W.keepIn K (.ref a_is_ascending) = true)
    (g_is_spot : PySem.W.nsIn K mainGlobals "is_spot" = some (some (.ref a_is_spot)))
    (i_is_spot : PySem.W.isFn K (.ref a_is_spot) = true)
    (l_is_spot : K.lookup a_is_spot = some ⟨oc_is_spot, od_is_spot, .func (PySem.W.fnOf "is_spot" "is_spot" (defArgs s_is_spot) (defBody s_is_spot) (defScope s_is_spot) .none kV_is_spot dc_is_spot pm_is_spot an_is_spot cd_is_spot ct_is_spot), sl_is_spot⟩)
    (c_is_spot : PySem.W.codeIn K cd_is_spot "is_spot" = true)
    (k_is_spot : PySem.W.keepIn K (.ref a_is_spot) = true)
    (g_are_spots : PySem.W.nsIn K mainGlobals "are_spots" = some (some (.ref a_are_spots)))
    (i_are_spots : PySem.W.isFn K (.ref a_are_spots) = true)
    (l_are_spots : K.lookup a_are_spots = some ⟨oc_are_spots, od_are_spots, .func (PySem.W.fnOf "are_spots" "are_spots" (defArgs s_are_spots) (defBody s_are_spots) (defScope s_are_spots) .none kV_are_spots dc_are_spots pm_are_spots an_are_spots cd_are_spots ct_are_spots), sl_are_spots⟩)
    (c_are_spots : PySem.W.codeIn K cd_are_spots "are_spots" = true)
    (k_are_spots : PySem.W.keepIn K (.ref a_are_spots) = true)
    (g_spots_of_parts : PySem.W.nsIn K mainGlobals "spots_of_parts" = some (some (.ref a_spots_of_parts)))
    (i_spots_of_parts : PySem.W.isFn K (.ref a_spots_of_parts) = true)
    (l_spots_of_parts : K.lookup a_spots_of_parts = some ⟨oc_spots_of_parts, od_spots_of_parts, .func (PySem.W.fnOf "spots_of_parts" "spots_of_parts" (defArgs s_spots_of_parts) (defBody s_spots_of_parts) (defScope s_spots_of_parts) .none kV_spots_of_parts dc_spots_of_parts pm_spots_of_parts an_spots_of_parts cd_spots_of_parts ct_spots_of_parts), sl_spots_of_parts⟩)
    (c_spots_of_parts : PySem.W.codeIn K cd_spots_of_parts "spots_of_parts" = true)
    (k_spots_of_parts : PySem.W.keepIn K (.ref a_spots_of_parts) = true)
    (g_all_groups : PySem.W.nsIn K mainGlobals "all_groups" = some (some (.ref a_all_groups)))
    (i_all_groups : PySem.W.isFn K (.ref a_all_groups) = true)
    (l_all_groups : K.lookup a_all_groups = some ⟨oc_all_groups, od_all_groups, .func (PySem.W.fnOf "all_groups" "all_groups" (defArgs s_all_groups) (defBody s_all_groups) (defScope s_all_groups) .none kV_all_groups dc_all_groups pm_all_groups an_all_groups cd_all_groups ct_all_groups), sl_all_groups⟩)
    (c_all_groups : PySem.W.codeIn K cd_all_groups "all_groups" = true)
    (k_all_groups : PySem.W.keepIn K (.ref a_all_groups) = true)
    (f_InvalidSpots_init : PySem.W.findIn K (.ref a_InvalidSpots) "__init__" = some (some (.ref a_InvalidSpots_init)))
    (i_InvalidSpots_init : PySem.W.isFn K (.ref a_InvalidSpots_init) = true)
    (l_InvalidSpots_init : K.lookup a_InvalidSpots_init = some ⟨oc_InvalidSpots_init, od_InvalidSpots_init, .func (PySem.W.fnOf "__init__" "InvalidSpots.__init__" (defArgs s_InvalidSpots_init) (defBody s_InvalidSpots_init) (defScope s_InvalidSpots_init) .none kV_InvalidSpots_init dc_InvalidSpots_init pm_InvalidSpots_init an_InvalidSpots_init cd_InvalidSpots_init ct_InvalidSpots_init), sl_InvalidSpots_init⟩)
    (c_InvalidSpots_init : PySem.W.codeIn K cd_InvalidSpots_init "InvalidSpots.__init__" = true)
    (k_InvalidSpots_init : PySem.W.keepIn K (.ref a_InvalidSpots_init) = true)
    (f_InvalidCost_init : PySem.W.findIn K (.ref a_InvalidCost) "__init__" = some (some (.ref a_InvalidCost_init)))
    (i_InvalidCost_init : PySem.W.isFn K (.ref a_InvalidCost_init) = true)
    (l_InvalidCost_init : K.lookup a_InvalidCost_init = some ⟨oc_InvalidCost_init, od_InvalidCost_init, .func (PySem.W.fnOf "__init__" "InvalidCost.__init__" (defArgs s_InvalidCost_init) (defBody s_InvalidCost_init) (defScope s_InvalidCost_init) .none kV_InvalidCost_init dc_InvalidCost_init pm_InvalidCost_init an_InvalidCost_init cd_InvalidCost_init ct_InvalidCost_init), sl_InvalidCost_init⟩)
    (c_InvalidCost_init : PySem.W.codeIn K cd_InvalidCost_init "InvalidCost.__init__" = true)
    (k_InvalidCost_init : PySem.W.keepIn K (.ref a_InvalidCost_init) = true)
    (g_are_prices : PySem.W.nsIn K mainGlobals "are_prices" = some (some (.ref a_are_prices)))
    (i_are_prices : PySem.W.isFn K (.ref a_are_prices) = true)
    (l_are_prices : K.lookup a_are_prices = some ⟨oc_are_prices, od_are_prices, .func (PySem.W.fnOf "are_prices" "are_prices" (defArgs s_are_prices) (defBody s_are_prices) (defScope s_are_prices) .none kV_are_prices dc_are_prices pm_are_prices an_are_prices cd_are_prices ct_are_prices), sl_are_prices⟩)
    (c_are_prices : PySem.W.codeIn K cd_are_prices "are_prices" = true)
    (k_are_prices : PySem.W.keepIn K (.ref a_are_prices) = true)
    (f_Prices_init : PySem.W.findIn K (.ref a_Prices) "__init__" = some (some (.ref a_Prices_init)))
    (i_Prices_init : PySem.W.isFn K (.ref a_Prices_init) = true)
    (l_Prices_init : K.lookup a_Prices_init = some ⟨oc_Prices_init, od_Prices_init, .func (PySem.W.fnOf "__init__" "Prices.__init__" (defArgs s_Prices_init) (defBody s_Prices_init) (defScope s_Prices_init) .none kV_Prices_init dc_Prices_init pm_Prices_init an_Prices_init cd_Prices_init ct_Prices_init), sl_Prices_init⟩)
    (c_Prices_init : PySem.W.codeIn K cd_Prices_init "Prices.__init__" = true)
    (k_Prices_init : PySem.W.keepIn K (.ref a_Prices_init) = true)
    (pa_Prices_parts : PySem.W.findIn K (.ref a_Prices) "parts" = some (some (.ref q_Prices_parts)))
    (pg_Prices_parts : PySem.W.specialIn K (.ref q_Prices_parts) "__get__" = some (some (.builtin "property.__get__")))
    (pt_Prices_parts : PySem.W.takesIn K (.ref q_Prices_parts) = some true)
    (pc_Prices_parts : PySem.W.recIn K q_Prices_parts "property" = some (.ref a_Prices_parts :: pr_Prices_parts))
    (i_Prices_parts : PySem.W.isFn K (.ref a_Prices_parts) = true)
    (l_Prices_parts : K.lookup a_Prices_parts = some ⟨oc_Prices_parts, od_Prices_parts, .func (PySem.W.fnOf "parts" "Prices.parts" (defArgs s_Prices_parts) (defBody s_Prices_parts) (defScope s_Prices_parts) .none kV_Prices_parts dc_Prices_parts pm_Prices_parts an_Prices_parts cd_Prices_parts ct_Prices_parts), sl_Prices_parts⟩)
    (c_Prices_parts : PySem.W.codeIn K cd_Prices_parts "Prices.parts" = true)
    (k_Prices_parts : PySem.W.keepIn K (.ref a_Prices_parts) = true)
    (f_Prices_call : PySem.W.findIn K (.ref a_Prices) "__call__" = some (some (.ref a_Prices_call)))
    (i_Prices_call : PySem.W.isFn K (.ref a_Prices_call) = true)
    (l_Prices_call : K.lookup a_Prices_call = some ⟨oc_Prices_call, od_Prices_call, .func (PySem.W.fnOf "__call__" "Prices.__call__" (defArgs s_Prices_call) (defBody s_Prices_call) (defScope s_Prices_call) .none kV_Prices_call dc_Prices_call pm_Prices_call an_Prices_call cd_Prices_call ct_Prices_call), sl_Prices_call⟩)
    (c_Prices_call : PySem.W.codeIn K cd_Prices_call "Prices.__call__" = true)
    (k_Prices_call : PySem.W.keepIn K (.ref a_Prices_call) = true)
    (f_Prices_paid : PySem.W.findIn K (.ref a_Prices) "paid" = some (some (.ref a_Prices_paid)))
    (i_Prices_paid : PySem.W.isFn K (.ref a_Prices_paid) = true)
    (l_Prices_paid : K.lookup a_Prices_paid = some ⟨oc_Prices_paid, od_Prices_paid, .func (PySem.W.fnOf "paid" "Prices.paid" (defArgs s_Prices_paid) (defBody s_Prices_paid) (defScope s_Prices_paid) .none kV_Prices_paid dc_Prices_paid pm_Prices_paid an_Prices_paid cd_Prices_paid ct_Prices_paid), sl_Prices_paid⟩)
    (c_Prices_paid : PySem.W.codeIn K cd_Prices_paid "Prices.paid" = true)
    (k_Prices_paid : PySem.W.keepIn K (.ref a_Prices_paid) = true)
    (f_Prices_part_prices : PySem.W.findIn K (.ref a_Prices) "_part_prices" = some (some (.ref a_Prices_part_prices)))
    (i_Prices_part_prices : PySem.W.isFn K (.ref a_Prices_part_prices) = true)
    (l_Prices_part_prices : K.lookup a_Prices_part_prices = some ⟨oc_Prices_part_prices, od_Prices_part_prices, .func (PySem.W.fnOf "_part_prices" "Prices._part_prices" (defArgs s_Prices_part_prices) (defBody s_Prices_part_prices) (defScope s_Prices_part_prices) .none kV_Prices_part_prices dc_Prices_part_prices pm_Prices_part_prices an_Prices_part_prices cd_Prices_part_prices ct_Prices_part_prices), sl_Prices_part_prices⟩)
    (c_Prices_part_prices : PySem.W.codeIn K cd_Prices_part_prices "Prices._part_prices" = true)
    (k_Prices_part_prices : PySem.W.keepIn K (.ref a_Prices_part_prices) = true)
    (g_is_rack : PySem.W.nsIn K mainGlobals "is_rack" = some (some (.ref a_is_rack)))
    (i_is_rack : PySem.W.isFn K (.ref a_is_rack) = true)
    (l_is_rack : K.lookup a_is_rack = some ⟨oc_is_rack, od_is_rack, .func (PySem.W.fnOf "is_rack" "is_rack" (defArgs s_is_rack) (defBody s_is_rack) (defScope s_is_rack) .none kV_is_rack dc_is_rack pm_is_rack an_is_rack cd_is_rack ct_is_rack), sl_is_rack⟩)
    (c_is_rack : PySem.W.codeIn K cd_is_rack "is_rack" = true)
    (k_is_rack : PySem.W.keepIn K (.ref a_is_rack) = true)
    (g_is_link : PySem.W.nsIn K mainGlobals "is_link" = some (some (.ref a_is_link)))
    (i_is_link : PySem.W.isFn K (.ref a_is_link) = true)
    (l_is_link : K.lookup a_is_link = some ⟨oc_is_link, od_is_link, .func (PySem.W.fnOf "is_link" "is_link" (defArgs s_is_link) (defBody s_is_link) (defScope s_is_link) .none kV_is_link dc_is_link pm_is_link an_is_link cd_is_link ct_is_link), sl_is_link⟩)
    (c_is_link : PySem.W.codeIn K cd_is_link "is_link" = true)
    (k_is_link : PySem.W.keepIn K (.ref a_is_link) = true)
    (g_are_links : PySem.W.nsIn K mainGlobals "are_links" = some (some (.ref a_are_links)))
    (i_are_links : PySem.W.isFn K (.ref a_are_links) = true)
    (l_are_links : K.lookup a_are_links = some ⟨oc_are_links, od_are_links, .func (PySem.W.fnOf "are_links" "are_links" (defArgs s_are_links) (defBody s_are_links) (defScope s_are_links) .none kV_are_links dc_are_links pm_are_links an_are_links cd_are_links ct_are_links), sl_are_links⟩)
    (c_are_links : PySem.W.codeIn K cd_are_links "are_links" = true)
    (k_are_links : PySem.W.keepIn K (.ref a_are_links) = true)
    (g_reached : PySem.W.nsIn K mainGlobals "reached" = some (some (.ref a_reached)))
    (i_reached : PySem.W.isFn K (.ref a_reached) = true)
    (l_reached : K.lookup a_reached = some ⟨oc_reached, od_reached, .func (PySem.W.fnOf "reached" "reached" (defArgs s_reached) (defBody s_reached) (defScope s_reached) .none kV_reached dc_reached pm_reached an_reached cd_reached ct_reached), sl_reached⟩)
    (c_reached : PySem.W.codeIn K cd_reached "reached" = true)
    (k_reached : PySem.W.keepIn K (.ref a_reached) = true)
    (g_least_trees : PySem.W.nsIn K mainGlobals "least_trees" = some (some (.ref a_least_trees)))
    (i_least_trees : PySem.W.isFn K (.ref a_least_trees) = true)
    (l_least_trees : K.lookup a_least_trees = some ⟨oc_least_trees, od_least_trees, .func (PySem.W.fnOf "least_trees" "least_trees" (defArgs s_least_trees) (defBody s_least_trees) (defScope s_least_trees) .none kV_least_trees dc_least_trees pm_least_trees an_least_trees cd_least_trees ct_least_trees), sl_least_trees⟩)
    (c_least_trees : PySem.W.codeIn K cd_least_trees "least_trees" = true)
    (k_least_trees : PySem.W.keepIn K (.ref a_least_trees) = true)
    (f_Net_init : PySem.W.findIn K (.ref a_Net) "__init__" = some (some (.ref a_Net_init)))
    (i_Net_init : PySem.W.isFn K (.ref a_Net_init) = true)
    (l_Net_init : K.lookup a_Net_init = some ⟨oc_Net_init, od_Net_init, .func (PySem.W.fnOf "__init__" "Net.__init__" (defArgs s_Net_init) (defBody s_Net_init) (defScope s_Net_init) .none kV_Net_init dc_Net_init pm_Net_init an_Net_init cd_Net_init ct_Net_init), sl_Net_init⟩)
    (c_Net_init : PySem.W.codeIn K cd_Net_init "Net.__init__" = true)
    (k_Net_init : PySem.W.keepIn K (.ref a_Net_init) = true)
    (f_Net_call : PySem.W.findIn K (.ref a_Net) "__call__" = some (some (.ref a_Net_call)))
    (i_Net_call : PySem.W.isFn K (.ref a_Net_call) = true)
    (l_Net_call : K.lookup a_Net_call = some ⟨oc_Net_call, od_Net_call, .func (PySem.W.fnOf "__call__" "Net.__call__" (defArgs s_Net_call) (defBody s_Net_call) (defScope s_Net_call) .none kV_Net_call dc_Net_call pm_Net_call an_Net_call cd_Net_call ct_Net_call), sl_Net_call⟩)
    (c_Net_call : PySem.W.codeIn K cd_Net_call "Net.__call__" = true)
    (k_Net_call : PySem.W.keepIn K (.ref a_Net_call) = true)
    (f_Net_paid : PySem.W.findIn K (.ref a_Net) "paid" = some (some (.ref a_Net_paid)))
    (i_Net_paid : PySem.W.isFn K (.ref a_Net_paid) = true)
    (l_Net_paid : K.lookup a_Net_paid = some ⟨oc_Net_paid, od_Net_paid, .func (PySem.W.fnOf "paid" "Net.paid" (defArgs s_Net_paid) (defBody s_Net_paid) (defScope s_Net_paid) .none kV_Net_paid dc_Net_paid pm_Net_paid an_Net_paid cd_Net_paid ct_Net_paid), sl_Net_paid⟩)
    (c_Net_paid : PySem.W.codeIn K cd_Net_paid "Net.paid" = true)
    (k_Net_paid : PySem.W.keepIn K (.ref a_Net_paid) = true)
    (f_Net_tree : PySem.W.findIn K (.ref a_Net) "tree" = some (some (.ref a_Net_tree)))
    (i_Net_tree : PySem.W.isFn K (.ref a_Net_tree) = true)
    (l_Net_tree : K.lookup a_Net_tree = some ⟨oc_Net_tree, od_Net_tree, .func (PySem.W.fnOf "tree" "Net.tree" (defArgs s_Net_tree) (defBody s_Net_tree) (defScope s_Net_tree) .none kV_Net_tree dc_Net_tree pm_Net_tree an_Net_tree cd_Net_tree ct_Net_tree), sl_Net_tree⟩)
    (c_Net_tree : PySem.W.codeIn K cd_Net_tree "Net.tree" = true)
    (k_Net_tree : PySem.W.keepIn K (.ref a_Net_tree) = true)
    (g_law_source : PySem.W.nsIn K mainGlobals "_law_source" = some (some (.ref a_law_source)))
    (i_law_source : PySem.W.isFn K (.ref a_law_source) = true)
    (l_law_source : K.lookup a_law_source = some ⟨oc_law_source, od_law_source, .func (PySem.W.fnOf "_law_source" "_law_source" (defArgs s_law_source) (defBody s_law_source) (defScope s_law_source) .none kV_law_source dc_law_source pm_law_source an_law_source cd_law_source ct_law_source), sl_law_source⟩)
    (c_law_source : PySem.W.codeIn K cd_law_source "_law_source" = true)
    (k_law_source : PySem.W.keepIn K (.ref a_law_source) = true)
    (g_law_draw : PySem.W.nsIn K mainGlobals "_law_draw" = some (some (.ref a_law_draw)))
    (i_law_draw : PySem.W.isFn K (.ref a_law_draw) = true)
    (l_law_draw : K.lookup a_law_draw = some ⟨oc_law_draw, od_law_draw, .func (PySem.W.fnOf "_law_draw" "_law_draw" (defArgs s_law_draw) (defBody s_law_draw) (defScope s_law_draw) .none kV_law_draw dc_law_draw pm_law_draw an_law_draw cd_law_draw ct_law_draw), sl_law_draw⟩)
    (c_law_draw : PySem.W.codeIn K cd_law_draw "_law_draw" = true)
    (k_law_draw : PySem.W.keepIn K (.ref a_law_draw) = true)
    (g_law_pick : PySem.W.nsIn K mainGlobals "_law_pick" = some (some (.ref a_law_pick)))
    (i_law_pick : PySem.W.isFn K (.ref a_law_pick) = true)
    (l_law_pick : K.lookup a_law_pick = some ⟨oc_law_pick, od_law_pick, .func (PySem.W.fnOf "_law_pick" "_law_pick" (defArgs s_law_pick) (defBody s_law_pick) (defScope s_law_pick) .none kV_law_pick dc_law_pick pm_law_pick an_law_pick cd_law_pick ct_law_pick), sl_law_pick⟩)
    (c_law_pick : PySem.W.codeIn K cd_law_pick "_law_pick" = true)
    (k_law_pick : PySem.W.keepIn K (.ref a_law_pick) = true)
    (g_law_said : PySem.W.nsIn K mainGlobals "_law_said" = some (some (.ref a_law_said)))
    (i_law_said : PySem.W.isFn K (.ref a_law_said) = true)
    (l_law_said : K.lookup a_law_said = some ⟨oc_law_said, od_law_said, .func (PySem.W.fnOf "_law_said" "_law_said" (defArgs s_law_said) (defBody s_law_said) (defScope s_law_said) .none kV_law_said dc_law_said pm_law_said an_law_said cd_law_said ct_law_said), sl_law_said⟩)
    (c_law_said : PySem.W.codeIn K cd_law_said "_law_said" = true)
    (k_law_said : PySem.W.keepIn K (.ref a_law_said) = true)
    (g_law_odd : PySem.W.nsIn K mainGlobals "_law_odd" = some (some (.ref a_law_odd)))
    (i_law_odd : PySem.W.isFn K (.ref a_law_odd) = true)
    (l_law_odd : K.lookup a_law_odd = some ⟨oc_law_odd, od_law_odd, .func (PySem.W.fnOf "_law_odd" "_law_odd" (defArgs s_law_odd) (defBody s_law_odd) (defScope s_law_odd) .none kV_law_odd dc_law_odd pm_law_odd an_law_odd cd_law_odd ct_law_odd), sl_law_odd⟩)
    (c_law_odd : PySem.W.codeIn K cd_law_odd "_law_odd" = true)
    (k_law_odd : PySem.W.keepIn K (.ref a_law_odd) = true)
    (g_law : PySem.W.nsIn K mainGlobals "law" = some (some (.ref a_law)))
    (i_law : PySem.W.isFn K (.ref a_law) = true)
    (l_law : K.lookup a_law = some ⟨oc_law, od_law, .func (PySem.W.fnOf "law" "law" (defArgs s_law) (defBody s_law) (defScope s_law) .none kV_law dc_law pm_law an_law cd_law ct_law), sl_law⟩)
    (c_law : PySem.W.codeIn K cd_law "law" = true)
    (k_law : PySem.W.keepIn K (.ref a_law) = true)
    (n_isinstance : PySem.W.nsIn K mainGlobals "isinstance" = some none)
    (n_int : PySem.W.nsIn K mainGlobals "int" = some none)
    (n_bool : PySem.W.nsIn K mainGlobals "bool" = some none)
    (n_list : PySem.W.nsIn K mainGlobals "list" = some none)
    (n_tuple : PySem.W.nsIn K mainGlobals "tuple" = some none)
    (n_len : PySem.W.nsIn K mainGlobals "len" = some none)
    (n_all : PySem.W.nsIn K mainGlobals "all" = some none)
    (n_sum : PySem.W.nsIn K mainGlobals "sum" = some none)
    (n_zip : PySem.W.nsIn K mainGlobals "zip" = some none)
    (n_max : PySem.W.nsIn K mainGlobals "max" = some none)
    (n_min : PySem.W.nsIn K mainGlobals "min" = some none)
    (n_range : PySem.W.nsIn K mainGlobals "range" = some none)
    (n_sorted : PySem.W.nsIn K mainGlobals "sorted" = some none)
    (n_enumerate : PySem.W.nsIn K mainGlobals "enumerate" = some none)
    (n_set : PySem.W.nsIn K mainGlobals "set" = some none)
    (n_repr : PySem.W.nsIn K mainGlobals "repr" = some none)
    (pgPrices : PySem.W.plainGet K a_Prices Str.empty = true)
    (hdPrices : PySem.W.hasDictIn K a_Prices = true)
    (poPrices : PySem.W.plainOver K a_Prices = true)
    (saPrices : PySem.W.findIn K (.ref a_Prices) "__setattr__" = some (some (.builtin "object.__setattr__")))
    (mkPrices : PySem.W.makesIn K a_Prices = true)
    (kpPrices : PySem.W.keepIn K (.ref a_Prices) = true)
    (clPrices : PySem.W.findIn K (.ref a_Prices) "__class__" = some (some (.builtin "object.__class__")))
    (gtPrices : PySem.W.specialIn K (.builtin "object.__class__") "__get__" = some (some (.builtin "getset_descriptor.__get__")))
    (tkPrices : PySem.W.takesIn K (.builtin "object.__class__") = some true)
    (moPrices : PySem.W.mroIn K a_Prices (.type "object") = some true)
    (na_Prices_parts : PySem.W.findIn K (.ref a_Prices) "_parts" = some none)
    (na_Prices_wholes : PySem.W.findIn K (.ref a_Prices) "_wholes" = some none)
    (na_Prices_opens : PySem.W.findIn K (.ref a_Prices) "_opens" = some none)
    (na_Prices_spots : PySem.W.findIn K (.ref a_Prices) "_spots" = some none)
    (pgNet : PySem.W.plainGet K a_Net Str.empty = true)
    (hdNet : PySem.W.hasDictIn K a_Net = true)
    (poNet : PySem.W.plainOver K a_Net = true)
    (saNet : PySem.W.findIn K (.ref a_Net) "__setattr__" = some (some (.builtin "object.__setattr__")))
    (mkNet : PySem.W.makesIn K a_Net = true)
    (kpNet : PySem.W.keepIn K (.ref a_Net) = true)
    (clNet : PySem.W.findIn K (.ref a_Net) "__class__" = some (some (.builtin "object.__class__")))
    (gtNet : PySem.W.specialIn K (.builtin "object.__class__") "__get__" = some (some (.builtin "getset_descriptor.__get__")))
    (tkNet : PySem.W.takesIn K (.builtin "object.__class__") = some true)
    (moNet : PySem.W.mroIn K a_Net (.type "object") = some true)
    (na_Net_prices : PySem.W.findIn K (.ref a_Net) "_prices" = some none)
    (na_Net_racks : PySem.W.findIn K (.ref a_Net) "_racks" = some none)
    (na_Net_links : PySem.W.findIn K (.ref a_Net) "_links" = some none)
    (na_Net_home : PySem.W.findIn K (.ref a_Net) "_home" = some none)
    (na_Net_spots : PySem.W.findIn K (.ref a_Net) "_spots" = some none)
    (na_Net_trees : PySem.W.findIn K (.ref a_Net) "_trees" = some none)
    (gc_MOST_PIECES : PySem.W.nsIn K mainGlobals "MOST_PIECES" = some (some (.int 6 t_MOST_PIECES)))
    (gc_MOST_PARTS : PySem.W.nsIn K mainGlobals "MOST_PARTS" = some (some (.int 3 t_MOST_PARTS)))
    (gc_GREATEST_PRICE : PySem.W.nsIn K mainGlobals "GREATEST_PRICE" = some (some (.int 1000 t_GREATEST_PRICE)))
    (gc_GREATEST_RACK : PySem.W.nsIn K mainGlobals "GREATEST_RACK" = some (some (.int 4 t_GREATEST_RACK)))
    (gc_MOST_LINKS : PySem.W.nsIn K mainGlobals "MOST_LINKS" = some (some (.int 10 t_MOST_LINKS)))
    (lx_InvalidSpots : K.lookup a_InvalidSpots = some (PySem.excClassObj nm_InvalidSpots qn_InvalidSpots a_InvalidSpots N_InvalidSpots bs_InvalidSpots bm_InvalidSpots true sn_InvalidSpots sub_InvalidSpots ab_InvalidSpots col_InvalidSpots dd_InvalidSpots k0_InvalidSpots k1_InvalidSpots k2_InvalidSpots k3_InvalidSpots k5_InvalidSpots "Exception.__new__"))
    (lr_InvalidSpots : RefsT [.type "Exception", .type "BaseException", .type "object"] bm_InvalidSpots)
    (sa_InvalidSpots : PySem.W.findIn K (.ref a_InvalidSpots) "__setattr__" = some (some (.builtin "object.__setattr__")))
    (ty_InvalidSpots : PySem.W.typeIn K (.ref a_InvalidSpots) = some (.type "type"))
    (kp_InvalidSpots : PySem.W.keepIn K (.ref a_InvalidSpots) = true)
    (t_InvalidSpots : PySem.W.typeIn K (.ref a_InvalidSpots_init) = some (.type "function"))
    (h_InvalidSpots : PySem.W.findIn K (.ref a_InvalidSpots) "value" = some none)
    (lx_InvalidCost : K.lookup a_InvalidCost = some (PySem.excClassObj nm_InvalidCost qn_InvalidCost a_InvalidCost N_InvalidCost bs_InvalidCost bm_InvalidCost true sn_InvalidCost sub_InvalidCost ab_InvalidCost col_InvalidCost dd_InvalidCost k0_InvalidCost k1_InvalidCost k2_InvalidCost k3_InvalidCost k5_InvalidCost "Exception.__new__"))
    (lr_InvalidCost : RefsT [.type "Exception", .type "BaseException", .type "object"] bm_InvalidCost)
    (sa_InvalidCost : PySem.W.findIn K (.ref a_InvalidCost) "__setattr__" = some (some (.builtin "object.__setattr__")))
    (ty_InvalidCost : PySem.W.typeIn K (.ref a_InvalidCost) = some (.type "type"))
    (kp_InvalidCost : PySem.W.keepIn K (.ref a_InvalidCost) = true)
    (t_InvalidCost : PySem.W.typeIn K (.ref a_InvalidCost_init) = some (.type "function"))
    (h_InvalidCost : PySem.W.findIn K (.ref a_InvalidCost) "value" = some none)
    (hg_InvalidCost : PySem.W.findIn K (.ref a_InvalidCost) "__getattribute__" = some (some (.builtin "BaseException.__getattribute__")))
    (hk_InvalidCost : PySem.W.findIn K (.ref a_InvalidCost) "__getattr__" = some none)
    (hs_InvalidCost : PySem.W.subIn K (.ref a_InvalidCost) (.type "BaseException") = some true)
    (hd_InvalidCost : PySem.W.hasDictIn K a_InvalidCost = true)
    (z_InvalidCost : PySem.W.findIn K (.ref a_InvalidCost) "value" = some none)
    (e_InvalidCost_InvalidCost : PySem.W.exmOne K (.ref a_InvalidCost) (.ref a_InvalidCost) = some true)
    (e_InvalidCost_InvalidSpots : PySem.W.exmOne K (.ref a_InvalidCost) (.ref a_InvalidSpots) = some false)
    (hg_InvalidSpots : PySem.W.findIn K (.ref a_InvalidSpots) "__getattribute__" = some (some (.builtin "BaseException.__getattribute__")))
    (hk_InvalidSpots : PySem.W.findIn K (.ref a_InvalidSpots) "__getattr__" = some none)
    (hs_InvalidSpots : PySem.W.subIn K (.ref a_InvalidSpots) (.type "BaseException") = some true)
    (hd_InvalidSpots : PySem.W.hasDictIn K a_InvalidSpots = true)
    (z_InvalidSpots : PySem.W.findIn K (.ref a_InvalidSpots) "value" = some none)
    (e_InvalidSpots_InvalidCost : PySem.W.exmOne K (.ref a_InvalidSpots) (.ref a_InvalidCost) = some false)
    (e_InvalidSpots_InvalidSpots : PySem.W.exmOne K (.ref a_InvalidSpots) (.ref a_InvalidSpots) = some true)
    (fiP : PySem.W.fnIn K a_Prices_call = true)
    (fiN : PySem.W.fnIn K a_Net_call = true)
    (kpP : PySem.W.kitOne K (.ref a_Prices) (.ref a_Prices) = some true)
    (ktNoneType : PySem.W.kitOne K (.type "NoneType") (.ref a_Prices) = some false)
    (ktint : PySem.W.kitOne K (.type "int") (.ref a_Prices) = some false)
    (ktbool : PySem.W.kitOne K (.type "bool") (.ref a_Prices) = some false)
    (ktstr : PySem.W.kitOne K (.type "str") (.ref a_Prices) = some false)
    (ktlist : PySem.W.kitOne K (.type "list") (.ref a_Prices) = some false)
    (kttuple : PySem.W.kitOne K (.type "tuple") (.ref a_Prices) = some false)
    (ktdict : PySem.W.kitOne K (.type "dict") (.ref a_Prices) = some false)
    (hcl1 : cd_law = .ref cl1)
    (lkc1 : K.lookup cl1 = some ⟨.type "code", odc1, .fields vsc1, slc1⟩)
    (v111 : vsc1[11]? = some (.ref P1))
    (vck1 : codeB vsc1 cl1 P1 = true)
    (lkP1 : K.lookup P1 = none)
    (rcP1 : (recsOf q).find? (fun e => e.name == ("law" : Str)) = some dr1) :
    ∃ (fd : FuncData) (cs : List (Addr × Addr × Str)) (W : Pd.DC), (∀ t ∈ cs, K.lookup t.2.1 = none ∧ PySem.W.codeHdIn K t.1 t.2.1 = true ∧ ∃ (y : Str) (d' : DefRec), (recsOf q).find? (fun e => e.name == y) = some d' ∧ PySem.W.tabIn K y = some (t.1, t.2.1)) ∧ (cs.map (·.2.1)).Nodup ∧ (∀ (s : Shared) (u : Value), BindsTo s fd ⟨[u], []⟩ [("_law_script", u)]) ∧ (∀ ns : List Int, ns.length ≤ 63 → W [.lst (Pd.dI ns)] (Pd.tabsM cs) fun d _ => d = .bl true) ∧ ∀ base : Heap, K.In base → base.Ns mainGlobals mg → (∀ t ∈ cs, LamX.TabB base mg t.1 t.2.1) → FnG l.prog w K mg base 16 fa fd ["_law_script"] (spD 1 W K) := by
  have e := hfa.symm.trans (PySem.W.mg_of X G g_law)
  have e2 : a_law = fa := by cases e; rfl
  let T : Tx l.prog w K mg := {
    a_InvalidSpots := a_InvalidSpots
    g_InvalidSpots := PySem.W.mg_of X G g_InvalidSpots
    a_InvalidCost := a_InvalidCost
    g_InvalidCost := PySem.W.mg_of X G g_InvalidCost
    a_Prices := a_Prices
    g_Prices := PySem.W.mg_of X G g_Prices
    a_Net := a_Net
    g_Net := PySem.W.mg_of X G g_Net
    a_is_integer := a_is_integer
    f_is_integer := _
    F_is_integer := fun_mk (st := s_is_integer) l_is_integer c_is_integer k_is_integer
    b_is_integer := (fun_mk (st := s_is_integer) l_is_integer c_is_integer k_is_integer).binds fun _ _ _ _ _ _ us hl => match us, hl with | [_], _ => rfl
    g_is_integer := PySem.W.mg_of X G g_is_integer
    a_is_between := a_is_between
    f_is_between := _
    F_is_between := fun_mk (st := s_is_between) l_is_between c_is_between k_is_between
    b_is_between := (fun_mk (st := s_is_between) l_is_between c_is_between k_is_between).binds fun _ _ _ _ _ _ us hl => match us, hl with | [_, _, _], _ => rfl
    g_is_between := PySem.W.mg_of X G g_is_between
    a_has_items := a_has_items
    f_has_items := _
    F_has_items := fun_mk (st := s_has_items) l_has_items c_has_items k_has_items
    b_has_items := (fun_mk (st := s_has_items) l_has_items c_has_items k_has_items).binds fun _ _ _ _ _ _ us hl => match us, hl with | [_, _, _], _ => rfl
    g_has_items := PySem.W.mg_of X G g_has_items
    a_all_between := a_all_between
    f_all_between := _
    F_all_between := fun_mk (st := s_all_between) l_all_between c_all_between k_all_between
    b_all_between := (fun_mk (st := s_all_between) l_all_between c_all_between k_all_between).binds fun _ _ _ _ _ _ us hl => match us, hl with | [_, _, _], _ => rfl
    g_all_between := PySem.W.mg_of X G g_all_between
    a_is_ascending := a_is_ascending
    f_is_ascending := _
    F_is_ascending := fun_mk (st := s_is_ascending) l_is_ascending c_is_ascending k_is_ascending
    b_is_ascending := (fun_mk (st := s_is_ascending) l_is_ascending c_is_ascending k_is_ascending).binds fun _ _ _ _ _ _ us hl => match us, hl with | [_], _ => rfl
    g_is_ascending := PySem.W.mg_of X G g_is_ascending
    a_is_spot := a_is_spot
    f_is_spot := _
    F_is_spot := fun_mk (st := s_is_spot) l_is_spot c_is_spot k_is_spot
    b_is_spot := (fun_mk (st := s_is_spot) l_is_spot c_is_spot k_is_spot).binds fun _ _ _ _ _ _ us hl => match us, hl with | [_, _], _ => rfl
    g_is_spot := PySem.W.mg_of X G g_is_spot
    a_are_spots := a_are_spots
    f_are_spots := _
    F_are_spots := fun_mk (st := s_are_spots) l_are_spots c_are_spots k_are_spots
    b_are_spots := (fun_mk (st := s_are_spots) l_are_spots c_are_spots k_are_spots).binds fun _ _ _ _ _ _ us hl => match us, hl with | [_, _], _ => rfl
    g_are_spots := PySem.W.mg_of X G g_are_spots
    a_spots_of_parts := a_spots_of_parts
    f_spots_of_parts := _
    F_spots_of_parts := fun_mk (st := s_spots_of_parts) l_spots_of_parts c_spots_of_parts k_spots_of_parts
    b_spots_of_parts := (fun_mk (st := s_spots_of_parts) l_spots_of_parts c_spots_of_parts k_spots_of_parts).binds fun _ _ _ _ _ _ us hl => match us, hl with | [_], _ => rfl
    g_spots_of_parts := PySem.W.mg_of X G g_spots_of_parts
    a_all_groups := a_all_groups
    f_all_groups := _
    F_all_groups := fun_mk (st := s_all_groups) l_all_groups c_all_groups k_all_groups
    b_all_groups := (fun_mk (st := s_all_groups) l_all_groups c_all_groups k_all_groups).binds fun _ _ _ _ _ _ us hl => match us, hl with | [_], _ => rfl
    g_all_groups := PySem.W.mg_of X G g_all_groups
    a_InvalidSpots_init := a_InvalidSpots_init
    f_InvalidSpots_init := _
    F_InvalidSpots_init := fun_mk (st := s_InvalidSpots_init) l_InvalidSpots_init c_InvalidSpots_init k_InvalidSpots_init
    b_InvalidSpots_init := (fun_mk (st := s_InvalidSpots_init) l_InvalidSpots_init c_InvalidSpots_init k_InvalidSpots_init).binds fun _ _ _ _ _ _ us hl => match us, hl with | [_, _], _ => rfl
    a_InvalidCost_init := a_InvalidCost_init
    f_InvalidCost_init := _
    F_InvalidCost_init := fun_mk (st := s_InvalidCost_init) l_InvalidCost_init c_InvalidCost_init k_InvalidCost_init
    b_InvalidCost_init := (fun_mk (st := s_InvalidCost_init) l_InvalidCost_init c_InvalidCost_init k_InvalidCost_init).binds fun _ _ _ _ _ _ us hl => match us, hl with | [_, _], _ => rfl
    a_are_prices := a_are_prices
    f_are_prices := _
    F_are_prices := fun_mk (st := s_are_prices) l_are_prices c_are_prices k_are_prices
    b_are_prices := (fun_mk (st := s_are_prices) l_are_prices c_are_prices k_are_prices).binds fun _ _ _ _ _ _ us hl => match us, hl with | [_, _, _], _ => rfl
    g_are_prices := PySem.W.mg_of X G g_are_prices
    a_Prices_init := a_Prices_init
    f_Prices_init := _
    F_Prices_init := fun_mk (st := s_Prices_init) l_Prices_init c_Prices_init k_Prices_init
    b_Prices_init := (fun_mk (st := s_Prices_init) l_Prices_init c_Prices_init k_Prices_init).binds fun _ _ _ _ _ _ us hl => match us, hl with | [_, _, _, _], _ => rfl
    a_Prices_parts := a_Prices_parts
    f_Prices_parts := _
    F_Prices_parts := fun_mk (st := s_Prices_parts) l_Prices_parts c_Prices_parts k_Prices_parts
    b_Prices_parts := (fun_mk (st := s_Prices_parts) l_Prices_parts c_Prices_parts k_Prices_parts).binds fun _ _ _ _ _ _ us hl => match us, hl with | [_], _ => rfl
    a_Prices_call := a_Prices_call
    f_Prices_call := _
    F_Prices_call := fun_mk (st := s_Prices_call) l_Prices_call c_Prices_call k_Prices_call
    b_Prices_call := (fun_mk (st := s_Prices_call) l_Prices_call c_Prices_call k_Prices_call).binds fun _ _ _ _ _ _ us hl => match us, hl with | [_, _], _ => rfl
    a_Prices_paid := a_Prices_paid
    f_Prices_paid := _
    F_Prices_paid := fun_mk (st := s_Prices_paid) l_Prices_paid c_Prices_paid k_Prices_paid
    b_Prices_paid := (fun_mk (st := s_Prices_paid) l_Prices_paid c_Prices_paid k_Prices_paid).binds fun _ _ _ _ _ _ us hl => match us, hl with | [_, _], _ => rfl
    a_Prices_part_prices := a_Prices_part_prices
    f_Prices_part_prices := _
    F_Prices_part_prices := fun_mk (st := s_Prices_part_prices) l_Prices_part_prices c_Prices_part_prices k_Prices_part_prices
    b_Prices_part_prices := (fun_mk (st := s_Prices_part_prices) l_Prices_part_prices c_Prices_part_prices k_Prices_part_prices).binds fun _ _ _ _ _ _ us hl => match us, hl with | [_, _], _ => rfl
    a_is_rack := a_is_rack
    f_is_rack := _
    F_is_rack := fun_mk (st := s_is_rack) l_is_rack c_is_rack k_is_rack
    b_is_rack := (fun_mk (st := s_is_rack) l_is_rack c_is_rack k_is_rack).binds fun _ _ _ _ _ _ us hl => match us, hl with | [_], _ => rfl
    g_is_rack := PySem.W.mg_of X G g_is_rack
    a_is_link := a_is_link
    f_is_link := _
    F_is_link := fun_mk (st := s_is_link) l_is_link c_is_link k_is_link
    b_is_link := (fun_mk (st := s_is_link) l_is_link c_is_link k_is_link).binds fun _ _ _ _ _ _ us hl => match us, hl with | [_], _ => rfl
    g_is_link := PySem.W.mg_of X G g_is_link
    a_are_links := a_are_links
    f_are_links := _
    F_are_links := fun_mk (st := s_are_links) l_are_links c_are_links k_are_links
    b_are_links := (fun_mk (st := s_are_links) l_are_links c_are_links k_are_links).binds fun _ _ _ _ _ _ us hl => match us, hl with | [_], _ => rfl
    g_are_links := PySem.W.mg_of X G g_are_links
    a_reached := a_reached
    f_reached := _
    F_reached := fun_mk (st := s_reached) l_reached c_reached k_reached
    b_reached := (fun_mk (st := s_reached) l_reached c_reached k_reached).binds fun _ _ _ _ _ _ us hl => match us, hl with | [_, _], _ => rfl
    g_reached := PySem.W.mg_of X G g_reached
    a_least_trees := a_least_trees
    f_least_trees := _
    F_least_trees := fun_mk (st := s_least_trees) l_least_trees c_least_trees k_least_trees
    b_least_trees := (fun_mk (st := s_least_trees) l_least_trees c_least_trees k_least_trees).binds fun _ _ _ _ _ _ us hl => match us, hl with | [_, _], _ => rfl
    g_least_trees := PySem.W.mg_of X G g_least_trees
    a_Net_init := a_Net_init
    f_Net_init := _
    F_Net_init := fun_mk (st := s_Net_init) l_Net_init c_Net_init k_Net_init
    b_Net_init := (fun_mk (st := s_Net_init) l_Net_init c_Net_init k_Net_init).binds fun _ _ _ _ _ _ us hl => match us, hl with | [_, _, _, _, _], _ => rfl
    a_Net_call := a_Net_call
    f_Net_call := _
    F_Net_call := fun_mk (st := s_Net_call) l_Net_call c_Net_call k_Net_call
    b_Net_call := (fun_mk (st := s_Net_call) l_Net_call c_Net_call k_Net_call).binds fun _ _ _ _ _ _ us hl => match us, hl with | [_, _], _ => rfl
    a_Net_paid := a_Net_paid
    f_Net_paid := _
    F_Net_paid := fun_mk (st := s_Net_paid) l_Net_paid c_Net_paid k_Net_paid
    b_Net_paid := (fun_mk (st := s_Net_paid) l_Net_paid c_Net_paid k_Net_paid).binds fun _ _ _ _ _ _ us hl => match us, hl with | [_, _], _ => rfl
    a_Net_tree := a_Net_tree
    f_Net_tree := _
    F_Net_tree := fun_mk (st := s_Net_tree) l_Net_tree c_Net_tree k_Net_tree
    b_Net_tree := (fun_mk (st := s_Net_tree) l_Net_tree c_Net_tree k_Net_tree).binds fun _ _ _ _ _ _ us hl => match us, hl with | [_, _], _ => rfl
    a_law_source := a_law_source
    f_law_source := _
    F_law_source := fun_mk (st := s_law_source) l_law_source c_law_source k_law_source
    b_law_source := (fun_mk (st := s_law_source) l_law_source c_law_source k_law_source).binds fun _ _ _ _ _ _ us hl => match us, hl with | [_, _], _ => rfl
    g_law_source := PySem.W.mg_of X G g_law_source
    a_law_draw := a_law_draw
    f_law_draw := _
    F_law_draw := fun_mk (st := s_law_draw) l_law_draw c_law_draw k_law_draw
    b_law_draw := (fun_mk (st := s_law_draw) l_law_draw c_law_draw k_law_draw).binds fun _ _ _ _ _ _ us hl => match us, hl with | [_, _], _ => rfl
    g_law_draw := PySem.W.mg_of X G g_law_draw
    a_law_pick := a_law_pick
    f_law_pick := _
    F_law_pick := fun_mk (st := s_law_pick) l_law_pick c_law_pick k_law_pick
    b_law_pick := (fun_mk (st := s_law_pick) l_law_pick c_law_pick k_law_pick).binds fun _ _ _ _ _ _ us hl => match us, hl with | [_, _], _ => rfl
    g_law_pick := PySem.W.mg_of X G g_law_pick
    a_law_said := a_law_said
    f_law_said := _
    F_law_said := fun_mk (st := s_law_said) l_law_said c_law_said k_law_said
    b_law_said := (fun_mk (st := s_law_said) l_law_said c_law_said k_law_said).binds fun _ _ _ _ _ _ us hl => match us, hl with | [_], _ => rfl
    g_law_said := PySem.W.mg_of X G g_law_said
    a_law_odd := a_law_odd
    f_law_odd := _
    F_law_odd := fun_mk (st := s_law_odd) l_law_odd c_law_odd k_law_odd
    b_law_odd := (fun_mk (st := s_law_odd) l_law_odd c_law_odd k_law_odd).binds fun _ _ _ _ _ _ us hl => match us, hl with | [_, _], _ => rfl
    g_law_odd := PySem.W.mg_of X G g_law_odd
    a_law := a_law
    f_law := _
    F_law := fun_mk (st := s_law) l_law c_law k_law
    b_law := (fun_mk (st := s_law) l_law c_law k_law).binds fun _ _ _ _ _ _ us hl => match us, hl with | [_], _ => rfl
    g_law := PySem.W.mg_of X G g_law
    n_isinstance := PySem.W.mg_none_of X G n_isinstance
    n_int := PySem.W.mg_none_of X G n_int
    n_bool := PySem.W.mg_none_of X G n_bool
    n_list := PySem.W.mg_none_of X G n_list
    n_tuple := PySem.W.mg_none_of X G n_tuple
    n_len := PySem.W.mg_none_of X G n_len
    n_all := PySem.W.mg_none_of X G n_all
    n_sum := PySem.W.mg_none_of X G n_sum
    n_zip := PySem.W.mg_none_of X G n_zip
    n_max := PySem.W.mg_none_of X G n_max
    n_min := PySem.W.mg_none_of X G n_min
    n_range := PySem.W.mg_none_of X G n_range
    n_sorted := PySem.W.mg_none_of X G n_sorted
    n_enumerate := PySem.W.mg_none_of X G n_enumerate
    n_set := PySem.W.mg_none_of X G n_set
    n_repr := PySem.W.mg_none_of X G n_repr
    c_Prices := ⟨⟨pgPrices, hdPrices, poPrices, saPrices⟩, clPrices, gtPrices, tkPrices, moPrices⟩
    m_Prices := ⟨mkPrices, f_Prices_init, i_Prices_init, kpPrices⟩
    c_Net := ⟨⟨pgNet, hdNet, poNet, saNet⟩, clNet, gtNet, tkNet, moNet⟩
    m_Net := ⟨mkNet, f_Net_init, i_Net_init, kpNet⟩
    t_MOST_PIECES := t_MOST_PIECES
    g_MOST_PIECES := PySem.W.mg_of X G gc_MOST_PIECES
    t_MOST_PARTS := t_MOST_PARTS
    g_MOST_PARTS := PySem.W.mg_of X G gc_MOST_PARTS
    t_GREATEST_PRICE := t_GREATEST_PRICE
    g_GREATEST_PRICE := PySem.W.mg_of X G gc_GREATEST_PRICE
    t_GREATEST_RACK := t_GREATEST_RACK
    g_GREATEST_RACK := PySem.W.mg_of X G gc_GREATEST_RACK
    t_MOST_LINKS := t_MOST_LINKS
    g_MOST_LINKS := PySem.W.mg_of X G gc_MOST_LINKS
    x_InvalidSpots := ⟨⟨_, _, _, _, _, _, _, _, _, _, _, _, _, _, _, lx_InvalidSpots, lr_InvalidSpots⟩, sa_InvalidSpots, hs_InvalidSpots, ty_InvalidSpots, kp_InvalidSpots⟩
    i_InvalidSpots := f_InvalidSpots_init
    t_InvalidSpots := t_InvalidSpots
    h_InvalidSpots := h_InvalidSpots
    x_InvalidCost := ⟨⟨_, _, _, _, _, _, _, _, _, _, _, _, _, _, _, lx_InvalidCost, lr_InvalidCost⟩, sa_InvalidCost, hs_InvalidCost, ty_InvalidCost, kp_InvalidCost⟩
    i_InvalidCost := f_InvalidCost_init
    t_InvalidCost := t_InvalidCost
    h_InvalidCost := h_InvalidCost
    y_InvalidCost := ⟨hg_InvalidCost, hk_InvalidCost, hs_InvalidCost, hd_InvalidCost⟩
    z_InvalidCost := z_InvalidCost
    e_InvalidCost_InvalidCost := e_InvalidCost_InvalidCost
    e_InvalidCost_InvalidSpots := e_InvalidCost_InvalidSpots
    y_InvalidSpots := ⟨hg_InvalidSpots, hk_InvalidSpots, hs_InvalidSpots, hd_InvalidSpots⟩
    z_InvalidSpots := z_InvalidSpots
    e_InvalidSpots_InvalidCost := e_InvalidSpots_InvalidCost
    e_InvalidSpots_InvalidSpots := e_InvalidSpots_InvalidSpots
    call_Prices := ⟨f_Prices_call, i_Prices_call, fiP⟩
    call_Net := ⟨f_Net_call, i_Net_call, fiN⟩
    me_paid := ⟨f_Prices_paid, i_Prices_paid, k_Prices_paid⟩
    me_prices := ⟨f_Prices_part_prices, i_Prices_part_prices, k_Prices_part_prices⟩
    me_tree := ⟨f_Net_tree, i_Net_tree, k_Net_tree⟩
    me_npaid := ⟨f_Net_paid, i_Net_paid, k_Net_paid⟩
    kp_Prices := kpP
    q_Prices_parts := q_Prices_parts
    pp_Prices_parts := ⟨pa_Prices_parts, pg_Prices_parts, pt_Prices_parts, ⟨_, pc_Prices_parts⟩⟩
    kt_NoneType := ktNoneType
    kt_int := ktint
    kt_bool := ktbool
    kt_str := ktstr
    kt_list := ktlist
    kt_tuple := kttuple
    kt_dict := ktdict
    np_parts := na_Prices_parts
    np_wholes := na_Prices_wholes
    np_opens := na_Prices_opens
    np_spots := na_Prices_spots
    nn_prices := na_Net_prices
    nn_racks := na_Net_racks
    nn_links := na_Net_links
    nn_home := na_Net_home
    nn_spots := na_Net_spots
    nn_trees := na_Net_trees
    cl1 := cl1
    P1 := P1
    hcl1 := hcl1 }
  refine ⟨T.f_law, [(cl1, P1, lq1)], W_law P1, fun t ht => ?_, ?_, fun s v => .of_eq rfl, fun ns _ => ⟨ns, rfl, rfl, rfl⟩, fun base _ _ hTB => ?_⟩
  · simp only [List.mem_cons, List.not_mem_nil, or_false] at ht
    rcases ht with rfl
    · exact ⟨lkP1, codeB_hd lkc1 v111 vck1, "law", dr1, rcP1, tab_mk g_law l_law hcl1 lkc1 v111⟩
  · simp
  · rw [← e2]
    exact ok_law T (hTB _ List.mem_cons_self)
end K58
open PySem PySem.W PyProof.Rows
set_option maxRecDepth 100000 in
set_option maxHeartbeats 0 in
theorem PySem.Challenge.cw_leastreads_k58_nets_refused_holds : PySem.Challenge.rw_leastreads_k58_nets_refused.Holds := by
  w_on; o_law
  refine holds_open (d := HandSHeadRun.topDef Hk58.R.prog 36) (kwd := []) (q := Hk58.qv) (loose := Hk58.lo) (Xt := fun s => xlAt Hk58.qv [] s && recOk (RowW.records (OpenRow.toRowW Hk58.R)) s) (XP := XL Hk58.qv []) (Yf := Hook.obs (kHook Hk58.frag.heap_1 Hk58.asL Hk58.ek)) (Ya := Hook.val (kHook Hk58.frag.heap_1 Hk58.asL Hk58.ek)) (YP := Hook.says (kHook Hk58.frag.heap_1 Hk58.asL Hk58.ek)) (N := 6440) Hk58.left (Hook.of (kHook Hk58.frag.heap_1 Hk58.asL Hk58.ek)) (Hook.keeps (kHook Hk58.frag.heap_1 Hk58.asL Hk58.ek)) (fun s e => xl_of s (Bool.and_eq_true_iff.mp e).1) XL.keeps (by kernel_rfl) (by kernel_rfl) (by kernel_rfl) (fun s e => recFacts_of (Bool.and_eq_true_iff.mp e).2) (by rfl) (by first | assumption | decide +kernel) (by decide +kernel) ⟨rfl, rfl, rfl, rfl, rfl, by decide +kernel⟩ ?hw ?hc
  case hw => w_witness2
  case' hc => k_fill
  refine Pd.walk_ofT (l := PySem.Challenge.rw_leastreads_k58_nets_refused) (n := 63) (k := 16) (x := "_law_script") (W := fun _ _ => K58.W_law 0) rfl (by decide) (by kernel_rfl) ⟨rfl, by decide, by decide⟩ (fun w h Y => PySem.W.kIn_of Y) ?F
  case F =>
    intro w mg fa h KX G hmg0
    have hmg : mg ("law" : PySem.Str) = some (.ref fa) := by
      have e : (HandSHeadRun.topDef Hk58.R.prog 36).name = ("law" : PySem.Str) := by kernel_rfl
      rw [← e]
      exact hmg0
    refine' K58.all_mk KX G hmg ?g_InvalidSpots ?g_InvalidCost ?g_Prices ?g_Net ?g_is_integer ?i_is_integer ?l_is_integer ?c_is_integer ?k_is_integer ?g_is_between ?i_is_between ?l_is_between ?c_is_between ?k_is_between ?g_has_items ?i_has_items ?l_has_items ?c_has_items ?k_has_items ?g_all_between ?i_all_between ?l_all_between ?c_all_between ?k_all_between ?g_is_ascending ?i_is_ascending ?l_is_ascending ?c_is_ascending ?k_is_ascending ?g_is_spot ?i_is_spot ?l_is_spot ?c_is_spot ?k_is_spot ?g_are_spots ?i_are_spots ?l_are_spots ?c_are_spots ?k_are_spots ?g_spots_of_parts ?i_spots_of_parts ?l_spots_of_parts ?c_spots_of_parts ?k_spots_of_parts ?g_all_groups ?i_all_groups ?l_all_groups ?c_all_groups ?k_all_groups ?f_InvalidSpots_init ?i_InvalidSpots_init ?l_InvalidSpots_init ?c_InvalidSpots_init ?k_InvalidSpots_init ?f_InvalidCost_init ?i_InvalidCost_init ?l_InvalidCost_init ?c_InvalidCost_init ?k_InvalidCost_init ?g_are_prices ?i_are_prices ?l_are_prices ?c_are_prices ?k_are_prices ?f_Prices_init ?i_Prices_init ?l_Prices_init ?c_Prices_init ?k_Prices_init ?pa_Prices_parts ?pg_Prices_parts ?pt_Prices_parts ?pc_Prices_parts ?i_Prices_parts ?l_Prices_parts ?c_Prices_parts ?k_Prices_parts ?f_Prices_call ?i_Prices_call ?l_Prices_call ?c_Prices_call ?k_Prices_call ?f_Prices_paid ?i_Prices_paid ?l_Prices_paid ?c_Prices_paid ?k_Prices_paid ?f_Prices_part_prices ?i_Prices_part_prices ?l_Prices_part_prices ?c_Prices_part_prices ?k_Prices_part_prices ?g_is_rack ?i_is_rack ?l_is_rack ?c_is_rack ?k_is_rack ?g_is_link ?i_is_link ?l_is_link ?c_is_link ?k_is_link ?g_are_links ?i_are_links ?l_are_links ?c_are_links ?k_are_links ?g_reached ?i_reached ?l_reached ?c_reached ?k_reached ?g_least_trees ?i_least_trees ?l_least_trees ?c_least_trees ?k_least_trees ?f_Net_init ?i_Net_init ?l_Net_init ?c_Net_init ?k_Net_init ?f_Net_call ?i_Net_call ?l_Net_call ?c_Net_call ?k_Net_call ?f_Net_paid ?i_Net_paid ?l_Net_paid ?c_Net_paid ?k_Net_paid ?f_Net_tree ?i_Net_tree ?l_Net_tree ?c_Net_tree ?k_Net_tree ?g_law_source ?i_law_source ?l_law_source ?c_law_source ?k_law_source ?g_law_draw ?i_law_draw ?l_law_draw ?c_law_draw ?k_law_draw ?g_law_pick ?i_law_pick ?l_law_pick ?c_law_pick ?k_law_pick ?g_law_said ?i_law_said ?l_law_said ?c_law_said ?k_law_said ?g_law_odd ?i_law_odd ?l_law_odd ?c_law_odd ?k_law_odd ?g_law ?i_law ?l_law ?c_law ?k_law ?n_isinstance ?n_int ?n_bool ?n_list ?n_tuple ?n_len ?n_all ?n_sum ?n_zip ?n_max ?n_min ?n_range ?n_sorted ?n_enumerate ?n_set ?n_repr ?pgPrices ?hdPrices ?poPrices ?saPrices ?mkPrices ?kpPrices ?clPrices ?gtPrices ?tkPrices ?moPrices ?na_Prices_parts ?na_Prices_wholes ?na_Prices_opens ?na_Prices_spots ?pgNet ?hdNet ?poNet ?saNet ?mkNet ?kpNet ?clNet ?gtNet ?tkNet ?moNet ?na_Net_prices ?na_Net_racks ?na_Net_links ?na_Net_home ?na_Net_spots ?na_Net_trees ?gc_MOST_PIECES ?gc_MOST_PARTS ?gc_GREATEST_PRICE ?gc_GREATEST_RACK ?gc_MOST_LINKS ?lx_InvalidSpots ?lr_InvalidSpots ?sa_InvalidSpots ?ty_InvalidSpots ?kp_InvalidSpots ?t_InvalidSpots ?h_InvalidSpots ?lx_InvalidCost ?lr_InvalidCost ?sa_InvalidCost ?ty_InvalidCost ?kp_InvalidCost ?t_InvalidCost ?h_InvalidCost ?hg_InvalidCost ?hk_InvalidCost ?hs_InvalidCost ?hd_InvalidCost ?z_InvalidCost ?e_InvalidCost_InvalidCost ?e_InvalidCost_InvalidSpots ?hg_InvalidSpots ?hk_InvalidSpots ?hs_InvalidSpots ?hd_InvalidSpots ?z_InvalidSpots ?e_InvalidSpots_InvalidCost ?e_InvalidSpots_InvalidSpots ?fiP ?fiN ?kpP ?ktNoneType ?ktint ?ktbool ?ktstr ?ktlist ?kttuple ?ktdict ?hcl1 ?lkc1 ?v111 ?vck1 ?lkP1 ?rcP1
    (case g_InvalidSpots => k_is)
    (case g_InvalidCost => k_is)
    (case g_Prices => k_is)
    (case g_Net => k_is)
    (case g_is_integer => k_is)
    (case i_is_integer => k_is)
    (case l_is_integer => k_is)
    (case c_is_integer => k_is)
    (case k_is_integer => k_is)
    (case g_is_between => k_is)
    (case i_is_between => k_is)
    (case l_is_between => k_is)
    (case c_is_between => k_is)
    (case k_is_between => k_is)
    (case g_has_items => k_is)
    (case i_has_items => k_is)
    (case l_has_items => k_is)
    (case c_has_items => k_is)
    (case k_has_items => k_is)
    (case g_all_between => k_is)
    (case i_all_between => k_is)
    (case l_all_between => k_is)
    (case c_all_between => k_is)
    (case k_all_between => k_is)
    (case g_is_ascending => k_is)
    (case i_is_ascending => k_is)
    (case l_is_ascending => k_is)
    (case c_is_ascending => k_is)
    (case k_is_ascending => k_is)
    (case g_is_spot => k_is)
    (case i_is_spot => k_is)
    (case l_is_spot => k_is)
    (case c_is_spot => k_is)
    (case k_is_spot => k_is)
    (case g_are_spots => k_is)
    (case i_are_spots => k_is)
    (case l_are_spots => k_is)
    (case c_are_spots => k_is)
    (case k_are_spots => k_is)
    (case g_spots_of_parts => k_is)
    (case i_spots_of_parts => k_is)
    (case l_spots_of_parts => k_is)
    (case c_spots_of_parts => k_is)
    (case k_spots_of_parts => k_is)
    (case g_all_groups => k_is)
    (case i_all_groups => k_is)
    (case l_all_groups => k_is)
    (case c_all_groups => k_is)
    (case k_all_groups => k_is)
    (case f_InvalidSpots_init => k_is)
    (case i_InvalidSpots_init => k_is)
    (case l_InvalidSpots_init => k_is)
    (case c_InvalidSpots_init => k_is)
    (case k_InvalidSpots_init => k_is)
    (case f_InvalidCost_init => k_is)
    (case i_InvalidCost_init => k_is)
    (case l_InvalidCost_init => k_is)
    (case c_InvalidCost_init => k_is)
    (case k_InvalidCost_init => k_is)
    (case g_are_prices => k_is)
    (case i_are_prices => k_is)
    (case l_are_prices => k_is)
    (case c_are_prices => k_is)
    (case k_are_prices => k_is)
    (case f_Prices_init => k_is)
    (case i_Prices_init => k_is)
    (case l_Prices_init => k_is)
    (case c_Prices_init => k_is)
    (case k_Prices_init => k_is)
    (case pa_Prices_parts => k_is)
    (case pg_Prices_parts => k_is)
    (case pt_Prices_parts => k_is)
    (case pc_Prices_parts => k_is)
    (case i_Prices_parts => k_is)
    (case l_Prices_parts => k_is)
    (case c_Prices_parts => k_is)
    (case k_Prices_parts => k_is)
    (case f_Prices_call => k_is)
    (case i_Prices_call => k_is)
    (case l_Prices_call => k_is)
    (case c_Prices_call => k_is)
    (case k_Prices_call => k_is)
    (case f_Prices_paid => k_is)
    (case i_Prices_paid => k_is)
    (case l_Prices_paid => k_is)
    (case c_Prices_paid => k_is)
    (case k_Prices_paid => k_is)
    (case f_Prices_part_prices => k_is)
    (case i_Prices_part_prices => k_is)
    (case l_Prices_part_prices => k_is)
    (case c_Prices_part_prices => k_is)
    (case k_Prices_part_prices => k_is)
    (case g_is_rack => k_is)
    (case i_is_rack => k_is)
    (case l_is_rack => k_is)
    (case c_is_rack => k_is)
    (case k_is_rack => k_is)
    (case g_is_link => k_is)
    (case i_is_link => k_is)
    (case l_is_link => k_is)
    (case c_is_link => k_is)
    (case k_is_link => k_is)
    (case g_are_links => k_is)
    (case i_are_links => k_is)
    (case l_are_links => k_is)
    (case c_are_links => k_is)
    (case k_are_links => k_is)
    (case g_reached => k_is)
    (case i_reached => k_is)
    (case l_reached => k_is)
    (case c_reached => k_is)
    (case k_reached => k_is)
    (case g_least_trees => k_is)
    (case i_least_trees => k_is)
    (case l_least_trees => k_is)
    (case c_least_trees => k_is)
    (case k_least_trees => k_is)
    (case f_Net_init => k_is)
    (case i_Net_init => k_is)
    (case l_Net_init => k_is)
    (case c_Net_init => k_is)
    (case k_Net_init => k_is)
    (case f_Net_call => k_is)
    (case i_Net_call => k_is)
    (case l_Net_call => k_is)
    (case c_Net_call => k_is)
    (case k_Net_call => k_is)
    (case f_Net_paid => k_is)
    (case i_Net_paid => k_is)
    (case l_Net_paid => k_is)
    (case c_Net_paid => k_is)
    (case k_Net_paid => k_is)
    (case f_Net_tree => k_is)
    (case i_Net_tree => k_is)
    (case l_Net_tree => k_is)
    (case c_Net_tree => k_is)
    (case k_Net_tree => k_is)
    (case g_law_source => k_is)
    (case i_law_source => k_is)
    (case l_law_source => k_is)
    (case c_law_source => k_is)
    (case k_law_source => k_is)
    (case g_law_draw => k_is)
    (case i_law_draw => k_is)
    (case l_law_draw => k_is)
    (case c_law_draw => k_is)
    (case k_law_draw => k_is)
    (case g_law_pick => k_is)
    (case i_law_pick => k_is)
    (case l_law_pick => k_is)
    (case c_law_pick => k_is)
    (case k_law_pick => k_is)
    (case g_law_said => k_is)
    (case i_law_said => k_is)
    (case l_law_said => k_is)
    (case c_law_said => k_is)
    (case k_law_said => k_is)
    (case g_law_odd => k_is)
    (case i_law_odd => k_is)
    (case l_law_odd => k_is)
    (case c_law_odd => k_is)
    (case k_law_odd => k_is)
    (case g_law => k_is)
    (case i_law => k_is)
    (case l_law => k_is)
    (case c_law => k_is)
    (case k_law => k_is)
    (case n_isinstance => k_is)
    (case n_int => k_is)
    (case n_bool => k_is)
    (case n_list => k_is)
    (case n_tuple => k_is)
    (case n_len => k_is)
    (case n_all => k_is)
    (case n_sum => k_is)
    (case n_zip => k_is)
    (case n_max => k_is)
    (case n_min => k_is)
    (case n_range => k_is)
    (case n_sorted => k_is)
    (case n_enumerate => k_is)
    (case n_set => k_is)
    (case n_repr => k_is)
    (case pgPrices => k_is)
    (case hdPrices => k_is)
    (case poPrices => k_is)
    (case saPrices => k_is)
    (case mkPrices => k_is)
    (case kpPrices => k_is)
    (case clPrices => k_is)
    (case gtPrices => k_is)
    (case tkPrices => k_is)
    (case moPrices => k_is)
    (case na_Prices_parts => k_is)
    (case na_Prices_wholes => k_is)
    (case na_Prices_opens => k_is)
    (case na_Prices_spots => k_is)
    (case pgNet => k_is)
    (case hdNet => k_is)
    (case poNet => k_is)
    (case saNet => k_is)
    (case mkNet => k_is)
    (case kpNet => k_is)
    (case clNet => k_is)
    (case gtNet => k_is)
    (case tkNet => k_is)
    (case moNet => k_is)
    (case na_Net_prices => k_is)
    (case na_Net_racks => k_is)
    (case na_Net_links => k_is)
    (case na_Net_home => k_is)
    (case na_Net_spots => k_is)
    (case na_Net_trees => k_is)
    (case gc_MOST_PIECES => k_is)
    (case gc_MOST_PARTS => k_is)
    (case gc_GREATEST_PRICE => k_is)
    (case gc_GREATEST_RACK => k_is)
    (case gc_MOST_LINKS => k_is)
    (case lx_InvalidSpots => k_is)
    (case lr_InvalidSpots => first | exact .tl | exact .ref _ .tl | exact .ref _ (.ref _ .tl))
    (case sa_InvalidSpots => k_is)
    (case ty_InvalidSpots => k_is)
    (case kp_InvalidSpots => k_is)
    (case t_InvalidSpots => k_is)
    (case h_InvalidSpots => k_is)
    (case lx_InvalidCost => k_is)
    (case lr_InvalidCost => first | exact .tl | exact .ref _ .tl | exact .ref _ (.ref _ .tl))
    (case sa_InvalidCost => k_is)
    (case ty_InvalidCost => k_is)
    (case kp_InvalidCost => k_is)
    (case t_InvalidCost => k_is)
    (case h_InvalidCost => k_is)
    (case hg_InvalidCost => k_is)
    (case hk_InvalidCost => k_is)
    (case hs_InvalidCost => k_is)
    (case hd_InvalidCost => k_is)
    (case z_InvalidCost => k_is)
    (case e_InvalidCost_InvalidCost => kts_exm)
    (case e_InvalidCost_InvalidSpots => kts_exm)
    (case hg_InvalidSpots => k_is)
    (case hk_InvalidSpots => k_is)
    (case hs_InvalidSpots => k_is)
    (case hd_InvalidSpots => k_is)
    (case z_InvalidSpots => k_is)
    (case e_InvalidSpots_InvalidCost => kts_exm)
    (case e_InvalidSpots_InvalidSpots => kts_exm)
    (case fiP => k_is)
    (case fiN => k_is)
    (case kpP => kit_is)
    (case ktNoneType => kit_is)
    (case ktint => kit_is)
    (case ktbool => kit_is)
    (case ktstr => kit_is)
    (case ktlist => kit_is)
    (case kttuple => kit_is)
    (case ktdict => kit_is)
    (case hcl1 => rfl)
    (case lkc1 => k_is)
    (case v111 => rfl)
    (case vck1 => rfl)
    (case lkP1 => rfl)
    (case rcP1 => rfl)
