import PyProof.Rows.All
import Wide.All
import OpenK.AllK
import Wide.FinOn
import KE.KStateDown
import Lean
import HandS.ForMost
import HandS.Exc
import HandS.TryOnly
import HandS.ExcOwn
import HandS.WordsExc
import HandS.Defaults
import HandS.IsInst
import HandS.Wide
import HandS.Flow
import HandS.Style
import HandS.Property
import HandS.DictComp
import HandS.FStr
import HandS.Strs
import HandS.TupAny
import HandS.TupMul
import HandS.Conv
import HandS.More
import PyProof.StrLawsRepr
import PyProof.FitsInt
import KE.KFmtOwn
import PyProof.NeKinds
import PyProof.ListStr
import PyProof.StrOps2
import KE.KDictPairs
import KE.KDictSum
import HandS.HeadEnd
import PyProof.InstNe
import HandS.MakeKwOnly
import HandS.Iter
import HandS.OwnEq
import PySem.Challenge.RW_cellsenough_k02_terms_told_and_shifted
import HandS.Walk
import HandS.StrMore
import HandS.DictSub
import HandS.ExcCtx
import HandS.SuiteRaise
import HandS.Deep
import HandS.DeepEq
import HandS.Zip
import HandS.ExcValue
import KE.KDictZip
import HandS.Star
import HandS.ExcInit
import HandS.ExcField
import KE.KExcInit
import HandS.TryMany
import HandS.Lambda
import HandS.EndBits
import HandS.EndTab
import HandS.HeadHook1
import HandS.Ends
import HandS.Head0
import HandS.Head1
import HandS.Head2
import HandS.HeadHook2
set_option Elab.async false
set_option linter.all false
set_option maxRecDepth 100000
set_option maxHeartbeats 0
namespace Kx
open PySem PySem.Spec PyProof.Rows L2

/-! ### data that stand in the heap, apart from some addresses -/
def keyD : Key → PyData
  | .inl i => .int i
  | .inr x => .str x
mutual
inductive Dv (ex : Addr → Prop) (H : Hp) : V → PyData → Prop
  | non : Dv ex H .non .none
  | bl (b : Bool) : Dv ex H (.bl b) (.bool b)
  | int (i : Int) : Dv ex H (.int i) (.int i)
  | str (x : Str) : Dv ex H (.str x) (.str x)
  | lst {a : Addr} {xs : List V} {ds : List PyData} : ¬ ex a → H a = some (.lst xs) → DvL ex H xs ds → Dv ex H (.ref a) (.list ds)
  | tup {a : Addr} {o : Obj} {xs : List V} {ds : List PyData} : o.dict = none → H a = some (.frz o (.tup xs)) → DvL ex H xs ds → Dv ex H (.ref a) (.tuple ds)
  | dic {a : Addr} {kvs : List (Key × V)} {es : List (PyData × PyData)} : ¬ ex a → H a = some (.dK kvs) → DvK ex H kvs es → Dv ex H (.ref a) (.dict es)
inductive DvL (ex : Addr → Prop) (H : Hp) : List V → List PyData → Prop
  | nil : DvL ex H [] []
  | cons {v : V} {vs : List V} {d : PyData} {ds : List PyData} : Dv ex H v d → DvL ex H vs ds → DvL ex H (v :: vs) (d :: ds)
inductive DvK (ex : Addr → Prop) (H : Hp) : List (Key × V) → List (PyData × PyData) → Prop
  | nil : DvK ex H [] []
  | cons {k : Key} {v : V} {d : PyData} {kvs : List (Key × V)} {es : List (PyData × PyData)} : Dv ex H v d → DvK ex H kvs es → DvK ex H ((k, v) :: kvs) ((keyD k, d) :: es)
end
/-- a plain tuple that was made here -/
def TupF (H : Hp) (a : Addr) (xs : List V) : Prop := ∃ o : Obj, o.dict = none ∧ H a = some (.frz o (.tup xs))
theorem TupF.sq {K : PySem.W.Frag} {H : Hp} {a : Addr} {xs : List V} (h : TupF H a xs) : SqT K H a xs := let ⟨o, _, e⟩ := h; .inl (.inr ⟨o, e⟩)
/-- all but ex stays, and all that never changes -/
def Kp (ex : Addr → Prop) (H H' : Hp) : Prop := ∀ a o, H a = some o → (ex a → ∃ ob u, o = HO.frz ob u) → H' a = some o
theorem Kp.get {ex : Addr → Prop} {H H' : Hp} (k : Kp ex H H') {a : Addr} {o : HO} (e : H a = some o) (n : ¬ ex a) : H' a = some o := k a o e fun z => absurd z n
theorem Kp.tup {ex : Addr → Prop} {H H' : Hp} (k : Kp ex H H') {a : Addr} {xs : List V} (h : TupF H a xs) : TupF H' a xs := by
  obtain ⟨o, od, e⟩ := h
  exact ⟨o, od, k a _ e fun _ => ⟨_, _, rfl⟩⟩
theorem Kp.refl {ex : Addr → Prop} {H : Hp} : Kp ex H H := fun _ _ e _ => e
theorem Kp.trans {ex : Addr → Prop} {H H1 H2 : Hp} (a : Kp ex H H1) (b : Kp ex H1 H2) : Kp ex H H2 := fun c o e n => b c o (a c o e n) n
theorem Kp.weak {ex ey : Addr → Prop} {H H1 : Hp} (a : Kp ex H H1) (h : ∀ b, ex b → ey b) : Kp ey H H1 := fun c o e n => a c o e fun z => n (h c z)
theorem Kp.new {ex : Addr → Prop} {H : Hp} {p : Addr} {o : HO} (h : H p = none) : Kp ex H (upd H p o) := fun a u e _ => by rw [upd_ne (ne_of_none e h)]; exact e
theorem Kp.at {ex : Addr → Prop} {H : Hp} {p : Addr} {o : HO} {xs : List V} (h : ex p) (hl : H p = some (.lst xs)) : Kp ex H (upd H p o) := fun a u e n => by
  have : a ≠ p := fun z => by
    subst z
    obtain ⟨ob, w, rfl⟩ := n h
    rw [hl] at e
    cases e
  rw [upd_ne this]; exact e
theorem Kp.same {ex : Addr → Prop} {H H1 : Hp} (h : Same H H1) : Kp ex H H1 := fun c o e _ => h c o e
section
variable {ex ey : Addr → Prop} {H H' : Hp}
mutual
theorem Dv.mono (k : Kp ex H H') (hy : ∀ a, ey a → ex a) : ∀ {v : V} {d : PyData}, Dv ex H v d → Dv ey H' v d
  | _, _, .non => .non
  | _, _, .bl b => .bl b
  | _, _, .int i => .int i
  | _, _, .str x => .str x
  | _, _, .lst n e l => .lst (fun z => n (hy _ z)) (k.get e n) (DvL.mono k hy l)
  | _, _, .tup d e l => .tup d (k _ _ e fun _ => ⟨_, _, rfl⟩) (DvL.mono k hy l)
  | _, _, .dic n e l => .dic (fun z => n (hy _ z)) (k.get e n) (DvK.mono k hy l)
theorem DvL.mono (k : Kp ex H H') (hy : ∀ a, ey a → ex a) : ∀ {vs : List V} {ds : List PyData}, DvL ex H vs ds → DvL ey H' vs ds
  | _, _, .nil => .nil
  | _, _, .cons a b => .cons (Dv.mono k hy a) (DvL.mono k hy b)
theorem DvK.mono (k : Kp ex H H') (hy : ∀ a, ey a → ex a) : ∀ {vs : List (Key × V)} {ds : List (PyData × PyData)}, DvK ex H vs ds → DvK ey H' vs ds
  | _, _, .nil => .nil
  | _, _, .cons a b => .cons (Dv.mono k hy a) (DvK.mono k hy b)
end
theorem Dv.kp {v : V} {d : PyData} (h : Dv ex H v d) (k : Kp ex H H') : Dv ex H' v d := h.mono k fun _ z => z
theorem DvL.kp {v : List V} {d : List PyData} (h : DvL ex H v d) (k : Kp ex H H') : DvL ex H' v d := h.mono k fun _ z => z
mutual
theorem Dv.off {n : Addr} (hn : H n = none) : ∀ {v : V} {d : PyData}, Dv ex H v d → Dv (fun a => ex a ∨ a = n) H v d
  | _, _, .non => .non
  | _, _, .bl b => .bl b
  | _, _, .int i => .int i
  | _, _, .str x => .str x
  | _, _, .lst m e l => .lst (fun z => z.elim m (ne_of_none e hn)) e (DvL.off hn l)
  | _, _, .tup d e l => .tup d e (DvL.off hn l)
  | _, _, .dic m e l => .dic (fun z => z.elim m (ne_of_none e hn)) e (DvK.off hn l)
theorem DvL.off {n : Addr} (hn : H n = none) : ∀ {v : List V} {d : List PyData}, DvL ex H v d → DvL (fun a => ex a ∨ a = n) H v d
  | _, _, .nil => .nil
  | _, _, .cons a b => .cons (Dv.off hn a) (DvL.off hn b)
theorem DvK.off {n : Addr} (hn : H n = none) : ∀ {v : List (Key × V)} {d : List (PyData × PyData)}, DvK ex H v d → DvK (fun a => ex a ∨ a = n) H v d
  | _, _, .nil => .nil
  | _, _, .cons a b => .cons (Dv.off hn a) (DvK.off hn b)
end
theorem Dv.tupI {v : V} {ds : List PyData} (h : Dv ex H v (.tuple ds)) : ∃ a xs, v = .ref a ∧ TupF H a xs ∧ DvL ex H xs ds := by
  cases h with
  | tup d e l => exact ⟨_, _, rfl, ⟨_, d, e⟩, l⟩
theorem Dv.tupM {a : Addr} {xs : List V} {ds : List PyData} (h : TupF H a xs) (l : DvL ex H xs ds) : Dv ex H (.ref a) (.tuple ds) := by
  obtain ⟨o, d, e⟩ := h
  exact .tup d e l
theorem Dv.strI {v : V} {x : Str} (h : Dv ex H v (.str x)) : v = .str x := by
  cases h
  rfl
theorem DvL.len : ∀ {v : List V} {d : List PyData}, DvL ex H v d → v.length = d.length
  | _, _, .nil => rfl
  | _, _, .cons _ b => congrArg (· + 1) (DvL.len b)
theorem DvL.get : ∀ {v : List V} {d : List PyData} {i : Nat} {x : V}, DvL ex H v d → v[i]? = some x → ∃ e, d[i]? = some e ∧ Dv ex H x e
  | _, _, 0, _, .cons a _, h => ⟨_, rfl, by cases h; exact a⟩
  | _, _, i + 1, _, .cons _ b, h => DvL.get (i := i) b h
  | _, _, _, _, .nil, h => by simp at h
theorem DvL.getd : ∀ {v : List V} {d : List PyData} {i : Nat} {e : PyData}, DvL ex H v d → d[i]? = some e → ∃ x, v[i]? = some x ∧ Dv ex H x e
  | _, _, 0, _, .cons a _, h => ⟨_, rfl, by cases h; exact a⟩
  | _, _, i + 1, _, .cons _ b, h => DvL.getd (i := i) b h
  | _, _, _, _, .nil, h => by simp at h
theorem DvL.app : ∀ {v w : List V} {d e : List PyData}, DvL ex H v d → DvL ex H w e → DvL ex H (v ++ w) (d ++ e)
  | _, _, _, _, .nil, h => h
  | _, _, _, _, .cons a b, h => .cons a (DvL.app b h)
theorem DvL.take : ∀ (n : Nat) {v : List V} {d : List PyData}, DvL ex H v d → DvL ex H (v.take n) (d.take n)
  | 0, _, _, _ => .nil
  | _ + 1, _, _, .nil => .nil
  | n + 1, _, _, .cons a b => .cons a (DvL.take n b)
theorem DvL.drop : ∀ (n : Nat) {v : List V} {d : List PyData}, DvL ex H v d → DvL ex H (v.drop n) (d.drop n)
  | 0, _, _, h => h
  | _ + 1, _, _, .nil => .nil
  | n + 1, _, _, .cons _ b => DvL.drop n b
theorem DvL.rev : ∀ {v : List V} {d : List PyData}, DvL ex H v d → DvL ex H v.reverse d.reverse
  | _, _, .nil => .nil
  | _, _, .cons a b => by rw [List.reverse_cons, List.reverse_cons]; exact DvL.app (DvL.rev b) (.cons a .nil)
theorem DvL.strs : ∀ (ns : List Str), DvL ex H (ns.map V.str) (ns.map PyData.str)
  | [] => .nil
  | x :: r => .cons (.str x) (DvL.strs r)
end

/-! ### how long a shown datum may be -/
def okS (x : Str) : Prop := ∀ c ∈ x.cps.toList, c < 16 ^ 8
mutual
def cost : PyData → Nat
  | .none => 4
  | .bool _ => 5
  | .int _ => 120
  | .str x => 10 * x.length + 2
  | .list xs | .tuple xs => costL xs + 3
  | .dict es => costK es + 3
def costL : List PyData → Nat
  | [] => 0
  | x :: r => cost x + 2 + costL r
def costK : List (PyData × PyData) → Nat
  | [] => 0
  | (a, b) :: r => cost a + cost b + 4 + costK r
end
mutual
def okD : PyData → Prop
  | .none | .bool _ => True
  | .int i => i.natAbs < 10 ^ 100
  | .str x => okS x
  | .list xs | .tuple xs => okL xs
  | .dict es => okK es
def okL : List PyData → Prop
  | [] => True
  | x :: r => okD x ∧ okL r
def okK : List (PyData × PyData) → Prop
  | [] => True
  | (a, b) :: r => okD a ∧ okD b ∧ okK r
end
theorem none_len : ("None" : Str).length = 4 := by decide +kernel
theorem true_len : ("True" : Str).length ≤ 5 := by decide +kernel
theorem false_len : ("False" : Str).length ≤ 5 := by decide +kernel
theorem colon_len : (": " : Str).length = 2 := by decide +kernel
mutual
theorem shown_le : ∀ d : PyData, okD d → d.shown.length ≤ cost d
  | .none, _ => by simp only [PyData.shown, cost]; exact Nat.le_of_eq none_len
  | .bool true, _ => by simp only [PyData.shown, cost]; exact true_len
  | .bool false, _ => by simp only [PyData.shown, cost]; exact false_len
  | .int i, h => by
    have h' : i.natAbs < 10 ^ 100 := by simpa only [okD] using h
    have := int_text_length_le10 (a := i) (k := 100) (by decide) h'
    simp only [PyData.shown, cost]
    have e : (Str.ofString (toString i)).length = (toString i).length := PySem.ofString_length _
    show (Str.ofString (toString i)).length ≤ 120
    omega
  | .str x, h => by
    have h' : okS x := by simpa only [okD] using h
    simp only [PyData.shown, cost]
    exact StrLaws.reprText_len x h'
  | .list xs, h => by
    have h' : okL xs := by simpa only [okD] using h
    simp only [PyData.shown, cost]
    have := shownAll_le xs h'
    have := listText_len_le (PyData.shownAll xs)
    omega
  | .tuple xs, h => by
    have h' : okL xs := by simpa only [okD] using h
    simp only [PyData.shown, cost]
    have := shownAll_le xs h'
    have := tupleText_len_le (PyData.shownAll xs)
    omega
  | .dict es, h => by
    have h' : okK es := by simpa only [okD] using h
    simp only [PyData.shown, cost]
    have := shownKv_le es h'
    have := dictText_len_le (PyData.shownKv es)
    omega
theorem shownAll_le : ∀ xs : List PyData, okL xs → ((PyData.shownAll xs).map (·.length)).sum + 2 * (PyData.shownAll xs).length ≤ costL xs
  | [], _ => by simp [PyData.shownAll, costL]
  | x :: r, h => by
    have h' : okD x ∧ okL r := by simpa only [okL] using h
    have a := shown_le x h'.1
    have b := shownAll_le r h'.2
    simp only [PyData.shownAll, costL, List.map_cons, List.sum_cons, List.length_cons]
    omega
theorem shownKv_le : ∀ xs : List (PyData × PyData), okK xs → ((PyData.shownKv xs).map (·.length)).sum + 2 * (PyData.shownKv xs).length ≤ costK xs
  | [], _ => by simp [PyData.shownKv, costK]
  | (k, v) :: r, h => by
    have h' : okD k ∧ okD v ∧ okK r := by simpa only [okK] using h
    have a := shown_le k h'.1
    have a2 := shown_le v h'.2.1
    have b := shownKv_le r h'.2.2
    simp only [PyData.shownKv, costK, List.map_cons, List.sum_cons, List.length_cons, strLen_append, colon_len]
    omega
end
mutual
theorem okD_showable : ∀ d : PyData, okD d → d.showable = true
  | .none, _ => by simp only [PyData.showable]
  | .bool _, _ => by simp only [PyData.showable]
  | .str _, _ => by simp only [PyData.showable]
  | .int i, h => by
    have h' : i.natAbs < 10 ^ 100 := by simpa only [okD] using h
    simp only [PyData.showable, decide_eq_true_eq]
    exact Flt.log2_lt_of (by decide) (Nat.lt_trans h' (by decide +kernel))
  | .list xs, h => by simp only [PyData.showable]; exact okL_showable xs (by simpa only [okD] using h)
  | .tuple xs, h => by simp only [PyData.showable]; exact okL_showable xs (by simpa only [okD] using h)
  | .dict es, h => by simp only [PyData.showable]; exact okK_showable es (by simpa only [okD] using h)
theorem okL_showable : ∀ d : List PyData, okL d → PyData.showableAll d = true
  | [], _ => by simp only [PyData.showableAll]
  | x :: r, h => by
    have h' : okD x ∧ okL r := by simpa only [okL] using h
    simp only [PyData.showableAll, okD_showable x h'.1, okL_showable r h'.2, Bool.and_self]
theorem okK_showable : ∀ d : List (PyData × PyData), okK d → PyData.showableKv d = true
  | [], _ => by simp only [PyData.showableKv]
  | (k, v) :: r, h => by
    have h' : okD k ∧ okD v ∧ okK r := by simpa only [okK] using h
    simp only [PyData.showableKv, okD_showable k h'.1, okD_showable v h'.2.1, okK_showable r h'.2.2, Bool.and_self]
end

/-! ### such data are read -/
section
variable {X : Cx} {pins : List (Addr × Obj)} {σ : L2.St} {H : Hp} {s : Shared} {ex : Addr → Prop}
theorem rel_key {k : Key} {v : Value} (h : keyIs k v = true) : ∃ as, Reads s.heap v (keyD k) as ∧ sysModules ∉ as := by
  rcases keyIs_shape h with ⟨i, t, rfl, rfl⟩ | ⟨x, t, rfl, rfl⟩
  · exact ⟨[], Reads.int i t, by simp⟩
  · exact ⟨[], Reads.str x t, by simp⟩
mutual
theorem Dv.reads (I : Inv X pins σ H s) (hsm : H sysModules = none) : ∀ (d : PyData) (v : V) (u : Value), Dv ex H v d → RelV v u → ∃ as, Reads s.heap u d as ∧ sysModules ∉ as
  | .none, _, _, h, r => by cases h; cases r; exact ⟨[], Reads.none, by simp⟩
  | .bool b, _, _, h, r => by cases h; cases r; exact ⟨[], Reads.bool b, by simp⟩
  | .int i, _, _, h, r => by cases h; obtain ⟨t, rfl⟩ := r; exact ⟨[], Reads.int i t, by simp⟩
  | .str x, _, _, h, r => by cases h; obtain ⟨t, rfl⟩ := r; exact ⟨[], Reads.str x t, by simp⟩
  | .list ds, _, _, h, r => by
    cases h with
    | @lst a xs _ na e l =>
      cases r
      obtain ⟨_, its, n, rv, ho⟩ := (show ObjOk X.prog X.w H s.heap a (.lst xs) from I.hok a _ e)
      obtain ⟨as, hr, hs⟩ := Dv.readsAll I hsm ds _ its l rv
      exact ⟨_, Reads.list ho rfl rfl hr, fun z => by
        rcases List.mem_cons.mp z with z | z
        · rw [z] at hsm; rw [hsm] at e; cases e
        · exact hs z⟩
  | .tuple ds, _, _, h, r => by
    cases h with
    | @tup a ob xs _ od e l =>
      cases r
      obtain ⟨_, _, its, rv, o, ho, hc, n, hd⟩ := (show ObjOk X.prog X.w H s.heap a (.frz ob (.tup xs)) from I.hok a _ e)
      obtain ⟨as, hr, hs⟩ := Dv.readsAll I hsm ds _ its l rv
      exact ⟨_, Reads.tuple ho hc hd hr, hs⟩
  | .dict es, _, _, h, r => by
    cases h with
    | @dic a kvs _ na e l =>
      cases r
      obtain ⟨_, hne, vs, rv, o, es', ep, ho, hx, hd, hk, hp, _⟩ := (show ObjOk X.prog X.w H s.heap a (.dK kvs) from I.hok a _ e)
      obtain ⟨as, bs, h1, h2, h3, h4⟩ := Dv.readsKv I hsm es _ vs es'.toList l rv hp
      exact ⟨_, Reads.dict ho hx.1 hd h1 h2, fun z => by
        rcases List.mem_append.mp z with z | z
        · rcases List.mem_cons.mp z with z | z
          · rw [z] at hsm; rw [hsm] at e; cases e
          · exact h3 z
        · exact h4 z⟩
theorem Dv.readsAll (I : Inv X pins σ H s) (hsm : H sysModules = none) : ∀ (ds : List PyData) (vs : List V) (us : List Value), DvL ex H vs ds → Vals vs us → ∃ as, ReadsAll s.heap us ds as ∧ sysModules ∉ as
  | [], _, _, h, r => by cases h; cases r; exact ⟨[], ReadsAll.nil, by simp⟩
  | d :: ds, _, _, h, r => by
    cases h with
    | cons h1 h2 =>
      cases r with
      | cons r1 r2 =>
        obtain ⟨as, q1, n1⟩ := Dv.reads I hsm d _ _ h1 r1
        obtain ⟨bs, q2, n2⟩ := Dv.readsAll I hsm ds _ _ h2 r2
        exact ⟨_, ReadsAll.cons q1 q2, fun z => (List.mem_append.mp z).elim n1 n2⟩
theorem Dv.readsKv (I : Inv X pins σ H s) (hsm : H sysModules = none) : ∀ (es : List (PyData × PyData)) (kvs : List (Key × V)) (vs : List (Key × Value)) (des : List DictEntry), DvK ex H kvs es → KV kvs vs → Pairs (mixKind X.prog X.w) des vs →
    ∃ as bs, ReadsAll s.heap (des.map (·.key)) (es.map (·.1)) as ∧ ReadsAll s.heap (des.map (·.val)) (es.map (·.2)) bs ∧ sysModules ∉ as ∧ sysModules ∉ bs
  | [], _, _, _, h, r, p => by cases h; cases r; cases p; exact ⟨[], [], ReadsAll.nil, ReadsAll.nil, by simp, by simp⟩
  | (kd, d) :: es, _, _, _, h, r, p => by
    cases h with
    | @cons k v _ kvs _ h1 h2 =>
      cases r with
      | @cons _ q _ qs r1 r2 =>
        cases p with
        | @cons en _ ens _ p1 p2 p3 =>
          obtain ⟨as, bs, a1, a2, a3, a4⟩ := Dv.readsKv I hsm es _ _ _ h2 r2 p3
          obtain ⟨rk, rv⟩ := r1
          have pk : keyIs k en.key = true := by
            have : keyIs q.1 en.key = true := p1
            rw [← rk] at this
            exact this
          obtain ⟨cs, c1, c2⟩ := rel_key (s := s) pk
          obtain ⟨ds, d1, d2⟩ := Dv.reads I hsm d _ _ h1 rv
          rw [← p2] at d1
          exact ⟨_, _, ReadsAll.cons c1 a1, ReadsAll.cons d1 a2, fun z => (List.mem_append.mp z).elim c2 a3, fun z => (List.mem_append.mp z).elim d2 a4⟩
end
end
section
variable {X : Cx}
/-- repr of a list of data -/
def rRepr : List V → Hp → VK → Prop := fun xs H Q => ∃ a d, xs = [.ref a] ∧ Dv (fun _ => False) H (.ref a) d ∧ okD d ∧ d.depth ≤ 20 ∧ cost d ≤ sizeLine ∧ Q (.str d.shown) H
theorem call_repr {om : Obj} (hK : X.K.lookup sysModules = some om) (hg : X.A.guards = some []) (hu : X.A.units + 64 < cLine) : CallR X (.builtin "repr") rRepr := by
  intro pins s σ H xs us Q I r h
  obtain ⟨a, d, rfl, dv, ok, hd, hc, q⟩ := h
  have hsm : H sysModules = none := (I.bs _ _ (I.ok.mod.kin _ _ hK)).2
  obtain ⟨u, rfl, rx⟩ := vals1 r
  obtain ⟨as, hr, hs⟩ := Dv.reads I hsm d _ _ dv rx
  cases rx
  refine repr_of_reads' hr (okD_showable d ok) (fun _ => hs) hg (by omega) (fun _ _ e => e) (fun h' u tk hk => ?_) (Nat.le_trans (shown_le d ok) hc)
  exact ⟨.str d.shown, H, I.kept hk, ⟨u, rfl⟩, q⟩
end
end Kx
namespace Kx
open PySem PySem.Spec PyProof.Rows L2

section
variable {X : Cx}
/-! ### numbers -/
theorem big10 : Builtin.Int.intTooBig (((Builtin.Int.intBits (10 ^ 60) : Nat) : Int) * 10) = false := by decide +kernel
/-- (10 ** 60) ** 10 -/
theorem op_powBig : OpR X (binaryOp .Pow) (fun x y H Q => x = .int (10 ^ 60) ∧ y = .int 10 ∧ Q (.int (10 ^ 600)) H) := by
  intro pins s σ H x y v u Q I rx ry h
  obtain ⟨rfl, rfl, q⟩ := h
  obtain ⟨t, rfl⟩ := rx
  obtain ⟨t2, rfl⟩ := ry
  refine PySem.AutoIntOps.pow_4 (by decide) (by decide) (by decide +kernel) (by decide +kernel) (by rw [big10]; decide) ?_
  have e : ((10 : Int) ^ 60) ^ (Int.toNat 10) = 10 ^ 600 := by decide +kernel
  rw [e]
  exact ⟨.int (10 ^ 600), H, I.tok _, ⟨_, rfl⟩, q⟩
/-! ### s * n for texts -/
def repS (x : Str) (n : Nat) : Str := ⟨(List.replicate n x.cps).foldl (· ++ ·) #[]⟩
theorem rep_foldl (c : Array Nat) : ∀ (n : Nat) (acc : Array Nat), ((List.replicate n c).foldl (· ++ ·) acc).size = acc.size + n * c.size
  | 0, acc => by simp
  | n + 1, acc => by
    rw [List.replicate_succ, List.foldl_cons, rep_foldl c n, Array.size_append, Nat.succ_mul]; omega
theorem repS_len (x : Str) (n : Nat) : (repS x n).length = n * x.length := by
  show ((List.replicate n x.cps).foldl (· ++ ·) #[]).size = n * x.cps.size
  rw [rep_foldl]; simp
theorem rep_mem (c : Array Nat) (k : Nat) : ∀ (n : Nat) (acc : Array Nat), k ∈ (List.replicate n c).foldl (· ++ ·) acc → k ∈ acc ∨ k ∈ c
  | 0, acc, h => .inl (by simpa using h)
  | n + 1, acc, h => by
    rw [List.replicate_succ, List.foldl_cons] at h
    rcases rep_mem c k n _ h with h | h
    · rcases Array.mem_append.mp h with h | h
      · exact .inl h
      · exact .inr h
    · exact .inr h
theorem repS_ok {x : Str} {n : Nat} (h : okS x) : okS (repS x n) := fun c hc => by
  have hc' : c ∈ (List.replicate n x.cps).foldl (· ++ ·) #[] := by simpa [repS] using hc
  rcases rep_mem _ _ _ _ hc' with z | z
  · simp at z
  · exact h c (by simpa using z)
theorem op_mulS : OpR X (binaryOp .Mult) (fun x y H Q => ∃ (z : Str) (n : Int), x = .str z ∧ y = .int n ∧ 2 ≤ n ∧ n ≤ 10000 ∧ z.length ≤ 1000 ∧ 1 ≤ z.length ∧ Q (.str (repS z n.toNat)) H) := by
  intro pins s σ H x y v u Q I rx ry h
  obtain ⟨z, n, rfl, rfl, h1, h2, h3, h4, q⟩ := h
  obtain ⟨t, rfl⟩ := rx
  obtain ⟨t2, rfl⟩ := ry
  have hb : z.length * n.toNat ≤ 1000 * 10000 := Nat.mul_le_mul h3 (by omega)
  refine PySem.P.mul_str (by rw [decide_eq_false (by omega), decide_eq_false (by omega)]; rfl) (fun _ _ => ?_) (fun _ _ => ?_) ?_
  · have : (10000 : Int) ≤ (2 ^ 63 - 1) / n := by
      refine Int.le_ediv_of_mul_le (by omega) ?_
      omega
    omega
  · unfold Builtin.Str.tooLong
    exact decide_eq_false (by rw [sizeLine_eq]; omega)
  · rw [if_neg (by omega)]
    have e : (n == 1 || z.length == 0) = false := by
      rw [beq_eq_false_iff_ne.mpr (by omega), beq_eq_false_iff_ne.mpr (by omega)]; rfl
    rw [if_neg (by rw [e]; exact Bool.false_ne_true)]
    refine ⟨?_, ⟨.str (repS z n.toNat), H, I.tok _, ⟨_, rfl⟩, q⟩⟩
    have := repS_len z n.toNat
    show (repS z n.toNat).length ≤ sizeLine
    rw [this, sizeLine_eq, Nat.mul_comm]; omega
/-! ### == () and != [] whatever the items are -/
def rEqT0 (K : PySem.W.Frag) : R2 := fun x y H Q => ∃ a b xs, x = .ref a ∧ y = .ref b ∧ SqT K H a xs ∧ SqT K H b [] ∧ Q (.bl xs.isEmpty) H
theorem op_eqT0 (hu : X.A.units < cLine) : OpR X (compareOp .Eq) (rEqT0 X.K) := by
  intro pins s σ H x y v u Q I rx ry h
  obtain ⟨a, b, xs, rfl, rfl, h1, h2, q⟩ := h
  cases rx
  cases ry
  obtain ⟨its, r, p1, _⟩ := I.tuple h1
  obtain ⟨its2, r2, p2, _⟩ := I.tuple h2
  cases r2
  have e : ((List.range (min its.toArray.size 0)).all (fun _ => true) && its.toArray.size == 0) = xs.isEmpty := by
    have := r.length
    cases xs with
    | nil => cases r; rfl
    | cons y ys => cases r; rfl
  refine SeqAt.eq_tupleAt (e := fun _ => true) p1 p2 hu (fun j hj h2 => absurd h2 (by simp)) ?_
  refine ⟨.bl xs.isEmpty, H, I, ?_, q⟩
  rw [← e]
  rfl
def rNeL0 (K : PySem.W.Frag) : R2 := fun x y H Q => ∃ a b xs, x = .ref a ∧ y = .ref b ∧ SqL K H a xs ∧ SqL K H b [] ∧ Q (.bl (!xs.isEmpty)) H
theorem op_neL0 (hu : X.A.units < cLine) : OpR X (compareOp .NotEq) (rNeL0 X.K) := by
  intro pins s σ H x y v u Q I rx ry h
  obtain ⟨a, b, xs, rfl, rfl, h1, h2, q⟩ := h
  cases rx
  cases ry
  obtain ⟨its, r, p1, _⟩ := I.list h1
  obtain ⟨its2, r2, p2, _⟩ := I.list h2
  cases r2
  cases r with
  | nil => exact PySem.EqBoolInt.of_rcne (SeqAt.RcNeAt.lists (e := fun _ => true) p1.isList p2.isList rfl hu (fun j hj _ => absurd hj (by simp))) ⟨.bl false, H, I, rfl, q⟩
  | cons r0 r1 => exact PySem.EqBoolInt.of_rcne (SeqAt.RcNeAt.lists_lengths p1.isList p2.isList (by simp) hu) ⟨.bl true, H, I, rfl, q⟩
end

/-! ### an own class's in, len, str -/
section
variable {X : Cx} {CX : CXT} {k : Nat} {C f a dx : Addr} {fd : FuncData} {ps : List Str} {sp : Sp} {E : XK}
/-- x not in o, by the own __contains__'s promise -/
def rNotInO (C : Addr) (sp : Sp) (E : XK) : R2 := fun x y H Q => ∃ a dx fs, y = .ref a ∧ H a = some (.ins C dx fs) ∧ sp [.ref a, x] H (fun v H' => ∃ b, v = .bl b ∧ Q (.bl (!b)) H') E
theorem op_notInO (c : Cls X.K C) (hs : PySem.W.findIn X.K (.ref C) "__contains__" = some (some (.ref f))) (hf : PySem.W.isFn X.K (.ref f) = true) (F : FnOk X.prog X.w X.K X.mg X.base CX k f fd ps sp) (hr : Room k X.A) (hb : Binds X.K fd ps [])
    (hx : Passes CX X E) : OpR X (compareOp .NotIn) (rNotInO C sp E) := by
  intro pins s σ H x y v u Q I rx ry h
  obtain ⟨a, dx, fs, rfl, ha, q⟩ := h
  cases ry
  obtain ⟨mA, O, _⟩ := ins_get I.hok ha
  obtain ⟨od, J, _⟩ := O.look
  obtain ⟨m, fr⟩ := I.fr
  refine PySem.W.notIn_K fr I.ok.mod.kin J hs hf ?_
  refine wpAny_mono (run_fn (us := [.ref a, v]) (vs := [.ref a, x]) (ds := []) (dvs := []) F hr hb .nil hx I (.cons rfl (.cons rx .nil)) q) (fun r s' z => ?_) fun _ _ z => z
  obtain ⟨v', H', I', rv, b, rfl, qq⟩ := z
  cases (show r = Value.bool b from rv)
  exact wpAny_truthy_bool ⟨.bl (!b), H', I', rfl, qq⟩
/-- len(o) -/
def rLenO (C : Addr) (sp : Sp) (E : XK) : List V → Hp → VK → Prop := fun xs H Q => ∃ a dx fs, xs = [.ref a] ∧ H a = some (.ins C dx fs) ∧ sp [.ref a] H (fun v H' => ∃ n : Int, v = .int n ∧ 0 ≤ n ∧ n < 2 ^ 63 ∧ Q (.int n) H') E
theorem call_lenO (hs : PySem.W.findIn X.K (.ref C) "__len__" = some (some (.ref f))) (hf : PySem.W.isFn X.K (.ref f) = true) (F : FnOk X.prog X.w X.K X.mg X.base CX k f fd ps sp) (hr : Room (k + 1) X.A) (hb : Binds X.K fd ps [])
    (hx : Passes CX X.nox E) : CallR X (.builtin "len") (rLenO C sp E) := by
  intro pins s σ H xs us Q I r h
  obtain ⟨a, dx, fs, rfl, ha, q⟩ := h
  obtain ⟨u, rfl, rx⟩ := vals1 r
  cases rx
  obtain ⟨mA, O, _⟩ := ins_get I.hok ha
  obtain ⟨od, J, _⟩ := O.look
  obtain ⟨m, fr⟩ := I.fr
  refine PySem.W.len_K fr I.ok.mod.kin J hs hf ?_
  refine wpAny_call (codeAny_mono (F.run X.A.in1 X.stack s H ⟨[.ref a], []⟩ [.ref a] [.ref a] _ E hr.in1 I.env0.in1 (hb s [.ref a] I.kIn ?_) (.cons rfl .nil) q) fun r s' z => ?_)
  · rw [← F.len _ _ _ _ q]; rfl
  · cases r with
    | error e => exact (hx pins σ H s e s' (I.wish _) z).elim
    | ok fl =>
      cases fl with
      | ret u =>
        obtain ⟨v, H', I3, rv, n, rfl, h0, h1, qq⟩ := I.after z
        obtain ⟨t, rfl⟩ := rv
        exact ⟨⟨h0, h1⟩, .int n, H', I3.tok _, ⟨_, rfl⟩, qq⟩
      | next => exact False.elim z
      | brk => exact False.elim z
      | cont => exact False.elim z
/-- str(o) -/
def rStrO (C : Addr) (sp : Sp) (E : XK) : List V → Hp → VK → Prop := fun xs H Q => ∃ a dx fs, xs = [.ref a] ∧ H a = some (.ins C dx fs) ∧ sp [.ref a] H (fun v H' => ∃ z : Str, v = .str z ∧ Q (.str z) H') E
theorem str_own {prog : Program} {w : World} {A : Around} {E : Value → Shared → Prop} {s : Shared} {K : PySem.W.Frag} {x C f : Addr} {ox : Obj} {od : Option Obj} {Q : Value → Shared → Prop}
    (room : A.in1.in1.units < cLine) (X : K.In s.heap) (I : PySem.W.InstAt s.heap x ox C od) (hs : PySem.W.findIn K (.ref C) "__str__" = some (some (.ref f))) (hf : PySem.W.isFn K (.ref f) = true)
    (h : wpAny (model prog w) A.in1.in1 (call (.ref f) [.ref x]) (PySem.W.StrBack Q) E s) : wpAny (model prog w) A (call (.type "str") [.ref x]) Q E s := by
  have made : wpAny (model prog w) A.in1.in1 (PySem.Builtin.Str.strOf (.ref x)) (fun r t => ∃ y u, r = .str y u ∧ Q r t) E s := by
    unfold PySem.Builtin.Str.strOf
    rw [show PySem.Builtin.Str.isExactStr (.ref x) = false from rfl]
    refine wpAny_bind (m := cRoomFor _ _) (wpAny_cRoomFor room ?_)
    refine wpAny_bind (m := callSpecial? (.ref x) (Str.ofString "__str__")) (PySem.W.special_fn X I hs (beq_iff_eq.mp hf) ?_)
    refine wpAny_mono h (fun r s' z => ?_) fun _ _ y => y
    cases r with
    | str y u => exact wpAny_pure ⟨y, u, rfl, z⟩
    | _ => exact z.elim
  refine callType_codes (T := "str") (Bi := Builtin.«object.__init__») (Q₁ := fun r t => ∃ y u, r = .str y u ∧ Q r t) PySem.F.called_str (PySem.F.typeCall_str_1 _) PySem.F.entry_object_init (codeAny_of_tree ?_) ?_
  · show wpAny _ A.in1.in1 (checkBuiltinCall "str.__new__" ⟨[.type "str", .ref x], []⟩ >>= fun _ => again (.builtin "str.__new__" ⟨[.type "str", .ref x], []⟩)) _ _ s
    refine wpAny_bind (wpAny_of_eq (PySem.F.newCall_str_1 _) (wpAny_pure ⟨plainId_quiet (by decide +kernel) _, codeAny_builtin PySem.F.entry_str_new ?_⟩))
    rw [Around.under_plainId (by decide +kernel) _, str_new_tree]
    refine wpAny_bind (wpAny_pure (wpAny_bind (wpAny_of_eq isSubtype_str_str ?_)))
    exact wpAny_bind (wpAny_mono made (fun _ _ z => wpAny_pure z) fun _ _ z => z)
  · rintro obj t ⟨y, u, rfl, z⟩
    exact ⟨typeIs_str _ _ _, PySem.F.args_object_init_2 _ _, object_init_meets PySem.F.called_str.init.lookup PySem.F.called_str.made (by decide) prog w A.in1 _ t ⟨typeIs_str _ _ _, rfl, z⟩⟩
theorem call_strO (hs : PySem.W.findIn X.K (.ref C) "__str__" = some (some (.ref f))) (hf : PySem.W.isFn X.K (.ref f) = true) (F : FnOk X.prog X.w X.K X.mg X.base CX k f fd ps sp) (hr : Room (k + 2) X.A) (hb : Binds X.K fd ps [])
    (hx : Passes CX X.nox E) : CallR X (.type "str") (rStrO C sp E) := by
  intro pins s σ H xs us Q I r h
  obtain ⟨a, dx, fs, rfl, ha, q⟩ := h
  obtain ⟨u, rfl, rx⟩ := vals1 r
  cases rx
  obtain ⟨mA, O, _⟩ := ins_get I.hok ha
  obtain ⟨od, J, _⟩ := O.look
  refine str_own (by have := hr.un; show X.A.units + 1 + 1 < cLine; omega) I.kIn J hs hf ?_
  refine wpAny_call (codeAny_mono (F.run X.A.in1.in1 X.stack s H ⟨[.ref a], []⟩ [.ref a] [.ref a] _ E hr.in1.in1 I.env0.in1.in1 (hb s [.ref a] I.kIn ?_) (.cons rfl .nil) q) fun r s' z => ?_)
  · rw [← F.len _ _ _ _ q]; rfl
  · cases r with
    | error e => exact (hx pins σ H s e s' (I.wish _) z).elim
    | ok fl =>
      cases fl with
      | ret u =>
        obtain ⟨v, H', I3, rv, n, rfl, qq⟩ := I.after z
        obtain ⟨t, rfl⟩ := rv
        exact ⟨.str n, H', I3, ⟨_, rfl⟩, qq⟩
      | next => exact False.elim z
      | brk => exact False.elim z
      | cont => exact False.elim z
end
end Kx
namespace Kx
open PySem PySem.Spec PyProof.Rows L2
theorem vals_at : ∀ {us : List Value} {vs : List V}, us.length = vs.length → (∀ (j : Nat) (u : Value), us[j]? = some u → ∃ v, vs[j]? = some v ∧ RelV v u) → Vals vs us
  | [], [], _, _ => .nil
  | [], _ :: _, hl, _ => by simp at hl
  | _ :: _, [], hl, _ => by simp at hl
  | u :: us, v :: vs, hl, h => by
    obtain ⟨w, e, r⟩ := h 0 u rfl
    cases e
    exact .cons r (vals_at (by simpa using hl) fun j x e => h (j + 1) x e)
section
variable {X : Cx}
/-! ### list(text) -/
def signsV (x : Str) : List V := x.cps.toList.map fun c => V.str ⟨#[c]⟩
theorem call_listS (hcalm : X.calm = true) : CallR X (.type "list") (fun xs H Q => ∃ z : Str, xs = [.str z] ∧ z.length ≤ sizeLine ∧ ∀ p, H p = none → Q (.ref p) (upd H p (.lst (signsV z)))) := by
  intro pins s σ H xs us Q I r h
  obtain ⟨z, rfl, hz, q⟩ := h
  obtain ⟨u, rfl, rx⟩ := vals1 r
  obtain ⟨t, rfl⟩ := rx
  refine call_list_str (I.ok.hd hcalm) z t (fun h' tk acc c' hk hS hacc => ?_) hz
  refine ⟨.ref s.heap.objs.size, _, I.laid (t' := tk) (o := .lst (signsV z)) hk (Nat.le_refl _) ?_, rfl, q _ (I.hok.fresh (Nat.le_refl _))⟩
  refine ⟨by unfold signsV; rw [List.length_map, Array.length_toList]; exact hz, acc.toList, c', vals_at ?_ (fun j v e => ?_), by rw [Array.toArray_toList]; exact hS⟩
  · unfold signsV; rw [List.length_map, Array.length_toList, Array.length_toList]; exact hacc.1
  · obtain ⟨c, w, e1, e2⟩ := hacc.2 j v (by rw [← Array.getElem?_toList]; exact e)
    refine ⟨.str ⟨#[c]⟩, ?_, w, e2⟩
    unfold signsV
    rw [List.getElem?_map, Array.getElem?_toList, e1]
    rfl
/-! ### tuple(dict) -/
theorem call_tupleD (hcalm : X.calm = true) : CallR X (.type "tuple") (fun xs H Q => ∃ (a : Addr) (kvs : List (Key × V)), xs = [.ref a] ∧ Rd H a (.dK kvs) ∧ ∀ p, H p = none → Q (.ref p) (upd H p (.tup (kvs.map fun kv => kV kv.1)))) := by
  intro pins s σ H xs us Q I r h
  obtain ⟨a, kvs, rfl, hd, q⟩ := h
  obtain ⟨u, rfl, rx⟩ := vals1 r
  cases rx
  obtain ⟨z, lo, vs, rel, dd⟩ := dk_rd I.hok hd
  obtain ⟨ep, hat⟩ := dd.dictAt
  have ek : (kvs.map fun kv => kV kv.1) = vs.map fun p => kV p.1 := by
    have e := congrArg (List.map kV) rel.keys
    rw [List.map_map, List.map_map] at e
    exact e
  have lenv : vs.length ≤ sizeLine := by rw [← rel.length]; exact z
  have made : codeAny (model X.prog X.w) X.A.in1 (.call (.builtin "tuple.__new__") ⟨[.type "tuple", .ref a], []⟩) (wants (fun obj s₁ => s₁.TypeIs obj "tuple" ∧ EP X pins σ Q obj s₁) X.xe) s := by
    refine codeAny_of_tree ?_
    show wpAny _ X.A.in1.in1 (checkBuiltinCall "tuple.__new__" ⟨[.type "tuple", .ref a], []⟩ >>= fun _ => again (.builtin "tuple.__new__" ⟨[.type "tuple", .ref a], []⟩)) _ _ s
    refine wpAny_bind (wpAny_of_eq (PySem.F.newCall_tuple_1 _) (wpAny_pure ⟨plainId_quiet PySem.F.plain_tuple_new _, codeAny_builtin PySem.F.entry_tuple_new ?_⟩))
    rw [Around.under_plainId PySem.F.plain_tuple_new _]
    have g1 := sub_tuple_self
    have g2 := init_tuple_lookup
    have g3 := madeHere_tuple
    have g4 : s.TypeIs (.ref a) "dict" := dd.typeIs
    have gh : X.A.in1.in1.handled = none := I.ok.hd hcalm
    wp_walk using wpAny_typeOf g4, PySem.W.kdu_collect (PySem.W.kdl_dict (knd := mixKind X.prog X.w) (kvs := vs) (ep := ep) lo) gh hat lenv
    intro h' tk acc hk hacc
    have hv : Vals (vs.map fun p => kV p.1) acc.toList := keys_at (by rw [Array.length_toList]; exact hacc.1) fun j v e => hacc.2 j v (by rw [← Array.getElem?_toList]; exact e)
    show wpAny _ _ (Builtin.Tuple.tupleExact acc.toList.toArray >>= fun v => ret v) _ _ _
    unfold Builtin.Tuple.tupleExact
    refine wpAny_bind (wpAny_newObj_type ?_ (show acc.toList.toArray.size ≤ sizeLine by rw [Array.toArray_toList, hacc.1]; exact lenv))
    have I1 : Inv X pins σ H { s with heap := h', toks := tk } := I.kept (t' := tk) hk
    refine wpAny_pure ⟨⟨_, Heap.get?_push_size _ rfl, rfl⟩, ?_⟩
    refine ⟨.ref h'.objs.size, _, I1.laid (t' := tk) (o := .tup (kvs.map fun kv => kV kv.1)) (fun b ob e => Heap.get?_push_of_some _ e) (Nat.le_refl _) ?_, rfl, q _ (I1.hok.fresh (Nat.le_refl _))⟩
    exact ⟨by rw [List.length_map]; exact z, acc.toList, by rw [ek]; exact hv, IsTup.new _ _⟩
  refine callType_codes PySem.F.called_tuple (PySem.F.typeCall_tuple_1 _) PySem.F.entry_object_init made fun obj s₁ h₁ => ?_
  exact ⟨h₁.1, PySem.F.args_object_init_2 obj _, object_init_meets PySem.F.called_tuple.init.lookup PySem.F.called_tuple.made (by decide) X.prog X.w X.A.in1 _ s₁ ⟨h₁.1, rfl, h₁.2⟩⟩
end
end Kx
namespace Kx
open PySem PySem.Spec PyProof.Rows L2
/-- a plain tuple has been laid (or stood) -/
def kT (xs : List V) (H : Hp) (Q : VK) : Prop := ∀ p H', Same H H' → TupF H' p xs → Q (.ref p) H'
section
variable {X : Cx} {pins : List (Addr × Obj)} {σ : L2.St} {H : Hp} {s : Shared} {Q : VK}
theorem Same.refl {H : Hp} : Same H H := fun _ _ e => e
theorem Same.upd {H : Hp} {p : Addr} {o : HO} (h : H p = none) : Same H (upd H p o) := fun a u e => by rw [upd_ne (ne_of_none e h)]; exact e
theorem Same.trans {H H1 H2 : Hp} (a : Same H H1) (b : Same H1 H2) : Same H H2 := fun c o e => b c o (a c o e)
theorem laidT (I : Inv X pins σ H s) {xs : List V} {its : List Value} {h' : Heap} {t' n : Nat} (r : Vals xs its) (hz : xs.length ≤ sizeLine) (k : ∀ b o, s.heap.get? b = some o → h'.get? b = some o) {p : Addr} (hp : s.heap.objs.size ≤ p)
    (e : h'.get? p = some { cls := .type "tuple", data := .seq its.toArray n }) (q : kT xs H Q) : EP X pins σ Q (.ref p) { s with heap := h', toks := t' } := by
  have hn := I.hok.fresh hp
  refine ⟨.ref p, upd H p (.frz { cls := .type "tuple", data := .seq its.toArray n } (.tup xs)), I.laid (t' := t') k hp ⟨e, hz, its, r, _, e, rfl, _, rfl⟩, rfl, q _ _ (Same.upd hn) ⟨_, rfl, upd_same⟩⟩
theorem stayT (I : Inv X pins σ H s) {xs : List V} {p : Addr} (h : TupF H p xs) (q : kT xs H Q) : EP X pins σ Q (.ref p) s := ⟨.ref p, H, I, rfl, q _ _ Same.refl h⟩
end
section
variable {X : Cx}
/-- (a, b) -/
def tTupF (t : TA) : TE := fun σ H Q => t σ H fun xs H1 => xs.length ≤ sizeLine ∧ kT xs H1 Q
theorem pe_tupF {es : List Expr} {t : TA} {x1} {pos : Pos} (h : PA X es t) : PE X (.Tuple es x1 pos) (tTupF t) := by
  refine ⟨fun pins s σ H Q I hq => ?_⟩
  refine wpAny_Tuple_spliced (thn (h.run pos pins s σ H _ I hq) fun us s1 ⟨xs, H1, I1, r, z, q⟩ => ⟨by rw [← r.length]; exact z, ?_⟩)
  exact laidT (t' := s1.toks) I1 r z (fun b u e => Heap.get?_push_of_some _ e) (Nat.le_refl _) (Heap.get?_push_size _ rfl) q
/-- tuple(list) -/
theorem call_tupF : CallR X (.type "tuple") (fun xs H Q => ∃ a ys, xs = [.ref a] ∧ SqL X.K H a ys ∧ kT ys H Q) := by
  intro pins s σ H xs us Q I r h
  obtain ⟨a, ys, rfl, ha, q⟩ := h
  obtain ⟨u, rfl, rx⟩ := vals1 r
  cases rx
  obtain ⟨its, r', pl, hz⟩ := I.list ha
  have hlen := r'.length
  refine call_tuple_list pl.isList (fun h' kp => ?_) (by simp only [List.size_toArray] <;> omega)
  exact laidT (t' := s.toks) (I.kept (t' := s.toks) kp) r' hz (fun b o e => Heap.get?_push_of_some _ e) (Nat.le_refl _) (Heap.get?_push_size _ rfl) q
/-- t + u -/
def rCatF : R2 := fun x y H Q => ∃ a b xs ys, x = .ref a ∧ y = .ref b ∧ TupF H a xs ∧ TupF H b ys ∧ xs.length + ys.length ≤ sizeLine ∧ kT (xs ++ ys) H Q
theorem op_catF : OpR X (binaryOp .Add) rCatF := by
  intro pins s σ H x y v u Q I rx ry h
  obtain ⟨a, b, xs, ys, rfl, rfl, ha, hb, hz, q⟩ := h
  cases rx
  cases ry
  obtain ⟨its, r1, p1, _⟩ := I.tuple (ha.sq (K := X.K))
  obtain ⟨its2, r2, p2, _⟩ := I.tuple (hb.sq (K := X.K))
  by_cases hx : xs = []
  · subst hx
    cases r1
    exact L2.cat_tup0 p1 p2 (stayT I hb q)
  · refine HT.cat_tup p1 p2 (fun z => hx (r1.nil_iff.mp z)) (fun z => ?_) (fun z => ?_) (by rw [← r1.length, ← r2.length]; exact hz)
    · have e := r2.nil_iff.mp z
      subst e
      rw [List.append_nil] at q
      exact stayT I ha q
    · exact laidT (t' := s.toks) I (r1.append r2) (by rw [List.length_append]; exact hz) (fun b o e => Heap.get?_push_of_some _ e) (Nat.le_refl _) (Heap.get?_push_size _ rfl) q
/-- t[i:j] -/
def rSlF : V → Option Int → Option Int → Hp → VK → Prop := fun x lo hi H Q => ∃ a xs, x = .ref a ∧ TupF H a xs ∧ kT (cutV xs lo hi) H Q
theorem sl_tupF : SlR X rSlF := by
  intro pins s σ H x v vl vu lo hi sl Q I rx hs pl pu h
  obtain ⟨a, xs, rfl, hx, q⟩ := h
  cases rx
  obtain ⟨its, r, ht, hz⟩ := I.tuple (hx.sq (K := X.K))
  have hlen : its.toArray.size = xs.length := by rw [List.size_toArray]; exact r.length.symm
  refine ⟨"tuple", _, PyProof.Rows.slot_tuple_getitem.lookup, ht.typeIs, ?_⟩
  by_cases hw : HT.sIx xs.length 0 lo = 0 ∧ HT.sIx xs.length xs.length hi = xs.length
  · have e : cutV xs lo hi = xs := by
      unfold cutV
      rw [hw.1, hw.2]
      simp
    rw [e] at q
    exact L2.getItem_tuple_whole ht hs pl pu (by rw [hlen]; exact hw) (stayT I hx q)
  · refine HT.getItem_tuple_cut ht hs pl pu (by rw [hlen]; exact hw) ?_ (by rw [hlen]; exact hz)
    rw [hlen]
    exact laidT (t' := s.toks) I ((r.drop (HT.sIx xs.length 0 lo)).take (HT.sIx xs.length xs.length hi - HT.sIx xs.length 0 lo)) (Nat.le_trans (cutV_length xs lo hi) hz) (fun b o e => Heap.get?_push_of_some _ e) (Nat.le_refl _) (Heap.get?_push_size _ rfl) q
/-! ### tuple(dict) -/
theorem call_tupleDF (hcalm : X.calm = true) : CallR X (.type "tuple") (fun xs H Q => ∃ (a : Addr) (kvs : List (Key × V)), xs = [.ref a] ∧ Rd H a (.dK kvs) ∧ kT (kvs.map fun kv => kV kv.1) H Q) := by
  intro pins s σ H xs us Q I r h
  obtain ⟨a, kvs, rfl, hd, q⟩ := h
  obtain ⟨u, rfl, rx⟩ := vals1 r
  cases rx
  obtain ⟨z, lo, vs, rel, dd⟩ := dk_rd I.hok hd
  obtain ⟨ep, hat⟩ := dd.dictAt
  have ek : (kvs.map fun kv => kV kv.1) = vs.map fun p => kV p.1 := by
    have e := congrArg (List.map kV) rel.keys
    rw [List.map_map, List.map_map] at e
    exact e
  have lenv : vs.length ≤ sizeLine := by rw [← rel.length]; exact z
  have made : codeAny (model X.prog X.w) X.A.in1 (.call (.builtin "tuple.__new__") ⟨[.type "tuple", .ref a], []⟩) (wants (fun obj s₁ => s₁.TypeIs obj "tuple" ∧ EP X pins σ Q obj s₁) X.xe) s := by
    refine codeAny_of_tree ?_
    show wpAny _ X.A.in1.in1 (checkBuiltinCall "tuple.__new__" ⟨[.type "tuple", .ref a], []⟩ >>= fun _ => again (.builtin "tuple.__new__" ⟨[.type "tuple", .ref a], []⟩)) _ _ s
    refine wpAny_bind (wpAny_of_eq (PySem.F.newCall_tuple_1 _) (wpAny_pure ⟨plainId_quiet PySem.F.plain_tuple_new _, codeAny_builtin PySem.F.entry_tuple_new ?_⟩))
    rw [Around.under_plainId PySem.F.plain_tuple_new _]
    have g1 := sub_tuple_self
    have g2 := init_tuple_lookup
    have g3 := madeHere_tuple
    have g4 : s.TypeIs (.ref a) "dict" := dd.typeIs
    have gh : X.A.in1.in1.handled = none := I.ok.hd hcalm
    wp_walk using wpAny_typeOf g4, PySem.W.kdu_collect (PySem.W.kdl_dict (knd := mixKind X.prog X.w) (kvs := vs) (ep := ep) lo) gh hat lenv
    intro h' tk acc hk hacc
    have hv : Vals (vs.map fun p => kV p.1) acc.toList := keys_at (by rw [Array.length_toList]; exact hacc.1) fun j v e => hacc.2 j v (by rw [← Array.getElem?_toList]; exact e)
    show wpAny _ _ (Builtin.Tuple.tupleExact acc.toList.toArray >>= fun v => ret v) _ _ _
    unfold Builtin.Tuple.tupleExact
    refine wpAny_bind (wpAny_newObj_type ?_ (show acc.toList.toArray.size ≤ sizeLine by rw [Array.toArray_toList, hacc.1]; exact lenv))
    have I1 : Inv X pins σ H { s with heap := h', toks := tk } := I.kept (t' := tk) hk
    refine wpAny_pure ⟨⟨_, Heap.get?_push_size _ rfl, rfl⟩, ?_⟩
    have hv2 : Vals (kvs.map fun kv => kV kv.1) acc.toList := by rw [ek]; exact hv
    exact laidT (t' := tk) I1 hv2 (by rw [List.length_map]; exact z) (fun b ob e => Heap.get?_push_of_some _ e) (Nat.le_refl _) (Heap.get?_push_size _ rfl) q
  refine callType_codes PySem.F.called_tuple (PySem.F.typeCall_tuple_1 _) PySem.F.entry_object_init made fun obj s₁ h₁ => ?_
  exact ⟨h₁.1, PySem.F.args_object_init_2 obj _, object_init_meets PySem.F.called_tuple.init.lookup PySem.F.called_tuple.made (by decide) X.prog X.w X.A.in1 _ s₁ ⟨h₁.1, rfl, h₁.2⟩⟩
end
end Kx
namespace Kx
open PySem PySem.Spec PyProof.Rows L2
section
variable {prog : Program} {w : World} {A : Around} {E : Value → Shared → Prop} {s : Shared}
theorem adjust_back (n : Nat) : Builtin.Slice.sliceAdjust none none (-1) (n : Int) = ((n : Int) - 1, -1) := by
  unfold Builtin.Slice.sliceAdjust
  simp
theorem places_back (n : Nat) : Builtin.Slice.slicePlaces ((n : Int) - 1) (-1) (-1) = n := by
  unfold Builtin.Slice.slicePlaces
  simp
  omega
theorem applied_back {sl : Addr} {vl vu vs : Value} {n : Nat} {Q : Int × Int × Nat → Shared → Prop} (hs : s.heap.IsSliceOf sl vl vu vs) (pl : IsPart vl none) (pu : IsPart vu none) (pst : IsPart vs (some (-1)))
    (h : Q ((n : Int) - 1, -1, n) s) : wpAny (model prog w) A (Builtin.Slice.sliceApplied (.ref sl) (pure (n : Int))) Q E s := by
  obtain ⟨os, hos, hcs, hds⟩ := id hs
  unfold Builtin.Slice.sliceApplied Builtin.Slice.sliceFields
  refine wpAny_bind (wpAny_bind (wpAny_field hos hds (x := vl) rfl (wpAny_bind (wpAny_field hos hds (x := vu) rfl (wpAny_bind (wpAny_field hos hds (x := vs) rfl (wpAny_pure ?_)))))))
  refine wpAny_bind (HT.slicePart_ pst ?_)
  show wpAny _ _ (if ((-1 : Int) == 0) = true then _ else _) _ _ s
  rw [if_neg (by decide)]
  refine wpAny_bind (HT.slicePart_ pl (wpAny_bind (HT.slicePart_ pu (wpAny_bind (wpAny_pure ?_)))))
  show wpAny _ _ (match Builtin.Slice.sliceAdjust none none (-1) (n : Int) with | (lo, hi) => pure (lo, (-1 : Int), Builtin.Slice.slicePlaces lo hi (-1))) _ _ s
  rw [adjust_back]
  show wpAny _ _ (pure ((n : Int) - 1, (-1 : Int), Builtin.Slice.slicePlaces ((n : Int) - 1) (-1) (-1))) _ _ s
  rw [places_back]
  exact wpAny_pure h
theorem back_list {α : Type} (l : List α) : ∀ k, k ≤ l.length → (List.range k).filterMap (fun m => l[l.length - 1 - m]?) = l.reverse.take k
  | 0, _ => by simp
  | k + 1, h => by
    rw [List.range_succ, List.filterMap_append, back_list l k (by omega), List.take_succ]
    congr 1
    have e : l.reverse[k]? = l[l.length - 1 - k]? := List.getElem?_reverse (by omega)
    rw [e]
    cases q : l[l.length - 1 - k]? with
    | none => simp [q]
    | some a => simp [q]
theorem pick_back (xs : Array Value) : ((List.range xs.size).filterMap fun (m : Nat) => xs[((((xs.size : Nat) : Int) - 1) + (m : Int) * (-1)).toNat]?) = xs.toList.reverse := by
  have e : (fun (m : Nat) => xs[((((xs.size : Nat) : Int) - 1) + (m : Int) * (-1)).toNat]?) = fun m => xs.toList[xs.toList.length - 1 - m]? := by
    funext m
    have : ((((xs.size : Nat) : Int) - 1) + (m : Int) * (-1)).toNat = xs.toList.length - 1 - m := by
      rw [Array.length_toList]; omega
    rw [this, Array.getElem?_toList]
  rw [e]
  have := back_list xs.toList xs.toList.length (Nat.le_refl _)
  rw [← Array.length_toList, this, ← List.length_reverse, List.take_length]
theorem getItem_tuple_back {t sl : Addr} {items : Array Value} {vl vu vs : Value} {Q : Value → Shared → Prop} (ht : IsTup s.heap t items) (hs : s.heap.IsSliceOf sl vl vu vs) (pl : IsPart vl none) (pu : IsPart vu none) (pst : IsPart vs (some (-1)))
    (h : Q (.ref s.heap.objs.size) { s with heap := s.heap.push { cls := .type "tuple", data := .seq items.toList.reverse.toArray } }) (hsz : items.size ≤ sizeLine) : wpAny (model prog w) A (getItem (.ref t) (.ref sl)) Q E s := by
  have room : sizeOk (.seq items.toList.reverse.toArray) := by
    show items.toList.reverse.toArray.size ≤ sizeLine
    rw [List.size_toArray, List.length_reverse, Array.length_toList]
    exact hsz
  obtain ⟨os, hos, hcs, hds⟩ := id hs
  have hTs : s.TypeIs (.ref sl) "slice" := ⟨os, hos, hcs⟩
  unfold getItem
  try with_reducible refine wpAny_holding ?_
  first | refine wpAny_bind (wpAny_pure ?_) | skip
  refine wpAny_bind (wpAny_sequenceKey ht.typeIs (by decide) ?_)
  refine wpAny_bind (wpAny_callSpecial?_slot (name := Str.ofString "__getitem__") ht.typeIs PyProof.Rows.slot_tuple_getitem (wpAny_call_entry PyProof.Rows.slot_tuple_getitem ht.typeIs entry_tuple_getitem ?_ (args_tuple_getitem _ _)))
  show wpAny _ _ (Builtin.Tuple.tupleItemsOf (.ref t) >>= _) _ _ s
  refine wpAny_bind (tupleItemsOf_ ht (wpAny_bind (wpAny_typeOf hTs ?_)))
  rw [if_pos (by decide)]
  refine wpAny_bind (applied_back hs pl pu pst ?_)
  have off : ¬ ((((items.size : Nat) : Int) - 1 == 0 && (-1 : Int) == 1 && items.size == items.size) = true) := by
    rw [show ((-1 : Int) == 1) = false from rfl, Bool.and_false, Bool.false_and]
    exact Bool.false_ne_true
  show wpAny _ _ (if ((((items.size : Nat) : Int) - 1) == 0 && (-1 : Int) == 1 && items.size == items.size) = true then _ else _) _ _ s
  rw [if_neg off, pick_back]
  first
    | exact wpAny_bind (m := Builtin.Tuple.tupleExact _) (wpAny_newObj_type (wpAny_pure ⟨_, rfl, wpAny_pure h⟩) room)
    | exact wpAny_bind (m := Builtin.Tuple.tupleExact _) (wpAny_newObj_type (wpAny_bind (wpAny_pure (wpAny_pure ⟨_, rfl, wpAny_pure h⟩))) room)
    | exact wpAny_bind (wpAny_bind (m := Builtin.Tuple.tupleExact _) (wpAny_newObj_type (wpAny_pure (wpAny_pure ⟨_, rfl, wpAny_pure h⟩)) room))
    | exact wpAny_bind (wpAny_bind (m := Builtin.Tuple.tupleExact _) (wpAny_newObj_type (wpAny_pure ⟨_, rfl, wpAny_pure h⟩) room))
end
section
variable {X : Cx}
/-- t[::-1] -/
def tRevT (te : TE) : TE := fun σ H Q => te σ H fun x H1 => ∃ a xs, x = .ref a ∧ TupF H1 a xs ∧ kT xs.reverse H1 Q
theorem pe_revT {e : Expr} {te : TE} {k : Nat} {p1 p2 p3 pos : Pos} (he : PE X e te) : PE X (.Subscript e (.Slice none none (some (.UnaryOp .USub (.Constant (.int 1) k p1) p2)) p3) pos) (tRevT te) := by
  refine ⟨fun pins s σ H Q I h => Subscript_ (thn (he.run pins s σ H _ I h) fun v s1 ⟨x, H1, I1, r1, q1⟩ => ?_)⟩
  obtain ⟨a, xs, rfl, hx, q⟩ := q1
  cases r1
  have step : PO X (some (.UnaryOp .USub (.Constant (.int 1) k p1) p2)) (tPart (tUn (rU fun i => .int (-i)) (tC (.int 1)))) := po_some (pe_un un_neg pe_int)
  refine wpAny_Slice (thn (po_none.run pins s1 σ H1 (fun o H2 => o = none ∧ H2 = H1) I1 ⟨rfl, rfl⟩) fun vl s2 ⟨l, H2, I2, pl, el, e2⟩ => ?_)
  subst el e2
  refine thn (po_none.run pins s2 σ H2 (fun o H3 => o = none ∧ H3 = H2) I2 ⟨rfl, rfl⟩) fun vu s3 ⟨u, H3, I3, pu, eu, e3⟩ => ?_
  subst eu e3
  refine thn (step.run pins s3 σ H3 (fun o H4 => o = some (-1) ∧ H4 = H3) I3 ⟨1, rfl, -1, rfl, rfl, rfl⟩) fun vs s4 ⟨o, H4, I4, pst, eo, e4⟩ => ?_
  subst eo e4
  have I5 : Inv X pins σ H4 { s4 with heap := s4.heap.push { cls := .type "slice", data := .fields #[vl, vu, vs] } } := I4.kept (t' := s4.toks) fun b ob q => Heap.get?_push_of_some _ q
  obtain ⟨its, r, ht, hz⟩ := I5.tuple (hx.sq (K := X.K))
  have hlen := r.length
  show wpAny (model X.prog X.w) X.A (subscriptTail e (.Slice none none (some (.UnaryOp .USub (.Constant (.int 1) k p1) p2)) p3) (.ref a) (.ref s4.heap.objs.size)) (EP X pins σ Q) X.xe { s4 with heap := s4.heap.push { cls := .type "slice", data := .fields #[vl, vu, vs] } }
  refine tail_any (ops := [.ref a, .ref s4.heap.objs.size]) ht.typeIs (PyProof.Rows.slot_tuple_getitem.lookup) ?_ (by with_unfolding_all rfl)
  refine getItem_tuple_back ht (Heap.IsSliceOf.new _ vl vu vs) pl pu pst ?_ (by rw [List.size_toArray]; omega)
  exact laidT (t' := s4.toks) I5 r.reverse (by rw [List.length_reverse]; exact hz) (fun b ob q => Heap.get?_push_of_some _ q) (Nat.le_refl _) (Heap.get?_push_size _ rfl) q
end
end Kx
namespace Kx
open PySem PySem.Spec PyProof.Rows L2
section
variable {X : Cx}
theorem pairs_at {pins : List (Addr × Obj)} {σ : L2.St} {H : Hp} {s : Shared} (I : Inv X pins σ H s) : ∀ {ps : List Addr} {kvs : List (Key × V)}, Paired (fun p kv => SqT X.K H p [kV kv.1, kv.2]) ps kvs →
    ∃ (prs : List (Key × Value)) (vps : List (Value × Value)), KV kvs prs ∧ prs.length = ps.length ∧ vps.length = ps.length ∧
      ∀ (j : Nat) (k v : Value), vps[j]? = some (k, v) → ∃ (b : Addr) (kk : Key), ps[j]? = some b ∧ IsTup s.heap b #[k, v] ∧ prs[j]? = some (kk, v) ∧ keyIs kk k = true
  | _, _, .nil => ⟨[], [], .nil, rfl, rfl, fun j k v e => by simp at e⟩
  | _, _, .cons (a := p) (b := kv) h t => by
    obtain ⟨prs, vps, r, h1, h2, hp⟩ := pairs_at I t
    obtain ⟨its, rv, ht, _⟩ := I.tuple h
    obtain ⟨u, y, ei, ru, ry⟩ := vals2 rv
    subst ei
    have hk : keyIs kv.1 u = true := by
      cases e : kv.1 with
      | inl i => rw [e] at ru; obtain ⟨t, rfl⟩ := ru; exact keyIs_int i t
      | inr x => rw [e] at ru; obtain ⟨t, rfl⟩ := ru; exact keyIs_str x t
    refine ⟨(kv.1, y) :: prs, (u, y) :: vps, .cons ⟨rfl, ry⟩ r, by simp [h1], by simp [h2], fun j k v e => ?_⟩
    cases j with
    | zero =>
      cases e
      exact ⟨p, kv.1, rfl, ht, rfl, hk⟩
    | succ j => exact hp j k v e
/-- dict(tuple of pairs) -/
theorem call_dictT (hcalm : X.calm = true) : CallR X (.type "dict") (fun xs H Q => ∃ (a : Addr) (ps : List Addr) (kvs : List (Key × V)), xs = [.ref a] ∧ TupF H a (ps.map V.ref) ∧ Paired (fun p kv => SqT X.K H p [kV kv.1, kv.2]) ps kvs ∧
    ∀ p, H p = none → Q (.ref p) (upd H p (.dK (mergeK [] kvs)))) := by
  intro pins s σ H xs us Q I r q
  obtain ⟨a, ps, kvs, rfl, hq, hp, q⟩ := q
  obtain ⟨u, rfl, rx⟩ := vals1 r
  cases rx
  obtain ⟨ob, od, hob⟩ := hq
  obtain ⟨g1, hz, its, rv, o, g2, oc, n, odat⟩ := (show ObjOk X.prog X.w H s.heap a (.frz ob (.tup (ps.map V.ref))) from I.hok a _ hob)
  rw [g1] at g2
  cases g2
  have ei := refs_at rv
  rw [List.length_map] at hz
  obtain ⟨prs, vps, rel, hl, hl2, hpr⟩ := pairs_at I hp
  have ok : (fun h => PlainSeq "tuple" h a its.toArray ∧ PairItems h its.toArray (fun j => ps.getD j 0) vps) s.heap := by
    refine ⟨⟨ob, n, g1, oc, od, odat⟩, ?_, fun j k v e => ?_⟩
    · rw [List.size_toArray, ei, List.length_map, hl2]
    · obtain ⟨b, kk, e1, e2, _⟩ := hpr j k v e
      refine ⟨?_, ?_⟩
      · show its.toArray[j]? = _
        rw [List.getElem?_toArray, ei, List.getElem?_map, e1]
        simp [e1]
      · show PairAt s.heap (ps.getD j 0) k v
        rw [List.getD_eq_getElem?_getD, e1]
        exact .inl e2
  refine PySem.call_dict_pairs (knd := mixKind X.prog X.w) (kvs := prs) (PairArg.tuple a its.toArray (fun j => ps.getD j 0) vps) (I.ok.hd hcalm) ok ⟨by rw [hl, hl2], fun i k v e => ?_⟩ (by rw [hl2]; exact hz) fun h' tk hd' k => ?_
  · obtain ⟨b, kk, _, _, e3, e4⟩ := hpr i k v e
    exact ⟨kk, e3, e4⟩
  · have hm : (s.heap.objs.size == sysModules) = false := beq_eq_false_iff_ne.mpr (Nat.ne_of_gt I.big)
    have hlen : (mergeK [] kvs).length ≤ sizeLine := by
      refine Nat.le_trans (length_mergeK kvs []) ?_
      rw [List.length_nil, Nat.zero_add, rel.length, hl]
      exact hz
    exact ⟨.ref s.heap.objs.size, upd H s.heap.objs.size (.dK (mergeK [] kvs)), I.laid (t' := tk) (fun b o e => k b o (by simp) e) (Nat.le_refl _) (show ObjOk X.prog X.w _ _ _ (.dK (mergeK [] kvs)) from ⟨hlen, hm, merged [] prs, KV.merge rel .nil, hd'⟩), rfl, q _ (I.hok.fresh (Nat.le_refl _))⟩
/-! ### t * n, the empty one too -/
theorem tuple_mul0 (l : Addr) (n : Nat) (dd : Option Addr) (sl : Array (Option Value)) (x : Int) (u : Tok) (c0 : (decide (x < -(2 ^ 63)) || decide (x ≥ 2 ^ 63)) = false) :
    Meets (Builtin.«tuple.__mul__» ⟨[.ref l, .int x u], []⟩) (fun _ R s => s.heap.get? l = some { cls := .type "tuple", dict := dd, data := .seq #[] n, slots := sl } ∧ R (.ok (.ret (Value.ref l))) s) :=
  .of_wp fun prog w A R s h => by
    obtain ⟨hp, g, d, tk, os⟩ := s
    obtain ⟨hl, h⟩ := h
    have f1 := AutoSeq1.idx_int
    wp_walk using PySem.AutoSeq1.wpAny_loadPart' hl
    refine wpAny_ite_false (decide_eq_false (by rw [c0]; exact Bool.false_ne_true)) ?_
    wp_walk using PySem.AutoSeq1.wpAny_loadPart' hl
    exact ⟨_, rfl, h⟩
def rRepF : R2 := fun x y H Q => ∃ l k xs, x = .ref l ∧ y = .int k ∧ TupF H l xs ∧ 2 ≤ k ∧ k ≤ 1000 ∧ xs.length ≤ 1000 ∧ kT (List.replicate k.toNat xs).flatten H Q
theorem op_repF : OpR X (binaryOp .Mult) rRepF := by
  intro pins s σ H x y v u Q I rx ry h
  obtain ⟨l, k, xs, rfl, rfl, hT, h1, h2, hz, q⟩ := h
  have ryk := ry
  have rxl := rx
  cases rx
  obtain ⟨t, rfl⟩ := ry
  obtain ⟨its, r, ⟨⟨cls, dd, data, sl⟩, ho, hc, n, hd⟩, hs⟩ := I.tuple (hT.sq (K := X.K))
  simp only at hc hd
  subst hc hd
  have c0 : (decide (k < -(2 ^ 63)) || decide (k ≥ 2 ^ 63)) = false := by
    rw [decide_eq_false (by omega), decide_eq_false (by omega)] <;> rfl
  by_cases hne : xs = []
  · subst hne
    cases r
    have e : (List.replicate k.toNat ([] : List V)).flatten = [] := by simp
    rw [e] at q
    refine wpAny_binaryOp_repeat_ref (T := "tuple") (U := "int") (by decide) ⟨_, ho, rfl⟩ (fun s' => typeIs_int s' k t) noFill_tuple_mul PySem.F.fills_int_mul PySem.F.slot_int_rmul repeat_tuple PySem.F.slot_int_index.lookup
      (call_meets PySem.F.slot_int_rmul (typeIs_int s k t) PySem.F.entry_int_rmul (PySem.F.args_int_rmul_2 _ _) (int_rmul_tuple k t l #[] n dd sl)
        ⟨ho, rfl, ⟨_, ho, rfl⟩, call_meets PySem.F.slot_tuple_mul ⟨_, ho, rfl⟩ PySem.F.entry_tuple_mul (PySem.F.args_tuple_mul_2 _ _) (tuple_mul0 l n dd sl k t c0) ⟨ho, ?_⟩⟩)
    exact stayT I hT q
  · have hi : its ≠ [] := fun e => hne (by
      have := r.length
      rw [e] at this
      exact List.eq_nil_of_length_eq_zero this)
    have hie : its.toArray.isEmpty = false := by
      cases its with
      | nil => exact absurd rfl hi
      | cons a b => rfl
    have hl : its.toArray.size = xs.length := by rw [List.size_toArray]; exact r.length.symm
    have hm : ((its.toArray.size : Nat) : Int) * k ≤ 1000000 := by
      rw [hl]
      have a1 : ((xs.length : Nat) : Int) * k ≤ 1000 * k := Int.mul_le_mul_of_nonneg_right (by omega) (by omega)
      omega
    have flen : (List.replicate k.toNat xs).flatten.length ≤ sizeLine := by
      rw [PyProof.Rows.lm_len_rep_flat, sizeLine_eq]
      have a1 : k.toNat * xs.length ≤ 1000 * 1000 := Nat.mul_le_mul (by omega) hz
      omega
    have flen2 : (List.replicate k.toNat its).flatten.length ≤ sizeLine := by
      rw [PyProof.Rows.lm_len_rep_flat, ← r.length, ← PyProof.Rows.lm_len_rep_flat]
      exact flen
    have c1 : (its.toArray.isEmpty || k == 1) = false := by
      rw [hie, Bool.false_or]
      exact beq_eq_false_iff_ne.mpr (by omega)
    have c2 : (decide (k ≤ 0) || its.toArray.isEmpty) = false := by
      rw [hie, Bool.or_false]
      exact decide_eq_false (by omega)
    have c4 : Builtin.Tuple.tupleTooMany (((its.toArray.size : Nat) : Int) * k) = false := by
      unfold Builtin.Tuple.tupleTooMany
      rw [sizeLine_eq]
      exact decide_eq_false (by omega)
    refine wpAny_binaryOp_repeat_ref (T := "tuple") (U := "int") (by decide) ⟨_, ho, rfl⟩ (fun s' => typeIs_int s' k t) noFill_tuple_mul PySem.F.fills_int_mul PySem.F.slot_int_rmul repeat_tuple PySem.F.slot_int_index.lookup
      (call_meets PySem.F.slot_int_rmul (typeIs_int s k t) PySem.F.entry_int_rmul (PySem.F.args_int_rmul_2 _ _) (int_rmul_tuple k t l its.toArray n dd sl)
        ⟨ho, rfl, ⟨_, ho, rfl⟩, call_meets PySem.F.slot_tuple_mul ⟨_, ho, rfl⟩ PySem.F.entry_tuple_mul (PySem.F.args_tuple_mul_2 _ _) (tuple_mulW l its.toArray n dd sl k t c0 c1 c2 (by omega) c4 (by rw [size_rep, List.size_toArray]; exact flen2)) ⟨ho, ?_⟩⟩)
    rw [size_rep]
    exact laidT (t' := s.toks) I (r.rep k.toNat) flen (fun b o e => Heap.get?_push_of_some _ e) (Nat.le_refl _) (Heap.get?_push_size _ rfl) q
end
end Kx
namespace Kx
open PySem PySem.Spec PyProof.Rows L2
/-! ### defs that are called where nothing is being shown -/
structure FnOkG (P : Program) (w : World) (K : PySem.W.Frag) (mg : Str → Option Value) (base : Heap) (CX : CXT) (k : Nat) (f : Addr) (fd : FuncData) (ps : List Str) (sp : Sp) : Prop where
  len : ∀ vs H Q E, sp vs H Q E → vs.length = ps.length
  run : ∀ (A : Around) (outer : List Env) (s : Shared) (H : Hp) (args : Args) (us : List Value) (vs : List V) (Q : VK) (E : XK), A.guards = some [] → Room k A → Env0 P w K mg base A outer s H → BindsTo s fd args (ps.zip us) → Vals vs us → sp vs H Q E →
    codeAny (model P w) A (.call (.ref f) args) (CR CX outer P w H s Q E) s
section
variable {P : Program} {w : World} {K : PySem.W.Frag} {mg : Str → Option Value} {base : Heap} {x qual : Str} {params : Arguments} {body : List Stmt} {scope : Scope} {dvs : List V} {kws : List (Str × V)} {f : Addr} {fd : FuncData}
theorem okG {CX : CXT} {N ps : List Str} {k : Nat} {sp : Sp} (F : FunD K x qual params body scope dvs kws f fd) (S : FnScope N ps scope) (len : ∀ vs H Q E, sp vs H Q E → vs.length = ps.length)
    (hb : ∀ (cdv : Value) (A : Around) (outer : List Env) (s : Shared) (H : Hp) (vs : List V) (Q : VK) (E : XK), A.guards = some [] → Room k (A.deeper (envOfC qual scope s.heap.objs.size f cdv)) → sp vs H Q E →
      ∃ t, PSs (cxOf CX P w K mg base N qual scope f cdv A outer s H E) body t ∧ t { nx := fun _ H' => Q .non H', rt := Q } (start N vs) H) : FnOkG P w K mg base CX (k + 1) f fd ps sp := by
  obtain ⟨oc, od, dV, kV, doc, pm, an, cdv, ct, osl, rfl, lk, hcd, _, _⟩ := F.ex
  refine ⟨len, ?_⟩
  intro A outer s H args us vs Q E hg hr e0 hbd r hsp
  have keepB : ∀ b o, base.get? b = some o → s.heap.get? b = some o := fun b o e => (e0.bs b o e).1
  have inK := e0.mod.kin.keeps keepB
  have kinds : ∀ y ∈ ps.zip us, scope.names.lookup y.1 = some .local ∨ (scope.names.lookup y.1 = some .cell ∧ ((cellsFrom (s.heap.objs.size + 1) scope.names []).lookup y.1).isSome = true) := by
    intro y hy
    obtain ⟨n, v⟩ := y
    exact (S.par n (List.of_mem_zip hy).1).imp id fun q => ⟨q, PySem.W.cellsFrom_some _ _ _ (.inl q)⟩
  refine codeAny_call_function hr.depth (inK _ _ lk) rfl S.co S.gen rfl (PySem.W.codeRec_of inK hcd) (hbd _ _ _ _ (wpAny_newFunctionEnv_cells S.kind kinds ?_))
  intro env he s1 x1
  subst he
  refine ⟨(e0.mod.nolimit.keeps keepB).keeps x1.toInCall.keep, codeAny_func ?_⟩
  obtain ⟨t, ht, hq⟩ := hb cdv A outer s H vs Q E hg (hr.deeper _) hsp
  have I := inv_start (CX := CX) (E := E) S hr.hd e0 (len _ _ _ _ hsp) r x1
  refine wpAny_mono (ht.run [] s1 (start N vs) H _ I hq) (fun fl s' hs => ?_) fun _ _ hs => hs
  cases fl with
  | ret u => exact let ⟨v, _, H', J, rv, q⟩ := hs; ⟨v, H', J.os, J.bare, J.base, J.hok, rv, q⟩
  | next => exact let ⟨_, H', J, q⟩ := hs; ⟨V.non, H', J.os, J.bare, J.base, J.hok, rfl, q⟩
  | brk => exact let ⟨_, _, _, q⟩ := hs; q.elim
  | cont => exact let ⟨_, _, _, q⟩ := hs; q.elim
end
section
variable {X : Cx} {CX : CXT} {k : Nat} {f : Addr} {fd : FuncData} {ps : List Str} {sp : Sp} {E : XK} {x : Str} {p pos : Pos} {e : Expr} {es : List Expr} {t : TA}
theorem pe_callG (F : FnOkG X.prog X.w X.K X.mg X.base CX k f fd ps sp) (hgd : X.A.guards = some []) (hr : Room k X.A) (hg : Gl X x) (hm : X.mg x = some (.ref f)) (hk : PySem.W.keepIn X.K (.ref f) = true) (hb : Binds X.K fd ps []) (hx : Passes CX X E)
    (ha : PA X (e :: es) t) (hdb : (x == ("__debug__" : Str)) = false := by decide) (he : starEach (e :: es) X.env = (false, eval e X.env) :: starEach es X.env := by rfl) (hpl : (backTo pos (starEach es X.env)).any (·.1) = false := by rfl) :
    PE X (.Call (.Name x p) (e :: es) [] pos) (tCall sp [] E t) := by
  refine ⟨fun pins s σ H Q I h => wpAny_Call_Name_kw (ld_glob I hg hm ?_ hdb)⟩
  refine PySem.W.callWith_K (h₀ := X.base) I.ok.mod.kin hk (thn (ha.run pos pins s σ H _ I h) fun us s1 ⟨vs, H1, I1, r, q⟩ => ⟨I1.kIn, ?_⟩) he hpl
  have q' : sp vs H1 Q E := by simpa using q
  have hl : us.length = ps.length := by rw [← r.length]; exact F.len _ _ _ _ q'
  have bd : BindsTo s1 fd ⟨us, []⟩ (ps.zip us) := by simpa using hb s1 us I1.kIn (by simpa using hl)
  refine wpAny_call (codeAny_mono (F.run X.A X.stack s1 H1 ⟨us, []⟩ us vs Q E hgd hr I1.env0 bd r q') fun r s' hq => ?_)
  cases r with
  | error e => exact hx pins σ H1 s1 e s' I1 hq
  | ok fl =>
    cases fl with
    | ret u => exact I1.after hq
    | next => exact hq.elim
    | brk => exact hq.elim
    | cont => exact hq.elim
end
end Kx
namespace Kx
open PySem PySem.Spec PyProof.Rows L2
section
variable {P : Program} {w : World} {K : PySem.W.Frag} {mg mb : Str → Option Value} {k : Nat} {fa a : Addr} {fd : FuncData} {x : Str} {sp : Sp} {s₁ : Shared} {vs : List Value} {ns : List Int}
/-- the call of the law over one abstract heap -/
theorem law_coreG {H : Hp} (hO : Only H) (hS : SqL K H a (ns.map V.int)) (hok : HOk P w H s₁.heap) (hfrz : ∀ b u, H b = some u → ∃ o xs, u = .frz o (.lst xs)) (hA : ∀ b, H b ≠ none → b = a) (hK : H a ≠ none → K.lookup a = none)
    (KX : K.In s₁.heap) (hns : s₁.heap.Ns mainGlobals mg) (hb : s₁.heap.Ns builtinsNs mb) (hbb : ∀ x : Str, x ≠ "__name__" → mb x = bootBuiltins x) (hlim : s₁.heap.NoLimit) (hg : s₁.gens = #[])
    (ha : s₁.heap.get? a = some { cls := .type "list", data := .seq vs.toArray }) (hr : Room k callerA)
    (F : ∀ base : Heap, K.In base → base.Ns mainGlobals mg → FnOkG P w K mg base CX0 k fa fd [x] sp) (hbind : ∀ (s : Shared) (u : Value), BindsTo s fd ⟨[u], []⟩ [(x, u)])
    (hsp : sp [.ref a] H (fun v _ => v = .bl true) fun _ _ _ => False) :
    codeAny (model P w) callerA (.call (.ref fa) ⟨[.ref a], []⟩) (fun r s' => r = .ok (.ret (.bool true)) ∧ OldK s₁.heap s'.heap ∧ s'.os = s₁.os ∧ AllBare s'.gens) s₁ := by
  have inB : ∀ {b : Addr} {o : Obj}, s₁.heap.get? b = some o → H b = none → (hidT s₁.heap H).get? b = some o := fun e n => hidT_get e n
  have free : ∀ {b : Addr} {o : Obj}, s₁.heap.get? b = some o → (b = a → K.lookup a = none → False) → (b = a → H a = none) → H b = none := fun {b o} e _ h2 => by
    cases q : H b with
    | none => rfl
    | some u =>
      have e' := hA b (by rw [q]; simp)
      have := h2 e'
      rw [e', this] at q
      cases q
  have dictFree : ∀ {b : Addr} {o : Obj} {es : Array DictEntry} {ep : Nat}, s₁.heap.get? b = some o → o.data = .dict es ep → H b = none := fun {b o es ep} e d => by
    cases q : H b with
    | none => rfl
    | some u =>
      have e' := hA b (by rw [q]; simp)
      rw [e', ha] at e
      cases e
      cases (show Data.seq vs.toArray _ = Data.dict es ep from d)
  have nsB : ∀ {b : Addr} {m : Str → Option Value}, s₁.heap.Ns b m → (hidT s₁.heap H).Ns b m := fun {b m} h => by
    obtain ⟨o, es, ep, e, d, r⟩ := h
    exact ⟨o, es, ep, inB e (dictFree e d), d, r⟩
  have inKB : K.In (hidT s₁.heap H) := by
    intro b o e
    refine inB (KX b o e) ?_
    cases q : H b with
    | none => rfl
    | some u =>
      have e' := hA b (by rw [q]; simp)
      rw [e'] at e q
      rw [hK (by rw [q]; simp)] at e
      cases e
  have md : Mod K mg (hidT s₁.heap H) := by
    obtain ⟨mc, h1, h2⟩ := hlim
    exact ⟨inKB, nsB hns, ⟨mb, nsB hb, hbb⟩, mc, nsB h1, h2⟩
  have none_in : ∀ b : Addr, ¬ b ∈ ([] : List Addr) := fun b => List.not_mem_nil
  have e0 : Env0 P w K mg (hidT s₁.heap H) callerA [] s₁ H := ⟨rfl, md, fun b o e => of_hidT e, Nat.le_of_eq (hidT_size _ _), trivial, fun b hb => absurd (show b ∈ ([] : List Addr) from hb) (none_in b), hok, .of_eq hg⟩
  refine codeAny_mono ((F _ inKB (nsB hns)).run callerA [] s₁ H ⟨[.ref a], []⟩ [.ref a] [.ref a] _ _ rfl hr e0 (hbind s₁ (.ref a)) (.cons rfl .nil) hsp) ?_
  intro r s' h
  cases r with
  | error e => exact absurd h (by intro z; exact z.elim)
  | ok fl =>
    cases fl with
    | next => exact h.elim
    | brk => exact h.elim
    | cont => exact h.elim
    | ret u =>
      obtain ⟨v, H', os, bare, un, hok', r', q⟩ := h
      obtain rfl : v = .bl true := q
      obtain rfl : u = Value.bool true := r'
      refine ⟨rfl, OldK.of_keep fun b o e => ?_, os, bare⟩
      cases q : H b with
      | none => exact un.keep b o e q (none_in b) (by simp)
      | some u =>
        obtain ⟨ob, xs, rfl⟩ := hfrz b u q
        obtain ⟨e1, _⟩ := hok b _ q
        obtain ⟨e2, _⟩ := hok' b _ (un.frzs b ob _ q)
        rw [e] at e1
        cases e1
        exact e2
theorem law_callG (KX : K.In s₁.heap) (hns : s₁.heap.Ns mainGlobals mg) (hb : s₁.heap.Ns builtinsNs mb) (hbb : ∀ x : Str, x ≠ "__name__" → mb x = bootBuiltins x) (hlim : s₁.heap.NoLimit) (hg : s₁.gens = #[])
    (ha : s₁.heap.get? a = some { cls := .type "list", data := .seq vs.toArray }) (hi : IntsAre vs ns) (hl : ns.length ≤ sizeLine) (hr : Room k callerA)
    (F : ∀ base : Heap, K.In base → base.Ns mainGlobals mg → FnOkG P w K mg base CX0 k fa fd [x] sp) (hbind : ∀ (s : Shared) (u : Value), BindsTo s fd ⟨[u], []⟩ [(x, u)])
    (hsp : ∀ H : Hp, Only H → SqL K H a (ns.map V.int) → sp [.ref a] H (fun v _ => v = .bl true) fun _ _ _ => False) :
    codeAny (model P w) callerA (.call (.ref fa) ⟨[.ref a], []⟩) (fun r s' => r = .ok (.ret (.bool true)) ∧ OldK s₁.heap s'.heap ∧ s'.os = s₁.os ∧ AllBare s'.gens) s₁ := by
  have rv := vals_ints hi
  have hlv : vs.length ≤ sizeLine := by rw [hi.length]; exact hl
  cases hk : K.lookup a with
  | some o =>
    have e := KX a o hk
    rw [ha] at e
    cases e
    have hO : Only (fun _ => none : Hp) := fun _ => .inl rfl
    have hS : SqL K (fun _ => none : Hp) a (ns.map V.int) := .inr ⟨_, vs.toArray, _, hk, rfl, rfl, rfl, by rw [List.size_toArray]; exact hlv, by simpa using rv⟩
    refine law_coreG hO hS (fun b u z => ?_) (fun b u z => ?_) (fun b z => absurd rfl z) (fun z => absurd rfl z) KX hns hb hbb hlim hg ha hr F hbind (hsp _ hO hS)
    · cases (show (none : Option HO) = some u from z)
    · cases (show (none : Option HO) = some u from z)
  | none =>
    let ob : Obj := { cls := .type "list", data := .seq vs.toArray }
    let H : Hp := upd (fun _ => none) a (.frz ob (.lst (ns.map V.int)))
    have H_at : H a = some (.frz ob (.lst (ns.map V.int))) := upd_same
    have H_off : ∀ b, b ≠ a → H b = none := fun b h => upd_ne h
    have H_is : ∀ b u, H b = some u → b = a ∧ u = .frz ob (.lst (ns.map V.int)) := fun b u z => by
      by_cases h : b = a
      · subst h; rw [H_at] at z; cases z; exact ⟨rfl, rfl⟩
      · rw [H_off b h] at z; cases z
    have hO : Only H := fun b => by
      by_cases h : b = a
      · exact .inr ⟨ob, _, h ▸ H_at⟩
      · exact .inl (H_off b h)
    have hS : SqL K H a (ns.map V.int) := .inl (.inr ⟨ob, H_at⟩)
    refine law_coreG hO hS (fun b u z => ?_) (fun b u z => ?_) (fun b z => ?_) (fun _ => hk) KX hns hb hbb hlim hg ha hr F hbind (hsp _ hO hS)
    · obtain ⟨rfl, rfl⟩ := H_is b u z
      exact ⟨ha, by rw [List.length_map]; exact hl, vs, _, rv, ha⟩
    · obtain ⟨_, rfl⟩ := H_is b u z
      exact ⟨_, _, rfl⟩
    · by_cases h : b = a
      · exact h
      · exact absurd (H_off b h) z
end
/-- the end of a law whose def is told by FnOkG -/
theorem walk_ofG {l : PySem.W.OpenLaw} {n k : Nat} {q : Program} {loose : List Str} {XP : (Str → Option Value) → Heap → Prop} {YP : World → Heap → Prop} {d : DefRec} {x : Str}
    (hn : l.most = some n) (hn2 : n ≤ sizeLine) (hdf : d.params.defaults = []) (hr : Room k callerA)
    (F : ∀ (w : World) (mg : Str → Option Value) (fa : Addr) (h : Heap), YP w h → h.Ns mainGlobals mg → mg d.name = some (.ref fa) →
      ∃ (K : PySem.W.Frag) (fd : FuncData) (sp : Sp), K.In h ∧ (∀ (s : Shared) (u : Value), BindsTo s fd ⟨[u], []⟩ [(x, u)]) ∧
        (∀ (H : Hp) (a : Addr) (ns : List Int), ns.length ≤ n → Only H → SqL K H a (ns.map V.int) → sp [.ref a] H (fun v _ => v = .bl true) fun _ _ _ => False) ∧
        ∀ base : Heap, K.In base → base.Ns mainGlobals mg → FnOkG l.prog w K mg base CX0 k fa fd [x] sp) :
    PySem.W.WalkO q loose XP YP l.row.toRowW d [] (fun f vs => PySem.call f vs) := by
  refine Att.attach_call hn hdf ?_
  intro w s₀ s₁ mg mb fa o pm cd doc a vs ns G Y ho hd hcd hmg hobj hints hlen hg
  obtain ⟨K, fd, sp, inK, bd, hs, hF⟩ := F w mg fa _ Y G.T.g hmg
  exact law_callG inK G.T.g G.T.b G.T.builtins G.T.nolimit hg hobj hints (Nat.le_trans hlen hn2) hr hF bd fun H hO hS => hs H a ns hlen hO hS
end Kx
namespace Kx
open PySem PySem.Spec PyProof.Rows L2
/-! ### != by an own == -/
theorem ne_own {prog : Program} {w : World} {A : Around} {E : Value → Shared → Prop} {s : Shared} {K : PySem.W.Frag} {x C f : Addr} {ox : Obj} {od : Option Obj} {b : Value} {Q : Value → Shared → Prop}
    (hu : A.units + 1 < cLine) (X : K.In s.heap) (I : PySem.W.InstAt s.heap x ox C od) (hb : PySem.W.Looks (model prog w) s.heap (typeOf b) (.ref C))
    (hn : PySem.W.findIn K (.ref C) "__ne__" = some (some (.builtin "object.__ne__"))) (hs : PySem.W.findIn K (.ref C) "__eq__" = some (some (.ref f))) (hf : PySem.W.isFn K (.ref f) = true) (hm : PySem.W.mroIn K C (.type "object") = some true)
    (h : wpAny (model prog w) A.in1 (call (.ref f) [.ref x, b]) (fun v s' => ∃ c, v = .bool c ∧ Q (.bool (!c)) s') E s) : wpAny (model prog w) A (richCompare .NotEq (.ref x) b) Q E s := by
  have inner : wpAny (model prog w) A.in1 (Builtin.«object.__ne__» ⟨[.ref x, b], []⟩) (fun fin s' => ∃ c, fin = .done (.ret (.bool (!c))) ∧ Q (.bool (!c)) s') E s := by
    unfold Builtin.«object.__ne__»
    repeat (first
      | with_reducible refine wpAny_cRoomFor hu ?_
      | (refine wpAny_bind (m := callSpecialIfBound? (.ref x) (Str.ofString "__eq__") [b])
          (PySem.W.ifBound_K X I hs hf (wpAny_mono h (fun r s' hr => by
            obtain ⟨c, rfl, hq⟩ := hr
            repeat (first | exact ⟨c, rfl, hq⟩ | exact wpAny_pure ⟨c, rfl, hq⟩ | exact wpAny_truthy_bool ⟨c, rfl, hq⟩ | (refine wpAny_bind (m := truthy (.bool _)) (wpAny_truthy_bool ?_)) | wp_step)) fun _ _ e => e)))
      | wp_step)
  have one : wpAny (model prog w) A (tryCompare (.ref x) "__ne__" b) (fun r s' => ∃ v, r = some v ∧ Q v s') E s := by
    simp only [tryCompare, callSpecialIfBound?, bindSpecialIfBound?]
    have fin : wpAny (model prog w) A (call (.builtin "object.__ne__") [.ref x, b]) (fun v s' => ∃ c, v = .bool (!c) ∧ Q (.bool (!c)) s') E s := by
      refine wpAny_call (codeAny_call_builtin F.cmp_object.ne.plain F.cmpEntry_ne (PySem.W.check_slot (i := "object.__ne__") (owner := "object") (n := "__ne__") F.cmpKind_ne F.cmpSplit_ne (I.type.andThen (PySem.W.looks_mroIn X hm)) (F.cmpArgs_ne _ _) ?_))
      refine wpAny_mono inner (fun fin s' hq => ?_) fun _ _ e => e
      obtain ⟨c, rfl, q⟩ := hq
      exact ⟨c, rfl, q⟩
    refine wpAny_bind (wpAny_holding (wpAny_bind (wpAny_bind (wpAny_bind (I.type.here ((PySem.W.looks_findIn X hn).here ?_))))))
    simp only [F.cmp_object.ne.bind]
    refine wpAny_bind (wpAny_askSetting (wpAny_ite ?_))
    have fin2 : wpAny (model prog w) A (call (.builtin "object.__ne__") ([.ref x] ++ [b]) >>= fun v => pure (some v)) (fun r s' => ∃ c, r = some (.bool (!c)) ∧ Q (.bool (!c)) s') E s :=
      wpAny_bind (wpAny_mono fin (fun v s' h' => wpAny_pure (by obtain ⟨c, rfl, q⟩ := h'; exact ⟨c, rfl, q⟩)) fun _ _ h' => h')
    split
    · exact wpAny_bind (wpAny_pure (wpAny_pure (wpAny_mono fin2 (fun r s' hr => by obtain ⟨c, rfl, q⟩ := hr; exact wpAny_pure ⟨_, rfl, q⟩) fun _ _ e => e)))
    · exact wpAny_tryCatch (wpAny_bind (wpAny_pure (wpAny_pure (wpAny_mono fin2 (fun r s' hr => by obtain ⟨c, rfl, q⟩ := hr; exact wpAny_pure ⟨_, rfl, q⟩) fun _ _ e => e))))
  unfold richCompare
  simp only [oneThing_ref]
  refine wpAny_holding (wpAny_bind (wpAny_cRoomFor (Nat.lt_of_succ_lt hu) ?_))
  refine wpAny_bind (I.type.here (wpAny_bind (hb.here ?_)))
  rw [show (Value.ref C != Value.ref C) = false from by simp]
  simp only [Bool.false_eq_true, if_false]
  refine wpAny_bind (wpAny_pure ?_)
  simp only [Bool.false_eq_true, if_false]
  refine wpAny_bind (wpAny_mono one (fun r s' z => ?_) fun _ _ e => e)
  obtain ⟨v, rfl, hq⟩ := z
  exact wpAny_pure hq
section
variable {X : Cx} {CX : CXT} {k : Nat} {C f : Addr} {fd : FuncData} {ps : List Str} {sp : Sp} {E : XK}
/-- what stands beside an instance in a comparison: an instance of the class, or a list -/
def rEqO (C : Addr) (sp : Sp) (E : XK) : R2 := fun x y H Q => ∃ a dx fs b, x = .ref a ∧ y = .ref b ∧ H a = some (.ins C dx fs) ∧ ((∃ dy gs, H b = some (.ins C dy gs)) ∨ ∃ ys, H b = some (.lst ys)) ∧ sp [.ref a, .ref b] H (fun v H' => ∃ c, v = .bl c ∧ Q (.bl c) H') E
theorem op_eqO (hs : PySem.W.findIn X.K (.ref C) "__eq__" = some (some (.ref f))) (hf : PySem.W.isFn X.K (.ref f) = true) (hl : PySem.W.notFirst X.K C (.type "list") = true) (F : FnOk X.prog X.w X.K X.mg X.base CX k f fd ps sp) (hr : Room k X.A) (hb : Binds X.K fd ps [])
    (hx : Passes CX X E) : OpR X (compareOp .Eq) (rEqO C sp E) := by
  intro pins s σ H x y v u Q I rx ry h
  obtain ⟨a, dx, fs, b, rfl, rfl, ha, hy, q⟩ := h
  cases rx
  cases ry
  obtain ⟨mA, O, _⟩ := ins_get I.hok ha
  obtain ⟨od, J, _⟩ := O.look
  obtain ⟨m, fr⟩ := I.fr
  have go : wpAny (model X.prog X.w) X.A (call (.ref f) [.ref a, .ref b]) (PySem.W.CmpBack (EP X pins σ Q)) X.xe s := by
    refine wpAny_mono (run_fn (us := [.ref a, .ref b]) (vs := [.ref a, .ref b]) (ds := []) (dvs := []) F hr hb .nil hx I (.cons rfl (.cons rfl .nil)) q) (fun r s' z => ?_) fun _ _ z => z
    obtain ⟨v', H', I', rv, c, rfl, qq⟩ := z
    cases (show r = Value.bool c from rv)
    exact ⟨.bl c, H', I', rfl, qq⟩
  show wpAny (model X.prog X.w) X.A (richCompare .Eq (.ref a) (.ref b)) (EP X pins σ Q) X.xe s
  rcases hy with ⟨dy, gs, hb'⟩ | ⟨ys, hb'⟩
  · obtain ⟨mB, O', _⟩ := ins_get I.hok hb'
    obtain ⟨od', J', _⟩ := O'.look
    exact PySem.W.cmp_K (op := .Eq) (tb := .ref C) hr.units0 fr I.ok.mod.kin J J'.type (by simp [PySem.W.notFirst]) hs hf go
  · obtain ⟨_, its, n, _, e⟩ := (show ObjOk X.prog X.w H s.heap b (.lst ys) from I.hok b _ hb')
    exact PySem.W.cmp_K (op := .Eq) (tb := .type "list") hr.units0 fr I.ok.mod.kin J (fun A Q E s' kp q => wpAny_typeOf_ref (kp _ _ e) q) hl hs hf go
def rNeO (C : Addr) (sp : Sp) (E : XK) : R2 := fun x y H Q => ∃ a dx fs b dy gs, x = .ref a ∧ y = .ref b ∧ H a = some (.ins C dx fs) ∧ H b = some (.ins C dy gs) ∧ sp [.ref a, .ref b] H (fun v H' => ∃ c, v = .bl c ∧ Q (.bl (!c)) H') E
theorem op_neO (hs : PySem.W.findIn X.K (.ref C) "__eq__" = some (some (.ref f))) (hn : PySem.W.findIn X.K (.ref C) "__ne__" = some (some (.builtin "object.__ne__"))) (hm : PySem.W.mroIn X.K C (.type "object") = some true) (hf : PySem.W.isFn X.K (.ref f) = true) (F : FnOk X.prog X.w X.K X.mg X.base CX k f fd ps sp) (hr : Room (k + 1) X.A) (hb : Binds X.K fd ps [])
    (hx : Passes CX X.nox E) : OpR X (compareOp .NotEq) (rNeO C sp E) := by
  intro pins s σ H x y v u Q I rx ry h
  obtain ⟨a, dx, fs, b, dy, gs, rfl, rfl, ha, hb', q⟩ := h
  cases rx
  cases ry
  obtain ⟨mA, O, _⟩ := ins_get I.hok ha
  obtain ⟨od, J, _⟩ := O.look
  obtain ⟨mB, O', _⟩ := ins_get I.hok hb'
  obtain ⟨od', J', _⟩ := O'.look
  show wpAny (model X.prog X.w) X.A (richCompare .NotEq (.ref a) (.ref b)) (EP X pins σ Q) X.xe s
  refine ne_own (by have := hr.un; omega) I.kIn J J'.type hn hs hf hm ?_
  refine wpAny_call (codeAny_mono (F.run X.A.in1 X.stack s H ⟨[.ref a, .ref b], []⟩ [.ref a, .ref b] [.ref a, .ref b] _ E hr.in1 I.env0.in1 (hb s [.ref a, .ref b] I.kIn ?_) (.cons rfl (.cons rfl .nil)) q) fun r s' z => ?_)
  · rw [← F.len _ _ _ _ q]; rfl
  · cases r with
    | error e => exact (hx pins σ H s e s' (I.wish _) z).elim
    | ok fl =>
      cases fl with
      | ret u =>
        obtain ⟨v, H', I3, rv, c, rfl, qq⟩ := I.after z
        cases (show u = Value.bool c from rv)
        exact ⟨c, rfl, .bl (!c), H', I3, rfl, qq⟩
      | next => exact False.elim z
      | brk => exact False.elim z
      | cont => exact False.elim z
end
/-! ### a method called by keywords alone -/
def tMethK (C : Addr) (m : Str) (n : Nat) (sp : Sp) (gV : List V → List V → List V) (E : XK) (ta : TE) (tk : TA) : TE := fun σ H Q => ta σ H fun x H1 => ∃ a dx fs, x = .ref a ∧ H1 a = some (.ins C dx fs) ∧ fs.lookup m = none ∧ tk σ H1 fun zs H2 => zs.length = n ∧ sp (gV [.ref a] zs) H2 Q E
section
variable {X : Cx} {CX : CXT} {k : Nat} {f C : Addr} {fd : FuncData} {ps ks : List Str} {sp : Sp} {E : XK} {m : Str} {pos apos : Pos} {o : Expr} {kws : List Keyword} {ta : TE} {tk : TA} {g : List Value → List Value → List Value} {gV : List V → List V → List V}
theorem run_fnKn {pins : List (Addr × Obj)} {σ : L2.St} {H : Hp} {s : Shared} {Q : VK} {us ws : List Value} {vs zs : List V} {n : Nat} (F : FnOk X.prog X.w X.K X.mg X.base CX k f fd ps sp) (hr : Room k X.A) (hb : KBn X.K fd ps n ks g gV) (hx : Passes CX X E)
    (I : Inv X pins σ H s) (r : Vals vs us) (rz : Vals zs ws) (l1 : vs.length = n) (l2 : zs.length = ks.length) (h : sp (gV vs zs) H Q E) : wpAny (model X.prog X.w) X.A (call (.ref f) us (ks.zip ws)) (EP X pins σ Q) X.xe s := by
  have r2 := hb.rel r rz
  refine wpAny_call (codeAny_mono (F.run X.A X.stack s H ⟨us, ks.zip ws⟩ (g us ws) (gV vs zs) Q E hr I.env0 (hb.to s us ws I.kIn (r.length.symm.trans l1) (rz.length.symm.trans l2)) r2 h) fun r s' hq => ?_)
  cases r with
  | error e => exact hx pins σ H s e s' I hq
  | ok fl =>
    cases fl with
    | ret u => exact I.after hq
    | next => exact False.elim hq
    | brk => exact False.elim hq
    | cont => exact False.elim hq
theorem pe_methK {pl : Sem Bool} (he : PE X o ta) (c : Cls X.K C) (hm : Meth X.K C m f) (F : FnOk X.prog X.w X.K X.mg X.base CX k f fd ps sp) (hr : Room k X.A) (hb : KBn X.K fd ps 1 ks g gV) (hx : Passes CX X E) (hkw : PK X kws tk)
    (hall : (backToKw pos (keywordEach kws X.env)).all (·.1.isSome) = true := by rfl) (hks : (backToKw pos (keywordEach kws X.env)).filterMap (·.1) = ks := by rfl)
    (hpl : ((backTo pos (starEach [] X.env)).any (·.1) || (backToKw pos (keywordEach kws X.env)).any (·.1.isNone)) = false := by rfl)
    (ht : eval (.Call (.Attribute o m apos) [] kws pos) X.env = (do
      let ov ← eval o X.env
      standAt apos.atName
      let (f, first) ← holding [ov] (getMethod ov m pl)
      callWith pos f first (backTo pos (starEach [] X.env)) (backToKw pos (keywordEach kws X.env))) := by rfl) :
    PE X (.Call (.Attribute o m apos) [] kws pos) (tMethK C m ks.length sp gV E ta tk) := by
  refine ⟨fun pins s σ H Q I h => ?_⟩
  refine PySem.W.methodCall_KW (pl := pl) (thn (he.run pins s σ H _ I h) fun u s1 ⟨x, H1, I1, rx, a, dx, fs, ex, ea, l, q⟩ => ?_) ht
  subst ex
  obtain rfl : u = Value.ref a := rx
  refine getmeth_ok I1 ea c hm l ?_
  refine PySem.W.callWith_KW0 (first := [.ref a]) (h₀ := X.base) I.ok.mod.kin hm.kp hall ?_ hpl
  refine thn (hkw.run pos pins s1 σ H1 _ I1 q) fun ws s2 ⟨zs, H2, I2, rz, l2, q2⟩ => ⟨I2.kIn, ?_⟩
  rw [hks]
  exact run_fnKn (us := [.ref a]) (vs := [.ref a]) F hr hb hx I2 (.cons rfl .nil) rz rfl l2 q2
end
end Kx
namespace Kx
open PySem PySem.Spec PyProof.Rows L2
def top (i : Nat) : Stmt := PySem.Challenge.pw_cellsenough_k02_terms_told_and_shifted.main.body.getD i (.Pass ⟨0, 0, 0, 0⟩)
abbrev s_wall : Stmt := top 0
abbrev s_is_integer : Stmt := top 3
abbrev s_copied : Stmt := top 5
abbrev s_InvalidNumber_init : Stmt := inClass (top 9) 0
abbrev s_is_name : Stmt := top 16
abbrev s_are_own_names : Stmt := top 17
abbrev s_check_own : Stmt := top 18
abbrev s_are_names : Stmt := top 19
abbrev s_is_array : Stmt := top 20
abbrev s_are_arrays : Stmt := top 21
abbrev s_kinds_of : Stmt := top 22
abbrev s_with_blanks : Stmt := top 23
abbrev s_Frame_init : Stmt := inClass (top 24) 0
abbrev s_Frame_arrays : Stmt := inClass (top 24) 1
abbrev s_Frame_positions : Stmt := inClass (top 24) 2
abbrev s_Frame_amounts : Stmt := inClass (top 24) 3
abbrev s_Frame_lengths : Stmt := inClass (top 24) 4
abbrev s_Frame_length_of : Stmt := inClass (top 24) 5
abbrev s_Frame_kind_of : Stmt := inClass (top 24) 6
abbrev s_Frame_is_fresh : Stmt := inClass (top 24) 7
abbrev s_Frame_is_position_term : Stmt := inClass (top 24) 8
abbrev s_Frame_is_value_term : Stmt := inClass (top 24) 9
abbrev s_Frame_shifted : Stmt := inClass (top 24) 10
abbrev s_Frame_with_names : Stmt := inClass (top 24) 11
abbrev s_Frame_renamed : Stmt := inClass (top 24) 12
abbrev s_Frame_has_place : Stmt := inClass (top 24) 13
abbrev s_Frame_has_amount : Stmt := inClass (top 24) 14
abbrev s_Frame_is_of_kind : Stmt := inClass (top 24) 15
abbrev s_Frame_contains : Stmt := inClass (top 24) 16
abbrev s_Frame_len : Stmt := inClass (top 24) 17
abbrev s_Frame_eq : Stmt := inClass (top 24) 18
abbrev s_Frame_str : Stmt := inClass (top 24) 19
abbrev s_law_filled : Stmt := top 26
abbrev s_law_dip : Stmt := top 27
abbrev s_law_choose : Stmt := top 28
abbrev s_law_shuffled : Stmt := top 29
abbrev s_law_name : Stmt := top 30
abbrev s_law_names : Stmt := top 31
abbrev s_law_parts : Stmt := top 32
abbrev s_law_lengths : Stmt := top 33
abbrev s_law_used : Stmt := top 34
abbrev s_law_number : Stmt := top 35
abbrev s_law_position : Stmt := top 36
abbrev s_law_value : Stmt := top 37
abbrev s_law_is_number : Stmt := top 38
abbrev s_law_is_position : Stmt := top 39
abbrev s_law_is_value : Stmt := top 40
abbrev s_law_near : Stmt := top 41
abbrev s_law_met : Stmt := top 42
abbrev s_law_shifted_right : Stmt := top 43
abbrev s_law_right : Stmt := top 44
abbrev s_law : Stmt := top 45
/-- a def of the top stands under its name -/
def Has (K : PySem.W.Frag) (mg : Str → Option Value) (x : Str) (st : Stmt) : Prop := ∃ f fd, FunD K x x (defArgs st) (defBody st) (defScope st) [] [] f fd ∧ mg x = some (.ref f)
/-- it keeps a promise -/
structure Cal (P : Program) (w : World) (K : PySem.W.Frag) (mg : Str → Option Value) (base : Heap) (CX : CXT) (k : Nat) (x : Str) (ps : List Str) (sp : Sp) (f : Addr) (fd : FuncData) : Prop where
  ok : FnOk P w K mg base CX k f fd ps sp
  g : mg x = some (.ref f)
  kp : PySem.W.keepIn K (.ref f) = true
  b : Binds K fd ps []
abbrev Ca (P : Program) (w : World) (K : PySem.W.Frag) (mg : Str → Option Value) (base : Heap) (k : Nat) (x : Str) (ps : List Str) (sp : Sp) : Prop := ∃ f fd, FnOk P w K mg base CX0 k f fd ps sp ∧ mg x = some (.ref f) ∧ PySem.W.keepIn K (.ref f) = true ∧ Binds K fd ps []
section
variable {P : Program} {w : World} {K : PySem.W.Frag} {mg : Str → Option Value} {base : Heap}
theorem cal_of {x : Str} {st : Stmt} {N ps : List Str} {k : Nat} {sp : Sp} (h : Has K mg x st) (S : FnScope N ps (defScope st))
    (bd : ∀ (kV doc pm : Value) (an : Option Addr) (cdv ct : Value) (us : List Value), us.length = ps.length → bindArgs (PySem.W.fnOf x x (defArgs st) (defBody st) (defScope st) .none kV doc pm an cdv ct) ⟨us, []⟩ = pure (ps.zip us))
    (len : ∀ vs H Q E, sp vs H Q E → vs.length = ps.length)
    (body : ∀ (f : Addr) (cdv : Value) (A : Around) (outer : List Env) (s : Shared) (H : Hp) (vs : List V) (Q : VK) (E : XK), Room k (A.deeper (envOfC x (defScope st) s.heap.objs.size f cdv)) → sp vs H Q E →
      ∃ t, PSs (cxOf CX0 P w K mg base N x (defScope st) f cdv A outer s H E).nox (defBody st) t ∧ t { nx := fun _ H' => Q .non H', rt := Q } (start N vs) H) : Ca P w K mg base (k + 1) x ps sp := by
  obtain ⟨f, fd, F, g⟩ := h
  exact ⟨f, fd, F.ok S len (fun cdv A outer s H vs Q E hr h => let ⟨t, ht, q⟩ := body f cdv A outer s H vs Q E hr h; ⟨t, PSs.nox ht, q⟩), g, F.kp, F.bindsN bd⟩
/-- the built-ins are still there -/
structure Bt (mg : Str → Option Value) : Prop where
  abs : mg "abs" = none
  all : mg "all" = none
  dict : mg "dict" = none
  enumerate : mg "enumerate" = none
  int : mg "int" = none
  isinstance : mg "isinstance" = none
  len : mg "len" = none
  list : mg "list" = none
  max : mg "max" = none
  min : mg "min" = none
  range : mg "range" = none
  repr : mg "repr" = none
  set : mg "set" = none
  str : mg "str" = none
  sum : mg "sum" = none
  tuple : mg "tuple" = none
/-! ### the purse of draws -/
def PotAt (H : Hp) (p : Addr) (n : Nat) : Prop := ∃ a b c : Int, H p = some (.lst [.int a, .int b, .int c]) ∧ 0 ≤ a ∧ 0 ≤ b ∧ b < 2 ^ 61 ∧ 0 ≤ c ∧ c ≤ n
abbrev KpP (p : Addr) (H H' : Hp) : Prop := Kp (fun a => a = p) H H'
theorem PotAt.mono {H : Hp} {p : Addr} {n m : Nat} (h : PotAt H p n) (k : n ≤ m) : PotAt H p m := by
  obtain ⟨a, b, c, e, h1, h2, h3, h4, h5⟩ := h
  exact ⟨a, b, c, e, h1, h2, h3, h4, by omega⟩
theorem PotAt.same {H H' : Hp} {p : Addr} {n : Nat} (h : PotAt H p n) (k : Same H H') : PotAt H' p n := by
  obtain ⟨a, b, c, e, r⟩ := h
  exact ⟨a, b, c, k _ _ e, r⟩
abbrev N_law_filled : List Str := ["script", "at", "cell", "whole", "mixed"]
abbrev P_law_filled : List Str := ["script", "at"]
theorem sc_law_filled : FnScope N_law_filled P_law_filled (defScope s_law_filled) := ⟨rfl, rfl, rfl, by decide +kernel, rfl, by decide +kernel, by decide +kernel⟩
def spFilled (K : PySem.W.Frag) : Sp := fun vs H Q _ => ∃ (a : Addr) (ns : List Int) (i : Int), vs = [.ref a, .int i] ∧ SqL K H a (ns.map V.int) ∧ ns.length ≤ 63 ∧ 0 ≤ i ∧ i ≤ 100 ∧ ∀ (p : Addr) (H' : Hp), H p = none → Same H H' → PotAt H' p 0 → Q (.ref p) H'
theorem natAbs_pow {i : Int} {n : Nat} (h : 0 ≤ i) (h2 : i < 2 ^ n) : i.natAbs < 2 ^ n := by
  have : ((i.natAbs : Nat) : Int) < ((2 ^ n : Nat) : Int) := by
    rw [Int.natAbs_of_nonneg h]
    simpa using h2
  exact_mod_cast this
theorem modN_range (i : Int) {n : Int} (h : 0 < n) : 0 ≤ i.fmod n ∧ i.fmod n < n := by
  rw [Int.fmod_eq_emod_of_nonneg i (by omega)]
  exact ⟨Int.emod_nonneg _ (by omega), Int.emod_lt_of_pos _ h⟩
theorem pow60 : V.int (10 ^ (Int.toNat 60)) = V.int (10 ^ 60) := rfl
theorem ne0 {j : Int} (h : decide (j = 0) = false) : j ≠ 0 := of_decide_eq_false h
theorem ok_filled (T : Bt mg) (h : Has K mg "_law_filled" s_law_filled) : Ca P w K mg base 1 "_law_filled" P_law_filled (spFilled K) := by
  refine cal_of h sc_law_filled (fun _ _ _ _ _ _ us hl => match us, hl with | [_, _], _ => rfl) (fun vs H Q E h => ?_) (fun f cdv A outer s H vs Q E hr h => ?_)
  · obtain ⟨a, ns, i, rfl, _⟩ := h
    rfl
  · obtain ⟨a, ns, i, rfl, hS, hl, h0, h1, k⟩ := h
    refine ⟨_, (pss_cons (ps_set (i := 2) sc_law_filled.nd rfl (.inl rfl) (pe_ifExp (pt_cmpR op_lt (pv 1) (pe_callB call_len (by rfl) T.len (by decide +kernel) (pa_cons (pv 0) pa_nil)) (nomark _)) (pe_ix ix_list (pv 0) (pv 1) (fun _ _ => rfl)) (pe_op op_add (pe_op op_mul pe_int (pv 1)) pe_int)))
      (pss_cons (ps_set (i := 3) sc_law_filled.nd rfl (.inl rfl) (pe_op op_modN (pe_callTy call_int1 (by rfl) T.int (by decide +kernel) (pa_cons (pe_callB call_abs (by rfl) T.abs (by decide +kernel) (pa_cons (pv 2) pa_nil)) pa_nil)) (pe_op op_powBig (pe_op op_pow pe_int pe_int) pe_int)))
      (pss_cons (ps_set (i := 4) sc_law_filled.nd rfl (.inl rfl) (pe_op op_modN (pe_callTy call_int1 (by rfl) T.int (by decide +kernel) (pa_cons (pe_op op_add (pe_op op_add (pe_op op_add (pv 3) (pe_op op_mul pe_int (pv 1))) (pe_op op_mul pe_int (pe_callTy call_int1 (by rfl) T.int (by decide +kernel) (pa_cons (pe_cmpR op_lt (pv 2) pe_int (nomark _)) pa_nil)))) pe_int) pa_nil)) pe_int))
      (pss_one (ps_ret (pe_lst (pa_cons (pe_callB (call_max2 rfl) (by rfl) T.max (by decide +kernel) (pa_cons pe_int (pa_cons (pe_op op_sub (pv 3) (pe_op op_pow pe_int pe_int)) pa_nil))) (pa_cons (pv 4) (pa_cons pe_int pa_nil))))))))), ?_⟩
    refine ⟨_, rfl, _, rfl, _, _, rfl, .inl ⟨_, hS, rfl⟩, _, _, rfl, rfl, _, rfl, ite2 (fun hlt => ?ga) (fun hge => ?gb)⟩
    case' ga =>
      have hlt' : i < ((ns.map V.int).length : Int) := of_decide_eq_true hlt
      rw [List.length_map] at hlt'
      obtain ⟨j, rfl⟩ : ∃ j : Nat, i = j := ⟨i.toNat, by omega⟩
      have hj : j < ns.length := by omega
      have hat : (ns.map V.int)[j]? = some (.int ns[j]) := by rw [List.getElem?_map, List.getElem?_eq_getElem hj]; rfl
      refine ⟨_, rfl, _, rfl, a, _, _, _, rfl, rfl, hS, atI_nat hat, ?_⟩
    case' gb => refine ⟨_, rfl, _, _, rfl, rfl, .inl ⟨by decide, by decide⟩, _, _, rfl, rfl, ?_⟩
    all_goals
      refine ⟨_, rfl, _, rfl, .inl ⟨_, rfl, _, _, rfl, rfl, ⟨by decide, by decide, by decide⟩, pow60, rfl, _, _, rfl, rfl, ne0 (by decide +kernel), ?_⟩⟩
      refine ⟨_, rfl, _, rfl, _, _, rfl, rfl, .inl ⟨by decide, by decide⟩, _, _, rfl, rfl, _, rfl, _, _, rfl, rfl, .inr ⟨_, rfl, _, _, rfl, rfl, .inl ⟨by decide, by decide⟩, _, _, rfl, rfl, _, _, rfl, rfl, .inl ⟨_, rfl, _, _, rfl, rfl, ne0 (by decide), ?_⟩⟩⟩
      refine ⟨_, rfl, _, _, rfl, rfl, ⟨by decide, by decide, by decide⟩, _, _, rfl, rfl, _, _, rfl, _, rfl, by show 3 ≤ sizeLine; decide, fun p hp => ?_⟩
      exact k p _ hp (Same.upd hp) ⟨_, _, 0, upd_same, (by split <;> omega), (modN_range _ (by decide)).1, Int.lt_trans (modN_range _ (by decide)).2 (by decide), by omega, by omega⟩
abbrev N_law_dip : List Str := ["pot", "total", "found", "one", "two"]
abbrev P_law_dip : List Str := ["pot", "total"]
theorem sc_law_dip : FnScope N_law_dip P_law_dip (defScope s_law_dip) := ⟨rfl, rfl, rfl, by decide +kernel, rfl, by decide +kernel, by decide +kernel⟩
def spDip : Sp := fun vs H Q _ => ∃ (p : Addr) (n : Nat) (t : Int), vs = [.ref p, .int t] ∧ PotAt H p n ∧ n ≤ 1000000 ∧ 1 ≤ t ∧ t ≤ 1000000 ∧
  ∀ (d : Int) (H' : Hp), 0 ≤ d → d < t → PotAt H' p (n + 1) → KpP p H H' → Q (.int d) H'
theorem ok_dip (T : Bt mg) (h : Has K mg "_law_dip" s_law_dip) : Ca P w K mg base 1 "_law_dip" P_law_dip spDip := by
  refine cal_of h sc_law_dip (fun _ _ _ _ _ _ us hl => match us, hl with | [_, _], _ => rfl) (fun vs H Q E h => ?_) (fun f cdv A outer s H vs Q E hr h => ?_)
  · obtain ⟨p, n, t, rfl, _⟩ := h
    rfl
  · obtain ⟨p, n, t, rfl, ⟨a, b, c, hp, ha, hb, hb2, hc, hc2⟩, hn, ht, ht2, k⟩ := h
    refine ⟨_, (pss_cons (ps_if (pt_cmpR op_gt (pe_ix ix_list (pv 0) pe_int (fun _ _ => rfl)) pe_int (nomark _)) (pss_cons (ps_set (i := 2) sc_law_dip.nd rfl (.inl rfl) (pe_op op_modN (pe_callTy call_int1 (by rfl) T.int (by decide +kernel) (pa_cons (pe_ix ix_list (pv 0) pe_int (fun _ _ => rfl)) pa_nil)) (pv 1)))
        (pss_cons (ps_asg (pe_op op_fdivN (pe_ix ix_list (pv 0) pe_int (fun _ _ => rfl)) (pv 1)) (pg_sub (pv 0) pe_int set_list))
        (pss_one (ps_ret (pv 2))))) pss_nil)
      (pss_cons (ps_asg (pe_op op_add (pe_ix ix_list (pv 0) pe_int (fun _ _ => rfl)) pe_int) (pg_sub (pv 0) pe_int set_list))
      (pss_cons (ps_set (i := 3) sc_law_dip.nd rfl (.inl rfl) (pe_op op_modN (pe_callTy call_int1 (by rfl) T.int (by decide +kernel) (pa_cons (pe_op op_add (pe_op op_mul (pe_ix ix_list (pv 0) pe_int (fun _ _ => rfl)) pe_int) (pe_op op_mul (pe_ix ix_list (pv 0) pe_int (fun _ _ => rfl)) pe_int)) pa_nil)) pe_int))
      (pss_cons (ps_set (i := 4) sc_law_dip.nd rfl (.inl rfl) (pe_op op_modN (pe_callTy call_int1 (by rfl) T.int (by decide +kernel) (pa_cons (pe_op op_add (pe_op op_mul (pv 3) (pv 3)) (pe_op op_mul pe_int (pe_ix ix_list (pv 0) pe_int (fun _ _ => rfl)))) pa_nil)) pe_int))
      (pss_one (ps_ret (pe_op op_modN (pe_callTy call_int1 (by rfl) T.int (by decide +kernel) (pa_cons (pe_op op_fdivN (pe_op op_modN (pe_callTy call_int1 (by rfl) T.int (by decide +kernel) (pa_cons (pe_op op_add (pe_op op_mul (pv 4) pe_int) (pv 3)) pa_nil)) pe_int) pe_int) pa_nil)) (pv 1)))))))), ?_⟩
    refine ⟨_, rfl, p, _, _, _, rfl, rfl, SqL.of hp, rfl, _, _, rfl, rfl, _, rfl, ?_⟩
    refine ite2 (fun hpos => ?_) (fun hneg => ?_)
    · have hpos' : 0 < a := of_decide_eq_true hpos
      refine ⟨_, rfl, p, _, _, _, rfl, rfl, SqL.of hp, rfl, .inl ⟨_, rfl, _, rfl, _, _, rfl, rfl, (by omega), ?_⟩⟩
      refine ⟨_, rfl, p, _, _, _, rfl, rfl, SqL.of hp, rfl, _, rfl, _, _, rfl, rfl, ⟨by omega, by omega⟩, _, rfl, p, _, _, 0, rfl, rfl, hp, rfl, ?_⟩
      refine ⟨_, rfl, ?_⟩
      have hd : 0 ≤ a.fmod t ∧ a.fmod t < t := by
        rw [Int.fmod_eq_emod_of_nonneg a (by omega)]
        exact ⟨Int.emod_nonneg _ (by omega), Int.emod_lt_of_pos _ (by omega)⟩
      refine k _ _ hd.1 hd.2 ⟨a.fdiv t, b, c, upd_same, ?_, hb, hb2, hc, by omega⟩ (Kp.at rfl hp)
      rw [Int.fdiv_eq_ediv_of_nonneg a (by omega)]
      exact Int.ediv_nonneg ha (by omega)
    · refine ⟨_, rfl, p, _, _, _, rfl, rfl, SqL.of hp, rfl, _, _, rfl, rfl, _, rfl, p, _, _, 2, rfl, rfl, hp, rfl, ?_⟩
      have hp2 : upd H p (HO.lst [V.int a, V.int b, V.int (c + 1)]) p = some (.lst [.int a, .int b, .int (c + 1)]) := upd_same
      refine ⟨_, rfl, p, _, _, _, rfl, rfl, SqL.of hp2, rfl, _, _, rfl, rfl, .inl ⟨by omega, by omega⟩, _, rfl, p, _, _, _, rfl, rfl, SqL.of hp2, rfl, _, _, rfl, rfl, .inl ⟨by omega, by omega⟩, _, _, rfl, rfl, .inl ⟨_, rfl, _, _, rfl, rfl, ne0 (by decide), ?_⟩⟩
      have m1 := modN_range (b * 3935559000370003845 + (c + 1) * 2691343689449507681) (n := 2305843009213693951) (by decide)
      refine ⟨_, rfl, _, rfl, _, _, rfl, rfl, .inl ⟨by omega, by omega⟩, _, rfl, p, _, _, _, rfl, rfl, SqL.of hp2, rfl, _, _, rfl, rfl, .inl ⟨by decide, by decide⟩, _, _, rfl, rfl, .inl ⟨_, rfl, _, _, rfl, rfl, ne0 (by decide), ?_⟩⟩
      have m2 := modN_range ((b * 3935559000370003845 + (c + 1) * 2691343689449507681).fmod 2305843009213693951 * (b * 3935559000370003845 + (c + 1) * 2691343689449507681).fmod 2305843009213693951 + 40503 * (c + 1)) (n := 1152921504606846883) (by decide)
      refine ⟨_, rfl, _, _, rfl, rfl, .inl ⟨by omega, by omega⟩, _, rfl, _, _, rfl, rfl, .inl ⟨_, rfl, _, _, rfl, rfl, ne0 (by decide), _, _, rfl, rfl, ⟨by decide, by decide⟩, .inl ⟨_, rfl, _, rfl, _, _, rfl, rfl, (by omega), ?_⟩⟩⟩
      exact k _ _ (modN_range _ (by omega)).1 (modN_range _ (by omega)).2 ⟨a, b, c + 1, upd_same, ha, hb, hb2, by omega, by omega⟩ (Kp.at rfl hp)
end
end Kx
namespace Kx
open PySem PySem.Spec PyProof.Rows L2
section
variable {P : Program} {w : World} {K : PySem.W.Frag} {mg : Str → Option Value} {base : Heap}
theorem yes {σ : L2.St} {H : Hp} {A B : Hp → Prop} (h : A H) : tYes σ H (fun b H3 => if b = true then A H3 else B H3) := by
  show if true = true then A H else B H
  rw [if_pos rfl]
  exact h
/-- x can be chosen from: a list, a tuple, a text -/
def Pick (H : Hp) (p : Addr) (x : V) (xs : List V) : Prop :=
  (∃ a, x = .ref a ∧ a ≠ p ∧ H a = some (.lst xs)) ∨ (∃ a, x = .ref a ∧ a ≠ p ∧ TupF H a xs) ∨ ∃ z : Str, x = .str z ∧ z.length ≤ 1000 ∧ xs = signsV z
abbrev N_law_choose : List Str := ["pot", "items"]
abbrev P_law_choose : List Str := ["pot", "items"]
theorem sc_law_choose : FnScope N_law_choose P_law_choose (defScope s_law_choose) := ⟨rfl, rfl, rfl, by decide +kernel, rfl, by decide +kernel, by decide +kernel⟩
def spChoose : Sp := fun vs H Q _ => ∃ (p : Addr) (n : Nat) (x : V) (xs : List V), vs = [.ref p, x] ∧ PotAt H p n ∧ n ≤ 1000000 ∧ Pick H p x xs ∧ 1 ≤ xs.length ∧ xs.length ≤ 1000 ∧
  ∀ (i : Nat) (v : V) (H' : Hp), xs[i]? = some v → PotAt H' p (n + 1) → KpP p H H' → Q v H'
theorem ok_choose (T : Bt mg) (h : Has K mg "_law_choose" s_law_choose) (C1 : Ca P w K mg base 1 "_law_dip" P_law_dip spDip) : Ca P w K mg base 2 "_law_choose" P_law_choose spChoose := by
  obtain ⟨_, _, c__law_dip⟩ := C1
  refine cal_of h sc_law_choose (fun _ _ _ _ _ _ us hl => match us, hl with | [_, _], _ => rfl) (fun vs H Q E h => ?_) (fun f cdv A outer s H vs Q E hr h => ?_)
  · obtain ⟨p, n, x, xs, rfl, _⟩ := h
    rfl
  · obtain ⟨p, n, x, xs, rfl, hp, hn, hx, h1, h2, k⟩ := h
    refine ⟨_, (pss_one (ps_ret (pe_ix ix_seq (pv 1) (pe_call c__law_dip.1 (hr.mono (by decide)) rfl c__law_dip.2.1 c__law_dip.2.2.1 c__law_dip.2.2.2 .nil pass0 (pa_cons (pv 0) (pa_cons (pe_callB call_len (by rfl) T.len (by decide +kernel) (pa_cons (pv 1) pa_nil)) pa_nil))) (fun _ _ => rfl)))), ?_⟩
    have room : ∀ m : Nat, m ≤ 1000 → m ≤ sizeLine := fun m hm => by rw [sizeLine_eq]; omega
    have after : ∀ (d : Int) (H' : Hp), 0 ≤ d → d < (xs.length : Int) → PotAt H' p (n + 1) → KpP p H H' → ∃ i v, d = ((i : Nat) : Int) ∧ xs[i]? = some v ∧ Q v H' := fun d H' h0 hd hp' hk => by
      have hi : d.toNat < xs.length := by omega
      exact ⟨d.toNat, _, by omega, List.getElem?_eq_getElem hi, k d.toNat _ H' (List.getElem?_eq_getElem hi) hp' hk⟩
    rcases hx with ⟨a, rfl, hne, ha⟩ | ⟨a, rfl, hne, ha⟩ | ⟨z, rfl, hz, rfl⟩
    · refine ⟨_, rfl, _, rfl, _, rfl, _, _, rfl, .inl ⟨_, SqL.of ha, rfl⟩, p, n, _, rfl, hp, hn, by omega, by omega, fun d H' h0 hd hp' hk => ?_⟩
      obtain ⟨i, v, rfl, hv, q⟩ := after d H' h0 hd hp' hk
      exact .inl ⟨a, _, _, _, rfl, rfl, SqL.of (hk.get ha hne), atI_nat hv, q⟩
    · refine ⟨_, rfl, _, rfl, _, rfl, _, _, rfl, .inr ⟨_, ha.sq, rfl⟩, p, n, _, rfl, hp, hn, by omega, by omega, fun d H' h0 hd hp' hk => ?_⟩
      obtain ⟨i, v, rfl, hv, q⟩ := after d H' h0 hd hp' hk
      obtain ⟨o, od, e⟩ := ha
      exact .inr (.inl ⟨a, _, _, _, rfl, rfl, (hk.tup ⟨o, od, e⟩).sq, atI_nat hv, q⟩)
    · have el : (signsV z).length = z.length := by unfold signsV; rw [List.length_map, Array.length_toList]; rfl
      refine ⟨_, rfl, _, rfl, _, rfl, _, _, rfl, ⟨room _ hz, rfl⟩, p, n, _, rfl, hp, hn, by omega, by omega, fun d H' h0 hd hp' hk => ?_⟩
      obtain ⟨i, v, rfl, hv, q⟩ := after d H' h0 (by omega) hp' hk
      unfold signsV at hv
      rw [List.getElem?_map] at hv
      cases e : z.cps.toList[i]? with
      | none => rw [e] at hv; cases hv
      | some c =>
        rw [e] at hv
        cases hv
        exact .inr (.inr ⟨z, _, c, rfl, rfl, room _ hz, atI_nat e, q⟩)
/-! ### names -/
def NameS (z : Str) : Prop := 1 ≤ z.length ∧ z.length ≤ 8 ∧ ∀ c ∈ z.cps.toList, 97 ≤ c ∧ c ≤ 122
instance (z : Str) : Decidable (NameS z) := inferInstanceAs (Decidable (_ ∧ _ ∧ _))
theorem TL.joinL_nil : ∀ ps : List (List Nat), TL.joinL [] ps = ps.flatten
  | [] => rfl
  | [p] => by simp [TL.joinL]
  | p :: q :: r => by
    show p ++ ([] ++ TL.joinL [] (q :: r)) = _
    rw [TL.joinL_nil (q :: r)]
    simp
theorem join0 (ys : List Str) : (Txt.join Str.empty ys).cps.toList = (ys.map fun y => y.cps.toList).flatten := by
  rw [TL.join_eq]
  have := TL.tl_join Str.empty ys
  rw [show TL.tl Str.empty = [] from rfl, TL.joinL_nil] at this
  exact this
theorem nameS_join {ys : List Str} (h1 : 1 ≤ ys.length) (h2 : ys.length ≤ 8) (h : ∀ y ∈ ys, ∃ c, y = ⟨#[c]⟩ ∧ 97 ≤ c ∧ c ≤ 122) : NameS (Txt.join Str.empty ys) := by
  have e := join0 ys
  have len : (Txt.join Str.empty ys).length = ys.length := by
    have : (Txt.join Str.empty ys).length = (Txt.join Str.empty ys).cps.toList.length := by rw [Array.length_toList]; rfl
    rw [this, e]
    clear e this h1 h2
    induction ys with
    | nil => rfl
    | cons y r ih =>
      obtain ⟨c, rfl, _⟩ := h y List.mem_cons_self
      rw [List.map_cons, List.flatten_cons, List.length_append, ih fun z hz => h z (List.mem_cons_of_mem _ hz)]
      simp; omega
  refine ⟨by omega, by omega, fun c hc => ?_⟩
  rw [e] at hc
  obtain ⟨l, hl, hcl⟩ := List.mem_flatten.mp hc
  obtain ⟨y, hy, rfl⟩ := List.mem_map.mp hl
  obtain ⟨d, rfl, hd⟩ := h y hy
  have : c = d := by simpa using hcl
  rw [this]; exact hd
def LetV (v : V) : Prop := ∃ z : Str, v = .str z ∧ (1 ≤ z.length ∧ z.length ≤ 26 ∧ ∀ c ∈ z.cps.toList, 97 ≤ c ∧ c ≤ 122)
theorem PotAt.ne {H : Hp} {p l : Addr} {n : Nat} (h : PotAt H p n) (hl : H l = none) : l ≠ p := by
  obtain ⟨a, b, c, e, _⟩ := h
  exact (ne_of_none e hl).symm
abbrev N_law_name : List Str := ["pot", "letters", "word", "turn"]
abbrev P_law_name : List Str := ["pot"]
theorem sc_law_name : FnScope N_law_name P_law_name (defScope s_law_name) := ⟨rfl, rfl, rfl, by decide +kernel, rfl, by decide +kernel, by decide +kernel⟩
def spName : Sp := fun vs H Q _ => ∃ (p : Addr) (n : Nat), vs = [.ref p] ∧ PotAt H p n ∧ n ≤ 900000 ∧ ∀ (z : Str) (H' : Hp), NameS z → PotAt H' p (n + 12) → KpP p H H' → Q (.str z) H'
theorem ok_name (T : Bt mg) (h : Has K mg "_law_name" s_law_name) (C1 : Ca P w K mg base 1 "_law_dip" P_law_dip spDip) (C2 : Ca P w K mg base 2 "_law_choose" P_law_choose spChoose) : Ca P w K mg base 3 "_law_name" P_law_name spName := by
  obtain ⟨_, _, c__law_dip⟩ := C1
  obtain ⟨_, _, c__law_choose⟩ := C2
  refine cal_of h sc_law_name (fun _ _ _ _ _ _ us hl => match us, hl with | [_], _ => rfl) (fun vs H Q E h => ?_) (fun f cdv A outer s H vs Q E hr h => ?_)
  · obtain ⟨p, n, rfl, _⟩ := h
    rfl
  · obtain ⟨p, n, rfl, hp, hn, k⟩ := h
    refine ⟨_, (pss_cons (ps_set (i := 1) sc_law_name.nd rfl (.inr rfl) (pe_call c__law_choose.1 (hr.mono (by decide)) rfl c__law_choose.2.1 c__law_choose.2.2.1 c__law_choose.2.2.2 .nil pass0 (pa_cons (pv 0) (pa_cons (pe_lst (pa_cons pe_str (pa_cons pe_str (pa_cons pe_str (pa_cons pe_str pa_nil))))) pa_nil))))
      (pss_cons (ps_set (i := 2) sc_law_name.nd rfl (.inl rfl) (pe_join pe_str (pe_lc (own := [("turn", 3)]) (g := (gName 3)) (tt := tYes) (by rfl) sc_law_name.nd (pi_range1 rfl T.range (pa_cons (pe_op op_add pe_int (pe_call c__law_dip.1 (hr.mono (by decide)) rfl c__law_dip.2.1 c__law_dip.2.2.1 c__law_dip.2.2.2 .nil pass0 (pa_cons (pv 0) (pa_cons (pe_call c__law_choose.1 (hr.mono (by decide)) rfl c__law_choose.2.1 c__law_choose.2.2.1 c__law_choose.2.2.2 .nil pass0 (pa_cons (pv 0) (pa_cons (pe_lst (pa_cons pe_int (pa_cons pe_int (pa_cons pe_int pa_nil)))) pa_nil))) pa_nil)))) pa_nil)) (blkOk_by (own := [("turn", 3)]) (N := ["pot", "letters", "word", "turn"]) (sc := defScope s_law_name) (by decide +kernel)) (fun _ _ _ _ _ => pg_name (i := 3) sc_law_name.nd rfl (Or.inl rfl)) (fun _ _ _ _ _ => pts_nil) (fun _ _ _ _ _ => (pe_call c__law_choose.1 (hr.mono (by decide)) rfl c__law_choose.2.1 c__law_choose.2.2.1 c__law_choose.2.2.2 .nil pass0 (pa_cons (pv 0) (pa_cons (pv 1) pa_nil)))))))
      (pss_one (ps_ret (pe_call c__law_choose.1 (hr.mono (by decide)) rfl c__law_choose.2.1 c__law_choose.2.2.1 c__law_choose.2.2.2 .nil pass0 (pa_cons (pv 0) (pa_cons (pe_lst (pa_cons (pv 2) (pa_cons (pv 2) (pa_cons (pv 2) (pa_cons (pv 2) (pa_cons pe_str (pa_cons pe_str (pa_cons pe_str (pa_cons pe_str (pa_cons pe_str (pa_cons pe_str (pa_cons pe_str (pa_cons pe_str pa_nil))))))))))))) pa_nil))))))), ?_⟩
    -- letters
    refine ⟨_, rfl, by show 4 ≤ sizeLine; decide, fun l hl => ⟨p, n, _, _, rfl, hp.same (Same.upd hl), by omega, .inl ⟨l, rfl, hp.ne hl, upd_same⟩, by decide, by decide, fun i v H1 hv hp1 hk1 => ?_⟩⟩
    have hk1 : KpP p H H1 := (Kp.new hl).trans hk1
    have lv : LetV v := by
      have all : ∀ v ∈ ([.str "ijk", .str "abcdefghijklmnopqrstuvwxyz", .str "an", .str "k"] : List V), LetV v := (by repeat (first | exact List.forall_mem_nil _ | refine List.forall_mem_cons.mpr ⟨⟨_, rfl, by decide +kernel⟩, ?_⟩))
      exact all v (List.mem_of_getElem? hv)
    obtain ⟨z, rfl, hz⟩ := lv
    clear hv
    -- how many
    refine ⟨⟨_, rfl⟩, _, rfl, _, rfl, by show 3 ≤ sizeLine; decide, fun l2 hl2 => ⟨p, n + 1, _, _, rfl, hp1.same (Same.upd hl2), by omega, .inl ⟨l2, rfl, hp1.ne hl2, upd_same⟩, by decide, by decide, fun i v H2 hv hp2 hk2 => ?_⟩⟩
    have hk2 : KpP p H H2 := hk1.trans ((Kp.new hl2).trans hk2)
    obtain ⟨m, rfl, hm1, hm2⟩ : ∃ m : Int, v = .int m ∧ 1 ≤ m ∧ m ≤ 8 := by
      have all : ∀ v ∈ ([.int 1, .int 2, .int 8] : List V), ∃ m : Int, v = .int m ∧ 1 ≤ m ∧ m ≤ 8 := (by repeat (first | exact List.forall_mem_nil _ | refine List.forall_mem_cons.mpr ⟨⟨_, rfl, by decide, by decide⟩, ?_⟩))
      exact all v (List.mem_of_getElem? hv)
    clear hv
    refine ⟨p, n + 2, m, rfl, hp2, by omega, by omega, by omega, fun d H3 hd1 hd2 hp3 hk3 => ⟨_, _, rfl, rfl, ?_⟩⟩
    have hk3 : KpP p H H3 := hk2.trans hk3
    have hnn : 0 ≤ 1 + d ∧ 1 + d < 2 ^ 62 := by constructor <;> omega
    refine ⟨_, rfl, by omega, by omega, fun D hD => ?_⟩
    have hDp : D ≠ p := hp3.ne hD
    obtain ⟨hz1, hz2, hz3⟩ := hz
    have el : (signsV z).length = z.length := by unfold signsV; rw [List.length_map, Array.length_toList]; rfl
    refine lc_range (lo := 0) (n := (1 + d).toNat) (fun i Hx => ∃ ys : List Str, Hx D = some (.lst (ys.map V.str)) ∧ ys.length = i ∧ (∀ y ∈ ys, ∃ c, y = ⟨#[c]⟩ ∧ 97 ≤ c ∧ c ≤ 122) ∧ PotAt Hx p (n + 3 + i) ∧ KpP p H Hx)
      ⟨[], upd_same, rfl, (fun y hy => nomatch hy), hp3.same (Same.upd hD), hk3.trans (Kp.new hD)⟩ ?_ ?_
    · rintro i Hx hi ⟨ys, hDx, hyl, hy, hpx, hkx⟩
      refine ⟨rfl, ?_⟩
      refine yes ?_
      refine ⟨_, rfl, _, rfl, p, n + 3 + i, _, _, rfl, hpx, by omega, .inr (.inr ⟨z, rfl, by omega, rfl⟩), by omega, by omega, fun j v H4 hv hp4 hk4 => ?_⟩
      obtain ⟨c, hc, rfl⟩ : ∃ c, c ∈ z.cps.toList ∧ v = .str ⟨#[c]⟩ := by
        have := List.mem_of_getElem? hv
        obtain ⟨c, hc, e⟩ := List.mem_map.mp this
        exact ⟨c, hc, e.symm⟩
      refine ⟨_, hk4.get hDx hDp, by rw [List.length_map, hyl, sizeLine_eq]; omega, ys ++ [⟨#[c]⟩], by rw [upd_same, List.map_append]; rfl, by rw [List.length_append, hyl]; rfl, fun y hy' => ?_, ?_, ?_⟩
      · rcases List.mem_append.mp hy' with h | h
        · exact hy y h
        · exact ⟨c, List.mem_singleton.mp h, hz3 c hc⟩
      · obtain ⟨a1, b1, c1, e1, r1⟩ := hp4
        exact PotAt.mono ⟨a1, b1, c1, by rw [upd_ne hDp.symm]; exact e1, r1⟩ (by omega)
      · refine fun b o hb hbp => ?_
        have hbD : b ≠ D := fun e => by
          have := hk3 b o hb hbp
          rw [e, hD] at this
          cases this
        rw [upd_ne hbD]
        exact hk4 b o (hkx b o hb hbp) hbp
    · rintro H5 ⟨ys, hDx, hyl, hy, hp5, hk5⟩
      have hyl2 : ys.length ≤ 8 := by omega
      refine ⟨_, D, ys, rfl, rfl, .inl (SqL.of hDx), ?_, ?_⟩
      · have : (ys.map (·.length)).sum ≤ ys.length := by
          clear hDx hyl hyl2
          induction ys with
          | nil => exact Nat.le_refl _
          | cons y r ih =>
            obtain ⟨c, rfl, _⟩ := hy y List.mem_cons_self
            rw [List.map_cons, List.sum_cons, List.length_cons]
            have := ih fun z hz => hy z (List.mem_cons_of_mem _ hz)
            have e : (⟨#[c]⟩ : Str).length = 1 := rfl
            omega
        have e0 : (("" : Str)).length = 0 := by decide +kernel
        show (ys.map (·.length)).sum + ys.length * ("" : Str).length ≤ 16777216
        rw [e0]
        omega
      · have hw : NameS (Txt.join "" ys) := nameS_join (by omega) hyl2 hy
        generalize Txt.join "" ys = word at hw
        refine ⟨_, rfl, _, rfl, _, rfl, _, rfl, _, rfl, by show 12 ≤ sizeLine; decide, fun l6 hl6 => ⟨p, n + 11, _, _, rfl, (hp5.mono (by omega)).same (Same.upd hl6), by omega, .inl ⟨l6, rfl, hp5.ne hl6, upd_same⟩, by show 1 ≤ 12; decide, by show 12 ≤ 1000; decide, fun i v H6 hv hp6 hk6 => ?_⟩⟩
        have all : ∀ v ∈ ([.str word, .str word, .str word, .str word, .str "pos", .str "val", .str "all", .str "not", .str "k", .str "kk", .str "wa", .str "end"] : List V), ∃ z, v = .str z ∧ NameS z := (by repeat (first | exact List.forall_mem_nil _ | refine List.forall_mem_cons.mpr ⟨⟨_, rfl, by first | exact hw | decide +kernel⟩, ?_⟩))
        obtain ⟨z6, rfl, hz6⟩ := all v (List.mem_of_getElem? hv)
        exact k z6 H6 hz6 hp6 (hk5.trans ((Kp.new hl6).trans hk6))
end
end Kx
namespace Kx
open PySem PySem.Spec PyProof.Rows L2
/-- a comprehension that changes nothing: the i-th turn adds o i, or nothing -/
theorem lc_o {J : It} {n : Nat} {G : Hp → Prop} {Y : Nat → Hp → V → Hp → Prop} (w : Walk J n G Y) {g : TG} {tt : TT} {te : TE} {vs : List Nat} {σ : L2.St} {H1 : Hp} {D : Addr} {Qd : Hp → Prop} (o : Nat → Option V) (hn : n < sizeLine)
    (hD : H1 D = none) (hG : ∀ H, Same H1 H → G H)
    (hs : ∀ i x H H' (Nx : Hp → Prop), i < n → Same H1 H → H D ≠ none → Y i H x H' → (o i = none → ∀ H3, Same H H3 → Nx H3) → (∀ y, o i = some y → ∀ H4, Same H H4 → ∃ acc, H4 D = some (.lst acc) ∧ acc.length < sizeLine ∧ Nx (upd H4 D (.lst (acc ++ [y])))) →
      g x (wipe σ vs) H' fun σ2 H2 => wipe σ2 vs = wipe σ vs ∧ tt σ2 H2 fun b H3 => if b = true then te σ2 H3 fun y H4 => ∃ acc, H4 D = some (.lst acc) ∧ acc.length < sizeLine ∧ Nx (upd H4 D (.lst (acc ++ [y]))) else Nx H3)
    (hd : ∀ H, Same H1 H → H D = some (.lst ((List.range n).filterMap o)) → Qd H) :
    ∃ W : Nat → Nat → Hp → Prop, (∃ m, W 0 m (upd H1 D (.lst []))) ∧ ∀ i m H, W i m H →
      (J.stop i H ∧ Qd H) ∨ (J.go i H ∧ ∃ Nx : Hp → Prop, (∀ H', Nx H' → ∃ m', m' < m ∧ W (i + 1) m' H') ∧ ∀ x H', J.yld i H x H' → g x (wipe σ vs) H' fun σ2 H2 => wipe σ2 vs = wipe σ vs ∧ tt σ2 H2 fun b H3 =>
        if b = true then te σ2 H3 fun y H4 => ∃ acc, H4 D = some (.lst acc) ∧ acc.length < sizeLine ∧ Nx (upd H4 D (.lst (acc ++ [y]))) else Nx H3) := by
  have off : ∀ {H : Hp} {xs : List V}, Same H1 H → Same H1 (upd H D (.lst xs)) := fun {H xs} h b u e => by
    rw [upd_ne (ne_of_none e hD)]
    exact h b u e
  refine lc_it w (fun i H => Same H1 H ∧ H D = some (.lst ((List.range i).filterMap o))) ⟨Same.upd hD, upd_same⟩ (fun i H _ h => hG H h.1) (fun i x H H' hi h y => ?_) (fun H h => hd H h.1 h.2)
  have step : ∀ (q : Option V), o i = q → (List.range (i + 1)).filterMap o = (List.range i).filterMap o ++ q.toList := fun q e => by
    rw [List.range_succ, List.filterMap_append]
    cases q with
    | none => simp [e]
    | some z => simp [e]
  refine hs i x H H' _ hi h.1 (by rw [h.2]; simp) y (fun e H3 k => ⟨h.1.trans k, ?_⟩) (fun z e H4 k => ⟨_, k _ _ h.2, ?_, off (h.1.trans k), ?_⟩)
  · rw [step none e, k _ _ h.2]
    simp
  · have := List.length_filterMap_le o (List.range i)
    rw [List.length_range] at this
    omega
  · rw [upd_same, step (some z) e]
    rfl
theorem range_bind {α β : Type} (f : α → Option β) : ∀ (xs : List α), (List.range xs.length).filterMap (fun i => xs[i]?.bind f) = xs.filterMap f := fun xs => by
  have key : ∀ k, k ≤ xs.length → (List.range k).filterMap (fun i => xs[i]?.bind f) = (xs.take k).filterMap f := fun k => by
    induction k with
    | zero => intro _; simp
    | succ k ih =>
      intro h
      have hk : k < xs.length := by omega
      rw [List.range_succ, List.filterMap_append, ih (by omega), List.take_succ, List.filterMap_append]
      congr 1
      rw [List.getElem?_eq_getElem hk]
      cases hf : f xs[k] with
      | none => simp [List.getElem?_eq_getElem hk, hf]
      | some b => simp [List.getElem?_eq_getElem hk, hf]
  have := key xs.length (Nat.le_refl _)
  rw [List.take_length] at this
  exact this
theorem nodup_le {α : Type} [DecidableEq α] : ∀ (l m : List α), l.Nodup → (∀ x ∈ l, x ∈ m) → l.length ≤ m.length
  | [], _, _, _ => Nat.zero_le _
  | a :: l, m, hn, h => by
    have ha := h a List.mem_cons_self
    have hn' := List.nodup_cons.mp hn
    have := nodup_le l (m.erase a) hn'.2 fun x hx => by
      have hne : x ≠ a := fun e => hn'.1 (e ▸ hx)
      exact (List.mem_erase_of_ne hne).mpr (h x (List.mem_cons_of_mem _ hx))
    rw [List.length_erase_of_mem ha] at this
    have := List.length_pos_of_mem ha
    rw [List.length_cons]
    omega
section
variable {P : Program} {w : World} {K : PySem.W.Frag} {mg : Str → Option Value} {base : Heap}
theorem eqV_str (a b : Str) : eqV (.str a) (.str b) = decide (a = b) := by
  first
    | rfl
    | (show (a == b) = decide (a = b); by_cases h : a = b <;> simp [h])
theorem inV_str (z : Str) (zs : List Str) : inV (.str z) (zs.map V.str) = decide (z ∈ zs) := by
  unfold inV
  induction zs with
  | nil => simp
  | cons a r ih =>
    rw [List.map_cons, List.any_cons, ih, eqV_str]
    by_cases h : a = z
    · subst h; simp
    · have : ¬ z = a := fun e => h e.symm
      simp [h, this]
theorem flat_strs (zs : List Str) : (zs.map V.str).all flatV = true := by
  rw [List.all_eq_true]
  intro v hv
  obtain ⟨z, _, rfl⟩ := List.mem_map.mp hv
  rfl
/-! ### some different names -/
def abcL : List Nat := [97, 98, 99, 100, 101, 102, 103, 104, 105, 106, 107, 108]
theorem abc_cps : (("abcdefghijkl" : Str)).cps = abcL.toArray := by decide +kernel
theorem qrs_cps : (("qrs" : Str)).cps = #[113, 114, 115] := by decide +kernel
def spareL : List Str := (["q", "r", "s"] : List Str).flatMap fun a => (["a", "b", "c", "d", "e", "f", "g", "h", "i", "j", "k", "l"] : List Str).map fun b => a ++ b
theorem spare_len : spareL.length = 36 := by decide +kernel
theorem spare_nd : spareL.Nodup := by decide +kernel
theorem spare_ok : ∀ z ∈ spareL, NameS z := by decide +kernel
abbrev N_law_names : List Str := ["pot", "many", "found", "spare", "letter", "turn", "name", "other", "one"]
abbrev P_law_names : List Str := ["pot", "many"]
theorem sc_law_names : FnScope N_law_names P_law_names (defScope s_law_names) := ⟨rfl, rfl, rfl, by decide +kernel, rfl, by decide +kernel, by decide +kernel⟩
def spNames : Sp := fun vs H Q _ => ∃ (p : Addr) (n : Nat) (m : Int), vs = [.ref p, .int m] ∧ PotAt H p n ∧ n ≤ 800000 ∧ 0 ≤ m ∧ m ≤ 36 ∧
  ∀ (D : Addr) (zs : List Str) (H' : Hp), H D = none → (zs.length : Int) = m → zs.Nodup → (∀ z ∈ zs, NameS z) → H' D = some (.lst (zs.map V.str)) → PotAt H' p (n + 12 * m.toNat) → KpP p H H' → Q (.ref D) H'
theorem ok_names (T : Bt mg) (h : Has K mg "_law_names" s_law_names) (C1 : Ca P w K mg base 3 "_law_name" P_law_name spName) : Ca P w K mg base 4 "_law_names" P_law_names spNames := by
  obtain ⟨_, _, c__law_name⟩ := C1
  refine cal_of h sc_law_names (fun _ _ _ _ _ _ us hl => match us, hl with | [_, _], _ => rfl) (fun vs H Q E h => ?_) (fun f cdv A outer s H vs Q E hr h => ?_)
  · obtain ⟨p, n, m, rfl, _⟩ := h
    rfl
  · obtain ⟨p, n, m, rfl, hp, hn, hm0, hm1, k⟩ := h
    refine ⟨_, (pss_cons (ps_asg (pe_tupF (pa_cons (pe_lst pa_nil) (pa_cons (pe_lst pa_nil) pa_nil))) (pg_tup (by rfl) (pgs_cons (pg_name (i := 2) sc_law_names.nd rfl (.inr rfl)) (pgs_cons (pg_name (i := 3) sc_law_names.nd rfl (.inl rfl)) pgs_nil))))
      (pss_cons (ps_for PassesOwn.never rfl (pi_str pe_str) (pg_name (i := 4) sc_law_names.nd rfl (.inr rfl))
        (pss_one (ps_set (i := 3) sc_law_names.nd rfl (.inl rfl) (pe_op op_cat (pv 3) (pe_lc (own := [("other", 7)]) (g := (gName 7)) (tt := tYes) (by rfl) sc_law_names.nd (pi_str pe_str) (blkOk_by (own := [("other", 7)]) (N := ["pot", "many", "found", "spare", "letter", "turn", "name", "other", "one"]) (sc := defScope s_law_names) (by decide +kernel)) (fun _ _ _ _ _ => pg_name (i := 7) sc_law_names.nd rfl (Or.inl rfl)) (fun _ _ _ _ _ => pts_nil) (fun _ _ _ _ _ => (pe_op op_add_str (pv 4) (pv 7))))))))
      (pss_cons (ps_for PassesOwn.never rfl (pi_range1 rfl T.range (pa_cons (pv 1) pa_nil)) (pg_name (i := 5) sc_law_names.nd rfl (.inl rfl))
        (pss_cons (ps_set (i := 6) sc_law_names.nd rfl (.inl rfl) (pe_call c__law_name.1 (hr.mono (by decide)) rfl c__law_name.2.1 c__law_name.2.2.1 c__law_name.2.2.2 .nil pass0 (pa_cons (pv 0) pa_nil)))
        (pss_one (ps_expr (pe_bm PySem.F.plainAttrs_list PySem.F.slot_list_append PySem.F.type_list_append mt_append (pv 2) (pa_cons (pe_ifExp (pt_cmpR op_notIn_seq (pv 6) (pv 2) rfl) (pv 6) (pe_ix ix_list (pe_lc (own := [("one", 8)]) (g := (gName 8)) (by rfl) sc_law_names.nd (pi_list (pv 3)) (blkOk_by (own := [("one", 8)]) (N := ["pot", "many", "found", "spare", "letter", "turn", "name", "other", "one"]) (sc := defScope s_law_names) (by decide +kernel)) (fun _ _ _ _ _ => pg_name (i := 8) sc_law_names.nd rfl (Or.inl rfl)) (fun _ _ _ _ _ => pts_one (pt_cmpR (show OpR _ (compareOp .NotIn) (rIn K true) from op_notIn_seq) (pv 8) (pv 2) rfl)) (fun _ _ _ _ _ => (pv 8))) pe_int (fun _ _ => rfl))) pa_nil))))))
      (pss_one (ps_ret (pv 2)))))), ?_⟩
    refine ⟨Nat.zero_le _, fun F0 hF0 => ⟨Nat.zero_le _, fun S0 hS0 => ⟨by show 2 ≤ sizeLine; decide, fun t H1 hs1 ht1 => ⟨_, _, rfl, ht1.sq, rfl, ?_⟩⟩⟩⟩
    have hF1 : H1 F0 = some (.lst []) := hs1 _ _ (by rw [upd_ne (ne_of_none upd_same hS0)]; exact upd_same)
    have hS1 : H1 S0 = some (.lst []) := hs1 _ _ upd_same
    have sm1 : Same H H1 := (Same.upd hF0).trans ((Same.upd hS0).trans hs1)
    have nFp : F0 ≠ p := hp.ne hF0
    have nSp : S0 ≠ p := (hp.same (Same.upd hF0)).ne hS0
    -- spare
    refine ⟨_, _, rfl, _, _, rfl, rfl, _, rfl, for_it walk_str (fun i σ Hx => ∃ (S : Addr) (v4 : Option V), σ = [some (.ref p), some (.int m), some (.ref F0), some (.ref S), v4, none, none, none, none] ∧ Same H1 Hx ∧ Hx S = some (.lst ((spareL.take (12 * i)).map V.str)) ∧ S ≠ p ∧ S ≠ F0)
      ⟨S0, none, rfl, Same.refl, hS1, nSp, fun e => by rw [e, upd_same] at hS0; cases hS0⟩ (fun _ _ _ _ _ => trivial) ?_ ?_⟩
    · rintro i x σ Hx H' hi ⟨S, v4, rfl, sm, hS, nS, nSF⟩ ⟨rfl, c, hc, rfl⟩
      refine ⟨_, rfl, _, rfl, fun D hD => ?_⟩
      refine lc_o walk_str (fun j => (abcL[j]?).map fun d => V.str (⟨#[c]⟩ ++ ⟨#[d]⟩)) (by rw [abc_cps, sizeLine_eq]; decide) hD (fun _ _ => trivial) ?_ ?_
      · rintro j y Hy H'' Nx hj smy hDy ⟨rfl, d, hd, rfl⟩ hno hyes
        refine ⟨rfl, yes ⟨_, rfl, _, rfl, _, _, rfl, rfl, by rw [sizeLine_eq]; show 1 + 1 ≤ _; omega, ?_⟩⟩
        rw [abc_cps, List.getElem?_toArray] at hd
        exact hyes _ (by rw [hd]; rfl) _ Same.refl
      · intro Hy smy hDy
        refine ⟨_, _, _, _, rfl, rfl, smy _ _ hS, hDy, ?_, fun p' hp' => ?_⟩
        · have := List.length_filterMap_le (fun j => (abcL[j]?).map fun d => V.str (⟨#[c]⟩ ++ ⟨#[d]⟩)) (List.range ("abcdefghijkl" : Str).cps.size)
          rw [List.length_range, abc_cps] at this
          rw [List.length_map, List.length_take, spare_len, sizeLine_eq, abc_cps]
          have e : abcL.toArray.size = 12 := rfl
          omega
        · have nn : ∀ b o, Hy b = some o → b ≠ p' := fun b o e => ne_of_none e hp'
          refine ⟨p', _, rfl, (sm.trans smy).trans (Same.upd hp'), ?_, ?_, ?_⟩
          · rw [upd_same]
            congr 2
            have three : i < 3 := by rw [qrs_cps] at hi; exact hi
            rw [qrs_cps] at hc
            rw [abc_cps]
            rcases (show i = 0 ∨ i = 1 ∨ i = 2 by omega) with rfl | rfl | rfl
            · obtain rfl : 113 = c := by simpa using hc
              decide +kernel
            · obtain rfl : 114 = c := by simpa using hc
              decide +kernel
            · obtain rfl : 115 = c := by simpa using hc
              decide +kernel
          · obtain ⟨a1, b1, c1, e1, _⟩ := hp.same (sm1.trans (sm.trans smy))
            exact (nn _ _ e1).symm
          · exact (nn _ _ ((sm.trans smy) _ _ hF1)).symm
    · rintro σ Hx ⟨S, v4, rfl, sm, hS, nS, nSF⟩
      have e36 : (spareL.take (12 * ("qrs" : Str).cps.size)) = spareL := by rw [qrs_cps]; decide +kernel
      rw [e36] at hS
      -- the names
      refine ⟨_, rfl, m, rfl, by omega, by omega, for_it (walk_range (lo := 0) (n := m.toNat)) (fun i σ Hx => ∃ (v4 v5 v6 : Option V) (zs : List Str), σ = [some (.ref p), some (.int m), some (.ref F0), some (.ref S), v4, v5, v6, none, none] ∧
        Hx F0 = some (.lst (zs.map V.str)) ∧ Hx S = some (.lst (spareL.map V.str)) ∧ zs.length = i ∧ zs.Nodup ∧ (∀ z ∈ zs, NameS z) ∧ PotAt Hx p (n + 12 * i) ∧ KpP p H Hx)
        ⟨v4, none, none, [], rfl, sm _ _ hF1, hS, rfl, List.nodup_nil, (fun z hz => nomatch hz), hp.same (sm1.trans sm), Kp.same (sm1.trans sm)⟩ (fun _ _ _ _ _ => trivial) ?_ ?_⟩
      · rintro i x σ Hy H' hi ⟨v4, v5, v6, zs, rfl, hF, hSy, hl, hnd, hok, hpy, hky⟩ ⟨rfl, rfl⟩
        refine ⟨_, rfl, p, n + 12 * i, rfl, hpy, by omega, fun z H2 hz hp2 hk2 => ?_⟩
        have hF2 := hk2.get hF nFp
        have hS2 := hk2.get hSy nS
        have fin : ∀ (y : Str) (H3 : Hp), y ∉ zs → NameS y → Same H2 H3 → ∃ (v4' v5' v6' : Option V) (zs' : List Str), [some (V.ref p), some (.int m), some (.ref F0), some (.ref S), v4, some (.int (0 + (i : Int))), some (.str z), none, none] = [some (.ref p), some (.int m), some (.ref F0), some (.ref S), v4', v5', v6', none, none] ∧
            (upd H3 F0 (.lst (zs.map V.str ++ [.str y]))) F0 = some (.lst (zs'.map V.str)) ∧ (upd H3 F0 (.lst (zs.map V.str ++ [.str y]))) S = some (.lst (spareL.map V.str)) ∧ zs'.length = i + 1 ∧ zs'.Nodup ∧ (∀ z ∈ zs', NameS z) ∧
            PotAt (upd H3 F0 (.lst (zs.map V.str ++ [.str y]))) p (n + 12 * (i + 1)) ∧ KpP p H (upd H3 F0 (.lst (zs.map V.str ++ [.str y]))) := fun y H3 hy hyo sm3 => by
          refine ⟨v4, _, _, zs ++ [y], rfl, by rw [upd_same, List.map_append]; rfl, by rw [upd_ne nSF]; exact sm3 _ _ hS2, by rw [List.length_append, hl]; rfl, ?_, ?_, ?_, ?_⟩
          · exact List.nodup_append.mpr ⟨hnd, List.nodup_cons.mpr ⟨List.not_mem_nil, List.nodup_nil⟩, fun a ha b hb => by
              rw [List.mem_singleton.mp hb]
              exact fun e => hy (e ▸ ha)⟩
          · intro w hw
            rcases List.mem_append.mp hw with h | h
            · exact hok w h
            · rw [List.mem_singleton.mp h]; exact hyo
          · obtain ⟨a1, b1, c1, e1, r1⟩ := hp2.same sm3
            exact PotAt.mono ⟨a1, b1, c1, by rw [upd_ne nFp.symm]; exact e1, r1⟩ (by omega)
          · intro b o hb hbp
            rw [upd_ne (ne_of_none hb hF0)]
            exact sm3 _ _ (hk2 b o (hky b o hb hbp) hbp)
        have hsz : (zs.map V.str).length < sizeLine := by rw [List.length_map, hl, sizeLine_eq]; omega
        refine ⟨_, rfl, .inl ⟨rfl, _, SqL.of hF2⟩, _, rfl, _, rfl, F0, _, rfl, .inl (SqL.of hF2), rfl, flat_strs _, _, rfl, ?_⟩
        by_cases hin : z ∈ zs
        · rw [inV_str, decide_eq_true hin]
          refine iteF ?_
          refine ⟨_, rfl, S, rfl, ⟨_, SqL.of hS2⟩, fun D hD => lc_o (walk_list (K := K) (a := S) (xs := spareL.map V.str)) (fun j => spareL[j]?.bind fun y => if y ∈ zs then none else some (V.str y)) (by rw [List.length_map, spare_len, sizeLine_eq]; decide) hD (fun Hq sq => SqL.of (sq _ _ hS2)) ?_ ?_⟩
          · rintro j x Hq H'' Nx hj sq hDne ⟨rfl, hx⟩ hno hyes
            rw [List.getElem?_map] at hx
            cases ey : spareL[j]? with
            | none => rw [ey] at hx; cases hx
            | some y =>
              rw [ey] at hx
              cases hx
              refine ⟨rfl, _, rfl, _, rfl, F0, _, rfl, .inl (SqL.of (sq _ _ hF2)), rfl, flat_strs _, _, rfl, ?_⟩
              by_cases hy : y ∈ zs
              · rw [inV_str, decide_eq_true hy]
                refine iteF (hno ?_ _ Same.refl)
                rw [ey]
                simp [hy]
              · rw [inV_str, decide_eq_false hy]
                refine iteT ⟨_, rfl, hyes _ ?_ _ Same.refl⟩
                rw [ey]
                simp [hy]
          · intro Hq sq hDq
            have e1 : ((List.range (spareL.map V.str).length).filterMap fun j => spareL[j]?.bind fun y => if y ∈ zs then none else some (V.str y)) = spareL.filterMap fun y => if y ∈ zs then none else some (V.str y) := by
              rw [List.length_map]
              exact range_bind _ _
            rw [e1] at hDq
            cases eq : spareL.filterMap (fun y => if y ∈ zs then none else some (V.str y)) with
            | nil =>
              exfalso
              have hall : ∀ y ∈ spareL, y ∈ zs := fun y hy => by
                by_cases h : y ∈ zs
                · exact h
                · have : V.str y ∈ spareL.filterMap (fun y => if y ∈ zs then none else some (V.str y)) := List.mem_filterMap.mpr ⟨y, hy, by rw [if_neg h]⟩
                  rw [eq] at this
                  cases this
              have := nodup_le spareL zs spare_nd hall
              rw [spare_len] at this
              omega
            | cons v vs =>
              rw [eq] at hDq
              obtain ⟨y, hy, hv⟩ := List.mem_filterMap.mp (show v ∈ spareL.filterMap (fun y => if y ∈ zs then none else some (V.str y)) from by rw [eq]; exact List.mem_cons_self)
              by_cases hyz : y ∈ zs
              · rw [if_pos hyz] at hv
                cases hv
              · rw [if_neg hyz] at hv
                cases hv
                exact ⟨D, _, _, _, rfl, rfl, SqL.of hDq, atI_nat (j := 0) rfl, F0, _, _, rfl, rfl, sq _ _ hF2, hsz, fin y Hq hyz (spare_ok y hy) sq⟩
        · rw [inV_str, decide_eq_false hin]
          refine iteT ?_
          refine ⟨_, rfl, F0, _, _, rfl, rfl, hF2, hsz, ?_⟩
          exact fin z H2 hin hz Same.refl
      · rintro σ Hy ⟨v4, v5, v6, zs, rfl, hF, hSy, hl, hnd, hok, hpy, hky⟩
        exact ⟨_, rfl, k F0 zs Hy hF0 (by omega) hnd hok hF (hpy.mono (by omega)) hky⟩
end
end Kx
namespace Kx
open PySem PySem.Spec PyProof.Rows L2
def uniqF (acc : List Str) (x : Str) : List Str := if x ∈ acc then acc else acc ++ [x]
/-- each once, where it stands first -/
def uniq (l : List Str) : List Str := l.foldl uniqF []
def pairD (q : Str × Str) : PyData := .tuple [.str q.1, .str q.2]
theorem uniqF_nd {acc : List Str} {x : Str} (h : acc.Nodup) : (uniqF acc x).Nodup := by
  unfold uniqF
  split
  · exact h
  · rename_i hx
    exact List.nodup_append.mpr ⟨h, List.nodup_cons.mpr ⟨List.not_mem_nil, List.nodup_nil⟩, fun a ha b hb e => hx (by rw [List.mem_singleton.mp hb] at e; exact e ▸ ha)⟩
theorem uniq_gen (l : List Str) : ∀ acc : List Str, acc.Nodup → (l.foldl uniqF acc).Nodup ∧ ∀ z, z ∈ l.foldl uniqF acc ↔ z ∈ acc ∨ z ∈ l := by
  induction l with
  | nil => intro acc h; exact ⟨h, fun z => by simp⟩
  | cons x r ih =>
    intro acc h
    obtain ⟨h1, h2⟩ := ih (uniqF acc x) (uniqF_nd h)
    refine ⟨h1, fun z => (h2 z).trans ?_⟩
    unfold uniqF
    split
    · rename_i hx
      rw [List.mem_cons]
      refine ⟨fun q => q.elim .inl fun q => .inr (.inr q), fun q => q.elim .inl fun q => q.elim (fun e => .inl (e ▸ hx)) .inr⟩
    · rw [List.mem_append, List.mem_singleton, List.mem_cons, or_assoc]
theorem uniq_nd (l : List Str) : (uniq l).Nodup := (uniq_gen l [] List.nodup_nil).1
theorem uniq_mem (l : List Str) (z : Str) : z ∈ uniq l ↔ z ∈ l := by
  have := (uniq_gen l [] List.nodup_nil).2 z
  exact this.trans (by simp)
theorem uniqF_len (acc : List Str) (x : Str) : (uniqF acc x).length ≤ acc.length + 1 := by
  unfold uniqF
  split <;> simp
theorem uniq_take (l : List Str) (i : Nat) (h : i < l.length) : uniq (l.take (i + 1)) = uniqF (uniq (l.take i)) l[i] := by
  unfold uniq
  rw [List.take_succ, List.getElem?_eq_getElem h, List.foldl_append]
  rfl
theorem uniq_len (l : List Str) : (uniq l).length ≤ l.length := by
  refine nodup_le _ _ (uniq_nd l) fun x hx => (uniq_mem l x).mp hx
theorem Dv.pairI {ex : Addr → Prop} {H : Hp} {v : V} {q : Str × Str} (h : Dv ex H v (pairD q)) : ∃ b, v = .ref b ∧ TupF H b [.str q.1, .str q.2] := by
  obtain ⟨b, xs, rfl, ht, l⟩ := h.tupI
  cases l with
  | cons a l =>
    cases l with
    | cons a2 l =>
      cases l
      rw [a.strI, a2.strI] at ht
      exact ⟨b, rfl, ht⟩
section
variable {P : Program} {w : World} {K : PySem.W.Frag} {mg : Str → Option Value} {base : Heap}
abbrev N_law_lengths : List Str := ["pairs", "found", "name", "length"]
abbrev P_law_lengths : List Str := ["pairs"]
theorem sc_law_lengths : FnScope N_law_lengths P_law_lengths (defScope s_law_lengths) := ⟨rfl, rfl, rfl, by decide +kernel, rfl, by decide +kernel, by decide +kernel⟩
def spLengths : Sp := fun vs H Q _ => ∃ (ex : Addr → Prop) (v : V) (ps : List (Str × Str)), vs = [v] ∧ Dv ex H v (.tuple (ps.map pairD)) ∧ ps.length ≤ 100 ∧
  ∀ (D : Addr) (H' : Hp), H D = none → Same H H' → H' D = some (.lst ((uniq (ps.map (·.2))).map V.str)) → Q (.ref D) H'
theorem ok_lengths (T : Bt mg) (h : Has K mg "_law_lengths" s_law_lengths) : Ca P w K mg base 1 "_law_lengths" P_law_lengths spLengths := by
  refine cal_of h sc_law_lengths (fun _ _ _ _ _ _ us hl => match us, hl with | [_], _ => rfl) (fun vs H Q E h => ?_) (fun f cdv A outer s H vs Q E hr h => ?_)
  · obtain ⟨ex, v, ps, rfl, _⟩ := h
    rfl
  · obtain ⟨ex, v, ps, rfl, dv, hl, k⟩ := h
    obtain ⟨a, xs, rfl, ht, hd⟩ := dv.tupI
    have hxl := hd.len
    rw [List.length_map] at hxl
    refine ⟨_, (pss_cons (ps_set (i := 1) sc_law_lengths.nd rfl (.inl rfl) (pe_lst pa_nil))
      (pss_cons (ps_for PassesOwn.never rfl (pi_tup (pv 0)) (pg_tup (by rfl) (pgs_cons (pg_name (i := 2) sc_law_lengths.nd rfl (.inl rfl)) (pgs_cons (pg_name (i := 3) sc_law_lengths.nd rfl (.inl rfl)) pgs_nil)))
        (pss_one (ps_if (pt_cmpR op_notIn_seq (pv 3) (pv 1) rfl) (pss_one (ps_expr (pe_bm PySem.F.plainAttrs_list PySem.F.slot_list_append PySem.F.type_list_append mt_append (pv 1) (pa_cons (pv 3) pa_nil)))) pss_nil)))
      (pss_one (ps_ret (pv 1))))), ?_⟩
    refine ⟨Nat.zero_le _, fun D hD => ⟨_, rfl, a, rfl, ⟨_, (show TupF (upd H D (.lst [])) a xs from (Kp.new (ex := ex) hD).tup ht).sq⟩, for_it (walk_tup (K := K) (a := a) (xs := xs)) (fun i σ Hx => ∃ (v2 v3 : Option V), σ = [some (.ref a), some (.ref D), v2, v3] ∧ Same H Hx ∧ Hx D = some (.lst ((uniq ((ps.map (·.2)).take i)).map V.str)))
      ⟨none, none, rfl, Same.upd hD, upd_same⟩ (fun i σ Hx _ ⟨_, _, _, sm, _⟩ => ((Kp.same (ex := ex) sm).tup ht).sq) ?_ ?_⟩⟩
    · rintro i x σ Hx H' hi ⟨v2, v3, rfl, sm, hDx⟩ ⟨rfl, hx⟩
      obtain ⟨e, he, dve⟩ := hd.get hx
      rw [List.getElem?_map] at he
      have hi' : i < ps.length := by omega
      rw [List.getElem?_eq_getElem hi'] at he
      cases he
      obtain ⟨b, rfl, hb⟩ := dve.pairI
      have hmap : i < (ps.map (·.2)).length := by rw [List.length_map]; exact hi'
      have e2 : (ps.map (·.2))[i] = ps[i].2 := List.getElem_map _
      have hsz : ((uniq ((ps.map (·.2)).take i)).map V.str).length < sizeLine := by
        have := uniq_len ((ps.map (·.2)).take i)
        rw [List.length_take, List.length_map] at this
        rw [List.length_map, sizeLine_eq]
        omega
      refine ⟨b, _, rfl, ((Kp.same (ex := ex) sm).tup hb).sq, rfl, _, _, rfl, _, _, rfl, rfl, ?_⟩
      refine ⟨_, rfl, _, rfl, D, _, rfl, .inl (SqL.of hDx), rfl, flat_strs _, _, rfl, ?_⟩
      by_cases hin : ps[i].2 ∈ uniq ((ps.map (·.2)).take i)
      · rw [inV_str, decide_eq_true hin]
        refine iteF ⟨_, _, rfl, sm, ?_⟩
        rw [uniq_take _ i hmap, e2, uniqF, if_pos hin]
        exact hDx
      · rw [inV_str, decide_eq_false hin]
        refine iteT ⟨_, rfl, .inl ⟨rfl, _, SqL.of hDx⟩, _, rfl, D, _, _, rfl, rfl, hDx, hsz, _, _, rfl, ?_, ?_⟩
        · intro b o hb
          rw [upd_ne (ne_of_none hb hD)]
          exact sm b o hb
        · rw [upd_same, uniq_take _ i hmap, e2, uniqF, if_neg hin, List.map_append]
          rfl
    · rintro σ Hx ⟨v2, v3, rfl, sm, hDx⟩
      refine ⟨_, rfl, k D Hx hD sm ?_⟩
      rw [hDx, List.take_of_length_le (by rw [List.length_map]; omega)]
/-! ### the parts of a frame -/
theorem cut_take (xs : List V) (i : Int) (h : 0 ≤ i) : cutV xs none (some i) = xs.take i.toNat := by
  obtain ⟨j, rfl⟩ : ∃ j : Nat, i = j := ⟨i.toNat, by omega⟩
  unfold cutV
  rw [HT.sIx_nat]
  show (xs.drop 0).take (min j xs.length - 0) = _
  rw [List.drop_zero, Nat.sub_zero, List.take_eq_take_iff]
  simp
theorem cut_drop (xs : List V) (i : Int) (h : 0 ≤ i) : cutV xs (some i) none = xs.drop i.toNat := by
  obtain ⟨j, rfl⟩ : ∃ j : Nat, i = j := ⟨i.toNat, by omega⟩
  unfold cutV
  rw [HT.sIx_nat]
  show (xs.drop (min j xs.length)).take (xs.length - min j xs.length) = xs.drop j
  rw [List.take_of_length_le (by rw [List.length_drop]; omega)]
  by_cases hj : j ≤ xs.length
  · rw [Nat.min_eq_left hj]
  · rw [Nat.min_eq_right (by omega), List.drop_length, List.drop_of_length_le (by omega)]
/-- the parts of a frame are right -/
def Good (ps : List (Str × Str)) (ns vs : List Str) : Prop :=
  ps.length ≤ 12 ∧ ns.length ≤ 6 ∧ vs.length ≤ 6 ∧ (∀ z ∈ ps.map (·.1) ++ (ps.map (·.2) ++ (ns ++ vs)), NameS z) ∧ (ps.map (·.1) ++ (uniq (ps.map (·.2)) ++ (ns ++ vs))).Nodup
theorem good_of {zs : List Str} {qs : List (Str × Str)} {M N s1 s2 : Nat} (hnd : zs.Nodup) (hok : ∀ z ∈ zs, NameS z) (hl : zs.length = M + N + s1 + s2) (hM : M ≤ 12) (h1 : s1 ≤ 6) (h2 : s2 ≤ 6)
    (ha : qs.map (·.1) = zs.take M) (hb : ∀ q ∈ qs, q.2 ∈ (zs.drop M).take N) : Good qs ((zs.drop (M + N)).take s1) ((zs.drop (M + N)).drop s1) := by
  have split : zs = zs.take M ++ ((zs.drop M).take N ++ zs.drop (M + N)) := by
    rw [← List.drop_drop, List.take_append_drop, List.take_append_drop]
  have hq : qs.length ≤ 12 := by
    have := congrArg List.length ha
    rw [List.length_map, List.length_take] at this
    omega
  have hsub : ∀ z ∈ qs.map (·.2), z ∈ (zs.drop M).take N := fun z hz => by
    obtain ⟨q, hq, rfl⟩ := List.mem_map.mp hz
    exact hb q hq
  have inz : ∀ z, z ∈ zs.take M ∨ z ∈ (zs.drop M).take N ∨ z ∈ zs.drop (M + N) → z ∈ zs := fun z hz => by
    rw [split]
    rw [List.mem_append, List.mem_append]
    exact hz
  refine ⟨hq, ?_, ?_, ?_, ?_⟩
  · rw [List.length_take]; omega
  · rw [List.length_drop, List.length_drop]; omega
  · intro z hz
    rw [List.take_append_drop, ha, List.mem_append, List.mem_append] at hz
    refine hok z (inz z ?_)
    rcases hz with h | h | h
    · exact .inl h
    · exact .inr (.inl (hsub z h))
    · exact .inr (.inr h)
  · rw [List.take_append_drop, ha]
    rw [split] at hnd
    obtain ⟨n1, n2, n3⟩ := List.nodup_append.mp hnd
    obtain ⟨n4, n5, n6⟩ := List.nodup_append.mp n2
    refine List.nodup_append.mpr ⟨n1, List.nodup_append.mpr ⟨uniq_nd _, n5, fun a h1 b h2 => n6 a (hsub a ((uniq_mem _ a).mp h1)) b h2⟩, fun a h1 b h2 => n3 a h1 b ?_⟩
    rcases List.mem_append.mp h2 with h | h
    · exact List.mem_append.mpr (.inl (hsub b ((uniq_mem _ b).mp h)))
    · exact List.mem_append.mpr (.inr h)
theorem DvL.snoc {ex : Addr → Prop} {H : Hp} {xs : List V} {ds : List PyData} {v : V} {d : PyData} (h : DvL ex H xs ds) (a : Dv ex H v d) : DvL ex H (xs ++ [v]) (ds ++ [d]) := h.app (.cons a .nil)
abbrev N_law_parts : List Str := ["pot", "top", "most", "many", "sizes", "lengths", "names", "pairs", "rest", "at", "name"]
abbrev P_law_parts : List Str := ["pot", "top", "most"]
theorem sc_law_parts : FnScope N_law_parts P_law_parts (defScope s_law_parts) := ⟨rfl, rfl, rfl, by decide +kernel, rfl, by decide +kernel, by decide +kernel⟩
def spParts : Sp := fun vs H Q _ => ∃ (p : Addr) (n : Nat) (t m : Int), vs = [.ref p, .int t, .int m] ∧ PotAt H p n ∧ n ≤ 700000 ∧ 0 ≤ t ∧ t ≤ 12 ∧ 0 ≤ m ∧ m ≤ 6 ∧
  ∀ (R : Addr) (x y z : V) (ps : List (Str × Str)) (ns vs : List Str) (H' : Hp), H R = none → H' R = some (.lst [x, y, z]) → Good ps ns vs → (∀ ex, Dv ex H' x (.tuple (ps.map pairD))) → (∀ ex, Dv ex H' y (.tuple (ns.map .str))) → (∀ ex, Dv ex H' z (.tuple (vs.map .str))) →
    PotAt H' p (n + 400) → KpP p H H' → Q (.ref R) H'
theorem ok_parts (T : Bt mg) (h : Has K mg "_law_parts" s_law_parts) (C1 : Ca P w K mg base 1 "_law_dip" P_law_dip spDip) (C2 : Ca P w K mg base 4 "_law_names" P_law_names spNames) : Ca P w K mg base 5 "_law_parts" P_law_parts spParts := by
  obtain ⟨_, _, c__law_dip⟩ := C1
  obtain ⟨_, _, c__law_names⟩ := C2
  refine cal_of h sc_law_parts (fun _ _ _ _ _ _ us hl => match us, hl with | [_, _, _], _ => rfl) (fun vs H Q E h => ?_) (fun f cdv A outer s H vs Q E hr h => ?_)
  · obtain ⟨p, n, t, m, rfl, _⟩ := h
    rfl
  · obtain ⟨p, n, t, m, rfl, hp, hn, ht0, ht1, hm0, hm1, k⟩ := h
    refine ⟨_, (pss_cons (ps_set (i := 3) sc_law_parts.nd rfl (.inl rfl) (pe_call c__law_dip.1 (hr.mono (by decide)) rfl c__law_dip.2.1 c__law_dip.2.2.1 c__law_dip.2.2.2 .nil pass0 (pa_cons (pv 0) (pa_cons (pe_op op_add (pv 1) pe_int) pa_nil))))
      (pss_cons (ps_set (i := 4) sc_law_parts.nd rfl (.inl rfl) (pe_lst (pa_cons (pe_call c__law_dip.1 (hr.mono (by decide)) rfl c__law_dip.2.1 c__law_dip.2.2.1 c__law_dip.2.2.2 .nil pass0 (pa_cons (pv 0) (pa_cons (pe_op op_add (pv 2) pe_int) pa_nil))) (pa_cons (pe_call c__law_dip.1 (hr.mono (by decide)) rfl c__law_dip.2.1 c__law_dip.2.2.1 c__law_dip.2.2.2 .nil pass0 (pa_cons (pv 0) (pa_cons (pe_op op_add (pv 2) pe_int) pa_nil))) pa_nil))))
      (pss_cons (ps_set (i := 5) sc_law_parts.nd rfl (.inl rfl) (pe_callB (call_max2 rfl) (by rfl) T.max (by decide +kernel) (pa_cons pe_int (pa_cons (pe_callB (call_min2 rfl) (by rfl) T.min (by decide +kernel) (pa_cons (pv 3) (pa_cons (pe_op op_add pe_int (pe_call c__law_dip.1 (hr.mono (by decide)) rfl c__law_dip.2.1 c__law_dip.2.2.1 c__law_dip.2.2.2 .nil pass0 (pa_cons (pv 0) (pa_cons pe_int pa_nil)))) pa_nil))) pa_nil))))
      (pss_cons (ps_set (i := 6) sc_law_parts.nd rfl (.inl rfl) (pe_call c__law_names.1 (hr.mono (by decide)) rfl c__law_names.2.1 c__law_names.2.2.1 c__law_names.2.2.2 .nil pass0 (pa_cons (pv 0) (pa_cons (pe_op op_add (pe_op op_add (pe_op op_add (pv 3) (pv 5)) (pe_ix ix_list (pv 4) pe_int (fun _ _ => rfl))) (pe_ix ix_list (pv 4) pe_int (fun _ _ => rfl))) pa_nil))))
      (pss_cons (ps_par (i := 7) (j := 8) (by rfl) sc_law_parts.nd rfl rfl (by decide) rfl rfl (pa_cons (pe_lst pa_nil) (pa_cons (pe_slice sl_list (pv 6) (po_some (pe_op op_add (pv 3) (pv 5))) po_none) pa_nil)) (by rfl))
      (pss_cons (ps_for PassesOwn.never rfl (pi_enum (by rfl) T.enumerate (pa_cons (pe_slice sl_list (pv 6) po_none (po_some (pv 3))) pa_nil)) (pg_tup (by rfl) (pgs_cons (pg_name (i := 9) sc_law_parts.nd rfl (.inl rfl)) (pgs_cons (pg_name (i := 10) sc_law_parts.nd rfl (.inl rfl)) pgs_nil)))
        (pss_one (ps_expr (pe_bm PySem.F.plainAttrs_list PySem.F.slot_list_append PySem.F.type_list_append mt_append (pv 7) (pa_cons (pe_tupF (pa_cons (pv 10) (pa_cons (pe_ix ix_list (pv 6) (pe_op op_add (pv 3) (pe_ifExp (pt_cmpR op_lt (pv 9) (pv 5) (nomark _)) (pv 9) (pe_call c__law_dip.1 (hr.mono (by decide)) rfl c__law_dip.2.1 c__law_dip.2.2.1 c__law_dip.2.2.2 .nil pass0 (pa_cons (pv 0) (pa_cons (pv 5) pa_nil))))) (fun _ _ => rfl)) pa_nil))) pa_nil)))))
      (pss_one (ps_ret (pe_lst (pa_cons (pe_callTy call_tupF (by rfl) T.tuple (by decide +kernel) (pa_cons (pv 7) pa_nil)) (pa_cons (pe_callTy call_tupF (by rfl) T.tuple (by decide +kernel) (pa_cons (pe_slice sl_list (pv 8) po_none (po_some (pe_ix ix_list (pv 4) pe_int (fun _ _ => rfl)))) pa_nil)) (pa_cons (pe_callTy call_tupF (by rfl) T.tuple (by decide +kernel) (pa_cons (pe_slice sl_list (pv 8) (po_some (pe_ix ix_list (pv 4) pe_int (fun _ _ => rfl))) po_none) pa_nil)) pa_nil)))))))))))), ?_⟩
    -- many, sizes, lengths
    refine ⟨_, rfl, _, rfl, _, _, rfl, rfl, p, n, _, rfl, hp, by omega, by omega, by omega, fun many H1 a0 a1 hp1 hk1 => ?_⟩
    refine ⟨_, rfl, _, rfl, _, _, rfl, rfl, p, n + 1, _, rfl, hp1, by omega, by omega, by omega, fun s1 H2 b0 b1 hp2 hk2 => ⟨_, rfl, _, rfl, _, _, rfl, rfl, p, n + 2, _, rfl, hp2, by omega, by omega, by omega, fun s2 H3 c0 c1 hp3 hk3 => ⟨by show 2 ≤ sizeLine; decide, fun SZ hSZ => ?_⟩⟩⟩
    refine ⟨_, rfl, _, rfl, p, n + 3, 3, rfl, hp3.same (Same.upd hSZ), by omega, by decide, by decide, fun d H4 d0 d1 hp4 hk4 => ⟨_, _, rfl, rfl, _, _, rfl, _, _, rfl, ?_⟩⟩
    generalize hL : (if (if 1 + d < many then 1 + d else many) > 1 then (if 1 + d < many then 1 + d else many) else 1) = L
    have hL2 : 1 ≤ L ∧ L ≤ 3 := by
      rw [← hL]
      split <;> (try split) <;> (constructor <;> (try split) <;> omega)
    have nSp : SZ ≠ p := hp3.ne hSZ
    have hS4 : H4 SZ = some (.lst [.int s1, .int s2]) := hk4.get upd_same nSp
    have k4 : KpP p H H4 := hk1.trans (hk2.trans (hk3.trans ((Kp.new hSZ).trans hk4)))
    -- names
    refine ⟨_, rfl, _, rfl, _, rfl, _, _, rfl, rfl, _, rfl, SZ, _, _, _, rfl, rfl, SqL.of hS4, rfl, _, _, rfl, rfl, _, rfl, SZ, _, _, _, rfl, rfl, SqL.of hS4, rfl, _, _, rfl, rfl, p, n + 4, _, rfl, hp4, by omega, by omega, by omega, fun D zs H5 hD hzl hnd hok hD5 hp5 hk5 => ?_⟩
    have nDp : D ≠ p := hp4.ne hD
    have hS5 : H5 SZ = some (.lst [.int s1, .int s2]) := hk5.get hS4 nSp
    have k5 : KpP p H H5 := k4.trans hk5
    obtain ⟨M, rfl⟩ : ∃ M : Nat, many = M := ⟨many.toNat, by omega⟩
    obtain ⟨N, rfl⟩ : ∃ N : Nat, L = N := ⟨L.toNat, by omega⟩
    obtain ⟨u1, rfl⟩ : ∃ u : Nat, s1 = u := ⟨s1.toNat, by omega⟩
    obtain ⟨u2, rfl⟩ : ∃ u : Nat, s2 = u := ⟨s2.toNat, by omega⟩
    have hzl' : zs.length = M + N + u1 + u2 := by omega
    -- pairs, rest
    refine ⟨Nat.zero_le _, fun PL hPL => ⟨_, rfl, _, rfl, _, rfl, _, _, rfl, rfl, _, rfl, D, _, rfl, SqL.of ((Kp.new (ex := fun a => a = p) hPL).get hD5 nDp), fun RS hRS => ⟨_, _, rfl, ?_⟩⟩⟩
    have eRS : cutV (zs.map V.str) (some ((M : Int) + (N : Int))) none = (zs.drop (M + N)).map V.str := by
      rw [cut_drop _ _ (by omega), show ((M : Int) + (N : Int)).toNat = M + N by omega, List.map_drop]
    rw [eRS] at *
    have nPp : PL ≠ p := hp5.ne hPL
    have hp6 := hp5.same (Same.upd (o := .lst []) hPL)
    have nRp : RS ≠ p := hp6.ne hRS
    have nRP : RS ≠ PL := (ne_of_none upd_same hRS).symm
    have nDP : D ≠ PL := ne_of_none hD5 hPL
    have sm7 : Same H5 (upd (upd H5 PL (.lst [])) RS (.lst ((zs.drop (M + N)).map V.str))) := (Same.upd hPL).trans (Same.upd hRS)
    have hP7 : (upd (upd H5 PL (.lst [])) RS (.lst ((zs.drop (M + N)).map V.str))) PL = some (.lst []) := by rw [upd_ne nRP.symm]; exact upd_same
    have hR7 : (upd (upd H5 PL (.lst [])) RS (.lst ((zs.drop (M + N)).map V.str))) RS = some (.lst ((zs.drop (M + N)).map V.str)) := upd_same
    generalize upd (upd H5 PL (.lst [])) RS (.lst ((zs.drop (M + N)).map V.str)) = H7 at sm7 hP7 hR7 ⊢
    -- enumerate(names[:many])
    have hD7 : H7 D = some (.lst (zs.map V.str)) := sm7 _ _ hD5
    have hp7 : PotAt H7 p (n + 4 + 12 * 30) := (hp5.same sm7).mono (by omega)
    refine ⟨_, rfl, _, rfl, _, rfl, D, _, rfl, SqL.of hD7, fun EN hEN => ?_⟩
    rw [cut_take _ _ (by omega : (0 : Int) ≤ (M : Int)), Int.toNat_natCast]
    have sm8 : Same H7 (upd H7 EN (.lst ((zs.map V.str).take M))) := Same.upd hEN
    have hE8 : (upd H7 EN (.lst ((zs.map V.str).take M))) EN = some (.lst ((zs.map V.str).take M)) := upd_same
    have nEp : EN ≠ p := hp7.ne hEN
    have nEP : EN ≠ PL := (ne_of_none hP7 hEN).symm
    generalize upd H7 EN (.lst ((zs.map V.str).take M)) = H8 at sm8 hE8 ⊢
    have k8 : KpP p H H8 := k5.trans (Kp.same (sm7.trans sm8))
    have hMz : M ≤ zs.length := by omega
    have eM : ((zs.map V.str).take M).length = M := by rw [List.length_take, List.length_map]; omega
    refine ⟨EN, _, rfl, SqL.of hE8, for_it (walk_enum (K := K) (a := EN) (xs := (zs.map V.str).take M)) (fun i σ Hx => ∃ (v9 v10 : Option V) (qs : List (Str × Str)) (xs : List V),
      σ = [some (.ref p), some (.int t), some (.int m), some (.int M), some (.ref SZ), some (.int N), some (.ref D), some (.ref PL), some (.ref RS), v9, v10] ∧ Hx PL = some (.lst xs) ∧ DvL (fun _ => True) Hx xs (qs.map pairD) ∧ qs.length = i ∧ qs.map (·.1) = (zs.take M).take i ∧
      (∀ q ∈ qs, q.2 ∈ (zs.drop M).take N) ∧ PotAt Hx p (n + 364 + i) ∧ Kp (fun a => a = p ∨ a = PL) H8 Hx)
      ⟨none, none, [], [], rfl, sm8 _ _ hP7, .nil, rfl, by simp, (fun q hq => nomatch hq), hp7.same sm8, Kp.refl⟩ (fun i σ Hx _ ⟨_, _, _, _, _, _, _, _, _, _, _, kk⟩ => SqL.of (kk.get hE8 (fun z => z.elim nEp nEP))) ?_ ?_⟩
    · rintro i x σ Hx H' hi ⟨v9, v10, qs, xs, rfl, hPx, hdx, hql, hqa, hqb, hpx, kx⟩ ⟨T0, y1, y2, rfl, hT0, rfl, e1, e2⟩
      cases e1
      rw [eM] at hi
      have hiz : i < zs.length := by omega
      have e3 : y2 = .str zs[i] := by
        have e2 : ((zs.map V.str).take M)[i]? = some y2 := e2
        rw [List.getElem?_take_of_lt hi, List.getElem?_map, List.getElem?_eq_getElem hiz] at e2
        cases e2
        rfl
      subst e3
      have kT0 : Kp (fun a => a = p ∨ a = PL) H8 (upd Hx T0 (.tup [.int (i : Nat), .str zs[i]])) := kx.trans (Kp.new hT0)
      have hP0 : (upd Hx T0 (.tup [.int (i : Nat), .str zs[i]])) PL = some (.lst xs) := by rw [upd_ne (ne_of_none hPx hT0)]; exact hPx
      have hd0 : DvL (fun _ => True) (upd Hx T0 (.tup [.int (i : Nat), .str zs[i]])) xs (qs.map pairD) := hdx.kp (Kp.new hT0)
      have hp0 := hpx.same (Same.upd (o := .tup [.int (i : Nat), .str zs[i]]) hT0)
      have hT1 : (upd Hx T0 (.tup [.int (i : Nat), .str zs[i]])) T0 = some (.tup [.int (i : Nat), .str zs[i]]) := upd_same
      generalize upd Hx T0 (.tup [.int (i : Nat), .str zs[i]]) = H9 at kT0 hP0 hd0 hp0 hT1 ⊢
      have nI : ∀ a, a ≠ p → a ≠ PL → ¬ (a = p ∨ a = PL) := fun a h1 h2 z => z.elim h1 h2
      have fin : ∀ (j : Int) (Hd : Hp), 0 ≤ j → j < N → KpP p H9 Hd → PotAt Hd p (n + 364 + (i + 1)) →
          ∃ y, atI (zs.map V.str) ((M : Int) + j) = some (.str y) ∧ ∀ (t2 : Addr) (H2 : Hp), Same Hd H2 → TupF H2 t2 [.str zs[i], .str y] → H2 PL = some (.lst xs) ∧
            ∃ (v9' v10' : Option V) (qs' : List (Str × Str)) (xs' : List V),
              [some (V.ref p), some (.int t), some (.int m), some (.int M), some (.ref SZ), some (.int N), some (.ref D), some (.ref PL), some (.ref RS), some (.int (i : Nat)), some (.str zs[i])] = [some (.ref p), some (.int t), some (.int m), some (.int M), some (.ref SZ), some (.int N), some (.ref D), some (.ref PL), some (.ref RS), v9', v10'] ∧
              (upd H2 PL (.lst (xs ++ [.ref t2]))) PL = some (.lst xs') ∧ DvL (fun _ => True) (upd H2 PL (.lst (xs ++ [.ref t2]))) xs' (qs'.map pairD) ∧ qs'.length = i + 1 ∧ qs'.map (·.1) = (zs.take M).take (i + 1) ∧
              (∀ q ∈ qs', q.2 ∈ (zs.drop M).take N) ∧ PotAt (upd H2 PL (.lst (xs ++ [.ref t2]))) p (n + 364 + (i + 1)) ∧ Kp (fun a => a = p ∨ a = PL) H8 (upd H2 PL (.lst (xs ++ [.ref t2]))) := by
        intro j Hd hj0 hj1 kd hpd
        obtain ⟨j, rfl⟩ : ∃ k : Nat, j = k := ⟨j.toNat, by omega⟩
        have hjz : M + j < zs.length := by omega
        refine ⟨zs[M + j], ?_, fun t2 H2 sm2 ht2 => ?_⟩
        · have : (zs.map V.str)[M + j]? = some (.str zs[M + j]) := by rw [List.getElem?_map, List.getElem?_eq_getElem hjz]; rfl
          have := atI_nat this
          rw [show ((M + j : Nat) : Int) = (M : Int) + (j : Int) by omega] at this
          exact this
        have hP2 : H2 PL = some (.lst xs) := sm2 _ _ (kd.get hP0 nPp)
        have kU : Kp (fun a => a = PL) H2 (upd H2 PL (.lst (xs ++ [.ref t2]))) := Kp.at rfl hP2
        have hd2 : DvL (fun _ => True) H2 xs (qs.map pairD) := hd0.kp ((kd.weak fun _ _ => trivial).trans (Kp.same sm2))
        refine ⟨hP2, _, _, qs ++ [(zs[i], zs[M + j])], xs ++ [.ref t2], rfl, upd_same, ?_, by rw [List.length_append, hql]; rfl, ?_, ?_, ?_, ?_⟩
        · rw [List.map_append]
          exact (hd2.kp (kU.weak fun _ _ => trivial)).snoc (Dv.tupM (kU.tup ht2) (.cons (.str _) (.cons (.str _) .nil)))
        · rw [List.map_append, hqa, List.take_succ, List.getElem?_take_of_lt hi, List.getElem?_eq_getElem hiz]
          rfl
        · intro q hq
          rcases List.mem_append.mp hq with h | h
          · exact hqb q h
          · rw [List.mem_singleton.mp h]
            refine List.mem_iff_getElem?.mpr ⟨j, ?_⟩
            rw [List.getElem?_take_of_lt (by omega), List.getElem?_drop, List.getElem?_eq_getElem hjz]
        · obtain ⟨a1, b1, c1, g1, r1⟩ := hpd.same sm2
          exact ⟨a1, b1, c1, by rw [upd_ne nPp.symm]; exact g1, r1⟩
        · exact kT0.trans ((kd.weak fun _ => .inl).trans ((Kp.same sm2).trans (kU.weak fun _ => .inr)))
      have hsz : xs.length < sizeLine := by
        have := hd0.len
        rw [List.length_map] at this
        rw [sizeLine_eq]
        omega
      have hD9 : H9 D = some (.lst (zs.map V.str)) := kT0.get (sm8 _ _ hD7) (nI _ nDp nDP)
      refine ⟨T0, _, rfl, .inl (.inl hT1), rfl, _, _, rfl, _, _, rfl, rfl, ?_⟩
      refine ⟨_, rfl, .inl ⟨rfl, _, SqL.of hP0⟩, _, rfl, _, rfl, _, rfl, _, rfl, _, rfl, _, _, rfl, rfl, _, rfl, ite2 (fun hlt => ?_) (fun hge => ?_)⟩
      · have hlt' : ((i : Nat) : Int) < (N : Int) := of_decide_eq_true hlt
        obtain ⟨y, hy, hfin⟩ := fin i H9 (by omega) hlt' Kp.refl (hp0.mono (by omega))
        refine ⟨_, rfl, _, _, rfl, rfl, D, _, _, _, rfl, rfl, SqL.of hD9, hy, by show 2 ≤ sizeLine; decide, fun t2 H2 sm2 ht2 => ?_⟩
        obtain ⟨g1, g2⟩ := hfin t2 H2 sm2 ht2
        exact ⟨PL, _, _, rfl, rfl, g1, hsz, g2⟩
      · refine ⟨_, rfl, _, rfl, p, _, _, rfl, hp0, by omega, by omega, by omega, fun j Hd hj0 hj1 hpd hkd => ?_⟩
        obtain ⟨y, hy, hfin⟩ := fin j Hd hj0 hj1 hkd (hpd.mono (by omega))
        refine ⟨_, _, rfl, rfl, D, _, _, _, rfl, rfl, SqL.of (hkd.get hD9 nDp), hy, by show 2 ≤ sizeLine; decide, fun t2 H2 sm2 ht2 => ?_⟩
        obtain ⟨g1, g2⟩ := hfin t2 H2 sm2 ht2
        exact ⟨PL, _, _, rfl, rfl, g1, hsz, g2⟩
    · rintro σ Hx ⟨v9, v10, qs, xs, rfl, hPx, hdx, hql, hqa, hqb, hpx, kx⟩
      rw [eM] at hql hqa hpx
      rw [List.take_take, Nat.min_self] at hqa
      have hRx : Hx RS = some (.lst ((zs.drop (M + N)).map V.str)) := kx.get (sm8 _ _ hR7) (fun z => z.elim nRp nRP)
      have hSx : Hx SZ = some (.lst [.int u1, .int u2]) := kx.get ((sm7.trans sm8) _ _ hS5) (fun z => z.elim nSp (ne_of_none hS5 hPL))
      have all : ∀ {H1 H2 : Hp} {ds : List PyData} {vs : List V}, Same H1 H2 → DvL (fun _ => True) H1 vs ds → DvL (fun _ => True) H2 vs ds := fun sm d => d.kp (Kp.same sm)
      refine ⟨_, rfl, PL, _, rfl, SqL.of hPx, fun t1 Ha sa ta => ?_⟩
      refine ⟨_, rfl, _, rfl, SZ, _, _, _, rfl, rfl, SqL.of (sa _ _ hSx), rfl, _, rfl, RS, _, rfl, SqL.of (sa _ _ hRx), fun P1 hP1 => ⟨P1, _, rfl, SqL.of upd_same, fun t2 Hb sb tb => ?_⟩⟩
      have sab : Same Ha Hb := (Same.upd hP1).trans sb
      refine ⟨_, rfl, _, rfl, SZ, _, _, _, rfl, rfl, SqL.of ((sa.trans sab) _ _ hSx), rfl, _, rfl, RS, _, rfl, SqL.of ((sa.trans sab) _ _ hRx), fun P2 hP2 => ⟨P2, _, rfl, SqL.of upd_same, fun t3 Hc sc tc => ⟨by show 3 ≤ sizeLine; decide, fun R hR => ?_⟩⟩⟩
      have sbc : Same Hb Hc := (Same.upd hP2).trans sc
      have sR : Same Hc (upd Hc R (.lst [.ref t1, .ref t2, .ref t3])) := Same.upd hR
      rw [cut_take _ _ (by omega : (0 : Int) ≤ (u1 : Int)), Int.toNat_natCast, ← List.map_take] at tb
      rw [cut_drop _ _ (by omega : (0 : Int) ≤ (u1 : Int)), Int.toNat_natCast, ← List.map_drop] at tc
      have kHx : KpP p H Hx := fun b o hb hn => kx b o (k8 b o hb hn) fun z => z.elim hn fun e => by
        have := k5 b o hb hn
        rw [e, hPL] at this
        cases this
      have kHc : KpP p H Hc := kHx.trans (Kp.same (sa.trans (sab.trans sbc)))
      have free : H R = none := by
        cases q : H R with
        | none => rfl
        | some o =>
          exfalso
          by_cases e : R = p
          · obtain ⟨a2, b2, c2, g2, _⟩ := hpx.same (sa.trans (sab.trans sbc))
            rw [e, g2] at hR
            cases hR
          · have := kHc R o q fun z => absurd z e
            rw [hR] at this
            cases this
      refine k R _ _ _ qs ((zs.drop (M + N)).take u1) ((zs.drop (M + N)).drop u1) _ free upd_same (good_of hnd hok hzl' (by omega) (by omega) (by omega) hqa hqb) ?_ ?_ ?_ ?_ ?_
      · intro ex
        exact (Dv.tupM ((Kp.same (ex := fun _ => True) ((sab.trans sbc).trans sR)).tup ta) (all (sa.trans ((sab.trans sbc).trans sR)) hdx)).mono Kp.refl fun _ _ => trivial
      · intro ex
        exact (Dv.tupM ((Kp.same (ex := fun _ => True) (sbc.trans sR)).tup tb) (DvL.strs _)).mono Kp.refl fun _ _ => trivial
      · intro ex
        exact (Dv.tupM ((Kp.same (ex := fun _ => True) sR).tup tc) (DvL.strs _)).mono Kp.refl fun _ _ => trivial
      · exact ((hpx.same (sa.trans ((sab.trans sbc).trans sR)))).mono (by omega)
      · exact kHc.trans (Kp.same sR)
end
end Kx
namespace Kx
open PySem PySem.Spec PyProof.Rows L2
/-! ### what the judges say of data -/
def nameD : PyData → Bool
  | .str s => decide (NameS s)
  | _ => false
def pairOkD : PyData → Bool
  | .tuple [a, b] => nameD a && nameD b
  | _ => false
def namesD (m : Nat) : PyData → Bool
  | .tuple xs => decide (xs.length ≤ m) && xs.all nameD
  | _ => false
def arrsD : PyData → Bool
  | .tuple xs => decide (xs.length ≤ 12) && xs.all pairOkD
  | _ => false
def isStrD : PyData → Bool
  | .str _ => true
  | _ => false
def isTupD : PyData → Bool
  | .tuple _ => true
  | _ => false
def tyD : PyData → String
  | .none => "NoneType"
  | .bool _ => "bool"
  | .int _ => "int"
  | .str _ => "str"
  | .list _ => "list"
  | .tuple _ => "tuple"
  | .dict _ => "dict"
theorem Dv.ty {K : PySem.W.Frag} {ex : Addr → Prop} {H : Hp} {v : V} {d : PyData} (h : Dv ex H v d) : TyX K H v (.type (tyD d)) := by
  cases h with
  | non => exact .base .non
  | bl b => exact .base (.bl b)
  | int i => exact .base (.int i)
  | str x => exact .base (.str x)
  | lst _ e _ => exact .base (.lst e)
  | tup _ e _ => exact .fTuple e
  | dic _ e _ => exact .base (.dK e)
theorem kitS {K : PySem.W.Frag} (d : PyData) : PySem.W.kitOne K (.type (tyD d)) (.type "str") = some (isStrD d) := by
  cases d with
  | none => exact kit_ty (show kitB "NoneType" "str" = some false by decide +kernel)
  | bool _ => exact kit_ty (show kitB "bool" "str" = some false by decide +kernel)
  | int _ => exact kit_ty (show kitB "int" "str" = some false by decide +kernel)
  | str _ => exact kit_ty (show kitB "str" "str" = some true by decide +kernel)
  | list _ => exact kit_ty (show kitB "list" "str" = some false by decide +kernel)
  | tuple _ => exact kit_ty (show kitB "tuple" "str" = some false by decide +kernel)
  | dict _ => exact kit_ty (show kitB "dict" "str" = some false by decide +kernel)
theorem kitT {K : PySem.W.Frag} (d : PyData) : PySem.W.kitOne K (.type (tyD d)) (.type "tuple") = some (isTupD d) := by
  cases d with
  | none => exact kit_ty (show kitB "NoneType" "tuple" = some false by decide +kernel)
  | bool _ => exact kit_ty (show kitB "bool" "tuple" = some false by decide +kernel)
  | int _ => exact kit_ty (show kitB "int" "tuple" = some false by decide +kernel)
  | str _ => exact kit_ty (show kitB "str" "tuple" = some false by decide +kernel)
  | list _ => exact kit_ty (show kitB "list" "tuple" = some false by decide +kernel)
  | tuple _ => exact kit_ty (show kitB "tuple" "tuple" = some true by decide +kernel)
  | dict _ => exact kit_ty (show kitB "dict" "tuple" = some false by decide +kernel)
theorem cost_mem : ∀ {xs : List PyData} {x : PyData}, x ∈ xs → cost x + 2 ≤ costL xs
  | y :: r, x, h => by
    rcases List.mem_cons.mp h with rfl | h
    · simp only [costL]; omega
    · have := cost_mem h
      simp only [costL]; omega
theorem costL_len : ∀ xs : List PyData, 2 * xs.length ≤ costL xs
  | [] => by simp [costL]
  | x :: r => by
    have := costL_len r
    simp only [costL, List.length_cons]; omega
theorem abc_all : ("abcdefghijklmnopqrstuvwxyz" : Str).cps.toList = (List.range 26).map (· + 97) := by decide +kernel
theorem mem_abc (c : Nat) : c ∈ ("abcdefghijklmnopqrstuvwxyz" : Str).cps.toList ↔ 97 ≤ c ∧ c ≤ 122 := by
  rw [abc_all, List.mem_map]
  constructor
  · rintro ⟨i, hi, rfl⟩
    have := List.mem_range.mp hi
    omega
  · intro h
    exact ⟨c - 97, List.mem_range.mpr (by omega), by omega⟩
theorem range_arr {α β : Type} (xs : Array α) (f : α → β) : (List.range xs.size).filterMap (fun i => xs[i]?.map f) = xs.toList.map f := by
  have := range_bind (fun a => some (f a)) xs.toList
  rw [List.filterMap_eq_map', Array.length_toList] at this
  rw [← this]
  refine congrArg (fun g => List.filterMap g _) (funext fun i => ?_)
  rw [Array.getElem?_toList]
  cases xs[i]? <;> rfl
theorem range_list {α β : Type} (xs : List α) (f : α → β) : (List.range xs.length).filterMap (fun i => xs[i]?.map f) = xs.map f := by
  have := range_arr xs.toArray f
  simpa using this
section
variable {P : Program} {w : World} {K : PySem.W.Frag} {mg : Str → Option Value} {base : Heap}
structure Co (mg : Str → Option Value) : Prop where
  LONGEST_NAME : ∃ t, mg "LONGEST_NAME" = some (.int 8 t)
  MAX_ARRAYS : ∃ t, mg "MAX_ARRAYS" = some (.int 12 t)
  MAX_POSITIONS : ∃ t, mg "MAX_POSITIONS" = some (.int 6 t)
  MAX_VALUES : ∃ t, mg "MAX_VALUES" = some (.int 6 t)
/-- the promise of a judge of one datum -/
def spJudge (f : PyData → Bool) : Sp := fun vs H Q _ => ∃ (ex : Addr → Prop) (v : V) (d : PyData), vs = [v] ∧ Dv ex H v d ∧ cost d ≤ 8000000 ∧ ∀ H', Same H H' → Q (.bl (f d)) H'
theorem nameS_iff (s : Str) : NameS s ↔ (1 ≤ s.length ∧ s.length ≤ 8) ∧ (s.cps.toList.map fun c => decide (c ∈ ("abcdefghijklmnopqrstuvwxyz" : Str).cps.toList)).all id = true := by
  unfold NameS
  rw [List.all_map, List.all_eq_true]
  constructor
  · rintro ⟨h1, h2, h3⟩
    exact ⟨⟨h1, h2⟩, fun c hc => decide_eq_true ((mem_abc c).mpr (h3 c hc))⟩
  · rintro ⟨⟨h1, h2⟩, h3⟩
    exact ⟨h1, h2, fun c hc => (mem_abc c).mp (of_decide_eq_true (h3 c hc))⟩
theorem nameD_all (z : Str) (hh : 1 ≤ z.length ∧ z.length ≤ 8) : nameD (.str z) = (z.cps.toList.map fun c => decide (c ∈ ("abcdefghijklmnopqrstuvwxyz" : Str).cps.toList)).all id := by
  show decide (NameS z) = _
  cases hB : (z.cps.toList.map fun c => decide (c ∈ ("abcdefghijklmnopqrstuvwxyz" : Str).cps.toList)).all id with
  | true => exact decide_eq_true ((nameS_iff z).mpr ⟨hh, hB⟩)
  | false =>
    refine decide_eq_false fun q => ?_
    have := ((nameS_iff z).mp q).2
    rw [hB] at this
    cases this
theorem ascii_tab : ∀ c : Nat, c < 128 → (Unicode.isAlpha c = (decide (97 ≤ c ∧ c ≤ 122) || decide (65 ≤ c ∧ c ≤ 90))) ∧ (Unicode.isLower c = decide (97 ≤ c ∧ c ≤ 122)) ∧ (Unicode.isUpper c = decide (65 ≤ c ∧ c ≤ 90)) ∧ Unicode.isTitle c = false := by
  decide +kernel
theorem low_iff (z : Str) (hh : 1 ≤ z.length) : (Txt.isascii z && (Txt.isalpha z && Txt.islower z)) = true ↔ ∀ c ∈ z.cps.toList, 97 ≤ c ∧ c ≤ 122 := by
  have hz : z.cps.toList.length = z.length := by rw [Array.length_toList]; rfl
  unfold Txt.isascii Txt.isalpha Txt.islower
  rw [← Array.all_toList, ← Array.all_toList, ← Array.any_toList, ← Array.any_toList]
  simp only [Bool.and_eq_true, Bool.not_eq_true', List.all_eq_true, List.any_eq_true, List.any_eq_false, decide_eq_true_eq]
  constructor
  · rintro ⟨h1, ⟨_, h2⟩, h3, h4⟩ c hc
    have t := ascii_tab c (h1 c hc)
    have a := h2 c hc
    have b := h4 c hc
    rw [t.2.2.1, t.2.2.2, Bool.or_false] at b
    rw [t.1] at a
    simp only [Bool.or_eq_true, decide_eq_true_eq] at a b
    omega
  · intro h
    refine ⟨fun c hc => by have := h c hc; omega, ⟨hh, fun c hc => ?_⟩, ?_, fun c hc => ?_⟩
    · have := h c hc
      rw [(ascii_tab c (by omega)).1, decide_eq_true this]; rfl
    · obtain ⟨c, hc⟩ : ∃ c, c ∈ z.cps.toList := by
        cases e : z.cps.toList with
        | nil => rw [e] at hz; simp at hz; omega
        | cons c r => exact ⟨c, List.mem_cons_self⟩
      have := h c hc
      exact ⟨c, hc, by rw [(ascii_tab c (by omega)).2.1, decide_eq_true this]⟩
    · have := h c hc
      have t := ascii_tab c (by omega)
      rw [t.2.2.1, t.2.2.2, decide_eq_false (by omega)]; decide
theorem nameD_low (z : Str) (hh : 1 ≤ z.length ∧ z.length ≤ 8) : nameD (.str z) = (Txt.isascii z && (Txt.isalpha z && Txt.islower z)) := by
  show decide (NameS z) = _
  rw [Bool.eq_iff_iff, low_iff z hh.1, decide_eq_true_iff]
  exact ⟨fun h => h.2.2, fun h => ⟨hh.1, hh.2, h⟩⟩
theorem pairOkD_eq (ds : List PyData) : pairOkD (.tuple ds) = (decide (ds.length = 2) && ds.all nameD) := by
  match ds with
  | [] => rfl
  | [a] => rfl
  | [a, b] => simp [pairOkD]
  | a :: b :: c :: r => simp [pairOkD]
abbrev N_is_name : List Str := ["value"]
abbrev P_is_name : List Str := ["value"]
theorem sc_is_name : FnScope N_is_name P_is_name (defScope s_is_name) := ⟨rfl, rfl, rfl, by decide +kernel, rfl, by decide +kernel, by decide +kernel⟩
theorem ok_is_name (T : Bt mg) (C : Co mg) (h : Has K mg "is_name" s_is_name) : Ca P w K mg base 1 "is_name" P_is_name (spJudge nameD) := by
  obtain ⟨_, gN⟩ := C.LONGEST_NAME
  refine cal_of h sc_is_name (fun _ _ _ _ _ _ us hl => match us, hl with | [_], _ => rfl) (fun vs H Q E h => ?_) (fun f cdv A outer s H vs Q E hr h => ?_)
  · obtain ⟨ex, v, d, rfl, _⟩ := h
    rfl
  · obtain ⟨ex, v, d, rfl, dv, hc, k⟩ := h
    refine ⟨_, (pss_cons (ps_if (PW.pt (pw_or (pt_not (pt_val (pe_callB call_isi (by rfl) T.isinstance (by decide +kernel) (pa_cons (pv 0) (pa_cons (pe_bltn (v := .ty "str") (by rfl) T.str (by decide +kernel) rfl) pa_nil))))) (pw_or1 (pt_not (pt_chain op_le op_le pe_int (pe_callB call_len (by rfl) T.len (by decide +kernel) (pa_cons (pv 0) pa_nil)) (pe_glob (v := .int 8) rfl gN ⟨_, rfl⟩)))))) (pss_one (ps_ret pe_bl)) pss_nil)
      (pss_one (ps_ret (pe_and (pe_m0 PySem.F.slot_str_isascii PySem.F.type_str_isascii mt_isascii (pv 0)) (pe_and (pe_m0 PySem.F.slot_str_isalpha PySem.F.type_str_isalpha mt_isalpha (pv 0)) (pe_one (pe_m0 PySem.F.slot_str_islower PySem.F.type_str_islower mt_islower (pv 0)))))))), ?_⟩
    refine ⟨_, rfl, _, _, _, _, _, rfl, .ty _, dv.ty, kitS d, _, rfl, ?_⟩
    have no : isStrD d = false → nameD d = false := fun e => by cases d <;> first | rfl | cases e
    cases e : isStrD d with
    | false =>
      refine iteT ?_
      have := k H Same.refl
      rw [no e] at this
      exact iteT this
    | true =>
      refine iteF ?_
      obtain ⟨z, rfl⟩ : ∃ z, d = .str z := by cases d <;> first | exact ⟨_, rfl⟩ | cases e
      cases dv.strI
      have hz : z.length ≤ sizeLine := by
        simp only [cost] at hc
        rw [sizeLine_eq]; omega
      have bad : ¬ (1 ≤ z.length ∧ z.length ≤ 8) → nameD (.str z) = false := fun n => decide_eq_false fun q => n ⟨q.1, q.2.1⟩
      refine ⟨_, rfl, _, _, rfl, ⟨hz, rfl⟩, _, _, rfl, rfl, _, rfl, ?_⟩
      by_cases h1 : (1 : Int) ≤ (z.length : Int)
      · rw [decide_eq_true h1]
        refine iteT ⟨_, _, rfl, rfl, _, rfl, ?_⟩
        by_cases h2 : (z.length : Int) ≤ 8
        · rw [decide_eq_true h2]
          refine iteF ?_
          have := k H Same.refl
          rw [nameD_low z (by omega)] at this
          refine ⟨_, rfl, ⟨_, rfl⟩, _, rfl, rfl, trivial, _, rfl, ?_⟩
          cases e1 : Txt.isascii z with
          | false => rw [e1] at this; exact iteF this
          | true =>
            rw [e1, Bool.true_and] at this
            refine iteT ⟨_, rfl, ⟨_, rfl⟩, _, rfl, rfl, trivial, _, rfl, ?_⟩
            cases e2 : Txt.isalpha z with
            | false => rw [e2] at this; exact iteF this
            | true =>
              rw [e2, Bool.true_and] at this
              exact iteT ⟨_, rfl, ⟨_, rfl⟩, _, rfl, rfl, trivial, this⟩
        · rw [decide_eq_false h2]
          have := k H Same.refl
          rw [bad (by omega)] at this
          exact iteT this
      · rw [decide_eq_false h1]
        have := k H Same.refl
        rw [bad (by omega)] at this
        exact iteF ⟨_, rfl, iteT this⟩
theorem namesD_tup (m : Nat) (ds : List PyData) : namesD m (.tuple ds) = (decide (ds.length ≤ m) && ds.all nameD) := rfl
/-- all([f(part) for part in t]) -/
abbrev N_are_names : List Str := ["value", "most", "part"]
abbrev P_are_names : List Str := ["value", "most"]
theorem sc_are_names : FnScope N_are_names P_are_names (defScope s_are_names) := ⟨rfl, rfl, rfl, by decide +kernel, rfl, by decide +kernel, by decide +kernel⟩
def spAreNames : Sp := fun vs H Q _ => ∃ (ex : Addr → Prop) (v : V) (d : PyData) (m : Nat), vs = [v, .int m] ∧ Dv ex H v d ∧ cost d ≤ 8000000 ∧ ∀ H', Same H H' → Q (.bl (namesD m d)) H'
theorem ok_are_names (T : Bt mg) (h : Has K mg "_are_names" s_are_names) (C1 : Ca P w K mg base 1 "is_name" P_is_name (spJudge nameD)) : Ca P w K mg base 2 "_are_names" P_are_names spAreNames := by
  obtain ⟨_, _, c_is_name⟩ := C1
  refine cal_of h sc_are_names (fun _ _ _ _ _ _ us hl => match us, hl with | [_, _], _ => rfl) (fun vs H Q E h => ?_) (fun f cdv A outer s H vs Q E hr h => ?_)
  · obtain ⟨ex, v, d, m, rfl, _⟩ := h
    rfl
  · obtain ⟨ex, v, d, m, rfl, dv, hc, k⟩ := h
    refine ⟨_, (pss_one (ps_ret (pe_and (pe_callB call_isi (by rfl) T.isinstance (by decide +kernel) (pa_cons (pv 0) (pa_cons (pe_bltn (v := .ty "tuple") (by rfl) T.tuple (by decide +kernel) rfl) pa_nil))) (pe_and (pe_cmpR op_le (pe_callB call_len (by rfl) T.len (by decide +kernel) (pa_cons (pv 0) pa_nil)) (pv 1) (nomark _)) (pe_one (pe_callB (cr_all rfl) (by rfl) T.all (by decide +kernel) (pa_cons (pe_lc (own := [("part", 2)]) (g := (gName 2)) (tt := tYes) (by rfl) sc_are_names.nd (pi_tup (pv 0)) (blkOk_by (own := [("part", 2)]) (N := ["value", "most", "part"]) (sc := defScope s_are_names) (by decide +kernel)) (fun _ _ _ _ _ => pg_name (i := 2) sc_are_names.nd rfl (Or.inl rfl)) (fun _ _ _ _ _ => pts_nil) (fun _ _ _ _ _ => (pe_call c_is_name.1 (hr.mono (by decide)) rfl c_is_name.2.1 c_is_name.2.2.1 c_is_name.2.2.2 .nil pass0 (pa_cons (pv 2) pa_nil)))) pa_nil))))))), ?_⟩
    refine ⟨_, rfl, _, _, _, _, _, rfl, .ty _, dv.ty, kitT d, _, rfl, ?_⟩
    cases e : isTupD d with
    | false =>
      have no : namesD m d = false := by cases d <;> first | rfl | cases e
      have := k H Same.refl
      rw [no] at this
      exact iteF this
    | true =>
      obtain ⟨ds, rfl⟩ : ∃ ds, d = .tuple ds := by cases d <;> first | exact ⟨_, rfl⟩ | cases e
      obtain ⟨a, xs, rfl, ht, dl⟩ := dv.tupI
      have hl := dl.len
      simp only [cost] at hc
      have hl2 := costL_len ds
      refine iteT ⟨_, rfl, _, _, rfl, .inr ⟨_, ht.sq, rfl⟩, _, rfl, _, _, rfl, rfl, _, rfl, ?_⟩
      by_cases hm : (xs.length : Int) ≤ (m : Int)
      · rw [decide_eq_true hm]
        refine iteT ⟨_, rfl, a, rfl, ⟨_, ht.sq⟩, fun D hD => lc_o (walk_tup (K := K) (a := a) (xs := xs)) (fun i => ds[i]?.map fun e => V.bl (nameD e)) (by rw [sizeLine_eq]; omega) hD (fun Hx sm => ((Kp.same (ex := ex) sm).tup ht).sq) ?_ ?_⟩
        · rintro i x Hx H' Nx hi sm hDx ⟨rfl, hx⟩ hno hyes
          obtain ⟨e, he, dve⟩ := dl.get hx
          refine ⟨rfl, yes ⟨_, rfl, ex, x, e, rfl, dve.kp (Kp.same sm), ?_, fun H2 sm2 => ?_⟩⟩
          · have := cost_mem (List.mem_of_getElem? he)
            omega
          · exact hyes _ (by rw [he]; rfl) _ sm2
        · intro Hx sm hDx
          rw [hl, range_list, show (ds.map fun e => V.bl (nameD e)) = (ds.map nameD).map V.bl by rw [List.map_map]; rfl] at hDx
          refine ⟨D, _, rfl, SqL.of hDx, ?_⟩
          have := k Hx sm
          rw [namesD_tup, decide_eq_true (by omega : ds.length ≤ m), Bool.true_and] at this
          rw [List.all_map]
          exact this
      · rw [decide_eq_false hm]
        have := k H Same.refl
        rw [namesD_tup, decide_eq_false (by omega : ¬ ds.length ≤ m), Bool.false_and] at this
        exact iteF this
abbrev N_is_array : List Str := ["value"]
abbrev P_is_array : List Str := ["value"]
theorem sc_is_array : FnScope N_is_array P_is_array (defScope s_is_array) := ⟨rfl, rfl, rfl, by decide +kernel, rfl, by decide +kernel, by decide +kernel⟩
theorem ok_is_array (T : Bt mg) (h : Has K mg "_is_array" s_is_array) (C1 : Ca P w K mg base 2 "_are_names" P_are_names spAreNames) : Ca P w K mg base 3 "_is_array" P_is_array (spJudge pairOkD) := by
  obtain ⟨_, _, c__are_names⟩ := C1
  refine cal_of h sc_is_array (fun _ _ _ _ _ _ us hl => match us, hl with | [_], _ => rfl) (fun vs H Q E h => ?_) (fun f cdv A outer s H vs Q E hr h => ?_)
  · obtain ⟨ex, v, d, rfl, _⟩ := h
    rfl
  · obtain ⟨ex, v, d, rfl, dv, hc, k⟩ := h
    refine ⟨_, (pss_one (ps_ret (pe_and (pe_callB call_isi (by rfl) T.isinstance (by decide +kernel) (pa_cons (pv 0) (pa_cons (pe_bltn (v := .ty "tuple") (by rfl) T.tuple (by decide +kernel) rfl) pa_nil))) (pe_and (pe_cmpR op_eq (pe_callB call_len (by rfl) T.len (by decide +kernel) (pa_cons (pv 0) pa_nil)) pe_int (nomark _)) (pe_one (pe_call c__are_names.1 (hr.mono (by decide)) rfl c__are_names.2.1 c__are_names.2.2.1 c__are_names.2.2.2 .nil pass0 (pa_cons (pv 0) (pa_cons pe_int pa_nil)))))))), ?_⟩
    refine ⟨_, rfl, _, _, _, _, _, rfl, .ty _, dv.ty, kitT d, _, rfl, ?_⟩
    cases e : isTupD d with
    | false =>
      have no : pairOkD d = false := by cases d <;> first | rfl | cases e
      have := k H Same.refl
      rw [no] at this
      exact iteF this
    | true =>
      obtain ⟨ds, rfl⟩ : ∃ ds, d = .tuple ds := by cases d <;> first | exact ⟨_, rfl⟩ | cases e
      obtain ⟨a, xs, rfl, ht, dl⟩ := dv.tupI
      have hl := dl.len
      have at_ : ∀ H', Same H H' → Q (.bl (decide (ds.length = 2) && ds.all nameD)) H' := fun H' sm => by
        have := k H' sm
        rw [pairOkD_eq] at this
        exact this
      refine iteT ⟨_, rfl, _, _, rfl, .inr ⟨_, ht.sq, rfl⟩, rfl, _, rfl, ?_⟩
      by_cases h2 : xs.length = 2
      · rw [decide_eq_true (show V.int (xs.length : Int) = V.int 2 by rw [h2]; rfl)]
        refine iteT ⟨_, rfl, ex, _, _, 2, rfl, dv, hc, fun H2 sm => ?_⟩
        have := at_ H2 sm
        rw [decide_eq_true (by omega : ds.length = 2)] at this
        rw [namesD_tup, decide_eq_true (by omega : ds.length ≤ 2)]
        exact this
      · rw [decide_eq_false (fun q : V.int (xs.length : Int) = V.int 2 => h2 (by injection q with q; omega))]
        have := at_ H Same.refl
        rw [decide_eq_false (by omega : ¬ ds.length = 2)] at this
        exact iteF this
abbrev N_are_arrays : List Str := ["value", "part"]
abbrev P_are_arrays : List Str := ["value"]
theorem sc_are_arrays : FnScope N_are_arrays P_are_arrays (defScope s_are_arrays) := ⟨rfl, rfl, rfl, by decide +kernel, rfl, by decide +kernel, by decide +kernel⟩
theorem ok_are_arrays (T : Bt mg) (C : Co mg) (h : Has K mg "_are_arrays" s_are_arrays) (C1 : Ca P w K mg base 3 "_is_array" P_is_array (spJudge pairOkD)) : Ca P w K mg base 4 "_are_arrays" P_are_arrays (spJudge arrsD) := by
  obtain ⟨_, gM⟩ := C.MAX_ARRAYS
  obtain ⟨_, _, c__is_array⟩ := C1
  refine cal_of h sc_are_arrays (fun _ _ _ _ _ _ us hl => match us, hl with | [_], _ => rfl) (fun vs H Q E h => ?_) (fun f cdv A outer s H vs Q E hr h => ?_)
  · obtain ⟨ex, v, d, rfl, _⟩ := h
    rfl
  · obtain ⟨ex, v, d, rfl, dv, hc, k⟩ := h
    refine ⟨_, (pss_one (ps_ret (pe_and (pe_callB call_isi (by rfl) T.isinstance (by decide +kernel) (pa_cons (pv 0) (pa_cons (pe_bltn (v := .ty "tuple") (by rfl) T.tuple (by decide +kernel) rfl) pa_nil))) (pe_and (pe_cmpR op_le (pe_callB call_len (by rfl) T.len (by decide +kernel) (pa_cons (pv 0) pa_nil)) (pe_glob (v := .int 12) rfl gM ⟨_, rfl⟩) (nomark _)) (pe_one (pe_callB (cr_all rfl) (by rfl) T.all (by decide +kernel) (pa_cons (pe_lc (own := [("part", 1)]) (g := (gName 1)) (tt := tYes) (by rfl) sc_are_arrays.nd (pi_tup (pv 0)) (blkOk_by (own := [("part", 1)]) (N := ["value", "part"]) (sc := defScope s_are_arrays) (by decide +kernel)) (fun _ _ _ _ _ => pg_name (i := 1) sc_are_arrays.nd rfl (Or.inl rfl)) (fun _ _ _ _ _ => pts_nil) (fun _ _ _ _ _ => (pe_call c__is_array.1 (hr.mono (by decide)) rfl c__is_array.2.1 c__is_array.2.2.1 c__is_array.2.2.2 .nil pass0 (pa_cons (pv 1) pa_nil)))) pa_nil))))))), ?_⟩
    refine ⟨_, rfl, _, _, _, _, _, rfl, .ty _, dv.ty, kitT d, _, rfl, ?_⟩
    cases e : isTupD d with
    | false =>
      have no : arrsD d = false := by cases d <;> first | rfl | cases e
      have := k H Same.refl
      rw [no] at this
      exact iteF this
    | true =>
      obtain ⟨ds, rfl⟩ : ∃ ds, d = .tuple ds := by cases d <;> first | exact ⟨_, rfl⟩ | cases e
      obtain ⟨a, xs, rfl, ht, dl⟩ := dv.tupI
      have hl := dl.len
      simp only [cost] at hc
      have hl2 := costL_len ds
      have eq : arrsD (.tuple ds) = (decide (ds.length ≤ 12) && ds.all pairOkD) := rfl
      refine iteT ⟨_, rfl, _, _, rfl, .inr ⟨_, ht.sq, rfl⟩, _, _, rfl, rfl, _, rfl, ?_⟩
      by_cases hm : (xs.length : Int) ≤ 12
      · rw [decide_eq_true hm]
        refine iteT ⟨_, rfl, a, rfl, ⟨_, ht.sq⟩, fun D hD => lc_o (walk_tup (K := K) (a := a) (xs := xs)) (fun i => ds[i]?.map fun e => V.bl (pairOkD e)) (by rw [sizeLine_eq]; omega) hD (fun Hx sm => ((Kp.same (ex := ex) sm).tup ht).sq) ?_ ?_⟩
        · rintro i x Hx H' Nx hi sm hDx ⟨rfl, hx⟩ hno hyes
          obtain ⟨e, he, dve⟩ := dl.get hx
          refine ⟨rfl, yes ⟨_, rfl, ex, x, e, rfl, dve.kp (Kp.same sm), ?_, fun H2 sm2 => ?_⟩⟩
          · have := cost_mem (List.mem_of_getElem? he)
            omega
          · exact hyes _ (by rw [he]; rfl) _ sm2
        · intro Hx sm hDx
          rw [hl, range_list, show (ds.map fun e => V.bl (pairOkD e)) = (ds.map pairOkD).map V.bl by rw [List.map_map]; rfl] at hDx
          refine ⟨D, _, rfl, SqL.of hDx, ?_⟩
          have := k Hx sm
          rw [eq, decide_eq_true (by omega : ds.length ≤ 12), Bool.true_and] at this
          rw [List.all_map]
          exact this
      · rw [decide_eq_false hm]
        have := k H Same.refl
        rw [eq, decide_eq_false (by omega : ¬ ds.length ≤ 12), Bool.false_and] at this
        exact iteF this
end
end Kx
namespace Kx
open PySem PySem.Spec PyProof.Rows L2
/-! ### dicts by texts -/
def dictV (l : List (Str × V)) : List (Key × V) := mergeK [] (l.map fun q => (Sum.inr q.1, q.2))
theorem dictV_snoc (l : List (Str × V)) (q : Str × V) : dictV (l ++ [q]) = putK (dictV l) (.inr q.1) q.2 := by
  unfold dictV mergeK
  rw [List.map_append, List.foldl_append]
  rfl
theorem dictV_take (l : List (Str × V)) (i : Nat) (h : i < l.length) : dictV (l.take (i + 1)) = putK (dictV (l.take i)) (.inr l[i].1) l[i].2 := by
  rw [List.take_succ, List.getElem?_eq_getElem h]
  exact dictV_snoc _ _
theorem putK_in {kvs : List (Key × V)} {k : Key} (v : V) (h : k ∈ kvs.map (·.1)) : (putK kvs k v).map (·.1) = kvs.map (·.1) := by
  have h2 : (kvs.any fun kv => decide (kv.1 = k)) = true := by
    obtain ⟨q, hq, e⟩ := List.mem_map.mp h
    exact List.any_eq_true.mpr ⟨q, hq, decide_eq_true e⟩
  unfold putK
  rw [if_pos h2, List.map_map]
  refine List.map_congr_left fun q _ => ?_
  show (if q.1 = k then (q.1, v) else q).1 = q.1
  split <;> rfl
theorem putK_out {kvs : List (Key × V)} {k : Key} (v : V) (h : ¬ k ∈ kvs.map (·.1)) : (putK kvs k v).map (·.1) = kvs.map (·.1) ++ [k] := by
  have h2 : ¬ (kvs.any fun kv => decide (kv.1 = k)) = true := fun z => h (by
    obtain ⟨q, hq, e⟩ := List.any_eq_true.mp z
    exact List.mem_map.mpr ⟨q, hq, of_decide_eq_true e⟩)
  unfold putK
  rw [if_neg h2, List.map_append]
  rfl
theorem putK_len (kvs : List (Key × V)) (k : Key) (v : V) : (putK kvs k v).length ≤ kvs.length + 1 := by
  unfold putK
  split
  · rw [List.length_map]; omega
  · rw [List.length_append]; exact Nat.le_refl _
theorem uniq_snoc (l : List Str) (x : Str) : uniq (l ++ [x]) = uniqF (uniq l) x := by
  unfold uniq
  rw [List.foldl_append]
  rfl
theorem snoc_ind {α : Type} {p : List α → Prop} (h0 : p []) (hs : ∀ l a, p l → p (l ++ [a])) : ∀ l, p l := fun l => by
  have : ∀ r : List α, p r.reverse := fun r => by
    induction r with
    | nil => exact h0
    | cons a r ih => rw [List.reverse_cons]; exact hs _ _ ih
  have := this l.reverse
  rw [List.reverse_reverse] at this
  exact this
theorem dictV_keys (l : List (Str × V)) : (dictV l).map (·.1) = (uniq (l.map (·.1))).map Sum.inr := by
  refine snoc_ind (p := fun l => (dictV l).map (·.1) = (uniq (l.map (·.1))).map Sum.inr) rfl (fun l q ih => ?_) l
  rw [dictV_snoc, List.map_append]
  show _ = (uniq (l.map (·.1) ++ [q.1])).map Sum.inr
  rw [uniq_snoc, uniqF]
  by_cases h : q.1 ∈ uniq (l.map (·.1))
  · rw [if_pos h, putK_in _ (by rw [ih]; exact List.mem_map.mpr ⟨_, h, rfl⟩)]
    exact ih
  · rw [if_neg h, putK_out _ (fun z => h (by
      rw [ih] at z
      obtain ⟨a, ha, e⟩ := List.mem_map.mp z
      cases e
      exact ha)), List.map_append, ih]
    rfl
theorem dictV_len (l : List (Str × V)) : (dictV l).length = (uniq (l.map (·.1))).length := by
  have := congrArg List.length (dictV_keys l)
  rw [List.length_map, List.length_map] at this
  exact this
theorem dictV_le (l : List (Str × V)) : (dictV l).length ≤ l.length := by
  rw [dictV_len]
  have := uniq_len (l.map (·.1))
  rw [List.length_map] at this
  exact this
/-- where all entries of a name agree -/
theorem dictV_val (g : Str → V) (l : List (Str × V)) : (∀ q ∈ l, q.2 = g q.1) → ∀ z, valV (dictV l) (.inr z) = if z ∈ l.map (·.1) then some (g z) else none := by
  refine snoc_ind (p := fun l => (∀ q ∈ l, q.2 = g q.1) → ∀ z, valV (dictV l) (.inr z) = if z ∈ l.map (·.1) then some (g z) else none) (fun _ z => by simp [dictV, mergeK, valV]) (fun l q ih h z => ?_) l
  rw [dictV_snoc, valV_put, ih (fun q hq => h q (List.mem_append.mpr (.inl hq))) z]
  simp only [List.map_append, List.mem_append]
  by_cases e : z = q.1
  · subst e
    rw [if_pos rfl, if_pos (.inr (List.mem_singleton.mpr rfl)), h q (List.mem_append.mpr (.inr (List.mem_singleton.mpr rfl)))]
  · rw [if_neg (fun w => e (Sum.inr.inj w))]
    have : (z ∈ l.map (·.1) ∨ z ∈ [q].map (·.1)) ↔ z ∈ l.map (·.1) := ⟨fun w => w.elim id fun w => absurd (List.mem_singleton.mp w) e, .inl⟩
    simp only [this]
theorem uniq_full (l : List Str) : l.length ≤ (uniq l).length → l.Nodup := by
  refine snoc_ind (p := fun l => l.length ≤ (uniq l).length → l.Nodup) (fun _ => List.nodup_nil) (fun l x ih h => ?_) l
  rw [uniq_snoc, List.length_append] at h
  have h1 := uniqF_len (uniq l) x
  have h2 := uniq_len l
  have hx : ¬ x ∈ uniq l := fun hx => by
    rw [uniqF, if_pos hx] at h
    simp only [List.length_cons, List.length_nil] at h
    omega
  simp only [List.length_cons, List.length_nil] at h
  have hl := ih (by omega)
  exact List.nodup_append.mpr ⟨hl, List.nodup_cons.mpr ⟨List.not_mem_nil, List.nodup_nil⟩, fun a ha b hb e => hx ((uniq_mem l x).mpr (by rw [List.mem_singleton.mp hb] at e; exact e ▸ ha))⟩
/-! ### the names of a frame -/
abbrev allN (ps : List (Str × Str)) (ns vs : List Str) : List Str := ps.map (·.1) ++ (uniq (ps.map (·.2)) ++ (ns ++ vs))
def kl (ps : List (Str × Str)) (ns vs : List Str) : List (Str × V) :=
  ps.flatMap (fun q => [(q.1, V.str "array"), (q.2, V.str "length")]) ++ (ns.map (fun z => (z, V.str "position")) ++ vs.map fun z => (z, V.str "value"))
theorem kl_mem (ps : List (Str × Str)) (ns vs : List Str) (z : Str) : z ∈ (kl ps ns vs).map (·.1) ↔ z ∈ allN ps ns vs := by
  unfold kl allN
  simp only [List.map_append, List.mem_append, List.map_map, List.mem_map, List.mem_flatMap, uniq_mem, List.mem_cons, Function.comp]
  constructor
  · rintro (⟨a, ⟨q, hq, h | h | h⟩, rfl⟩ | ⟨a, ha, rfl⟩ | ⟨a, ha, rfl⟩)
    · subst h; exact .inl ⟨q, hq, rfl⟩
    · subst h; exact .inr (.inl ⟨q, hq, rfl⟩)
    · cases h
    · exact .inr (.inr (.inl ha))
    · exact .inr (.inr (.inr ha))
  · rintro (⟨q, hq, rfl⟩ | ⟨q, hq, rfl⟩ | h | h)
    · exact .inl ⟨_, ⟨q, hq, .inl rfl⟩, rfl⟩
    · exact .inl ⟨_, ⟨q, hq, .inr (.inl rfl)⟩, rfl⟩
    · exact .inr (.inl ⟨z, h, rfl⟩)
    · exact .inr (.inr ⟨z, h, rfl⟩)
theorem kinds_count (ps : List (Str × Str)) (ns vs : List Str) : (dictV (kl ps ns vs)).length ≤ (allN ps ns vs).length ∧ ((allN ps ns vs).length ≤ (dictV (kl ps ns vs)).length ↔ (allN ps ns vs).Nodup) := by
  rw [dictV_len]
  have e1 : (uniq ((kl ps ns vs).map (·.1))).length ≤ (uniq (allN ps ns vs)).length := nodup_le _ _ (uniq_nd _) fun x hx => (uniq_mem _ _).mpr ((kl_mem _ _ _ _).mp ((uniq_mem _ _).mp hx))
  have e2 : (uniq (allN ps ns vs)).length ≤ (uniq ((kl ps ns vs).map (·.1))).length := nodup_le _ _ (uniq_nd _) fun x hx => (uniq_mem _ _).mpr ((kl_mem _ _ _ _).mpr ((uniq_mem _ _).mp hx))
  have e3 := uniq_len (allN ps ns vs)
  refine ⟨by omega, fun h => uniq_full _ (by omega), fun h => ?_⟩
  have := nodup_le _ (uniq (allN ps ns vs)) h fun x hx => (uniq_mem _ _).mpr hx
  omega
section
variable {P : Program} {w : World} {K : PySem.W.Frag} {mg : Str → Option Value} {base : Heap}
abbrev N_kinds_of : List Str := ["arrays", "positions", "values", "kinds", "array", "length", "name"]
abbrev P_kinds_of : List Str := ["arrays", "positions", "values"]
theorem sc_kinds_of : FnScope N_kinds_of P_kinds_of (defScope s_kinds_of) := ⟨rfl, rfl, rfl, by decide +kernel, rfl, by decide +kernel, by decide +kernel⟩
def spKinds : Sp := fun vs H Q _ => ∃ (ex : Addr → Prop) (x y z : V) (ps : List (Str × Str)) (ns us : List Str), vs = [x, y, z] ∧ Dv ex H x (.tuple (ps.map pairD)) ∧ Dv ex H y (.tuple (ns.map .str)) ∧ Dv ex H z (.tuple (us.map .str)) ∧ ps.length ≤ 100 ∧ ns.length ≤ 100 ∧ us.length ≤ 100 ∧
  ∀ (D : Addr) (H' : Hp), H D = none → Same H H' → H' D = some (.dK (dictV (kl ps ns us))) → Q (.ref D) H'
theorem flatMap_take (ps : List (Str × Str)) (i : Nat) (h : i < ps.length) : ((ps.take (i + 1)).flatMap fun q => [(q.1, V.str "array"), (q.2, V.str "length")]) = (((ps.take i).flatMap fun q => [(q.1, V.str "array"), (q.2, V.str "length")]) ++ [(ps[i].1, V.str "array")]) ++ [(ps[i].2, V.str "length")] := by
  rw [List.take_succ, List.getElem?_eq_getElem h, List.flatMap_append, List.append_assoc]
  rfl
theorem flat_len (ps : List (Str × Str)) : (ps.flatMap fun q => [(q.1, V.str "array"), (q.2, V.str "length")]).length = 2 * ps.length := by
  induction ps with
  | nil => rfl
  | cons q r ih => rw [List.flatMap_cons, List.length_append, ih]; simp; omega
theorem ok_kinds (T : Bt mg) (h : Has K mg "_kinds_of" s_kinds_of) : Ca P w K mg base 1 "_kinds_of" P_kinds_of spKinds := by
  refine cal_of h sc_kinds_of (fun _ _ _ _ _ _ us hl => match us, hl with | [_, _, _], _ => rfl) (fun vs H Q E h => ?_) (fun f cdv A outer s H vs Q E hr h => ?_)
  · obtain ⟨ex, x, y, z, ps, ns, us, rfl, _⟩ := h
    rfl
  · obtain ⟨ex, x, y, z, ps, ns, us, rfl, dx, dy, dz, l1, l2, l3, k⟩ := h
    obtain ⟨a1, x1, rfl, t1, d1⟩ := dx.tupI
    obtain ⟨a2, x2, rfl, t2, d2⟩ := dy.tupI
    obtain ⟨a3, x3, rfl, t3, d3⟩ := dz.tupI
    have n1 := d1.len
    have n2 := d2.len
    have n3 := d3.len
    rw [List.length_map] at n1 n2 n3
    refine ⟨_, (pss_cons (ps_set (i := 3) sc_kinds_of.nd rfl (.inl rfl) pe_dnewK)
      (pss_cons (ps_for PassesOwn.never rfl (pi_tup (pv 0)) (pg_tup (by rfl) (pgs_cons (pg_name (i := 4) sc_kinds_of.nd rfl (.inl rfl)) (pgs_cons (pg_name (i := 5) sc_kinds_of.nd rfl (.inl rfl)) pgs_nil)))
        (pss_cons (ps_dput (hu_of hr) (pv 3) (pv 4) pe_str rfl)
        (pss_one (ps_dput (hu_of hr) (pv 3) (pv 5) pe_str rfl))))
      (pss_cons (ps_for PassesOwn.never rfl (pi_tup (pv 1)) (pg_name (i := 6) sc_kinds_of.nd rfl (.inl rfl))
        (pss_one (ps_dput (hu_of hr) (pv 3) (pv 6) pe_str rfl)))
      (pss_cons (ps_for PassesOwn.never rfl (pi_tup (pv 2)) (pg_name (i := 6) sc_kinds_of.nd rfl (.inl rfl))
        (pss_one (ps_dput (hu_of hr) (pv 3) (pv 6) pe_str rfl)))
      (pss_one (ps_ret (pv 3))))))), ?_⟩
    refine fun D hD => ?_
    have kt : ∀ {Hx : Hp} {a : Addr} {xs : List V}, Same H Hx → TupF H a xs → SqT K Hx a xs := fun sm t => ((Kp.same (ex := ex) sm).tup t).sq
    have up : ∀ {Hx : Hp} {o : HO}, Same H Hx → Same H (upd Hx D o) := fun {Hx o} sm b u e => by
      rw [upd_ne (ne_of_none e hD)]
      exact sm b u e
    have room : ∀ n : Nat, n ≤ 400 → n < sizeLine := fun n h => by rw [sizeLine_eq]; omega
    refine ⟨_, rfl, a1, rfl, ⟨_, kt (Same.upd hD) t1⟩, for_it (walk_tup (K := K) (a := a1) (xs := x1)) (fun i σ Hx => ∃ (v4 v5 : Option V), σ = [some (.ref a1), some (.ref a2), some (.ref a3), some (.ref D), v4, v5, none] ∧ Same H Hx ∧ Hx D = some (.dK (dictV ((ps.take i).flatMap fun q => [(q.1, V.str "array"), (q.2, V.str "length")]))))
      ⟨none, none, rfl, Same.upd hD, upd_same⟩ (fun i σ Hx _ ⟨_, _, _, sm, _⟩ => kt sm t1) ?_ ?_⟩
    · rintro i x σ Hx H' hi ⟨v4, v5, rfl, sm, hDx⟩ ⟨rfl, hx⟩
      obtain ⟨e, he, dve⟩ := d1.get hx
      have hi' : i < ps.length := by omega
      rw [List.getElem?_map, List.getElem?_eq_getElem hi'] at he
      cases he
      obtain ⟨b, rfl, hb⟩ := dve.pairI
      have z1 := dictV_le ((ps.take i).flatMap fun q => [(q.1, V.str "array"), (q.2, V.str "length")])
      rw [flat_len, List.length_take] at z1
      refine ⟨b, _, rfl, kt sm hb, rfl, _, _, rfl, _, _, rfl, rfl, ?_⟩
      refine ⟨_, rfl, _, rfl, D, _, rfl, DPut.k (k := Sum.inr _) hDx (room _ (by omega)), ?_⟩
      have z2 := putK_len (dictV ((ps.take i).flatMap fun q => [(q.1, V.str "array"), (q.2, V.str "length")])) (Sum.inr ps[i].1) (V.str "array")
      refine ⟨_, rfl, _, rfl, D, _, rfl, DPut.k (k := Sum.inr _) upd_same (room _ (by omega)), ?_⟩
      refine ⟨_, _, rfl, up (up sm), ?_⟩
      rw [upd_same, flatMap_take ps i hi', dictV_snoc, dictV_snoc]
    · rintro σ Hx ⟨v4, v5, rfl, sm, hDx⟩
      rw [n1, List.take_length] at hDx
      refine ⟨_, rfl, a2, rfl, ⟨_, kt sm t2⟩, for_it (walk_tup (K := K) (a := a2) (xs := x2)) (fun i σ Hx => ∃ (v6 : Option V), σ = [some (.ref a1), some (.ref a2), some (.ref a3), some (.ref D), v4, v5, v6] ∧ Same H Hx ∧
        Hx D = some (.dK (dictV ((ps.flatMap fun q => [(q.1, V.str "array"), (q.2, V.str "length")]) ++ (ns.map fun z => (z, V.str "position")).take i))))
        ⟨none, rfl, sm, by rw [hDx, List.take_zero, List.append_nil]⟩ (fun i σ Hx _ ⟨_, _, sm, _⟩ => kt sm t2) ?_ ?_⟩
      · rintro i x σ Hx H' hi ⟨v6, rfl, sm, hDx⟩ ⟨rfl, hx⟩
        obtain ⟨e, he, dve⟩ := d2.get hx
        have hi' : i < ns.length := by omega
        rw [List.getElem?_map, List.getElem?_eq_getElem hi'] at he
        cases he
        cases dve.strI
        have z1 := dictV_le ((ps.flatMap fun q => [(q.1, V.str "array"), (q.2, V.str "length")]) ++ (ns.map fun z => (z, V.str "position")).take i)
        rw [List.length_append, flat_len, List.length_take, List.length_map] at z1
        refine ⟨_, rfl, _, rfl, D, _, rfl, DPut.k (k := Sum.inr _) hDx (room _ (by omega)), _, rfl, up sm, ?_⟩
        rw [upd_same, List.take_succ, List.getElem?_map, List.getElem?_eq_getElem hi']
        show _ = some (HO.dK (dictV (_ ++ (_ ++ [(ns[i], V.str "position")]))))
        rw [← List.append_assoc, dictV_snoc]
      · rintro σ Hx ⟨v6, rfl, sm, hDx⟩
        rw [n2, List.take_of_length_le (by rw [List.length_map]; omega)] at hDx
        refine ⟨_, rfl, a3, rfl, ⟨_, kt sm t3⟩, for_it (walk_tup (K := K) (a := a3) (xs := x3)) (fun i σ Hx => ∃ (v6 : Option V), σ = [some (.ref a1), some (.ref a2), some (.ref a3), some (.ref D), v4, v5, v6] ∧ Same H Hx ∧
          Hx D = some (.dK (dictV ((ps.flatMap fun q => [(q.1, V.str "array"), (q.2, V.str "length")]) ++ (ns.map (fun z => (z, V.str "position")) ++ (us.map fun z => (z, V.str "value")).take i)))))
          ⟨v6, rfl, sm, by rw [hDx, List.take_zero, List.append_nil]⟩ (fun i σ Hx _ ⟨_, _, sm, _⟩ => kt sm t3) ?_ ?_⟩
        · rintro i x σ Hx H' hi ⟨v6, rfl, sm, hDx⟩ ⟨rfl, hx⟩
          obtain ⟨e, he, dve⟩ := d3.get hx
          have hi' : i < us.length := by omega
          rw [List.getElem?_map, List.getElem?_eq_getElem hi'] at he
          cases he
          cases dve.strI
          have z1 := dictV_le ((ps.flatMap fun q => [(q.1, V.str "array"), (q.2, V.str "length")]) ++ (ns.map (fun z => (z, V.str "position")) ++ (us.map fun z => (z, V.str "value")).take i))
          rw [List.length_append, flat_len, List.length_append, List.length_take, List.length_map, List.length_map] at z1
          refine ⟨_, rfl, _, rfl, D, _, rfl, DPut.k (k := Sum.inr _) hDx (room _ (by omega)), _, rfl, up sm, ?_⟩
          rw [upd_same, List.take_succ, List.getElem?_map, List.getElem?_eq_getElem hi']
          have := dictV_snoc ((ps.flatMap fun q => [(q.1, V.str "array"), (q.2, V.str "length")]) ++ (ns.map (fun z => (z, V.str "position")) ++ (us.map fun z => (z, V.str "value")).take i)) (us[i], V.str "value")
          rw [List.append_assoc, List.append_assoc] at this
          exact congrArg (fun d => some (HO.dK d)) this.symm
        · rintro σ Hx ⟨v6, rfl, sm, hDx⟩
          rw [n3, List.take_of_length_le (by rw [List.length_map]; omega)] at hDx
          exact ⟨_, rfl, k D Hx hD sm hDx⟩
end
end Kx
namespace Kx
open PySem PySem.Spec PyProof.Rows L2
section
variable {P : Program} {w : World} {K : PySem.W.Frag} {mg : Str → Option Value} {base : Heap}
/-! ### words with blanks -/
def blanks (zs : List Str) : Str := if zs.isEmpty = true then "-" else Txt.join " " zs
theorem joinL_le (S : List Nat) : ∀ ps : List (List Nat), (TL.joinL S ps).length ≤ (ps.map (·.length)).sum + ps.length * S.length
  | [] => Nat.zero_le _
  | [p] => by simp [TL.joinL]
  | p :: q :: r => by
    have := joinL_le S (q :: r)
    show (p ++ (S ++ TL.joinL S (q :: r))).length ≤ _
    rw [List.length_append, List.length_append, List.map_cons, List.sum_cons, List.length_cons, Nat.succ_mul]
    omega
theorem joinL_ge (S : List Nat) (p : List Nat) : ∀ r : List (List Nat), p.length ≤ (TL.joinL S (p :: r)).length
  | [] => Nat.le_refl _
  | q :: r => by
    show p.length ≤ (p ++ (S ++ TL.joinL S (q :: r))).length
    rw [List.length_append]; omega
theorem tl_len (y : Str) : (TL.tl y).length = y.length := by
  show y.cps.toList.length = _
  rw [Array.length_toList]; rfl
theorem join_bound (zs : List Str) : (Txt.join " " zs).length ≤ (zs.map (·.length)).sum + zs.length := by
  rw [TL.join_eq, ← tl_len, TL.tl_join]
  have := joinL_le (TL.tl " ") (zs.map TL.tl)
  rw [List.map_map, List.length_map] at this
  have e : (zs.map ((fun x : List Nat => x.length) ∘ TL.tl)) = zs.map (·.length) := List.map_congr_left fun z _ => tl_len z
  rw [e, tl_len, show (" " : Str).length = 1 from by decide +kernel] at this
  omega
theorem join_pos {z : Str} (r : List Str) (h : 1 ≤ z.length) : 1 ≤ (Txt.join " " (z :: r)).length := by
  rw [TL.join_eq, ← tl_len, TL.tl_join, List.map_cons]
  have := joinL_ge (TL.tl " ") (TL.tl z) (r.map TL.tl)
  rw [tl_len] at this
  omega
theorem sum_le (zs : List Str) (n : Nat) (h : ∀ z ∈ zs, z.length ≤ n) : (zs.map (·.length)).sum ≤ zs.length * n := by
  induction zs with
  | nil => exact Nat.zero_le _
  | cons z r ih =>
    have a := h z List.mem_cons_self
    have b := ih fun y hy => h y (List.mem_cons_of_mem _ hy)
    rw [List.map_cons, List.sum_cons, List.length_cons, Nat.succ_mul]
    omega
abbrev N_with_blanks : List Str := ["words"]
abbrev P_with_blanks : List Str := ["words"]
theorem sc_with_blanks : FnScope N_with_blanks P_with_blanks (defScope s_with_blanks) := ⟨rfl, rfl, rfl, by decide +kernel, rfl, by decide +kernel, by decide +kernel⟩
def spBlanks (K : PySem.W.Frag) : Sp := fun vs H Q _ => ∃ (a : Addr) (zs : List Str), vs = [.ref a] ∧ (SqL K H a (zs.map V.str) ∨ SqT K H a (zs.map V.str)) ∧ zs.length ≤ 1000 ∧ (∀ z ∈ zs, 1 ≤ z.length ∧ z.length ≤ 1000) ∧ Q (.str (blanks zs)) H
theorem ok_blanks (T : Bt mg) (h : Has K mg "_with_blanks" s_with_blanks) : Ca P w K mg base 1 "_with_blanks" P_with_blanks (spBlanks K) := by
  refine cal_of h sc_with_blanks (fun _ _ _ _ _ _ us hl => match us, hl with | [_], _ => rfl) (fun vs H Q E h => ?_) (fun f cdv A outer s H vs Q E hr h => ?_)
  · obtain ⟨a, zs, rfl, _⟩ := h
    rfl
  · obtain ⟨a, zs, rfl, hq, hl, hz, k⟩ := h
    refine ⟨_, (pss_one (ps_ret (pe_orT (pe_join pe_str (pv 0)) (pe_one pe_str)))), ?_⟩
    have b1 := sum_le zs 1000 fun z hz' => (hz z hz').2
    have b2 := join_bound zs
    have b3 : zs.length * 1000 ≤ 1000 * 1000 := Nat.mul_le_mul_right _ hl
    refine ⟨⟨_, rfl⟩, _, rfl, _, a, zs, rfl, rfl, hq, ?_, _, ⟨by rw [sizeLine_eq]; omega, rfl⟩, ?_⟩
    · show (zs.map (·.length)).sum + zs.length * (" " : Str).length ≤ 16777216
      rw [show (" " : Str).length = 1 from by decide +kernel]
      omega
    · cases zs with
      | nil =>
        have e : (((Txt.join " " ([] : List Str)).length : Int) != 0) = false := by
          have : (Txt.join " " ([] : List Str)).length = 0 := by
            have := join_bound []
            simp at this
            exact this
          rw [this]; rfl
        rw [e]
        exact iteF k
      | cons z r =>
        have := join_pos r (hz z List.mem_cons_self).1
        have e : (((Txt.join " " (z :: r)).length : Int) != 0) = true := by
          rw [bne_iff_ne]; omega
        rw [e]
        exact iteT k
/-! ### frames -/
structure Fx (K : PySem.W.Frag) (mg : Str → Option Value) (C : Addr) : Prop where
  cl : Cls K C
  n1 : NoAttr K C "_arrays"
  n2 : NoAttr K C "_positions"
  n3 : NoAttr K C "_amounts"
  n4 : NoAttr K C "_length_by_array"
  n5 : NoAttr K C "_lengths"
  n6 : NoAttr K C "_kinds"
  mgC : mg "Frame" = some (.ref C)
structure Ex (K : PySem.W.Frag) (mg : Str → Option Value) (I : Addr) : Prop where
  gP : mg "InvalidFrame" = some (.ref I)
  xP : PySem.W.excIn K I [.type "ValueError", .type "Exception", .type "BaseException", .type "object"] "ValueError.__new__" = true
  kP : PySem.W.keepIn K (.ref I) = true
  bP : PySem.W.subIn K (.ref I) (.type "BaseException") = some true
  tP : PySem.W.typeIn K (.ref I) = some (.type "type")
def flds (va vp vv : V) (LB LT KD : Addr) : List (Str × V) := [("_arrays", va), ("_positions", vp), ("_amounts", vv), ("_length_by_array", .ref LB), ("_lengths", .ref LT), ("_kinds", .ref KD)]
theorem putF_new {k : Str} {v : V} : ∀ {fs : List (Str × V)}, (∀ q ∈ fs, ¬ q.1 = k) → putF k v fs = fs ++ [(k, v)]
  | [], _ => rfl
  | q :: r, h => by
    have h1 := h q List.mem_cons_self
    have h2 := putF_new (v := v) (fs := r) fun z hz => h z (List.mem_cons_of_mem _ hz)
    show (if q.1 = k then _ else _) = _
    rw [if_neg h1, h2]
    rfl
/-- a frame stands at x -/
structure FrameAt (C : Addr) (H : Hp) (x : Addr) (va vp vv : V) (ps : List (Str × Str)) (ns us : List Str) : Prop where
  ob : ∃ dx LB LT KD, H x = some (.ins C dx (flds va vp vv LB LT KD)) ∧ H LB = some (.dK (dictV (ps.map fun q => (q.1, V.str q.2)))) ∧ TupF H LT ((uniq (ps.map (·.2))).map V.str) ∧ H KD = some (.dK (dictV (kl ps ns us)))
  da : Dv (fun _ => True) H va (.tuple (ps.map pairD))
  dp : Dv (fun _ => True) H vp (.tuple (ns.map .str))
  dv : Dv (fun _ => True) H vv (.tuple (us.map .str))
  nd : (allN ps ns us).Nodup
  l1 : ps.length ≤ 12
  l2 : ns.length ≤ 6
  l3 : us.length ≤ 6
  ok : ∀ z ∈ ps.map (·.1) ++ (ps.map (·.2) ++ (ns ++ us)), NameS z
end
end Kx
namespace Kx
open PySem PySem.Spec PyProof.Rows L2
section
variable {ex : Addr → Prop} {H H' : Hp}
mutual
theorem Dv.offG {n : Addr} (h1 : ∀ xs, H n ≠ some (.lst xs)) (h2 : ∀ kvs, H n ≠ some (.dK kvs)) : ∀ {v : V} {d : PyData}, Dv ex H v d → Dv (fun a => ex a ∨ a = n) H v d
  | _, _, .non => .non
  | _, _, .bl b => .bl b
  | _, _, .int i => .int i
  | _, _, .str x => .str x
  | _, _, .lst m e l => .lst (fun z => z.elim m (fun q => h1 _ (q ▸ e))) e (DvL.offG h1 h2 l)
  | _, _, .tup d e l => .tup d e (DvL.offG h1 h2 l)
  | _, _, .dic m e l => .dic (fun z => z.elim m (fun q => h2 _ (q ▸ e))) e (DvK.offG h1 h2 l)
theorem DvL.offG {n : Addr} (h1 : ∀ xs, H n ≠ some (.lst xs)) (h2 : ∀ kvs, H n ≠ some (.dK kvs)) : ∀ {v : List V} {d : List PyData}, DvL ex H v d → DvL (fun a => ex a ∨ a = n) H v d
  | _, _, .nil => .nil
  | _, _, .cons a b => .cons (Dv.offG h1 h2 a) (DvL.offG h1 h2 b)
theorem DvK.offG {n : Addr} (h1 : ∀ xs, H n ≠ some (.lst xs)) (h2 : ∀ kvs, H n ≠ some (.dK kvs)) : ∀ {v : List (Key × V)} {d : List (PyData × PyData)}, DvK ex H v d → DvK (fun a => ex a ∨ a = n) H v d
  | _, _, .nil => .nil
  | _, _, .cons a b => .cons (Dv.offG h1 h2 a) (DvK.offG h1 h2 b)
end
theorem Kp.ins {p C dx : Addr} {fs : List (Str × V)} {o : HO} (h : ex p) (hi : H p = some (.ins C dx fs)) : Kp ex H (upd H p o) := fun a u e n => by
  have : a ≠ p := fun z => by
    subst z
    obtain ⟨ob, w, rfl⟩ := n h
    rw [hi] at e
    cases e
  rw [upd_ne this]; exact e
theorem Dv.ins {n C dx : Addr} {fs : List (Str × V)} (hi : H n = some (.ins C dx fs)) {v : V} {d : PyData} (h : Dv ex H v d) : Dv (fun a => ex a ∨ a = n) H v d :=
  h.offG (fun xs e => by rw [hi] at e; cases e) (fun kvs e => by rw [hi] at e; cases e)
theorem DvL.strAny {ey : Addr → Prop} : ∀ {vs : List V} {ns : List Str}, DvL ex H vs (ns.map .str) → DvL ey H vs (ns.map .str)
  | _, [], .nil => .nil
  | _, z :: r, .cons a b => .cons (by cases a; exact .str z) (DvL.strAny b)
theorem Dv.strsAny {ey : Addr → Prop} {v : V} {ns : List Str} (h : Dv ex H v (.tuple (ns.map .str))) : Dv ey H v (.tuple (ns.map .str)) := by
  obtain ⟨a, xs, rfl, t, l⟩ := h.tupI
  exact Dv.tupM t l.strAny
theorem DvL.pairAny {ey : Addr → Prop} : ∀ {vs : List V} {ps : List (Str × Str)}, DvL ex H vs (ps.map pairD) → DvL ey H vs (ps.map pairD)
  | _, [], .nil => .nil
  | _, q :: r, .cons a b => .cons (by
      obtain ⟨c, rfl, t⟩ := Dv.pairI a
      exact Dv.tupM t (.cons (.str _) (.cons (.str _) .nil))) (DvL.pairAny b)
theorem Dv.pairsAny {ey : Addr → Prop} {v : V} {ps : List (Str × Str)} (h : Dv ex H v (.tuple (ps.map pairD))) : Dv ey H v (.tuple (ps.map pairD)) := by
  obtain ⟨a, xs, rfl, t, l⟩ := h.tupI
  exact Dv.tupM t l.pairAny
end
theorem DvL.paired {K : PySem.W.Frag} {ex : Addr → Prop} {H : Hp} : ∀ {vs : List V} {ps : List (Str × Str)}, DvL ex H vs (ps.map pairD) → ∃ as : List Addr, vs = as.map V.ref ∧ ∀ {ey : Addr → Prop} (G : Hp), Kp ey H G → Paired (fun p kv => SqT K G p [kV kv.1, kv.2]) as (ps.map fun q => ((Sum.inr q.1 : Key), V.str q.2))
  | _, [], .nil => ⟨[], rfl, fun _ _ => .nil⟩
  | _, q :: r, .cons a b => by
    obtain ⟨as, rfl, h⟩ := DvL.paired (K := K) b
    obtain ⟨c, rfl, t⟩ := Dv.pairI a
    exact ⟨c :: as, rfl, fun G k => .cons (k.tup t).sq (h G k)⟩
/-! ### which parts are right -/
def pairOf : PyData → Option (Str × Str)
  | .tuple [.str a, .str b] => some (a, b)
  | _ => none
def strOf : PyData → Option Str
  | .str a => some a
  | _ => none
def psOf : PyData → List (Str × Str)
  | .tuple xs => xs.filterMap pairOf
  | _ => []
def nsOf : PyData → List Str
  | .tuple xs => xs.filterMap strOf
  | _ => []
def frameD (da dp dv : PyData) : Bool := (arrsD da && (namesD 6 dp && namesD 6 dv)) && decide (allN (psOf da) (nsOf dp) (nsOf dv)).Nodup
theorem nameD_str {d : PyData} (h : nameD d = true) : ∃ z, d = .str z ∧ NameS z := by
  cases d with
  | str z => exact ⟨z, rfl, of_decide_eq_true h⟩
  | _ => cases h
theorem strs_all : ∀ {xs : List PyData}, xs.all nameD = true → xs = (xs.filterMap strOf).map .str ∧ ∀ z ∈ xs.filterMap strOf, NameS z
  | [], _ => ⟨rfl, fun z hz => nomatch hz⟩
  | x :: r, h => by
    rw [List.all_cons, Bool.and_eq_true] at h
    obtain ⟨z, rfl, hz⟩ := nameD_str h.1
    obtain ⟨e, h2⟩ := strs_all h.2
    have e1 : (PyData.str z :: r).filterMap strOf = z :: r.filterMap strOf := rfl
    rw [e1]
    refine ⟨by rw [List.map_cons, ← e], fun y hy => ?_⟩
    rcases List.mem_cons.mp hy with rfl | hy
    · exact hz
    · exact h2 y hy
theorem names_true {m : Nat} {d : PyData} (h : namesD m d = true) : d = .tuple ((nsOf d).map .str) ∧ (nsOf d).length ≤ m ∧ ∀ z ∈ nsOf d, NameS z := by
  cases d with
  | tuple xs =>
    have h' : (decide (xs.length ≤ m) && xs.all nameD) = true := h
    rw [Bool.and_eq_true] at h'
    obtain ⟨e, h2⟩ := strs_all h'.2
    refine ⟨congrArg PyData.tuple e, ?_, h2⟩
    have := of_decide_eq_true h'.1
    have l := congrArg List.length e
    rw [List.length_map] at l
    show (xs.filterMap strOf).length ≤ m
    omega
  | _ => cases h
theorem pair_true {d : PyData} (h : pairOkD d = true) : ∃ q : Str × Str, d = pairD q ∧ NameS q.1 ∧ NameS q.2 := by
  cases d with
  | tuple xs =>
    rw [pairOkD_eq, Bool.and_eq_true] at h
    match xs, h with
    | [a, b], h =>
      have h2 := h.2
      rw [List.all_cons, List.all_cons, Bool.and_eq_true, Bool.and_eq_true] at h2
      obtain ⟨y, rfl, hy⟩ := nameD_str h2.1
      obtain ⟨z, rfl, hz⟩ := nameD_str h2.2.1
      exact ⟨(y, z), rfl, hy, hz⟩
    | [], h => exact absurd h.1 (by decide)
    | [a], h => exact absurd h.1 (by simp)
    | a :: b :: c :: r, h => exact absurd h.1 (by simp)
  | _ => cases h
theorem pairs_all : ∀ {xs : List PyData}, xs.all pairOkD = true → xs = (xs.filterMap pairOf).map pairD ∧ ∀ q ∈ xs.filterMap pairOf, NameS q.1 ∧ NameS q.2
  | [], _ => ⟨rfl, fun z hz => nomatch hz⟩
  | x :: r, h => by
    rw [List.all_cons, Bool.and_eq_true] at h
    obtain ⟨q, rfl, hq⟩ := pair_true h.1
    obtain ⟨e, h2⟩ := pairs_all h.2
    have e1 : (pairD q :: r).filterMap pairOf = q :: r.filterMap pairOf := rfl
    rw [e1]
    refine ⟨by rw [List.map_cons, ← e], fun y hy => ?_⟩
    rcases List.mem_cons.mp hy with rfl | hy
    · exact hq
    · exact h2 y hy
theorem arrs_true {d : PyData} (h : arrsD d = true) : d = .tuple ((psOf d).map pairD) ∧ (psOf d).length ≤ 12 ∧ ∀ q ∈ psOf d, NameS q.1 ∧ NameS q.2 := by
  cases d with
  | tuple xs =>
    have h' : (decide (xs.length ≤ 12) && xs.all pairOkD) = true := h
    rw [Bool.and_eq_true] at h'
    obtain ⟨e, h2⟩ := pairs_all h'.2
    refine ⟨congrArg PyData.tuple e, ?_, h2⟩
    have := of_decide_eq_true h'.1
    have l := congrArg List.length e
    rw [List.length_map] at l
    show (xs.filterMap pairOf).length ≤ 12
    omega
  | _ => cases h
section
variable {P : Program} {w : World} {K : PySem.W.Frag} {mg : Str → Option Value} {base : Heap}
abbrev N_Frame_init : List Str := ["self", "arrays", "positions", "values", "_", "length"]
abbrev P_Frame_init : List Str := ["self", "arrays", "positions", "values"]
theorem sc_Frame_init : FnScope N_Frame_init P_Frame_init (defScope s_Frame_init) := ⟨rfl, rfl, rfl, by decide +kernel, rfl, by decide +kernel, by decide +kernel⟩
abbrev KpX (x : Addr) (H H' : Hp) : Prop := Kp (fun a => a = x) H H'
theorem pf1 {a : V} : putF "_arrays" a [] = ([("_arrays", a)] : List (Str × V)) := putF_new (fs := ([] : List (Str × V))) (fun q hq => by cases hq)
theorem pf2 {a b : V} : putF "_positions" b [("_arrays", a)] = ([("_arrays", a), ("_positions", b)] : List (Str × V)) := putF_new (fs := ([("_arrays", a)] : List (Str × V))) (fun q hq => by simp only [List.mem_cons, List.not_mem_nil, or_false] at hq; rcases hq with rfl <;> (dsimp only; decide +kernel))
theorem pf3 {a b c : V} : putF "_amounts" c [("_arrays", a), ("_positions", b)] = ([("_arrays", a), ("_positions", b), ("_amounts", c)] : List (Str × V)) := putF_new (fs := ([("_arrays", a), ("_positions", b)] : List (Str × V))) (fun q hq => by simp only [List.mem_cons, List.not_mem_nil, or_false] at hq; rcases hq with rfl | rfl <;> (dsimp only; decide +kernel))
theorem pf4 {a b c d : V} : putF "_length_by_array" d [("_arrays", a), ("_positions", b), ("_amounts", c)] = ([("_arrays", a), ("_positions", b), ("_amounts", c), ("_length_by_array", d)] : List (Str × V)) := putF_new (fs := ([("_arrays", a), ("_positions", b), ("_amounts", c)] : List (Str × V))) (fun q hq => by simp only [List.mem_cons, List.not_mem_nil, or_false] at hq; rcases hq with rfl | rfl | rfl <;> (dsimp only; decide +kernel))
theorem pf5 {a b c d e : V} : putF "_lengths" e [("_arrays", a), ("_positions", b), ("_amounts", c), ("_length_by_array", d)] = ([("_arrays", a), ("_positions", b), ("_amounts", c), ("_length_by_array", d), ("_lengths", e)] : List (Str × V)) := putF_new (fs := ([("_arrays", a), ("_positions", b), ("_amounts", c), ("_length_by_array", d)] : List (Str × V))) (fun q hq => by simp only [List.mem_cons, List.not_mem_nil, or_false] at hq; rcases hq with rfl | rfl | rfl | rfl <;> (dsimp only; decide +kernel))
theorem pf6 {a b c d e f : V} : putF "_kinds" f [("_arrays", a), ("_positions", b), ("_amounts", c), ("_length_by_array", d), ("_lengths", e)] = ([("_arrays", a), ("_positions", b), ("_amounts", c), ("_length_by_array", d), ("_lengths", e), ("_kinds", f)] : List (Str × V)) := putF_new (fs := ([("_arrays", a), ("_positions", b), ("_amounts", c), ("_length_by_array", d), ("_lengths", e)] : List (Str × V))) (fun q hq => by simp only [List.mem_cons, List.not_mem_nil, or_false] at hq; rcases hq with rfl | rfl | rfl | rfl | rfl <;> (dsimp only; decide +kernel))
def spInit (C I : Addr) : Sp := fun vs H Q E => ∃ (x dx : Addr) (va vp vv : V) (da dp dv : PyData) (ex : Addr → Prop), vs = [.ref x, va, vp, vv] ∧ H x = some (.ins C dx []) ∧ Dv ex H va da ∧ Dv ex H vp dp ∧ Dv ex H vv dv ∧ cost da ≤ 8000000 ∧ cost dp ≤ 8000000 ∧ cost dv ≤ 8000000 ∧
  (frameD da dp dv = true → ∀ H', FrameAt C H' x va vp vv (psOf da) (nsOf dp) (nsOf dv) → KpX x H H' → Q .non H') ∧
  (frameD da dp dv = false → ∀ H', KpX x H H' → E (.ref I) none H')
theorem ok_init (T : Bt mg) (Co_ : Co mg) {C I f : Addr} {fd : FuncData} (F : FunD K "__init__" "Frame.__init__" (defArgs s_Frame_init) (defBody s_Frame_init) (defScope s_Frame_init) [] [] f fd) (X : Fx K mg C) (XI : Ex K mg I)
    (C1 : Ca P w K mg base 4 "_are_arrays" P_are_arrays (spJudge arrsD)) (C2 : Ca P w K mg base 2 "_are_names" P_are_names spAreNames) (C3 : Ca P w K mg base 1 "_kinds_of" P_kinds_of spKinds) : FnOk P w K mg base (L2N.CX P w) 5 f fd P_Frame_init (spInit C I) := by
  obtain ⟨_, gP_⟩ := Co_.MAX_POSITIONS
  obtain ⟨_, gV_⟩ := Co_.MAX_VALUES
  obtain ⟨_, _, c__are_arrays⟩ := C1
  obtain ⟨_, _, c__are_names⟩ := C2
  obtain ⟨_, _, c__kinds_of⟩ := C3
  obtain ⟨gP, xP, kP, bP, tP⟩ := XI
  refine F.ok sc_Frame_init (fun vs H Q E h => ?_) (fun cdv A outer s H vs Q E hr h => ?_)
  · obtain ⟨x, dx, va, vp, vv, da, dp, dv, ex, rfl, _⟩ := h
    rfl
  · obtain ⟨x, dx, va, vp, vv, da, dp, dv, ex, rfl, hx, ha, hp, hv, c1, c2, c3, kg, kb⟩ := h
    refine ⟨_, (pss_cons (ps_if (PW.pt (pw_or (pt_not (pt_val (pe_call c__are_arrays.1 (hr.mono (by decide)) rfl c__are_arrays.2.1 c__are_arrays.2.2.1 c__are_arrays.2.2.2 .nil pass0 (pa_cons (pv 1) pa_nil)))) (pw_or (pt_not (pt_val (pe_call c__are_names.1 (hr.mono (by decide)) rfl c__are_names.2.1 c__are_names.2.2.1 c__are_names.2.2.2 .nil pass0 (pa_cons (pv 2) (pa_cons (pe_glob (v := .int 6) rfl gP_ ⟨_, rfl⟩) pa_nil))))) (pw_or1 (pt_not (pt_val (pe_call c__are_names.1 (hr.mono (by decide)) rfl c__are_names.2.1 c__are_names.2.2.1 c__are_names.2.2.2 .nil pass0 (pa_cons (pv 3) (pa_cons (pe_glob (v := .int 6) rfl gV_ ⟨_, rfl⟩) pa_nil))))))))) (pss_one (L2N.ps_raise rfl (L2N.takes_of rfl rfl rfl rfl) (L2N.pmk_own PySem.F.excBase_ValueError xP gP kP (raises_own bP tP) rfl))) pss_nil)
      (pss_cons (ps_fld (pv 0) (pv 1) rfl)
      (pss_cons (ps_fld (pv 0) (pv 2) rfl)
      (pss_cons (ps_fld (pv 0) (pv 3) rfl)
      (pss_cons (ps_fld (pv 0) (pe_callTy (call_dictT rfl) (by rfl) T.dict (by decide +kernel) (pa_cons (pv 1) pa_nil)) rfl)
      (pss_cons (ps_fld (pv 0) (pe_callTy (call_tupleDF rfl) (by rfl) T.tuple (by decide +kernel) (pa_cons (pe_dc (own := [("_", 4), ("length", 5)]) (g := (gTup K 2 (gCons (gName 4) (gCons (gName 5) gNil)))) (tt := tYes) (by rfl) sc_Frame_init.nd (pi_tup (pv 1)) (blkOk_by (own := [("_", 4), ("length", 5)]) (N := ["self", "arrays", "positions", "values", "_", "length"]) (sc := defScope s_Frame_init) (by decide +kernel)) (fun _ _ _ _ _ => pg_tup (by rfl) (pgs_cons (pg_name (i := 4) sc_Frame_init.nd rfl (Or.inl rfl)) (pgs_cons (pg_name (i := 5) sc_Frame_init.nd rfl (Or.inl rfl)) pgs_nil))) (fun _ _ _ _ _ => pts_nil) (fun _ _ _ _ _ => (pv 5)) (fun _ _ _ _ _ => pe_bl)) pa_nil)) rfl)
      (pss_cons (ps_fld (pv 0) (pe_call c__kinds_of.1 (hr.mono (by decide)) rfl c__kinds_of.2.1 c__kinds_of.2.2.1 c__kinds_of.2.2.2 .nil pass0 (pa_cons (pv 1) (pa_cons (pv 2) (pa_cons (pv 3) pa_nil)))) rfl)
      (pss_one (ps_if (pt_cmpR op_lt (pe_callB call_lenD (by rfl) T.len (by decide +kernel) (pa_cons (pe_fld (pv 0) rfl) pa_nil)) (pe_op op_add (pe_op op_add (pe_op op_add (pe_callB call_len (by rfl) T.len (by decide +kernel) (pa_cons (pv 1) pa_nil)) (pe_callB call_len (by rfl) T.len (by decide +kernel) (pa_cons (pe_fld (pv 0) rfl) pa_nil))) (pe_callB call_len (by rfl) T.len (by decide +kernel) (pa_cons (pv 2) pa_nil))) (pe_callB call_len (by rfl) T.len (by decide +kernel) (pa_cons (pv 3) pa_nil))) (nomark _)) (pss_one (L2N.ps_raise rfl (L2N.takes_of rfl rfl rfl rfl) (L2N.pmk_own PySem.F.excBase_ValueError xP gP kP (raises_own bP tP) rfl))) pss_nil))))))))), ?_⟩
    have s1 : ∀ {H1}, Same H H1 → H1 x = some (.ins C dx []) := fun sm => sm _ _ hx
    -- the three tests
    have bad : ∀ {H1 : Hp}, Same H H1 → frameD da dp dv = false → E (.ref I) none H1 := fun sm z => kb z _ (Kp.same sm)
    refine ⟨_, rfl, ex, va, da, rfl, ha, c1, fun H1 m1 => ?_⟩
    cases e1 : arrsD da with
    | false => exact ⟨_, rfl, iteT (iteT (bad m1 (by unfold frameD; rw [e1]; rfl)))⟩
    | true =>
      refine ⟨_, rfl, iteF ⟨_, rfl, ex, _, dp, 6, rfl, hp.kp (Kp.same m1), c2, fun H2 m2 => ?_⟩⟩
      cases e2 : namesD 6 dp with
      | false => exact ⟨_, rfl, iteT (iteT (bad (m1.trans m2) (by unfold frameD; rw [e1, e2]; rfl)))⟩
      | true =>
        refine ⟨_, rfl, iteF ⟨_, rfl, ex, _, dv, 6, rfl, hv.kp (Kp.same (m1.trans m2)), c3, fun H3 m3 => ?_⟩⟩
        cases e3 : namesD 6 dv with
        | false => exact ⟨_, rfl, iteT (bad ((m1.trans m2).trans m3) (by unfold frameD; rw [e1, e2, e3]; rfl))⟩
        | true =>
          refine ⟨_, rfl, iteF ?_⟩
          have m := (m1.trans m2).trans m3
          obtain ⟨ea, la, oa⟩ := arrs_true e1
          obtain ⟨ep, lp, op_⟩ := names_true e2
          obtain ⟨ev, lv, ov⟩ := names_true e3
          have fD : frameD da dp dv = decide (allN (psOf da) (nsOf dp) (nsOf dv)).Nodup := by unfold frameD; rw [e1, e2, e3]; rfl
          rw [fD] at kg kb
          rw [ea] at ha
          rw [ep] at hp
          rw [ev] at hv
          clear fD e1 e2 e3 bad ea ep ev
          generalize psOf da = ps at *
          generalize nsOf dp = ns at *
          generalize nsOf dv = us at *
          have hx3 := m _ _ hx
          have kp3 : KpX x H H3 := Kp.same m
          have stepX : ∀ {G : Hp} {fs fs2 : List (Str × V)}, KpX x H G → G x = some (.ins C dx fs) → KpX x H (upd G x (.ins C dx fs2)) := fun {G fs fs2} k e => k.trans (Kp.ins rfl e)
          refine ⟨_, rfl, _, rfl, x, C, dx, [], rfl, hx3, X.cl, X.n1, by simp, ?_⟩
          rw [pf1]
          have kp4 := stepX (fs2 := [("_arrays", va)]) kp3 hx3
          generalize hH4 : upd H3 x (.ins C dx ([("_arrays", va)])) = H4 at kp4 ⊢
          have hx4 : H4 x = some (.ins C dx [("_arrays", va)]) := by rw [← hH4]; exact upd_same
          refine ⟨_, rfl, _, rfl, x, C, dx, _, rfl, hx4, X.cl, X.n2, by simp, ?_⟩
          rw [pf2]
          have kp5 := stepX (fs2 := [("_arrays", va), ("_positions", vp)]) kp4 hx4
          generalize hH5 : upd H4 x (.ins C dx [("_arrays", va), ("_positions", vp)]) = H5 at kp5 ⊢
          have hx5 : H5 x = some (.ins C dx [("_arrays", va), ("_positions", vp)]) := by rw [← hH5]; exact upd_same
          refine ⟨_, rfl, _, rfl, x, C, dx, _, rfl, hx5, X.cl, X.n3, by simp, ?_⟩
          rw [pf3]
          have kp6 := stepX (fs2 := [("_arrays", va), ("_positions", vp), ("_amounts", vv)]) kp5 hx5
          generalize hH6 : upd H5 x (.ins C dx [("_arrays", va), ("_positions", vp), ("_amounts", vv)]) = H6 at kp6 ⊢
          have hx6 : H6 x = some (.ins C dx [("_arrays", va), ("_positions", vp), ("_amounts", vv)]) := by rw [← hH6]; exact upd_same
          have in6 : ∀ {G : Hp} {v : V} {d : PyData}, KpX x H G → Dv ex H v d → Dv (fun a => ex a ∨ a = x) G v d := fun k h => (h.ins hx).kp (k.weak fun b z => .inr z)
          obtain ⟨aA, xA, rfl, tA, dA⟩ := ha.tupI
          obtain ⟨aP, xP', rfl, tP', dP⟩ := hp.tupI
          obtain ⟨aV, xV, rfl, tV, dV⟩ := hv.tupI
          obtain ⟨as, rfl, pr⟩ := dA.paired (K := K)
          have prG : ∀ {G : Hp}, KpX x H G → Paired (fun p kv => SqT K G p [kV kv.1, kv.2]) as (ps.map fun q => (Sum.inr q.1, V.str q.2)) := fun k => pr _ k
          refine ⟨_, rfl, aA, as, _, rfl, kp6.tup tA, prG kp6, fun LB hLB => ?_⟩
          refine ⟨_, rfl, x, C, dx, _, rfl, (upd_ne (ne_of_none hx6 hLB)).trans hx6, X.cl, X.n4, by simp, ?_⟩
          rw [pf4]
          have kp7 := stepX (fs2 := [("_arrays", .ref aA), ("_positions", .ref aP), ("_amounts", .ref aV), ("_length_by_array", .ref LB)]) (kp6.trans (Kp.new (o := .dK (mergeK [] (ps.map fun q => (Sum.inr q.1, V.str q.2)))) hLB)) ((upd_ne (ne_of_none hx6 hLB)).trans hx6)
          have xLB := ne_of_none hx6 hLB
          generalize hH7 : upd (upd H6 LB (.dK (mergeK [] (ps.map fun q => (Sum.inr q.1, V.str q.2))))) x (.ins C dx [("_arrays", .ref aA), ("_positions", .ref aP), ("_amounts", .ref aV), ("_length_by_array", .ref LB)]) = H7 at kp7 ⊢
          have hx7 : H7 x = some (.ins C dx [("_arrays", .ref aA), ("_positions", .ref aP), ("_amounts", .ref aV), ("_length_by_array", .ref LB)]) := by rw [← hH7]; exact upd_same
          have lb7 : H7 LB = some (.dK (dictV (ps.map fun q => (q.1, V.str q.2)))) := by
            rw [← hH7, upd_ne (Ne.symm xLB), upd_same]
            unfold dictV
            rw [List.map_map]
            rfl
          -- the lengths
          refine ⟨_, rfl, aA, rfl, ⟨_, (kp7.tup tA).sq⟩, fun D hD => ?_⟩
          have lAn := dA.len
          rw [List.length_map, List.length_map] at lAn
          refine dc_tup (K := K) (a := aA) (xs := as.map V.ref) (fun i G => Same H7 G ∧ G D = some (.dK (dictV ((ps.take i).map fun q => (q.2, V.bl true))))) ⟨Same.upd hD, upd_same⟩ (fun i G _ h => ((kp7.trans (Kp.same h.1)).tup tA).sq) ?_ ?_
          · rintro i y G hi ⟨sm, hDx⟩
            obtain ⟨e, he, dve⟩ := dA.get hi
            have hi' : i < ps.length := by
              have := (List.getElem?_eq_some_iff.mp hi).1
              rw [List.length_map] at this
              omega
            rw [List.getElem?_map, List.getElem?_eq_getElem hi'] at he
            cases he
            obtain ⟨b, rfl, hb⟩ := dve.pairI
            refine ⟨b, _, rfl, ((kp7.trans (Kp.same sm)).tup hb).sq, rfl, _, _, rfl, _, _, rfl, rfl, ?_⟩
            have z1 := dictV_le ((ps.take i).map fun q => (q.2, V.bl true))
            rw [List.length_map, List.length_take] at z1
            refine ⟨rfl, yes (⟨_, rfl, _, .inr ps[i].2, rfl, hDx, by rw [sizeLine_eq]; omega, ?_, ?_⟩)⟩
            · intro b u e
              rw [upd_ne (ne_of_none e hD)]
              exact sm b u e
            · rw [upd_same, List.take_succ, List.getElem?_eq_getElem hi']
              show _ = some (HO.dK (dictV (((ps.take i) ++ [ps[i]]).map fun q => (q.2, V.bl true))))
              rw [List.map_append]
              have := dictV_snoc ((ps.take i).map fun q => (q.2, V.bl true)) (ps[i].2, V.bl true)
              exact congrArg (fun d => some (HO.dK d)) this.symm
          · rintro G ⟨sm, hDx⟩
            rw [List.length_map, lAn, List.take_length] at hDx
            have kp8 := kp7.trans (Kp.same sm)
            have hx8 := sm _ _ hx7
            have lb8 := sm _ _ lb7
            refine ⟨D, _, rfl, .inl hDx, fun LT GL smL tLT => ?_⟩
            have hxL := smL _ _ hx8
            have lbL := smL _ _ lb8
            have xLB' := xLB
            refine ⟨_, rfl, x, C, dx, _, rfl, hxL, X.cl, X.n5, by simp, ?_⟩
            rw [pf5]
            have kpL := kp8.trans (Kp.same smL)
            have kp9 := stepX (fs2 := [("_arrays", .ref aA), ("_positions", .ref aP), ("_amounts", .ref aV), ("_length_by_array", .ref LB), ("_lengths", .ref LT)]) kpL hxL
            have kuL : Kp (fun a => a = x) GL (upd GL x (.ins C dx [("_arrays", .ref aA), ("_positions", .ref aP), ("_amounts", .ref aV), ("_length_by_array", .ref LB), ("_lengths", .ref LT)])) := Kp.ins rfl hxL
            generalize hH9 : upd GL x (.ins C dx [("_arrays", .ref aA), ("_positions", .ref aP), ("_amounts", .ref aV), ("_length_by_array", .ref LB), ("_lengths", .ref LT)]) = H9 at kp9 kuL ⊢
            have hx9 : H9 x = some (.ins C dx [("_arrays", .ref aA), ("_positions", .ref aP), ("_amounts", .ref aV), ("_length_by_array", .ref LB), ("_lengths", .ref LT)]) := by rw [← hH9]; exact upd_same
            have lb9 : H9 LB = some (.dK (dictV (ps.map fun q => (q.1, V.str q.2)))) := by
              rw [← hH9, upd_ne (Ne.symm xLB)]
              exact lbL
            have lt9 : TupF H9 LT ((uniq (ps.map (·.2))).map V.str) := by
              have := congrArg (List.map kV) (dictV_keys (ps.map fun q => (q.2, V.bl true)))
              rw [List.map_map, List.map_map, List.map_map] at this
              have e : (dictV (ps.map fun q => (q.2, V.bl true))).map (fun kv => kV kv.1) = (uniq (ps.map (·.2))).map V.str := this
              rw [e] at tLT
              exact kuL.tup tLT
            refine ⟨_, rfl, _, rfl, _, rfl, _, _, _, _, ps, ns, us, rfl, in6 kp9 ha, in6 kp9 hp, in6 kp9 hv, by omega, by omega, by omega, fun KD Hk hKD m10 hKk => ?_⟩
            have hx10 := m10 _ _ hx9
            have kp10 := kp9.trans (Kp.same m10)
            refine ⟨_, rfl, x, C, dx, _, rfl, hx10, X.cl, X.n6, by simp, ?_⟩
            rw [pf6]
            have xKD := ne_of_none hx9 hKD
            have kp11 := stepX (fs2 := [("_arrays", .ref aA), ("_positions", .ref aP), ("_amounts", .ref aV), ("_length_by_array", .ref LB), ("_lengths", .ref LT), ("_kinds", .ref KD)]) kp10 hx10
            generalize hH11 : upd Hk x (.ins C dx [("_arrays", .ref aA), ("_positions", .ref aP), ("_amounts", .ref aV), ("_length_by_array", .ref LB), ("_lengths", .ref LT), ("_kinds", .ref KD)]) = H11 at kp11 ⊢
            have hlb : H11 LB = some (.dK (dictV (ps.map fun q => (q.1, V.str q.2)))) := by
              rw [← hH11, upd_ne (Ne.symm xLB)]; exact m10 _ _ lb9
            have ku11 : Kp (fun a => a = x) Hk H11 := by rw [← hH11]; exact Kp.ins rfl hx10
            have hlt : TupF H11 LT ((uniq (ps.map (·.2))).map V.str) := ku11.tup ((Kp.same (ex := fun _ => True) m10).tup lt9)
            have hkd : H11 KD = some (.dK (dictV (kl ps ns us))) := by
              rw [← hH11, upd_ne (Ne.symm xKD)]; exact hKk
            have hxx : H11 x = some (.ins C dx (flds (.ref aA) (.ref aP) (.ref aV) LB LT KD)) := by rw [← hH11]; exact upd_same
            refine ⟨_, rfl, x, C, dx, _, _, rfl, hxx, X.cl, X.n6, rfl, KD, _, rfl, hkd, ?_⟩
            refine ⟨_, rfl, _, _, rfl, .inr ⟨_, (kp11.tup tA).sq, rfl⟩, _, rfl, x, C, dx, _, _, rfl, hxx, X.cl, X.n5, rfl, _, _, rfl, .inr ⟨_, hlt.sq, rfl⟩, _, _, rfl, rfl, ?_⟩
            refine ⟨_, rfl, _, _, rfl, .inr ⟨_, (kp11.tup tP').sq, rfl⟩, _, _, rfl, rfl, ?_⟩
            refine ⟨_, rfl, _, _, rfl, .inr ⟨_, (kp11.tup tV).sq, rfl⟩, _, _, rfl, rfl, ?_⟩
            have hk := kinds_count ps ns us
            have lP := dP.len
            have lV := dV.len
            rw [List.length_map] at lP lV
            have lN : (allN ps ns us).length = ps.length + (uniq (ps.map (·.2))).length + ns.length + us.length := by
              unfold allN
              simp only [List.length_append, List.length_map]
              omega
            refine ⟨_, _, rfl, rfl, _, rfl, ?_⟩
            rw [List.length_map, List.length_map, lAn, lP, lV]
            by_cases nd : (allN ps ns us).Nodup
            · have := hk.2.mpr nd
              rw [decide_eq_false (by omega)]
              refine iteF (kg (decide_eq_true nd) _ ⟨⟨dx, LB, LT, KD, hxx, hlb, hlt, hkd⟩, (in6 kp11 ha).pairsAny, (in6 kp11 hp).strsAny, (in6 kp11 hv).strsAny, nd, la, lp, lv, fun z hz => ?_⟩ kp11)
              rcases List.mem_append.mp hz with hz | hz
              · obtain ⟨q, hq, rfl⟩ := List.mem_map.mp hz
                exact (oa q hq).1
              · rcases List.mem_append.mp hz with hz | hz
                · obtain ⟨q, hq, rfl⟩ := List.mem_map.mp hz
                  exact (oa q hq).2
                · rcases List.mem_append.mp hz with hz | hz
                  · exact op_ z hz
                  · exact ov z hz
            · have : ¬ (allN ps ns us).length ≤ (dictV (kl ps ns us)).length := fun z => nd (hk.2.mp z)
              rw [decide_eq_true (by omega)]
              exact iteT (kb (decide_eq_false nd) H11 kp11)
end
end Kx
namespace Kx
open PySem PySem.Spec PyProof.Rows L2
def pairT (q : Str × Str) : Str := q.1 ++ (":" : Str) ++ q.2
theorem DvL.strE {ex : Addr → Prop} {H : Hp} : ∀ {vs : List V} {ns : List Str}, DvL ex H vs (ns.map .str) → vs = ns.map V.str
  | _, [], .nil => rfl
  | _, z :: r, .cons a b => by rw [a.strI, DvL.strE b]; rfl
theorem pairT_len (q : Str × Str) : (pairT q).length = q.1.length + 1 + q.2.length := by
  unfold pairT
  rw [strLen_append, strLen_append, show (":" : Str).length = 1 by decide +kernel]
theorem str_emp (z : Str) : Str.empty ++ z = z := by
  show (⟨#[] ++ z.cps⟩ : Str) = z
  rw [Array.empty_append]
theorem blanks_le (zs : List Str) (n : Nat) (h : ∀ z ∈ zs, z.length ≤ n) : (blanks zs).length ≤ zs.length * n + zs.length + 1 := by
  unfold blanks
  have e1 : ("-" : Str).length = 1 := by decide +kernel
  split
  · omega
  · have := join_bound zs
    have := sum_le zs n h
    omega
theorem ps_never {X : Cx} {s : Stmt} : PS X s (fun _ _ _ => False) := ⟨fun _ _ _ _ _ _ h => h.elim⟩
theorem FrameAt.same {C x : Addr} {H H' : Hp} {va vp vv : V} {ps : List (Str × Str)} {ns us : List Str} (h : FrameAt C H x va vp vv ps ns us) (k : Same H H') : FrameAt C H' x va vp vv ps ns us := by
  obtain ⟨⟨dx, LB, LT, KD, h1, h2, h3, h4⟩, da, dp, dv, r1, r2, r3, r4, r5⟩ := h
  exact ⟨⟨dx, LB, LT, KD, k _ _ h1, k _ _ h2, (Kp.same (ex := fun _ => True) k).tup h3, k _ _ h4⟩, da.kp (Kp.same k), dp.kp (Kp.same k), dv.kp (Kp.same k), r1, r2, r3, r4, r5⟩
theorem FrameAt.nm {C x : Addr} {H : Hp} {va vp vv : V} {ps : List (Str × Str)} {ns us : List Str} (h : FrameAt C H x va vp vv ps ns us) {z : Str} (hz : z ∈ allN ps ns us) : NameS z := by
  refine h.ok z ?_
  rcases List.mem_append.mp hz with q | q
  · exact List.mem_append.mpr (.inl q)
  · rcases List.mem_append.mp q with q | q
    · exact List.mem_append.mpr (.inr (List.mem_append.mpr (.inl ((uniq_mem _ _).mp q))))
    · exact List.mem_append.mpr (.inr (List.mem_append.mpr (.inr q)))
/-! ### kinds -/
def kindF (ps : List (Str × Str)) (ns : List Str) (z : Str) : Str := if z ∈ ps.map (·.1) then "array" else if z ∈ ps.map (·.2) then "length" else if z ∈ ns then "position" else "value"
theorem nd4 {a b c d : List Str} (h : (a ++ (b ++ (c ++ d))).Nodup) : a.Nodup ∧ (∀ z ∈ b, z ∉ a) ∧ (∀ z ∈ c, z ∉ a ∧ z ∉ b) ∧ ∀ z ∈ d, z ∉ a ∧ z ∉ b ∧ z ∉ c := by
  obtain ⟨h1, h2, h3⟩ := List.nodup_append.mp h
  obtain ⟨h4, h5, h6⟩ := List.nodup_append.mp h2
  obtain ⟨h7, h8, h9⟩ := List.nodup_append.mp h5
  refine ⟨h1, fun z hz q => h3 z q z (List.mem_append.mpr (.inl hz)) rfl, fun z hz => ⟨fun q => h3 z q z (List.mem_append.mpr (.inr (List.mem_append.mpr (.inl hz)))) rfl, fun q => h6 z q z (List.mem_append.mpr (.inl hz)) rfl⟩,
    fun z hz => ⟨fun q => h3 z q z (List.mem_append.mpr (.inr (List.mem_append.mpr (.inr hz)))) rfl, fun q => h6 z q z (List.mem_append.mpr (.inr hz)) rfl, fun q => h9 z q z hz rfl⟩⟩
theorem kind_array {ps : List (Str × Str)} {ns us : List Str} (nd : (allN ps ns us).Nodup) : ∀ z ∈ ps.map (·.1), kindF ps ns z = "array" := fun z hz => if_pos hz
theorem kind_length {ps : List (Str × Str)} {ns us : List Str} (nd : (allN ps ns us).Nodup) : ∀ z ∈ ps.map (·.2), kindF ps ns z = "length" := fun z hz => by
  unfold kindF
  rw [if_neg ((nd4 nd).2.1 z ((uniq_mem _ _).mpr hz)), if_pos hz]
theorem kind_position {ps : List (Str × Str)} {ns us : List Str} (nd : (allN ps ns us).Nodup) : ∀ z ∈ ns, kindF ps ns z = "position" := fun z hz => by
  have := (nd4 nd).2.2.1 z hz
  unfold kindF
  rw [if_neg this.1, if_neg (fun q => this.2 ((uniq_mem _ _).mpr q)), if_pos hz]
theorem kind_value {ps : List (Str × Str)} {ns us : List Str} (nd : (allN ps ns us).Nodup) : ∀ z ∈ us, kindF ps ns z = "value" := fun z hz => by
  have := (nd4 nd).2.2.2 z hz
  unfold kindF
  rw [if_neg this.1, if_neg (fun q => this.2.1 ((uniq_mem _ _).mpr q)), if_neg this.2.2]
theorem kl_val {ps : List (Str × Str)} {ns us : List Str} (nd : (allN ps ns us).Nodup) {z : Str} (hz : z ∈ allN ps ns us) : valV (dictV (kl ps ns us)) (.inr z) = some (.str (kindF ps ns z)) := by
  rw [dictV_val (fun z => V.str (kindF ps ns z)) (kl ps ns us) ?_ z, if_pos ((kl_mem _ _ _ _).mpr hz)]
  intro q hq
  unfold kl at hq
  rcases List.mem_append.mp hq with hq | hq
  · obtain ⟨p, hp, hq⟩ := List.mem_flatMap.mp hq
    rcases List.mem_cons.mp hq with rfl | hq
    · exact congrArg V.str (kind_array nd p.1 (List.mem_map.mpr ⟨p, hp, rfl⟩)).symm
    · rcases List.mem_cons.mp hq with rfl | hq
      · exact congrArg V.str (kind_length nd p.2 (List.mem_map.mpr ⟨p, hp, rfl⟩)).symm
      · cases hq
  · rcases List.mem_append.mp hq with hq | hq
    · obtain ⟨y, hy, rfl⟩ := List.mem_map.mp hq
      exact congrArg V.str (kind_position nd y hy).symm
    · obtain ⟨y, hy, rfl⟩ := List.mem_map.mp hq
      exact congrArg V.str (kind_value nd y hy).symm
theorem find_of {q : Str × Str} : ∀ {ps : List (Str × Str)}, (ps.map (·.1)).Nodup → q ∈ ps → ps.find? (fun p => decide (p.1 = q.1)) = some q
  | p :: r, nd, h => by
    rw [List.map_cons, List.nodup_cons] at nd
    by_cases e : p.1 = q.1
    · rcases List.mem_cons.mp h with rfl | h
      · exact List.find?_cons_of_pos (decide_eq_true rfl)
      · exact absurd (List.mem_map.mpr ⟨q, h, e.symm⟩) nd.1
    · rw [List.find?_cons_of_neg (by rw [decide_eq_false e]; exact Bool.false_ne_true)]
      rcases List.mem_cons.mp h with rfl | h
      · exact absurd rfl e
      · exact find_of nd.2 h
theorem lb_val {ps : List (Str × Str)} (nd : (ps.map (·.1)).Nodup) {q : Str × Str} (hq : q ∈ ps) : valV (dictV (ps.map fun q => (q.1, V.str q.2))) (.inr q.1) = some (.str q.2) := by
  rw [dictV_val (fun z => match ps.find? (fun p => decide (p.1 = z)) with | some p => V.str p.2 | none => V.non) (ps.map fun q => (q.1, V.str q.2)) ?_ q.1, if_pos (by rw [List.map_map]; exact List.mem_map.mpr ⟨q, hq, rfl⟩)]
  · show some (match ps.find? (fun p => decide (p.1 = q.1)) with | some p => V.str p.2 | none => V.non) = _
    rw [find_of nd hq]
  · intro y hy
    obtain ⟨p, hp, rfl⟩ := List.mem_map.mp hy
    show V.str p.2 = match ps.find? (fun z => decide (z.1 = p.1)) with | some p => V.str p.2 | none => V.non
    rw [find_of nd hp]
/-! ### methods -/
def HasM (K : PySem.W.Frag) (C : Addr) (m q : Str) (st : Stmt) : Prop := ∃ f fd, FunD K m q (defArgs st) (defBody st) (defScope st) [] [] f fd ∧ Meth K C m f
abbrev Me (P : Program) (w : World) (K : PySem.W.Frag) (mg : Str → Option Value) (base : Heap) (C : Addr) (k : Nat) (m : Str) (ps : List Str) (sp : Sp) : Prop := ∃ f fd, FnOk P w K mg base CX0 k f fd ps sp ∧ Meth K C m f ∧ Binds K fd ps []
section
variable {P : Program} {w : World} {K : PySem.W.Frag} {mg : Str → Option Value} {base : Heap}
theorem met_of {C : Addr} {m q : Str} {st : Stmt} {N ps : List Str} {k : Nat} {sp : Sp} (h : HasM K C m q st) (S : FnScope N ps (defScope st))
    (bd : ∀ (kV doc pm : Value) (an : Option Addr) (cdv ct : Value) (us : List Value), us.length = ps.length → bindArgs (PySem.W.fnOf m q (defArgs st) (defBody st) (defScope st) .none kV doc pm an cdv ct) ⟨us, []⟩ = pure (ps.zip us))
    (len : ∀ vs H Q E, sp vs H Q E → vs.length = ps.length)
    (body : ∀ (f : Addr) (cdv : Value) (A : Around) (outer : List Env) (s : Shared) (H : Hp) (vs : List V) (Q : VK) (E : XK), Room k (A.deeper (envOfC q (defScope st) s.heap.objs.size f cdv)) → sp vs H Q E →
      ∃ t, PSs (cxOf CX0 P w K mg base N q (defScope st) f cdv A outer s H E).nox (defBody st) t ∧ t { nx := fun _ H' => Q .non H', rt := Q } (start N vs) H) : Me P w K mg base C (k + 1) m ps sp := by
  obtain ⟨f, fd, F, g⟩ := h
  exact ⟨f, fd, F.ok S len (fun cdv A outer s H vs Q E hr h => let ⟨t, ht, q⟩ := body f cdv A outer s H vs Q E hr h; ⟨t, PSs.nox ht, q⟩), g, F.bindsN bd⟩
abbrev N_Frame_is_of_kind : List Str := ["self", "value", "kind"]
abbrev P_Frame_is_of_kind : List Str := ["self", "value", "kind"]
theorem sc_Frame_is_of_kind : FnScope N_Frame_is_of_kind P_Frame_is_of_kind (defScope s_Frame_is_of_kind) := ⟨rfl, rfl, rfl, by decide +kernel, rfl, by decide +kernel, by decide +kernel⟩
def spKind (C : Addr) : Sp := fun vs H Q _ => ∃ (x : Addr) (va vp vv : V) (ps : List (Str × Str)) (ns us : List Str) (z k : Str), vs = [.ref x, .str z, .str k] ∧ FrameAt C H x va vp vv ps ns us ∧ z ∈ allN ps ns us ∧ Q (.bl (decide (kindF ps ns z = k))) H
theorem ok_kind (T : Bt mg) {C : Addr} (X : Fx K mg C) (h : HasM K C "_is_of_kind" "Frame._is_of_kind" s_Frame_is_of_kind) : Me P w K mg base C 1 "_is_of_kind" P_Frame_is_of_kind (spKind C) := by
  refine met_of h sc_Frame_is_of_kind (fun _ _ _ _ _ _ us hl => match us, hl with | [_, _, _], _ => rfl) (fun vs H Q E h => ?_) (fun f cdv A outer s H vs Q E hr h => ?_)
  · obtain ⟨x, va, vp, vv, ps, ns, us, z, k, rfl, _⟩ := h
    rfl
  · obtain ⟨x, va, vp, vv, ps, ns, us, z, k, rfl, fr, hz, q⟩ := h
    refine ⟨_, (pss_one (ps_ret (pe_and (pe_callB call_isi (by rfl) T.isinstance (by decide +kernel) (pa_cons (pv 1) (pa_cons (pe_bltn (v := .ty "str") (by rfl) T.str (by decide +kernel) rfl) pa_nil))) (pe_one (pe_cmpR op_eq (pe_dget1 (hu_of hr) (pe_fld (pv 0) rfl) (pv 1) ⟨rfl, rfl, rfl, rfl⟩) (pv 2) (nomark _)))))), ?_⟩
    obtain ⟨⟨dx, LB, LT, KD, hx, hlb, hlt, hkd⟩, da, dp, dv, nd, _⟩ := fr
    refine ⟨_, rfl, _, _, _, _, _, rfl, .ty _, (Dv.str (ex := fun _ => True) (H := H) z).ty, kitS (.str z), _, rfl, iteT ?_⟩
    refine ⟨_, rfl, x, C, dx, _, _, rfl, hx, X.cl, X.n6, rfl, KD, rfl, .inl ⟨_, .inl hkd⟩, _, rfl, _, DGet.k (k := .inr z) hkd, ?_⟩
    rw [kl_val nd hz]
    refine ⟨_, rfl, rfl, ?_⟩
    rw [show decide ((some (V.str (kindF ps ns z))).getD V.non = V.str k) = decide (kindF ps ns z = k) from decide_eq_decide.mpr ⟨fun e => by injection e, fun e => congrArg V.str e⟩]
    exact q
theorem kl_get {ps : List (Str × Str)} {ns us : List Str} (nd : (allN ps ns us).Nodup) (z : Str) : valV (dictV (kl ps ns us)) (.inr z) = if z ∈ allN ps ns us then some (.str (kindF ps ns z)) else none := by
  by_cases hz : z ∈ allN ps ns us
  · rw [if_pos hz, kl_val nd hz]
  · rw [if_neg hz, dictV_val (fun z => V.str (kindF ps ns z)) (kl ps ns us) ?_ z, if_neg (fun q => hz ((kl_mem _ _ _ _).mp q))]
    intro q hq
    unfold kl at hq
    rcases List.mem_append.mp hq with hq | hq
    · obtain ⟨p, hp, hq⟩ := List.mem_flatMap.mp hq
      rcases List.mem_cons.mp hq with rfl | hq
      · exact congrArg V.str (kind_array nd p.1 (List.mem_map.mpr ⟨p, hp, rfl⟩)).symm
      · rcases List.mem_cons.mp hq with rfl | hq
        · exact congrArg V.str (kind_length nd p.2 (List.mem_map.mpr ⟨p, hp, rfl⟩)).symm
        · cases hq
    · rcases List.mem_append.mp hq with hq | hq
      · obtain ⟨y, hy, rfl⟩ := List.mem_map.mp hq
        exact congrArg V.str (kind_position nd y hy).symm
      · obtain ⟨y, hy, rfl⟩ := List.mem_map.mp hq
        exact congrArg V.str (kind_value nd y hy).symm
def hasD (ps : List (Str × Str)) (ns us : List Str) : PyData → Bool
  | .str z => decide (z ∈ allN ps ns us)
  | _ => false
abbrev N_Frame_contains : List Str := ["self", "value"]
abbrev P_Frame_contains : List Str := ["self", "value"]
theorem sc_Frame_contains : FnScope N_Frame_contains P_Frame_contains (defScope s_Frame_contains) := ⟨rfl, rfl, rfl, by decide +kernel, rfl, by decide +kernel, by decide +kernel⟩
def spHas (C : Addr) : Sp := fun vs H Q _ => ∃ (ex : Addr → Prop) (x : Addr) (va vp vv : V) (ps : List (Str × Str)) (ns us : List Str) (v : V) (d : PyData), vs = [.ref x, v] ∧ FrameAt C H x va vp vv ps ns us ∧ Dv ex H v d ∧ Q (.bl (hasD ps ns us d)) H
theorem ok_contains (T : Bt mg) {C : Addr} (X : Fx K mg C) (h : HasM K C "__contains__" "Frame.__contains__" s_Frame_contains) : Me P w K mg base C 1 "__contains__" P_Frame_contains (spHas C) := by
  refine met_of h sc_Frame_contains (fun _ _ _ _ _ _ us hl => match us, hl with | [_, _], _ => rfl) (fun vs H Q E h => ?_) (fun f cdv A outer s H vs Q E hr h => ?_)
  · obtain ⟨ex, x, va, vp, vv, ps, ns, us, v, d, rfl, _⟩ := h
    rfl
  · obtain ⟨ex, x, va, vp, vv, ps, ns, us, v, d, rfl, fr, dv', q⟩ := h
    refine ⟨_, (pss_one (ps_ret (pe_and (pe_callB call_isi (by rfl) T.isinstance (by decide +kernel) (pa_cons (pv 1) (pa_cons (pe_bltn (v := .ty "str") (by rfl) T.str (by decide +kernel) rfl) pa_nil))) (pe_one (pe_cmp (pc_din (hu_of hr) (pv 1) (pe_fld (pv 0) rfl)) rfl))))), ?_⟩
    obtain ⟨⟨dx, LB, LT, KD, hx, hlb, hlt, hkd⟩, da, dp, dv, nd, _⟩ := fr
    refine ⟨_, rfl, _, _, _, _, _, rfl, .ty _, dv'.ty, kitS d, _, rfl, ?_⟩
    cases e : isStrD d with
    | false =>
      have no : hasD ps ns us d = false := by cases d <;> first | rfl | cases e
      rw [no] at q
      exact iteF q
    | true =>
      obtain ⟨z, rfl⟩ : ∃ z, d = .str z := by cases d <;> first | exact ⟨_, rfl⟩ | cases e
      cases dv'.strI
      refine iteT ⟨_, rfl, _, rfl, x, C, dx, _, _, rfl, hx, X.cl, X.n6, rfl, KD, _, rfl, DGet.k (k := .inr z) hkd, ?_⟩
      rw [kl_get nd z]
      have e2 : (if z ∈ allN ps ns us then some (V.str (kindF ps ns z)) else none).isSome = hasD ps ns us (.str z) := by
        by_cases hz : z ∈ allN ps ns us
        · rw [if_pos hz]; exact (decide_eq_true hz).symm
        · rw [if_neg hz]; exact (decide_eq_false hz).symm
      rw [e2]
      exact q
abbrev N_Frame_is_fresh : List Str := ["self", "value"]
abbrev P_Frame_is_fresh : List Str := ["self", "value"]
theorem sc_Frame_is_fresh : FnScope N_Frame_is_fresh P_Frame_is_fresh (defScope s_Frame_is_fresh) := ⟨rfl, rfl, rfl, by decide +kernel, rfl, by decide +kernel, by decide +kernel⟩
def freshD (ps : List (Str × Str)) (ns us : List Str) (d : PyData) : Bool := nameD d && !hasD ps ns us d
def spFresh (C : Addr) : Sp := fun vs H Q _ => ∃ (ex : Addr → Prop) (x : Addr) (va vp vv : V) (ps : List (Str × Str)) (ns us : List Str) (v : V) (d : PyData), vs = [.ref x, v] ∧ FrameAt C H x va vp vv ps ns us ∧ Dv ex H v d ∧ cost d ≤ 8000000 ∧ ∀ H', Same H H' → Q (.bl (freshD ps ns us d)) H'
theorem ok_fresh (T : Bt mg) {C : Addr} (X : Fx K mg C) (h : HasM K C "is_fresh" "Frame.is_fresh" s_Frame_is_fresh) (C1 : Ca P w K mg base 1 "is_name" P_is_name (spJudge nameD)) : Me P w K mg base C 2 "is_fresh" P_Frame_is_fresh (spFresh C) := by
  obtain ⟨_, _, c_is_name⟩ := C1
  refine met_of h sc_Frame_is_fresh (fun _ _ _ _ _ _ us hl => match us, hl with | [_, _], _ => rfl) (fun vs H Q E h => ?_) (fun f cdv A outer s H vs Q E hr h => ?_)
  · obtain ⟨ex, x, va, vp, vv, ps, ns, us, v, d, rfl, _⟩ := h
    rfl
  · obtain ⟨ex, x, va, vp, vv, ps, ns, us, v, d, rfl, fr, dv', hc, q⟩ := h
    refine ⟨_, (pss_one (ps_ret (pe_and (pe_call c_is_name.1 (hr.mono (by decide)) rfl c_is_name.2.1 c_is_name.2.2.1 c_is_name.2.2.2 .nil pass0 (pa_cons (pv 1) pa_nil)) (pe_one (pe_cmp (pc_dnotin (hu_of hr) (pv 1) (pe_fld (pv 0) rfl)) rfl))))), ?_⟩
    obtain ⟨dx, LB, LT, KD, hx, hlb, hlt, hkd⟩ := fr.ob
    refine ⟨_, rfl, ex, _, d, rfl, dv', hc, fun H2 sm => ?_⟩
    have q2 := q H2 sm
    unfold freshD at q2
    cases e : nameD d with
    | false =>
      rw [e] at q2
      exact ⟨_, rfl, iteF q2⟩
    | true =>
      rw [e] at q2
      obtain ⟨z, rfl, _⟩ := nameD_str e
      cases dv'.strI
      refine ⟨_, rfl, iteT ?_⟩
      refine ⟨_, rfl, _, rfl, x, C, dx, _, _, rfl, sm _ _ hx, X.cl, X.n6, rfl, KD, _, rfl, DGet.k (k := .inr z) (sm _ _ hkd), ?_⟩
      rw [kl_get fr.nd z]
      have e2 : (!(if z ∈ allN ps ns us then some (V.str (kindF ps ns z)) else none).isSome) = (true && !hasD ps ns us (.str z)) := by
        by_cases hz : z ∈ allN ps ns us
        · rw [if_pos hz, show hasD ps ns us (.str z) = true from decide_eq_true hz]; rfl
        · rw [if_neg hz, show hasD ps ns us (.str z) = false from decide_eq_false hz]; rfl
      rw [e2]
      exact q2
abbrev N_Frame_len : List Str := ["self"]
abbrev P_Frame_len : List Str := ["self"]
theorem sc_Frame_len : FnScope N_Frame_len P_Frame_len (defScope s_Frame_len) := ⟨rfl, rfl, rfl, by decide +kernel, rfl, by decide +kernel, by decide +kernel⟩
def spLen (C : Addr) : Sp := fun vs H Q _ => ∃ (x : Addr) (va vp vv : V) (ps : List (Str × Str)) (ns us : List Str), vs = [.ref x] ∧ FrameAt C H x va vp vv ps ns us ∧ Q (.int (allN ps ns us).length) H
theorem ok_len (T : Bt mg) {C : Addr} (X : Fx K mg C) (h : HasM K C "__len__" "Frame.__len__" s_Frame_len) : Me P w K mg base C 1 "__len__" P_Frame_len (spLen C) := by
  refine met_of h sc_Frame_len (fun _ _ _ _ _ _ us hl => match us, hl with | [_], _ => rfl) (fun vs H Q E h => ?_) (fun f cdv A outer s H vs Q E hr h => ?_)
  · obtain ⟨x, va, vp, vv, ps, ns, us, rfl, _⟩ := h
    rfl
  · obtain ⟨x, va, vp, vv, ps, ns, us, rfl, fr, q⟩ := h
    refine ⟨_, (pss_one (ps_ret (pe_callB call_lenD (by rfl) T.len (by decide +kernel) (pa_cons (pe_fld (pv 0) rfl) pa_nil)))), ?_⟩
    obtain ⟨⟨dx, LB, LT, KD, hx, hlb, hlt, hkd⟩, da, dp, dv, nd, _⟩ := fr
    refine ⟨_, rfl, x, C, dx, _, _, rfl, hx, X.cl, X.n6, rfl, KD, _, rfl, hkd, ?_⟩
    have := kinds_count ps ns us
    rw [show (dictV (kl ps ns us)).length = (allN ps ns us).length from Nat.le_antisymm this.1 (this.2.mpr nd)]
    exact q
abbrev N_Frame_str : List Str := ["self", "arrays", "array", "length"]
abbrev P_Frame_str : List Str := ["self"]
theorem sc_Frame_str : FnScope N_Frame_str P_Frame_str (defScope s_Frame_str) := ⟨rfl, rfl, rfl, by decide +kernel, rfl, by decide +kernel, by decide +kernel⟩
def rowS (ps : List (Str × Str)) (ns us : List Str) : Str := blanks (ps.map pairT) ++ " | " ++ blanks ns ++ " | " ++ blanks us
def spStr (C : Addr) : Sp := fun vs H Q _ => ∃ (x : Addr) (va vp vv : V) (ps : List (Str × Str)) (ns us : List Str), vs = [.ref x] ∧ FrameAt C H x va vp vv ps ns us ∧ ∀ H', Same H H' → Q (.str (rowS ps ns us)) H'
theorem ok_str (T : Bt mg) {C : Addr} (X : Fx K mg C) (h : HasM K C "__str__" "Frame.__str__" s_Frame_str) (C1 : Ca P w K mg base 1 "_with_blanks" P_with_blanks (spBlanks K)) : Me P w K mg base C 2 "__str__" P_Frame_str (spStr C) := by
  obtain ⟨_, _, c__with_blanks⟩ := C1
  refine met_of h sc_Frame_str (fun _ _ _ _ _ _ us hl => match us, hl with | [_], _ => rfl) (fun vs H Q E h => ?_) (fun f cdv A outer s H vs Q E hr h => ?_)
  · obtain ⟨x, va, vp, vv, ps, ns, us, rfl, _⟩ := h
    rfl
  · obtain ⟨x, va, vp, vv, ps, ns, us, rfl, fr, q⟩ := h
    refine ⟨_, (pss_cons (ps_set (i := 1) sc_Frame_str.nd rfl (.inl rfl) (pe_call c__with_blanks.1 (hr.mono (by decide)) rfl c__with_blanks.2.1 c__with_blanks.2.2.1 c__with_blanks.2.2.2 .nil pass0 (pa_cons (pe_lc (own := [("array", 2), ("length", 3)]) (g := (gTup K 2 (gCons (gName 2) (gCons (gName 3) gNil)))) (tt := tYes) (by rfl) sc_Frame_str.nd (pi_tup (pe_fld (pv 0) rfl)) (blkOk_by (own := [("array", 2), ("length", 3)]) (N := ["self", "arrays", "array", "length"]) (sc := defScope s_Frame_str) (by decide +kernel)) (fun _ _ _ _ _ => pg_tup (by rfl) (pgs_cons (pg_name (i := 2) sc_Frame_str.nd rfl (Or.inl rfl)) (pgs_cons (pg_name (i := 3) sc_Frame_str.nd rfl (Or.inl rfl)) pgs_nil))) (fun _ _ _ _ _ => pts_nil) (fun _ _ _ _ _ => (pe_joined (.cons (pe_fmt (pv 2)) (.cons pe_str (.cons (pe_fmt (pv 3)) .nil)))))) pa_nil)))
      (pss_one (ps_ret (pe_joined (.cons (pe_fmt (pv 1)) (.cons pe_str (.cons (pe_fmt (pe_call c__with_blanks.1 (hr.mono (by decide)) rfl c__with_blanks.2.1 c__with_blanks.2.2.1 c__with_blanks.2.2.2 .nil pass0 (pa_cons (pe_fld (pv 0) rfl) pa_nil))) (.cons pe_str (.cons (pe_fmt (pe_call c__with_blanks.1 (hr.mono (by decide)) rfl c__with_blanks.2.1 c__with_blanks.2.2.1 c__with_blanks.2.2.2 .nil pass0 (pa_cons (pe_fld (pv 0) rfl) pa_nil))) .nil))))))))), ?_⟩
    obtain ⟨dx, LB, LT, KD, hx, hlb, hlt, hkd⟩ := fr.ob
    obtain ⟨aA, xA, rfl, tA, dA⟩ := fr.da.tupI
    refine ⟨_, rfl, x, C, dx, _, _, rfl, hx, X.cl, X.n1, rfl, aA, rfl, ⟨_, tA.sq⟩, fun D hD => ?_⟩
    have okA : ∀ q ∈ ps, q.1.length ≤ 8 ∧ q.2.length ≤ 8 := fun q hq => ⟨(fr.ok q.1 (List.mem_append.mpr (.inl (List.mem_map.mpr ⟨q, hq, rfl⟩)))).2.1, (fr.ok q.2 (List.mem_append.mpr (.inr (List.mem_append.mpr (.inl (List.mem_map.mpr ⟨q, hq, rfl⟩)))))).2.1⟩
    have okN : ∀ z ∈ ns, 1 ≤ z.length ∧ z.length ≤ 8 := fun z hz => let n := fr.ok z (List.mem_append.mpr (.inr (List.mem_append.mpr (.inr (List.mem_append.mpr (.inl hz)))))); ⟨n.1, n.2.1⟩
    have okU : ∀ z ∈ us, 1 ≤ z.length ∧ z.length ≤ 8 := fun z hz => let n := fr.ok z (List.mem_append.mpr (.inr (List.mem_append.mpr (.inr (List.mem_append.mpr (.inr hz)))))); ⟨n.1, n.2.1⟩
    have lA := fr.l1
    have lN := fr.l2
    have lU := fr.l3
    have nA := dA.len
    rw [List.length_map] at nA
    have le0 : (Str.empty : Str).length = 0 := by decide +kernel
    have le1 : (":" : Str).length = 1 := by decide +kernel
    have le3 : (" | " : Str).length = 3 := by decide +kernel
    refine lc_o (walk_tup (K := K) (a := aA) (xs := xA)) (te := fun σ H Q => tJs [tFmt (tVar 2), tC (V.str ":"), tFmt (tVar 3)] Str.empty σ H fun out H1 => Q (V.str out) H1) (fun i => ps[i]?.map fun q => V.str (pairT q)) (by rw [sizeLine_eq]; omega) hD (fun Hx sm => ((Kp.same (ex := fun _ => True) sm).tup tA).sq) ?_ ?_
    · rintro i y Hx H' Nx hi sm hDx ⟨rfl, hy⟩ hno hyes
      obtain ⟨e, he, dve⟩ := dA.get hy
      have hi' : i < ps.length := by omega
      rw [List.getElem?_map, List.getElem?_eq_getElem hi'] at he
      cases he
      obtain ⟨b, rfl, hb⟩ := dve.pairI
      have hq := okA _ (List.getElem_mem hi')
      refine ⟨b, _, rfl, ((Kp.same (ex := fun _ => True) sm).tup hb).sq, rfl, _, _, rfl, _, _, rfl, rfl, ?_⟩
      refine ⟨rfl, yes (⟨_, rfl, .inl ⟨_, rfl, ?_, _, rfl, ?_, _, rfl, ?_, _, rfl, .inl ⟨_, rfl, ?_, _, rfl, ?_, ?_⟩⟩⟩)⟩
      · rw [sizeLine_eq]; omega
      · rw [sizeLine_eq, strLen_append]; omega
      · rw [sizeLine_eq, strLen_append, strLen_append]; omega
      · rw [sizeLine_eq]; omega
      · rw [sizeLine_eq, strLen_append, strLen_append, strLen_append]; omega
      · rw [str_emp]
        exact hyes _ (by rw [List.getElem?_eq_getElem hi']; rfl) _ Same.refl
    · intro Hx sm hDx
      have hDx2 : Hx D = some (.lst ((ps.map pairT).map V.str)) := by
        rw [List.map_map]
        rw [nA, range_list] at hDx
        exact hDx
      obtain ⟨aP, xP, rfl, tP, dP⟩ := fr.dp.tupI
      obtain ⟨aU, xU, rfl, tU, dU⟩ := fr.dv.tupI
      have b1 := blanks_le (ps.map pairT) 17 (fun z hz => by
        obtain ⟨q, hq, rfl⟩ := List.mem_map.mp hz
        have := okA q hq
        rw [pairT_len]; omega)
      have b2 := blanks_le ns 8 fun z hz => (okN z hz).2
      have b3 := blanks_le us 8 fun z hz => (okU z hz).2
      rw [List.length_map] at b1
      have hx2 := sm _ _ hx
      refine ⟨D, _, rfl, .inl (SqL.of hDx2), by rw [List.length_map]; omega, fun z hz => ?_, ?_⟩
      · obtain ⟨q, hq, rfl⟩ := List.mem_map.mp hz
        have := okA q hq
        rw [pairT_len]; omega
      · refine ⟨_, rfl, .inl ⟨_, rfl, by rw [sizeLine_eq]; omega, _, rfl, by rw [sizeLine_eq, strLen_append]; omega, _, rfl, by rw [sizeLine_eq, strLen_append, strLen_append]; omega, ?_⟩⟩
        refine ⟨_, rfl, x, C, dx, _, _, rfl, hx2, X.cl, X.n2, rfl, aP, ns, rfl, .inr ?_, by omega, fun z hz => ⟨(okN z hz).1, by have := (okN z hz).2; omega⟩, ?_⟩
        · exact (((Kp.same (ex := fun _ => True) sm).tup tP).sq (K := K)) |> fun h => by rw [dP.strE] at h; exact h
        refine .inl ⟨_, rfl, by rw [sizeLine_eq]; omega, _, rfl, by rw [sizeLine_eq, strLen_append, strLen_append, strLen_append]; omega, _, rfl, by rw [sizeLine_eq, strLen_append, strLen_append, strLen_append, strLen_append]; omega, ?_⟩
        refine ⟨_, rfl, x, C, dx, _, _, rfl, hx2, X.cl, X.n3, rfl, aU, us, rfl, .inr ?_, by omega, fun z hz => ⟨(okU z hz).1, by have := (okU z hz).2; omega⟩, ?_⟩
        · exact (((Kp.same (ex := fun _ => True) sm).tup tU).sq (K := K)) |> fun h => by rw [dU.strE] at h; exact h
        refine .inl ⟨_, rfl, by rw [sizeLine_eq]; omega, _, rfl, by rw [sizeLine_eq, strLen_append, strLen_append, strLen_append, strLen_append, strLen_append]; omega, ?_⟩
        have := q Hx sm
        unfold rowS at this
        rw [str_emp]
        exact this
end
end Kx
namespace Kx
open PySem PySem.Spec PyProof.Rows L2
/-! ### list == [] whatever the items are -/
section
variable {X : Cx}
def rEqL0 (K : PySem.W.Frag) : R2 := fun x y H Q => ∃ a b xs, x = .ref a ∧ y = .ref b ∧ SqL K H a xs ∧ SqL K H b [] ∧ Q (.bl xs.isEmpty) H
theorem op_eqL0 (hu : X.A.units < cLine) : OpR X (compareOp .Eq) (rEqL0 X.K) := by
  intro pins s σ H x y v u Q I rx ry h
  obtain ⟨a, b, xs, rfl, rfl, h1, h2, q⟩ := h
  cases rx
  cases ry
  obtain ⟨its, r, p1, _⟩ := I.list h1
  obtain ⟨its2, r2, p2, _⟩ := I.list h2
  cases r2
  cases r with
  | nil => exact SeqAt.eq_listAt (e := fun _ => true) p1.isList p2.isList rfl hu (fun j hj _ => absurd hj (by simp)) ⟨.bl true, H, I, rfl, q⟩
  | cons r0 r1 => exact SeqAt.eq_list_lengthsAt p1.isList p2.isList (by simp) hu ⟨.bl false, H, I, rfl, q⟩
end
/-! ### set(list of texts) -/
section
variable {P : Program} {w : World} {A : Around} {E : Value → Shared → Prop} {s : Shared}
abbrev SetS (P : Program) (w : World) (h : Heap) (S : Addr) (xs : List Str) : Prop := h.SetOf (PySem.strKind P w) S (fun k => decide (k ∈ xs)) (uniq xs).length
theorem SetS.at {h h' : Heap} {S : Addr} {xs : List Str} (q : SetS P w h S xs) (k : ∀ o, h.get? S = some o → h'.get? S = some o) : SetS P w h' S xs := by
  obtain ⟨o, es, ep, t, ho, rest⟩ := q
  exact ⟨o, es, ep, t, k o ho, rest⟩
theorem upd_strs {I : Addr} {fp wr : List Addr} {G : Array GenState → Array GenState → Prop} {n : Nat} {Pv : Nat → Value → Prop} {St : Nat → Shared → Prop} {R : Result → Shared → Prop}
    (W : WalksS P w A.in1 I fp wr G n Pv St) (S : Addr) (hSf : S ∉ fp) (xs : List Str) (hn : n = xs.length) (hb : xs.length + 1 < scanBound) (hval : ∀ i v, Pv i v → ∃ y t, xs[i]? = some y ∧ v = .str y t) :
    ∀ (k i : Nat) (s : Shared), n - i = k → i ≤ n → St i s → SetS P w s.heap S (xs.take i) → (∀ s', Moved (S :: wr) G s s' → SetS P w s'.heap S xs → R (.ok (.ret .none)) s') →
      codeAny (model P w) A (.builtin "set.update.loop" ⟨[.ref S, .ref I], []⟩) R s := by
  have noS : S ∉ wr := fun h => hSf (W.sub _ h)
  have more : ∀ b ∈ wr, b ∈ S :: wr := fun b hb => List.mem_cons_of_mem _ hb
  intro k
  induction k with
  | zero =>
    intro i s hk hi st q fin
    obtain rfl : i = n := by omega
    rw [List.take_of_length_le (by omega)] at q
    refine codeAny_builtin PyProof.Rows.F.entry_set_update_loop ?_
    rw [Around.under_plainId PyProof.Rows.F.plain_set_update_loop _]
    refine wpAny_bind (m := pyNext (.ref I)) (W.done s _ _ st fun s' mv => ?_)
    exact wpAny_pure (fin s' (mv.mono more) (q.at fun o e => mv.heap S o noS e))
  | succ k ih =>
    intro i s hk hi st q fin
    have lt : i < n := by omega
    refine codeAny_builtin PyProof.Rows.F.entry_set_update_loop ?_
    rw [Around.under_plainId PyProof.Rows.F.plain_set_update_loop _]
    refine wpAny_bind (m := pyNext (.ref I)) (W.item i s _ _ lt st fun v s' pv st' mv => ?_)
    obtain ⟨y, t, hy, rfl⟩ := hval i v pv
    have q' := q.at fun o e => mv.heap S o noS e
    have lu := uniq_len (xs.take i)
    rw [List.length_take] at lu
    refine wpAny_bind (m := holding [Value.str y t] (setAdd S (.str y t))) (wpAny_holding ?_)
    unfold setAdd
    refine wpAny_holding (wpAny_bind ((PySem.strKind P w).pyHash (k := y) (strKind_is _ _ _ _) ?_))
    refine wpAny_setAddHashed_of (knd := PySem.strKind P w) (s := { s' with toks := s'.toks + 1 }) (strKind_is _ _ _ _) rfl q' (by omega) fun h' same q2 => ?_
    have q3 : SetS P w h' S (xs.take (i + 1)) := by
      have ey : xs.take (i + 1) = xs.take i ++ [y] := by rw [List.take_succ, hy]; rfl
      refine PyProof.Rows.SetOf_congr q2 (fun z => ?_) ?_
      · rw [ey]
        by_cases h1 : z ∈ xs.take i <;> by_cases h2 : z = y <;> simp [h1, h2]
      · rw [ey, uniq_snoc]
        unfold uniqF
        by_cases h1 : y ∈ xs.take i
        · rw [decide_eq_true h1, if_pos rfl, if_pos ((uniq_mem _ _).mpr h1)]
        · rw [decide_eq_false h1, if_neg Bool.false_ne_true, if_neg (fun z => h1 ((uniq_mem _ _).mp z)), List.length_append]
          rfl
    have keep : ∀ b, b ≠ S → ∀ o, s'.heap.get? b = some o → h'.get? b = some o := fun b hb o e => by rw [same.2 b hb]; exact e
    exact wpAny_pure ⟨plainId_quiet PyProof.Rows.F.plain_set_update_loop _, ih (i + 1) _ (by omega) lt (W.frame _ s' _ _ st' (Nat.le_succ _) fun b hb o e => keep b (fun z => hSf (z ▸ hb)) o e) q3 fun s'' mv2 q4 =>
      fin s'' (Moved.trans W.gtrans ((mv.mono more).then_heap (Nat.le_succ _) fun b o hb e => keep b (fun z => hb (by rw [z]; exact List.mem_cons_self)) o e) mv2) q4⟩
theorem call_setS {l : Addr} {items : Array Value} {xs : List Str} {Q : Value → Shared → Prop} (hh : A.handled = none) (hl : s.heap.IsList l items) (hi : StrsAre items.toList xs) (hb : xs.length + 1 < scanBound)
    (h : ∀ (h' : Heap) (tk : Nat), SetS P w h' s.heap.objs.size xs → (∀ b o, s.heap.get? b = some o → h'.get? b = some o) → Q (.ref s.heap.objs.size) { s with heap := h', toks := tk }) :
    wpAny (model P w) A (call (.type "set") [.ref l]) Q E s := by
  obtain ⟨c, tl, hmro⟩ := PySem.F.called_set.mro
  have hmade := PySem.F.called_set.made
  have hsub := PySem.F.called_set.sub
  refine wpAny_call (codeAny_of_tree ?_)
  show wpAny _ _ (callAny (.type "set") _) _ _ _
  refine wpAny_pure ⟨Code.quiet_builtin _ (by decide +kernel), codeAny_builtin PySem.F.entry_type_call ?_⟩
  rw [Around.under_plain (weight_type_call_type "set" [.ref l] []) rfl]
  have h1 := PySem.F.called_set.notType
  have h2 := PySem.F.called_set.canCreate
  have hct := PySem.F.typeCall_set_1 (.ref l)
  repeat (any_goals (first | assumption | wp_step))
  let so : Bool → Obj := fun led => { cls := .type "set", dict := none, data := .set #[] 0 (.fresh 0 0 led) }
  refine codeAny_mono (code_set_new_1 (.ref l) (E := E) (Q₁ := fun obj t => ∃ led : Bool, obj = .ref s.heap.objs.size ∧ t = { s with heap := s.heap.push (so led) }) fun led => ⟨led, rfl, rfl⟩) fun r t hr => ?_
  cases r with
  | error e => exact hr
  | ok fl =>
    cases fl with
    | ret obj =>
      obtain ⟨led, rfl, rfl⟩ := hr
      have hS : (s.heap.push (so led)).get? s.heap.objs.size = some (so led) := Heap.get?_push_size _ rfl
      have hT : Shared.TypeIs { s with heap := s.heap.push (so led) } (.ref s.heap.objs.size) "set" := ⟨_, hS, rfl⟩
      have hli := PySem.F.called_set.init.lookup
      have hbi := PySem.F.called_set.init.bind (.ref s.heap.objs.size)
      repeat (any_goals (first | assumption | wp_step))
      refine codeAny_mono (codeAny_call_builtin (R := wants (fun r t => r = .none ∧ ∃ h' tk, t = { s with heap := h', toks := tk } ∧ SetS P w h' s.heap.objs.size xs ∧ (∀ b o, s.heap.get? b = some o → h'.get? b = some o)) E)
        PySem.F.called_set.init.plain PySem.F.entry_set_init (check_set_init_1 hT ?_)) fun r t hr => ?_
      · obtain ⟨ol, hol, hcl, nl, hdl⟩ := hl
        obtain ⟨ocls, odict, odata, oslots⟩ := ol
        simp only at hcl hdl
        subst hcl; subst hdl
        have hol' : (s.heap.push (so led)).get? l = some { cls := .type "list", dict := odict, data := .seq items nl, slots := oslots } := Heap.get?_push_of_some _ hol
        have hsls := PySem.F.sub_list_set
        have hslf := PySem.F.sub_list_frozenset
        have hne : (Value.type "list" == Value.type "dict") = false := by decide
        have hl1 : (s.heap.push (so led)).IsList l items := ⟨_, hol', rfl, nl, rfl⟩
        have lS : l < s.heap.objs.size := Heap.lt_size hol
        unfold Builtin.«set.__init__» noKeywords Builtin.Frozenset.updateFrom
        generalize hPI : pyIter = PI
        wp_walk
        subst hPI
        refine wpAny_pyIter_list hl1 (wpAny_bind (wpAny_runValue ?_))
        have hh3 : A.in1.in1.in1.handled = none := by simp [hh]
        have neI : l ≠ (s.heap.push (so led)).objs.size := by rw [Heap.size_push]; exact Nat.ne_of_lt (Nat.lt_succ_of_lt lS)
        have hSf : s.heap.objs.size ∉ [(s.heap.push (so led)).objs.size, l] := by
          rw [Heap.size_push]
          simp only [List.mem_cons, List.not_mem_nil, or_false, not_or]
          exact ⟨Nat.ne_of_lt (Nat.lt_succ_self _), Nat.ne_of_gt lS⟩
        have hsz : items.size = xs.length := by rw [← StrsAre.len_eq hi, Array.length_toList]
        refine upd_strs ((Walks.list hh3 _ l neI items).toS) s.heap.objs.size hSf xs hsz hb (fun i v hv => ?_) (items.size - 0) 0 _ (by omega) (Nat.zero_le _) ⟨⟨_, Heap.get?_push_size _ rfl, rfl, rfl⟩, (hl1.push _)⟩ ?_ (fun s' mv q => ?_)
        · have hv' : items.toList[i]? = some v := by rw [Array.getElem?_toList]; exact hv
          have hi' : i < xs.length := by rw [← hsz]; exact (Array.getElem?_eq_some_iff.mp hv).1
          obtain ⟨t, e⟩ := StrsAre.at hi (List.getElem?_eq_getElem hi')
          rw [hv'] at e
          exact ⟨xs[i], t, List.getElem?_eq_getElem hi', Option.some.inj e⟩
        · exact PyProof.Rows.SetOf_congr ((PyProof.Rows.setObjOf_fresh (knd := PySem.strKind P w) led).setOf (Heap.get?_push_of_some _ hS) (by unfold scanBound; omega)) (fun _ => rfl) rfl
        · obtain ⟨h', g', d', tk', os'⟩ := s'
          obtain rfl : g' = s.gens := mv.gens
          obtain rfl : d' = s.drawn := mv.drawn
          obtain rfl : os' = s.os := mv.os
          show wpAny _ _ _ _ _ _
          refine wpAny_pure ?_
          show wpAny _ _ (ret Value.none) _ _ _
          refine wpAny_pure ⟨rfl, h', tk', rfl, q, fun b o e => mv.heap b o ?_ (Heap.get?_push_of_some _ (Heap.get?_push_of_some _ e))⟩
          have := Heap.lt_size e
          rw [Heap.size_push]
          simp only [List.mem_cons, List.not_mem_nil, or_false, not_or]
          exact ⟨Nat.ne_of_lt this, Nat.ne_of_lt (Nat.lt_succ_of_lt this)⟩
      · cases r with
        | error e => exact hr
        | ok fl =>
          cases fl with
          | ret r =>
            obtain ⟨rfl, h', tk, rfl, q, kp⟩ := hr
            repeat (any_goals (first | assumption | wp_step))
            exact h _ _ q kp
          | _ => exact hr.elim
    | _ => exact hr.elim
end
section
variable {X : Cx}
/-- len(set(a list of texts)) -/
def tLenSetS (K : PySem.W.Frag) (ta : TE) : TE := fun σ H Q => ta σ H fun x H1 => ∃ l, ∃ xs : List Str, x = .ref l ∧ SqL K H1 l (xs.map V.str) ∧ xs.length ≤ 1000 ∧ Q (.int (uniq xs).length) H1
theorem pe_lenSetS {a : Expr} {ta : TE} {p p2 q pos : Pos} (hc : X.calm = true) (hg : Gl X "len") (hm : X.mg "len" = none) (hg2 : Gl X "set") (hm2 : X.mg "set" = none) (ha : PE X a ta)
    (na : starEach [a] X.env = (false, eval a X.env) :: starEach [] X.env := by rfl) : PE X (.Call (.Name "len" p) [.Call (.Name "set" p2) [a] [] q] [] pos) (tLenSetS X.K ta) := by
  refine ⟨fun pins s σ H Q I h => ?_⟩
  refine Call_ (ld_blt I hg hm boot_len (PyProof.Rows.callWith_builtin1 (PyProof.Rows.args_cons ?_ rfl) rfl rfl))
  refine Call_ (ld_blt I hg2 hm2 boot_set (PyProof.Rows.callWith_type1 (PyProof.Rows.args_cons (thn (ha.run pins s σ H _ I h) fun v t ⟨x, H1, I1, rx, l, xs, ex, hq, hl, k⟩ => PyProof.Rows.args_nil ?_) na) na rfl))
  subst ex
  cases rx
  obtain ⟨its, r, pl, _⟩ := I1.list hq
  refine call_setS (I1.ok.hd hc) pl.isList (by simpa using strsAre_of r) (by unfold scanBound; omega) fun h' tk hS hk => PyProof.Rows.args_nil ?_
  obtain ⟨o, es, ep, tb, ho, hex, hd, _, _, _, hf, hn⟩ := hS
  have I2 : Inv X pins σ H1 { t with heap := h', toks := tk } := I1.kept hk
  have lu := uniq_len xs
  exact call_len_set ho hex hd hf (by rw [hn]; omega) ⟨.int (uniq xs).length, H1, I2.tok _, ⟨_, by rw [hn]⟩, k⟩
end
end Kx
namespace Kx
open PySem PySem.Spec PyProof.Rows L2
section
variable {X : Cx} {CX : CXT} {k : Nat} {C f a dx : Addr} {fd : FuncData} {ps : List Str} {sp : Sp} {E : XK}
/-- x in o, by the own __contains__'s promise -/
def rInO (C : Addr) (sp : Sp) (E : XK) : R2 := fun x y H Q => ∃ a dx fs, y = .ref a ∧ H a = some (.ins C dx fs) ∧ sp [.ref a, x] H (fun v H' => ∃ b, v = .bl b ∧ Q (.bl b) H') E
theorem op_inO (c : Cls X.K C) (hs : PySem.W.findIn X.K (.ref C) "__contains__" = some (some (.ref f))) (hf : PySem.W.isFn X.K (.ref f) = true) (F : FnOk X.prog X.w X.K X.mg X.base CX k f fd ps sp) (hr : Room k X.A) (hb : Binds X.K fd ps [])
    (hx : Passes CX X E) : OpR X (compareOp .In) (rInO C sp E) := by
  intro pins s σ H x y v u Q I rx ry h
  obtain ⟨a, dx, fs, rfl, ha, q⟩ := h
  cases ry
  obtain ⟨mA, O, _⟩ := ins_get I.hok ha
  obtain ⟨od, J, _⟩ := O.look
  obtain ⟨m, fr⟩ := I.fr
  refine PySem.W.in_K fr I.ok.mod.kin J hs hf ?_
  refine wpAny_mono (run_fn (us := [.ref a, v]) (vs := [.ref a, x]) (ds := []) (dvs := []) F hr hb .nil hx I (.cons rfl (.cons rx .nil)) q) (fun r s' z => ?_) fun _ _ z => z
  obtain ⟨v', H', I', rv, b, rfl, qq⟩ := z
  cases (show r = Value.bool b from rv)
  exact wpAny_truthy_bool ⟨.bl b, H', I', rfl, qq⟩
end
/-! ### list(d.values()) -/
def dvO (p d : Addr) : HO := .ext fun h => h.IsValuesView p d
theorem dvO_ok {P : Program} {w : World} {H : Hp} {h : Heap} {p d : Addr} (e : h.IsValuesView p d) : ObjOk P w H h p (dvO p d) :=
  ⟨e, (let ⟨o, ho, _⟩ := e; ⟨o, ho⟩), fun h1 h2 q k => let ⟨o, ho, r⟩ := q; ⟨o, k _ ho, r⟩⟩
def tDvals (td : TE) : TE := fun σ H Q => td σ H fun x H1 => ∃ (d : Addr) (kvs : List (Key × V)), x = .ref d ∧ H1 d = some (.dK kvs) ∧ ∀ p, H1 p = none → Q (.ref p) (upd H1 p (dvO p d))
section
variable {X : Cx} {e : Expr} {td : TE} {apos cpos : Pos}
theorem pe_dvals (he : PE X e td) (hbase : attributeBase e "values" X.env (eval e X.env) = eval e X.env := by rfl) (hline : (apos.endLine == cpos.line) = true := by rfl) : PE X (.Call (.Attribute e "values" apos) [] [] cpos) (tDvals td) := by
  refine ⟨fun pins s σ H Q I h => ?_⟩
  refine wpAny_Call_method (T := "dict") (id := "dict.values") hbase rfl hline F.plainAttrs_dict F.slot_dict_values F.type_dict_values (thn (he.run pins s σ H _ I h) fun u s1 ⟨x, H1, I1, rx, d, kvs, ex, hd, q⟩ => ?_)
  subst ex
  obtain rfl : u = Value.ref d := rx
  obtain ⟨z, lo, vs, rel, dd⟩ := dk_rd I1.hok (.inl hd)
  refine ⟨dd.typeIs, dd.mapOf.noDict, ?_⟩
  have ev : (s1.heap.push { cls := .type "dict_values", data := .fields #[.ref d] }).IsValuesView s1.heap.objs.size d := ⟨_, Heap.get?_push_size _ rfl, rfl, rfl⟩
  have fin : EP X pins σ Q (.ref s1.heap.objs.size) { s1 with heap := s1.heap.push { cls := .type "dict_values", data := .fields #[.ref d] } } :=
    ⟨.ref s1.heap.objs.size, _, I1.laid (t' := s1.toks) (o := dvO s1.heap.objs.size d) (fun b ob e => Heap.get?_push_of_some _ e) (Nat.le_refl _) (dvO_ok ev), rfl, q _ (I1.hok.fresh (Nat.le_refl _))⟩
  show wpAny _ _ (callWith cpos (.builtin "dict.values") [.ref d] [] []) _ X.xe s1
  exact method_meetsIn F.slot_dict_values F.entry_dict_values rfl (PySem.evalArgs_none ⟨rfl, dd.typeIs, F.args_dict_values_1 _, _, meets_dict_values (mixKind X.prog X.w) d lo, ⟨vs, dd⟩, fin⟩)
theorem call_listV (hcalm : X.calm = true) : CallR X (.type "list") (fun xs H Q => ∃ (p d : Addr) (kvs : List (Key × V)), xs = [.ref p] ∧ H p = some (dvO p d) ∧ H d = some (.dK kvs) ∧ ∀ q, H q = none → Q (.ref q) (upd H q (.lst (kvs.map (·.2))))) := by
  intro pins s σ H xs us Q I r q
  obtain ⟨p, d, kvs, rfl, hp, hd, q⟩ := q
  obtain ⟨u, rfl, rx⟩ := vals1 r
  cases rx
  obtain ⟨z, lo, vs, rel, dd⟩ := dk_rd I.hok (.inl hd)
  obtain ⟨ep, hat⟩ := dd.dictAt
  have hv0 : s.heap.IsValuesView p d := (show ObjOk X.prog X.w H s.heap p (.ext fun h => h.IsValuesView p d) from I.hok p _ hp).1
  have lenv : vs.length ≤ sizeLine := by rw [← rel.length]; exact z
  refine PySem.W.kdl_call (PySem.W.kdl_values (knd := mixKind X.prog X.w) (kvs := vs) (ep := ep)) (I.ok.hd hcalm) ⟨hv0, hat⟩ lenv fun h' tk acc c' hk hD hacc => ?_
  have e2 : acc.toList = vs.map (·.2) := PySem.W.kdl_vals_eq acc.toList (by rw [Array.length_toList]; exact hacc.1) fun j v e => hacc.2 j v (by rw [← Array.getElem?_toList]; exact e)
  have hv : Vals (kvs.map (·.2)) acc.toList := by
    rw [e2]
    clear e2 hacc hat dd lenv z hd q
    induction rel with
    | nil => exact .nil
    | cons h t ih => exact .cons h.2 ih
  refine ⟨.ref s.heap.objs.size, upd H s.heap.objs.size (.lst (kvs.map (·.2))), I.laid (t' := tk) hk (Nat.le_refl _)
    (show ObjOk X.prog X.w _ _ _ (.lst (kvs.map (·.2))) from ⟨by rw [List.length_map]; exact z, acc.toList, c', hv, by rw [Array.toArray_toList]; exact hD⟩), rfl, q _ (I.hok.fresh (Nat.le_refl _))⟩
end
/-! ### == and != of data -/
section
variable {X : Cx}
def rEqDv : R2 := fun x y H Q => ∃ (ex ey : Addr → Prop) (d e : PyData), Dv ex H x d ∧ Dv ey H y e ∧ SeqAt.shaped d = true ∧ SeqAt.shaped e = true ∧ Q (.bl (PyData.eqv d e)) H
def rNeDv : R2 := fun x y H Q => ∃ (ex ey : Addr → Prop) (d e : PyData), Dv ex H x d ∧ Dv ey H y e ∧ SeqAt.shaped d = true ∧ SeqAt.shaped e = true ∧ Q (.bl (!PyData.eqv d e)) H
theorem op_eqDv {om : Obj} (hK : X.K.lookup sysModules = some om) (hu : X.A.units + 64 < cLine) : OpR X (compareOp .Eq) rEqDv := by
  intro pins s σ H x y v u Q I rx ry h
  obtain ⟨ex, ey, d, e, hd, he, sd, se, q⟩ := h
  have hsm : H sysModules = none := (I.bs _ _ (I.ok.mod.kin _ _ hK)).2
  obtain ⟨as, r1, _⟩ := Dv.reads I hsm d x v hd rx
  obtain ⟨bs, r2, _⟩ := Dv.reads I hsm e y u he ry
  exact SeqAt.compareEq_shaped r1 r2 sd se hu ⟨.bl _, H, I, rfl, q⟩
theorem op_neDv {om : Obj} (hK : X.K.lookup sysModules = some om) (hu : X.A.units + 64 < cLine) : OpR X (compareOp .NotEq) rNeDv := by
  intro pins s σ H x y v u Q I rx ry h
  obtain ⟨ex, ey, d, e, hd, he, sd, se, q⟩ := h
  have hsm : H sysModules = none := (I.bs _ _ (I.ok.mod.kin _ _ hK)).2
  obtain ⟨as, r1, _⟩ := Dv.reads I hsm d x v hd rx
  obtain ⟨bs, r2, _⟩ := Dv.reads I hsm e y u he ry
  exact SeqAt.compareNe_reads r1 r2 (SeqAt.canLay_of_shaped sd) (SeqAt.canLay_of_shaped se) (SeqAt.room_of_shaped sd hu) ⟨.bl _, H, I, rfl, q⟩
/-- t != () whatever the items are -/
def rNeT0 (K : PySem.W.Frag) : R2 := fun x y H Q => ∃ a b xs, x = .ref a ∧ y = .ref b ∧ SqT K H a xs ∧ SqT K H b [] ∧ Q (.bl (!xs.isEmpty)) H
theorem op_neT0 (hu : X.A.units < cLine) : OpR X (compareOp .NotEq) (rNeT0 X.K) := by
  intro pins s σ H x y v u Q I rx ry h
  obtain ⟨a, b, xs, rfl, rfl, h1, h2, q⟩ := h
  cases rx
  cases ry
  obtain ⟨its, r, p1, _⟩ := I.tuple h1
  obtain ⟨its2, r2, p2, _⟩ := I.tuple h2
  cases r2
  have e : (!((List.range (min its.toArray.size 0)).all (fun _ => true) && its.toArray.size == 0)) = !xs.isEmpty := by
    cases xs with
    | nil => cases r; rfl
    | cons y ys => cases r; rfl
  refine SeqAt.RcNeAt.tuples (e := fun _ => true) p1 p2 hu (fun j hj h2 => absurd h2 (by simp)) _ _ _ _ ?_
  refine ⟨.bl (!xs.isEmpty), H, I, ?_, q⟩
  rw [← e]
  rfl
end
end Kx
namespace Kx
open PySem PySem.Spec PyProof.Rows L2 PySem.AutoSeq1
open AutoSeq1 (wpAny_loadPart')
theorem str_eq_declines_dict (b : Str) (u : Tok) (l : Addr) (es : Array DictEntry) (ep : Nat) (dd : Option Addr) (sl : Array (Option Value)) :
    Meets (Builtin.«str.__eq__» ⟨[.str b u, .ref l], []⟩) (fun _ R s => s.heap.get? l = some { cls := .type "dict", dict := dd, data := .dict es ep, slots := sl } ∧ R (.ok (.ret .notImplemented)) s) :=
  .of_wp fun prog w A R s h => by obtain ⟨hp, g, d, tk, os⟩ := s; obtain ⟨hl, h⟩ := h; wp_walk using wpAny_loadPart' hl, wpAny_load hl; exact ⟨_, rfl, h⟩
theorem dict_eq_declines_str (b : Str) (u : Tok) (l : Addr) (es : Array DictEntry) (ep : Nat) (dd : Option Addr) (sl : Array (Option Value)) :
    Meets (Builtin.«dict.__eq__» ⟨[.ref l, .str b u], []⟩) (fun _ R s => s.heap.get? l = some { cls := .type "dict", dict := dd, data := .dict es ep, slots := sl } ∧ R (.ok (.ret .notImplemented)) s) :=
  .of_wp fun prog w A R s h => by
    obtain ⟨hp, g, d, tk, os⟩ := s; obtain ⟨hl, h⟩ := h; have f1 := F.sub_dict_str; have f2 := F.sub_str_dict
    have g4 : Shared.TypeIs ⟨hp, g, d, tk, os⟩ (.ref l) "dict" := ⟨_, hl, rfl⟩
    wp_walk using wpAny_loadPart' hl, wpAny_load hl, wpAny_typeOf g4
    exact ⟨_, rfl, h⟩
theorem eqAt_str_dict {A : Around} {s : Shared} {l : Addr} {o : Obj} {es : Array DictEntry} {ep : Nat} (b : Str) (u : Tok) (hl : s.heap.get? l = some o) (hc : o.cls = .type "dict") (hd : o.data = .dict es ep) (hu : A.units < cLine) : SeqAt.EqAt A s (.str b u) (.ref l) false := fun prog w E Q h => by
  obtain ⟨cls, dd, data, sl⟩ := o
  simp only at hc hd
  subst hc hd
  unfold eqBool
  refine wpAny_holding ?_
  refine wpAny_ite_split (fun hab => absurd (eq_of_beq hab) nofun) (fun _ => ?_)
  refine wpAny_bind ?_
  refine SeqAt.rc_eq_decline_or (k := false) (typeIs_str s b u) ⟨_, hl, rfl⟩ (by decide) F.sub_dict_str F.slot_str_eq F.slot_dict_eq_refl
    (fun _ hq => call_meets F.slot_str_eq (typeIs_str s b u) F.entry_str_eq (F.args_str_eq_2 _ _) (str_eq_declines_dict b u l es ep dd sl) ⟨hl, hq⟩)
    (fun _ hq => call_meets F.slot_dict_eq_refl ⟨_, hl, rfl⟩ F.entry_dict_eq (F.args_dict_eq_2 _ _) (dict_eq_declines_str b u l es ep dd sl) ⟨hl, hq⟩)
    (fun _ hq => wpAny_of_eq (rfl : isSame (.str b u) (.ref l) = pure false) hq) (.inr hu) (wpAny_truthy_bool h)

def strInD (zs : List Str) : PyData → Bool
  | .str z => decide (z ∈ zs)
  | _ => false
section
variable {X : Cx}
/-- x in a tuple of texts, x any datum -/
def rInS (K : PySem.W.Frag) : R2 := fun x y H Q => ∃ (ex : Addr → Prop) (p : Addr) (zs : List Str) (d : PyData), y = .ref p ∧ SqT K H p (zs.map V.str) ∧ Dv ex H x d ∧ Q (.bl (strInD zs d)) H
theorem op_inS (hu : X.A.units + 1 < cLine) : OpR X (compareOp .In) (rInS X.K) := by
  intro pins s σ H x y v u Q I rx ry h
  obtain ⟨ex, p, zs, d, rfl, hq, hd, q⟩ := h
  cases ry
  obtain ⟨its, r, pl, hz⟩ := I.tuple hq
  have hu2 : X.A.in1.units < cLine := hu
  let e : Value → Bool := fun y => match y, d with
    | .str a _, .str b => a == b
    | _, _ => false
  have each : ∀ {zs : List Str} {its : List Value}, Vals (zs.map V.str) its → (∀ y ∈ its, ∃ z t, y = Value.str z t ∧ z ∈ zs) ∧ its.any e = strInD zs d := by
    intro zs
    induction zs with
    | nil =>
      intro its r
      cases r
      refine ⟨fun y hy => (by cases hy), ?_⟩
      cases d <;> first | rfl | simp [strInD]
    | cons z zs ih =>
      intro its r
      cases r with
      | cons r1 r2 =>
        obtain ⟨t, rfl⟩ := r1
        obtain ⟨h1, h2⟩ := ih r2
        refine ⟨fun y hy => ?_, ?_⟩
        · rcases List.mem_cons.mp hy with rfl | hy
          · exact ⟨z, t, rfl, List.mem_cons_self⟩
          · obtain ⟨a, b, c, d⟩ := h1 y hy
            exact ⟨a, b, c, List.mem_cons_of_mem _ d⟩
        · rw [List.any_cons, h2]
          cases d with
          | str w =>
            show ((z == w) || decide (w ∈ zs)) = decide (w ∈ z :: zs)
            by_cases hw : z = w
            · subst hw; simp
            · have hw' : ¬ w = z := fun q => hw q.symm
              simp [hw, hw', List.mem_cons]
          | _ => rfl
  obtain ⟨h1, h2⟩ := each r
  refine SeqAt.in_tupleAt e pl (fun y hy => ?_) ⟨.bl _, H, I, rfl, ?_⟩
  · obtain ⟨z, t, rfl, _⟩ := h1 y (by simpa using hy)
    cases hd with
    | non => cases rx; exact SeqAt.EqAt.str_none z t
    | bl b => cases rx; exact SeqAt.EqAt.str_bool z t b
    | int i => obtain ⟨t2, rfl⟩ := rx; exact SeqAt.EqAt.str_int z t i t2
    | str w => obtain ⟨t2, rfl⟩ := rx; exact SeqAt.EqAt.str_str z t w t2
    | lst na e2 l =>
      cases rx
      obtain ⟨its2, r2, p2, _⟩ := I.list (SqL.of e2)
      exact SeqAt.EqAt.str_list z t p2.isList hu2
    | @tup a o xs ds od e2 l =>
      cases rx
      obtain ⟨its2, r2, p2, _⟩ := I.tuple (TupF.sq (K := X.K) ⟨o, od, e2⟩)
      exact SeqAt.EqAt.str_tuple z t p2 hu2
    | @dic a kvs es na e2 l =>
      cases rx
      obtain ⟨_, hne, vs, rv, o, es', ep, ho, hx, hd', _⟩ := (show ObjOk X.prog X.w H s.heap a (.dK kvs) from I.hok a _ e2)
      exact eqAt_str_dict z t ho hx.1 hd' hu2
  · rw [show its.toArray.any e = its.any e by simp, h2]
    exact q
end
end Kx
namespace Kx
open PySem PySem.Spec PyProof.Rows L2
/-! ### set(tuple of texts) -/
section
variable {P : Program} {w : World} {A : Around} {E : Value → Shared → Prop} {s : Shared}
theorem call_setT {l : Addr} {items : Array Value} {xs : List Str} {Q : Value → Shared → Prop} (hh : A.handled = none) (hl : s.heap.IsTuple l items) (hi : StrsAre items.toList xs) (hb : xs.length + 1 < scanBound)
    (h : ∀ (h' : Heap) (tk : Nat), SetS P w h' s.heap.objs.size xs → (∀ b o, s.heap.get? b = some o → h'.get? b = some o) → Q (.ref s.heap.objs.size) { s with heap := h', toks := tk }) :
    wpAny (model P w) A (call (.type "set") [.ref l]) Q E s := by
  obtain ⟨c, tl, hmro⟩ := PySem.F.called_set.mro
  have hmade := PySem.F.called_set.made
  have hsub := PySem.F.called_set.sub
  refine wpAny_call (codeAny_of_tree ?_)
  show wpAny _ _ (callAny (.type "set") _) _ _ _
  refine wpAny_pure ⟨Code.quiet_builtin _ (by decide +kernel), codeAny_builtin PySem.F.entry_type_call ?_⟩
  rw [Around.under_plain (weight_type_call_type "set" [.ref l] []) rfl]
  have h1 := PySem.F.called_set.notType
  have h2 := PySem.F.called_set.canCreate
  have hct := PySem.F.typeCall_set_1 (.ref l)
  repeat (any_goals (first | assumption | wp_step))
  let so : Bool → Obj := fun led => { cls := .type "set", dict := none, data := .set #[] 0 (.fresh 0 0 led) }
  refine codeAny_mono (code_set_new_1 (.ref l) (E := E) (Q₁ := fun obj t => ∃ led : Bool, obj = .ref s.heap.objs.size ∧ t = { s with heap := s.heap.push (so led) }) fun led => ⟨led, rfl, rfl⟩) fun r t hr => ?_
  cases r with
  | error e => exact hr
  | ok fl =>
    cases fl with
    | ret obj =>
      obtain ⟨led, rfl, rfl⟩ := hr
      have hS : (s.heap.push (so led)).get? s.heap.objs.size = some (so led) := Heap.get?_push_size _ rfl
      have hT : Shared.TypeIs { s with heap := s.heap.push (so led) } (.ref s.heap.objs.size) "set" := ⟨_, hS, rfl⟩
      have hli := PySem.F.called_set.init.lookup
      have hbi := PySem.F.called_set.init.bind (.ref s.heap.objs.size)
      repeat (any_goals (first | assumption | wp_step))
      refine codeAny_mono (codeAny_call_builtin (R := wants (fun r t => r = .none ∧ ∃ h' tk, t = { s with heap := h', toks := tk } ∧ SetS P w h' s.heap.objs.size xs ∧ (∀ b o, s.heap.get? b = some o → h'.get? b = some o)) E)
        PySem.F.called_set.init.plain PySem.F.entry_set_init (check_set_init_1 hT ?_)) fun r t hr => ?_
      · obtain ⟨ol, hol, hcl, nl, hdl⟩ := hl
        obtain ⟨ocls, odict, odata, oslots⟩ := ol
        simp only at hcl hdl
        subst hcl; subst hdl
        have hol' : (s.heap.push (so led)).get? l = some { cls := .type "tuple", dict := odict, data := .seq items nl, slots := oslots } := Heap.get?_push_of_some _ hol
        have hsls := PySem.F.sub_tuple_set
        have hslf := PySem.F.sub_tuple_frozenset
        have hne : (Value.type "tuple" == Value.type "dict") = false := by decide
        have hl1 : (s.heap.push (so led)).IsTuple l items := ⟨_, hol', rfl, nl, rfl⟩
        have lS : l < s.heap.objs.size := Heap.lt_size hol
        unfold Builtin.«set.__init__» noKeywords Builtin.Frozenset.updateFrom
        generalize hPI : pyIter = PI
        wp_walk
        subst hPI
        refine wpAny_pyIter_tuple hl1 (wpAny_bind (wpAny_runValue ?_))
        have hh3 : A.in1.in1.in1.handled = none := by simp [hh]
        have neI : l ≠ (s.heap.push (so led)).objs.size := by rw [Heap.size_push]; exact Nat.ne_of_lt (Nat.lt_succ_of_lt lS)
        have hSf : s.heap.objs.size ∉ [(s.heap.push (so led)).objs.size, l] := by
          rw [Heap.size_push]
          simp only [List.mem_cons, List.not_mem_nil, or_false, not_or]
          exact ⟨Nat.ne_of_lt (Nat.lt_succ_self _), Nat.ne_of_gt lS⟩
        have hsz : items.size = xs.length := by rw [← StrsAre.len_eq hi, Array.length_toList]
        refine upd_strs ((Walks.tuple hh3 _ l neI items).toS) s.heap.objs.size hSf xs hsz hb (fun i v hv => ?_) (items.size - 0) 0 _ (by omega) (Nat.zero_le _) ⟨⟨_, Heap.get?_push_size _ rfl, rfl, rfl⟩, (hl1.push _)⟩ ?_ (fun s' mv q => ?_)
        · have hv' : items.toList[i]? = some v := by rw [Array.getElem?_toList]; exact hv
          have hi' : i < xs.length := by rw [← hsz]; exact (Array.getElem?_eq_some_iff.mp hv).1
          obtain ⟨t, e⟩ := StrsAre.at hi (List.getElem?_eq_getElem hi')
          rw [hv'] at e
          exact ⟨xs[i], t, List.getElem?_eq_getElem hi', Option.some.inj e⟩
        · exact PyProof.Rows.SetOf_congr ((PyProof.Rows.setObjOf_fresh (knd := PySem.strKind P w) led).setOf (Heap.get?_push_of_some _ hS) (by unfold scanBound; omega)) (fun _ => rfl) rfl
        · obtain ⟨h', g', d', tk', os'⟩ := s'
          obtain rfl : g' = s.gens := mv.gens
          obtain rfl : d' = s.drawn := mv.drawn
          obtain rfl : os' = s.os := mv.os
          show wpAny _ _ _ _ _ _
          refine wpAny_pure ?_
          show wpAny _ _ (ret Value.none) _ _ _
          refine wpAny_pure ⟨rfl, h', tk', rfl, q, fun b o e => mv.heap b o ?_ (Heap.get?_push_of_some _ (Heap.get?_push_of_some _ e))⟩
          have := Heap.lt_size e
          rw [Heap.size_push]
          simp only [List.mem_cons, List.not_mem_nil, or_false, not_or]
          exact ⟨Nat.ne_of_lt this, Nat.ne_of_lt (Nat.lt_succ_of_lt this)⟩
      · cases r with
        | error e => exact hr
        | ok fl =>
          cases fl with
          | ret r =>
            obtain ⟨rfl, h', tk, rfl, q, kp⟩ := hr
            repeat (any_goals (first | assumption | wp_step))
            exact h _ _ q kp
          | _ => exact hr.elim
    | _ => exact hr.elim
end
section
variable {X : Cx}
/-- len(set(a tuple of texts)) -/
def tLenSetT (K : PySem.W.Frag) (ta : TE) : TE := fun σ H Q => ta σ H fun x H1 => ∃ l, ∃ xs : List Str, x = .ref l ∧ SqT K H1 l (xs.map V.str) ∧ xs.length ≤ 1000 ∧ Q (.int (uniq xs).length) H1
theorem pe_lenSetT {a : Expr} {ta : TE} {p p2 q pos : Pos} (hc : X.calm = true) (hg : Gl X "len") (hm : X.mg "len" = none) (hg2 : Gl X "set") (hm2 : X.mg "set" = none) (ha : PE X a ta)
    (na : starEach [a] X.env = (false, eval a X.env) :: starEach [] X.env := by rfl) : PE X (.Call (.Name "len" p) [.Call (.Name "set" p2) [a] [] q] [] pos) (tLenSetT X.K ta) := by
  refine ⟨fun pins s σ H Q I h => ?_⟩
  refine Call_ (ld_blt I hg hm boot_len (PyProof.Rows.callWith_builtin1 (PyProof.Rows.args_cons ?_ rfl) rfl rfl))
  refine Call_ (ld_blt I hg2 hm2 boot_set (PyProof.Rows.callWith_type1 (PyProof.Rows.args_cons (thn (ha.run pins s σ H _ I h) fun v t ⟨x, H1, I1, rx, l, xs, ex, hq, hl, k⟩ => PyProof.Rows.args_nil ?_) na) na rfl))
  subst ex
  cases rx
  obtain ⟨its, r, pl, _⟩ := I1.tuple hq
  refine call_setT (I1.ok.hd hc) pl (by simpa using strsAre_of r) (by unfold scanBound; omega) fun h' tk hS hk => PyProof.Rows.args_nil ?_
  obtain ⟨o, es, ep, tb, ho, hex, hd, _, _, _, hf, hn⟩ := hS
  have I2 : Inv X pins σ H1 { t with heap := h', toks := tk } := I1.kept hk
  have lu := uniq_len xs
  exact call_len_set ho hex hd hf (by rw [hn]; omega) ⟨.int (uniq xs).length, H1, I2.tok _, ⟨_, by rw [hn]⟩, k⟩
end
end Kx
/-! list(zip(a, b)) of two lists of one length -/
namespace Kx
open PySem PySem.Spec PyProof.Rows L2
theorem zip_no_len : typeLookup (.type "zip") "__len__" = pure none := by rw [typeLookup_type, builtinLookup_eq_fast]; kernel_rfl
theorem zip_no_hint : typeLookup (.type "zip") "__length_hint__" = pure none := by rw [typeLookup_type, builtinLookup_eq_fast]; kernel_rfl
def ZSt (S : Addr) (h : Heap) (z TI TO i1 i2 l1 l2 : Addr) (xs ys : Array Value) (i : Nat) : Prop :=
  IsPair h TI (.ref i1) (.ref i2) ∧ h.IsListIter i1 l1 i ∧ h.IsListIter i2 l2 i ∧ h.IsList l1 xs ∧ h.IsList l2 ys ∧
    ((IsZip h z TI TO .none ∧ ∃ a b, IsPair h TO a b) ∨ ∃ T f oT, IsZipHeld h z TI TO T f ∧ h.get? T = some oT ∧ T ≠ z ∧ T ≠ i1 ∧ T ≠ i2 ∧ T ≠ S)
theorem ZSt.off {S z TI TO i1 i2 l1 l2 : Addr} {h h' : Heap} {xs ys : Array Value} {i : Nat} (st : ZSt S h z TI TO i1 i2 l1 l2 xs ys i) (n : ∀ b ∈ [z, TI, TO, i1, i2, l1, l2], b ≠ S) (k : ∀ b o, b ≠ S → h.get? b = some o → h'.get? b = some o) : ZSt S h' z TI TO i1 i2 l1 l2 xs ys i := by
  obtain ⟨hTI, h1, h2, hl1, hl2, hz⟩ := st
  refine ⟨k _ _ (n TI (by simp)) hTI, h1.at fun o e => k _ o (n i1 (by simp)) e, h2.at fun o e => k _ o (n i2 (by simp)) e, hl1.at fun o e => k _ o (n l1 (by simp)) e, hl2.at fun o e => k _ o (n l2 (by simp)) e, ?_⟩
  rcases hz with ⟨hz, a, b, hTO⟩ | ⟨T, f, oT, hz, hT, r1, r2, r3, r4⟩
  · exact .inl ⟨k _ _ (n z (by simp)) hz, a, b, k _ _ (n TO (by simp)) hTO⟩
  · exact .inr ⟨T, f, oT, k _ _ (n z (by simp)) hz, k _ _ r4 hT, r1, r2, r3, r4⟩
section
variable {prog : Program} {w : World} {A : Around} {R : Result → Shared → Prop}
/-- what the list has got so far -/
def Got (N0 : Nat) (h : Heap) (xs ys acc : Array Value) (i : Nat) : Prop := ∃ ps : List Addr, acc.toList = ps.map Value.ref ∧ ps.length = i ∧ ps.Nodup ∧ ∀ (j : Nat) (p : Addr), ps[j]? = some p → N0 ≤ p ∧ p < h.objs.size ∧ ∃ x y, xs[j]? = some x ∧ ys[j]? = some y ∧ IsPair h p x y
theorem ext_zip {S z TI TO i1 i2 l1 l2 : Addr} {xs ys : Array Value} {N0 : Nat} (D : ZipApart z TI TO i1 i2 l1 l2) (hl : xs.size = ys.size) (hs : xs.size ≤ sizeLine) (hh : A.handled = none) (n : ∀ b ∈ [z, TI, TO, i1, i2, l1, l2], b ≠ S)
    (hN : ∀ b ∈ [S, z, TO, i1, i2], b < N0) (res : Value) :
    ∀ (k i : Nat) (s : Shared) (acc : Array Value) (c : Nat), xs.size - i = k → i ≤ xs.size → ZSt S s.heap z TI TO i1 i2 l1 l2 xs ys i → s.heap.get? S = some { cls := .type "list", dict := none, data := .seq acc c, slots := #[] } → N0 ≤ s.heap.objs.size → Got N0 s.heap xs ys acc i →
      (∀ h' acc' c', (∀ b o, b ∉ [S, z, TO, i1, i2] → s.heap.get? b = some o → h'.get? b = some o) → h'.get? S = some { cls := .type "list", dict := none, data := .seq acc' c', slots := #[] } → Got N0 h' xs ys acc' xs.size → R (.ok (.ret res)) { s with heap := h' }) →
      codeAny (model prog w) A (.builtin "list.extend.loop" ⟨[.ref S, .ref z, res], []⟩) R s := by
  have nz := n z (by simp)
  have n1 := n i1 (by simp)
  have n2 := n i2 (by simp)
  have nO := n TO (by simp)
  intro k
  induction k with
  | zero =>
    intro i s acc c hk hi hst hS hNs hgot hR
    obtain rfl : i = xs.size := by omega
    refine codeAny_builtin F.entry_extend_loop ?_
    rw [Around.under_plainId F.plain_extend_loop _]
    show wpAny _ A.in1 (pyNext (.ref z) >>= _) _ _ s
    have fin : ∀ h', (∀ b o, b ∉ [z, TO, i1, i2] → s.heap.get? b = some o → h'.get? b = some o) → R (.ok (.ret res)) { s with heap := h' } := fun h' hk => by
      refine hR h' acc c (fun b o hb e => hk b o (fun q => hb (List.mem_cons_of_mem _ q)) e) (hk S _ (by simp only [List.mem_cons, List.not_mem_nil, or_false, not_or]; exact ⟨nz.symm, nO.symm, n1.symm, n2.symm⟩) hS) ?_
      obtain ⟨ps, e1, e2, e3, e4⟩ := hgot
      refine ⟨ps, e1, e2, e3, fun j p hj => ?_⟩
      obtain ⟨q1, q2, x, y, hx, hy, hp⟩ := e4 j p hj
      have np : p ∉ [z, TO, i1, i2] := fun q => Nat.not_lt.mpr q1 (hN p (List.mem_cons_of_mem _ q))
      have hp' := hk p _ np hp
      exact ⟨q1, Heap.lt_size hp', x, y, hx, hy, hp'⟩
    obtain ⟨hTI, h1, h2, hl1, hl2, hz⟩ := hst
    have hend : xs[xs.size]? = none ∨ ys[xs.size]? = none := .inl (by simp)
    rcases hz with ⟨hz, a, b, hTO⟩ | ⟨T, f, oT, hz, hT, r1, r2, r3, r4⟩
    · exact wpAny_bind (wpAny_pyNext_zip_end (by simpa using hh) D hz hTI hTO h1 h2 hl1 hl2 hend fun h' hk => wpAny_pure (fin h' fun c o hc e => hk c o (fun x => hc (by simp [x])) (fun x => hc (by simp [x])) (fun x => hc (by simp [x])) (fun x => hc (by simp [x])) e))
    · exact wpAny_bind (wpAny_pyNext_zip_end_held (by simpa using hh) D hz hT hTI h1 h2 hl1 hl2 hend fun h' hk => wpAny_pure (fin h' fun c o hc e => hk c o (fun x => hc (by simp [x])) (fun x => hc (by simp [x])) (fun x => hc (by simp [x])) e))
  | succ k ih =>
    intro i s acc c hk hi hst hS hNs hgot hR
    have hlt : i < xs.size := by omega
    have hlt2 : i < ys.size := by omega
    refine codeAny_builtin F.entry_extend_loop ?_
    rw [Around.under_plainId F.plain_extend_loop _]
    show wpAny _ A.in1 (pyNext (.ref z) >>= _) _ _ s
    have ex := Array.getElem?_eq_getElem hlt
    have ey := Array.getElem?_eq_getElem hlt2
    have szacc : acc.size = i := by
      obtain ⟨ps, e1, e2, _⟩ := hgot
      have := congrArg List.length e1
      rw [List.length_map, e2, Array.length_toList] at this
      exact this
    have go : ∀ h', ZSt S h' z TI TO i1 i2 l1 l2 xs ys (i + 1) → IsPair h' s.heap.objs.size xs[i] ys[i] → h'.objs.size = s.heap.objs.size + 1 → (∀ b o, b ∉ [z, TO, i1, i2] → s.heap.get? b = some o → h'.get? b = some o) →
        wpAny (model prog w) A.in1 (updateSeq S (·.push (.ref s.heap.objs.size)) >>= fun _ => again (.builtin "list.extend.loop" ⟨[.ref S, .ref z, res], []⟩)) (fun fin s' => match fin with | .done f => R (.ok f) s' | .again c' => c'.quiet = true ∧ codeAny (model prog w) A c' R s') (fun e s' => R (.error e) s') { s with heap := h' } := fun h' st' hp hsz hk => by
      have hS' : h'.get? S = some { cls := .type "list", dict := none, data := .seq acc c, slots := #[] } := hk S _ (by simp only [List.mem_cons, List.not_mem_nil, or_false, not_or]; exact ⟨nz.symm, nO.symm, n1.symm, n2.symm⟩) hS
      have ltS : S < s.heap.objs.size := Heap.lt_size hS
      have oth : ∀ b o, b ≠ S → h'.get? b = some o → (h'.update S (Obj.mapSeq (·.push (Value.ref s.heap.objs.size)))).get? b = some o := fun b o hb e => (Heap.get?_update_other _ _ (Ne.symm hb)).trans e
      refine wpAny_bind ?_
      refine wpAny_updateSeq hS' rfl (wpAny_pure ⟨plainId_quiet F.plain_extend_loop _, ih (i + 1) _ (acc.push (.ref s.heap.objs.size)) _ (by omega) hlt (st'.off n oth) (Heap.get?_update_self _ hS' rfl) ?_ ?_ fun h'' acc' c' hk'' hS'' hacc' => ?_⟩)
        (by rw [szacc]; omega) (by show (acc.push (.ref s.heap.objs.size)).size ≤ sizeLine + 1; rw [Array.size_push, szacc]; omega)
      · show N0 ≤ (h'.update S _).objs.size
        have : (h'.update S (Obj.mapSeq (·.push (Value.ref s.heap.objs.size)))).objs.size = h'.objs.size := by simp [Heap.update]
        rw [this, hsz]; omega
      · obtain ⟨ps, e1, e2, e3, e4⟩ := hgot
        have psz : ∀ p ∈ ps, p < s.heap.objs.size := fun p hp => by
          obtain ⟨j, hj⟩ := List.getElem?_of_mem hp
          exact (e4 j p hj).2.1
        refine ⟨ps ++ [s.heap.objs.size], by rw [Array.toList_push, e1, List.map_append]; rfl, by rw [List.length_append, e2]; rfl, ?_, fun j p hj => ?_⟩
        · rw [List.nodup_append]
          refine ⟨e3, by simp, fun a ha b hb e => ?_⟩
          rw [List.mem_singleton.mp hb] at e
          have hlt := psz a ha
          rw [e] at hlt
          exact Nat.lt_irrefl _ hlt
        · by_cases hjl : j < ps.length
          · rw [List.getElem?_append_left hjl] at hj
            obtain ⟨q1, q2, x, y, hx, hy, hp0⟩ := e4 j p hj
            have np : p ∉ [z, TO, i1, i2] := fun q => Nat.not_lt.mpr q1 (hN p (List.mem_cons_of_mem _ q))
            have npS : p ≠ S := fun q => Nat.not_lt.mpr q1 (hN p (by rw [q]; exact List.mem_cons_self))
            have hp' := oth p _ npS (hk p _ np hp0)
            exact ⟨q1, Heap.lt_size hp', x, y, hx, hy, hp'⟩
          · rw [List.getElem?_append_right (by omega)] at hj
            have hj0 : j - ps.length = 0 := by
              have := (List.getElem?_eq_some_iff.mp hj).1
              simp at this
              omega
            rw [hj0] at hj
            cases hj
            have hji : j = i := by omega
            subst hji
            have hp' := oth _ _ (Nat.ne_of_gt ltS) hp
            exact ⟨hNs, Heap.lt_size hp', _, _, ex, ey, hp'⟩
      · refine hR h'' acc' c' (fun b o hb e => hk'' b o hb (oth b o (fun q => hb (by rw [q]; exact List.mem_cons_self)) (hk b o (fun q => hb (List.mem_cons_of_mem _ q)) e))) hS'' hacc'
    obtain ⟨hTI, h1, h2, hl1, hl2, hz⟩ := hst
    have lt : ∀ {c o}, s.heap.get? c = some o → s.heap.objs.size ≠ c := fun e => Nat.ne_of_gt (Heap.lt_size e)
    have m1 : s.heap.objs.size ≠ i1 := let ⟨_, e, _⟩ := h1; lt e
    have m2 : s.heap.objs.size ≠ i2 := let ⟨_, e, _⟩ := h2; lt e
    rcases hz with ⟨hz, a, b, hTO⟩ | ⟨T, f, oT, hz, hT, r1, r2, r3, r4⟩
    · refine wpAny_bind (wpAny_pyNext_zip_item D hz hTI hTO h1 h2 hl1 hl2 ex ey fun h' a1 a2 a3 a4 a5 a6 hk => ?_)
      exact go h' ⟨hk _ _ D.TIz D.TITO D.TIi1 D.TIi2 hTI, a3, a4, hl1.at fun o e => hk _ o D.l1z D.l1TO D.l1i1 D.l1i2 e, hl2.at fun o e => hk _ o D.l2z D.l2TO D.l2i1 D.l2i2 e, .inr ⟨s.heap.objs.size, false, _, a1, a5, lt hz, m1, m2, lt hS⟩⟩ a5 a6
        fun c o hc e => hk c o (fun x => hc (by simp [x])) (fun x => hc (by simp [x])) (fun x => hc (by simp [x])) (fun x => hc (by simp [x])) e
    · refine wpAny_bind (wpAny_pyNext_zip_item_held D hz hT hTI h1 h2 hl1 hl2 ex ey fun h' a1 a3 a4 a5 a6 hk => ?_)
      exact go h' ⟨hk _ _ D.TIz D.TIi1 D.TIi2 hTI, a3, a4, hl1.at fun o e => hk _ o D.l1z D.l1i1 D.l1i2 e, hl2.at fun o e => hk _ o D.l2z D.l2i1 D.l2i2 e, .inr ⟨T, true, oT, a1, hk _ _ r1 r2 r3 hT, r1, r2, r3, r4⟩⟩ a5 a6
        fun c o hc e => hk c o (fun x => hc (by simp [x])) (fun x => hc (by simp [x])) (fun x => hc (by simp [x])) e
end
section
variable {P : Program} {w : World} {A : Around} {E : Value → Shared → Prop} {s : Shared}
/-- list(z) of a zip just made -/
theorem call_list_zip {z TI TO i1 i2 l1 l2 : Addr} {xs ys : Array Value} {Q : Value → Shared → Prop} (D : ZipApart z TI TO i1 i2 l1 l2) (hl : xs.size = ys.size) (hs : xs.size ≤ sizeLine) (hh : A.handled = none)
    (lt : ∀ b ∈ [z, TI, TO, i1, i2, l1, l2], b < s.heap.objs.size) (hTI : IsPair s.heap TI (.ref i1) (.ref i2)) (h1 : s.heap.IsListIter i1 l1 0) (h2 : s.heap.IsListIter i2 l2 0) (hl1 : s.heap.IsList l1 xs) (hl2 : s.heap.IsList l2 ys) (hz : IsZip s.heap z TI TO .none) (hTO : ∃ a b, IsPair s.heap TO a b)
    (hQ : ∀ h' acc' c', (∀ b o, b ∉ [s.heap.objs.size, z, TO, i1, i2] → s.heap.get? b = some o → h'.get? b = some o) → h'.get? s.heap.objs.size = some { cls := .type "list", dict := none, data := .seq acc' c', slots := #[] } → Got (s.heap.objs.size + 1) h' xs ys acc' xs.size → Q (.ref s.heap.objs.size) { s with heap := h' }) :
    wpAny (model P w) A (call (.type "list") [.ref z]) Q E s := by
  have nS : ∀ b ∈ [z, TI, TO, i1, i2, l1, l2], b ≠ s.heap.objs.size := fun b hb => Nat.ne_of_lt (lt b hb)
  have zS : s.heap.objs.size ≠ z := (nS z (by simp)).symm
  refine callType_codes (Q₁ := fun obj s₁ => obj = .ref s.heap.objs.size ∧ s₁ = { s with heap := s.heap.push { cls := .type "list", data := .seq #[] } }) PySem.F.called_list (PySem.F.typeCall_list_1 _) PySem.F.entry_list_init
    (code_list_new _ ⟨rfl, rfl⟩) fun obj s₁ h₁ => ?_
  obtain ⟨rfl, rfl⟩ := h₁
  have hS : (s.heap.push { cls := .type "list", data := .seq #[] }).get? s.heap.objs.size = some { cls := .type "list", data := .seq #[] } := Heap.get?_push_size _ rfl
  refine ⟨⟨_, hS, rfl⟩, PySem.F.args_list_init_2 _ _, ?_⟩
  show wpAny _ A.in1.in1 (do let old ← Builtin.List.listItems (.ref s.heap.objs.size); Builtin.List.listUpdate (.ref s.heap.objs.size) (fun _ => #[]); letGo old.toList.reverse; Builtin.List.listExtendWith (.ref s.heap.objs.size) (.ref z) .none) _ _ _
  refine wpAny_bind ?_
  unfold Builtin.List.listItems
  refine wpAny_bind (wpAny_seqItems hS rfl (wpAny_pure ?_))
  show wpAny _ A.in1.in1 (updateSeq s.heap.objs.size (fun _ => #[]) >>= fun _ => letGo (#[] : Array Value).toList.reverse >>= fun _ => Builtin.List.listExtendWith (.ref s.heap.objs.size) (.ref z) .none) _ _ _
  refine wpAny_bind (wpAny_updateSeq hS rfl ?_)
  have hS₂ := Heap.get?_update_self (Obj.mapSeq (fun _ => (#[] : Array Value))) hS rfl
  have oth : ∀ b o, b ≠ s.heap.objs.size → s.heap.get? b = some o → ((s.heap.push { cls := .type "list", data := .seq #[] }).update s.heap.objs.size (Obj.mapSeq (fun _ => (#[] : Array Value)))).get? b = some o :=
    fun b o hb e => (Heap.get?_update_other _ _ (Ne.symm hb)).trans (Heap.get?_push_of_some _ e)
  refine wpAny_bind (wpAny_letGo ?_)
  generalize hg2 : (s.heap.push { cls := .type "list", data := .seq #[] }).update s.heap.objs.size (Obj.mapSeq (fun _ => (#[] : Array Value))) = h2' at hS₂ oth ⊢
  have hz2 : IsZip h2' z TI TO .none := oth _ _ zS.symm hz
  unfold Builtin.List.listExtendWith
  refine wpAny_bind (wpAny_typeOf (T := "zip") ⟨_, hz2, rfl⟩ ?_)
  have q1 : Builtin.List.listSameRef (.ref s.heap.objs.size) (.ref z) = false := by simp [Builtin.List.listSameRef, zS]
  have q2 : (Value.type "zip" == Value.type "list") = false := by decide
  have q3 : (Value.type "zip" == Value.type "tuple") = false := by decide
  simp only [q1, q2, q3, Bool.or_false, Bool.false_eq_true, if_false]
  refine wpAny_bind (wpAny_pyIter_zip hz2 ?_)
  refine wpAny_bind (wpAny_holding ?_)
  unfold Builtin.List.listLengthHint
  refine wpAny_bind (wpAny_specialOf (T := "zip") ⟨_, hz2, rfl⟩ zip_no_len ?_)
  show wpAny _ A.in1.in1 (specialOf (Value.ref z) (Str.ofString "__length_hint__") >>= _) _ _ _
  refine wpAny_bind (wpAny_specialOf (T := "zip") ⟨_, hz2, rfl⟩ zip_no_hint ?_)
  refine wpAny_pure ?_
  show wpAny _ A.in1.in1 (rule "list.extend.makes-room" >>= fun _ => Builtin.List.listTouch (.ref s.heap.objs.size) >>= fun _ =>
    again (.builtin "list.extend.loop" ⟨[.ref s.heap.objs.size, .ref z, .none], []⟩)) _ _ _
  refine wpAny_bind (wpAny_rule ?_)
  refine wpAny_bind ?_
  show wpAny _ A.in1.in1 (updateSeq s.heap.objs.size (·.push .none) >>= fun _ => updateSeq s.heap.objs.size (·.pop)) _ _ _
  refine wpAny_bind (wpAny_updateSeq hS₂ rfl ?_)
  have hS₃ := Heap.get?_update_self (Obj.mapSeq (·.push Value.none)) hS₂ rfl
  refine wpAny_updateSeq (hz := by seq_fits) hS₃ rfl ?_
  have hS₄ := Heap.get?_update_self (Obj.mapSeq (·.pop)) hS₃ rfl
  have oth2 : ∀ b o, b ≠ s.heap.objs.size → s.heap.get? b = some o → ((h2'.update s.heap.objs.size (Obj.mapSeq (·.push Value.none))).update s.heap.objs.size (Obj.mapSeq (·.pop))).get? b = some o :=
    fun b o hb e => (Heap.get?_update_other _ _ (Ne.symm hb)).trans ((Heap.get?_update_other _ _ (Ne.symm hb)).trans (oth b o hb e))
  have hsz : s.heap.objs.size + 1 ≤ ((h2'.update s.heap.objs.size (Obj.mapSeq (·.push Value.none))).update s.heap.objs.size (Obj.mapSeq (·.pop))).objs.size := Heap.lt_size hS₄
  generalize hg3 : (h2'.update s.heap.objs.size (Obj.mapSeq (·.push Value.none))).update s.heap.objs.size (Obj.mapSeq (·.pop)) = h3' at hS₄ oth2 hsz ⊢
  refine wpAny_pure ⟨plainId_quiet F.plain_extend_loop _, ext_zip (N0 := s.heap.objs.size + 1) D hl hs (by simpa using hh) nS (fun b hb => ?_) _ xs.size 0 _ _ _ rfl (Nat.zero_le _)
    ⟨oth2 _ _ (nS TI (by simp)) hTI, h1.at fun o e => oth2 _ o (nS i1 (by simp)) e, h2.at fun o e => oth2 _ o (nS i2 (by simp)) e, hl1.at fun o e => oth2 _ o (nS l1 (by simp)) e, hl2.at fun o e => oth2 _ o (nS l2 (by simp)) e, .inl ⟨oth2 _ _ zS.symm hz, let ⟨a, b, e⟩ := hTO; ⟨a, b, oth2 _ _ (nS TO (by simp)) e⟩⟩⟩
    hS₄ hsz ⟨[], rfl, rfl, List.nodup_nil, fun j p hj => by simp at hj⟩ fun h' acc' c' hk hS' hgot => ⟨rfl, hQ h' acc' c' (fun b o hb e => hk b o hb (oth2 b o (fun q => hb (by rw [q]; exact List.mem_cons_self)) e)) hS' hgot⟩⟩
  rcases List.mem_cons.mp hb with e | hb
  · rw [e]; exact Nat.lt_succ_self _
  · have : b ∈ [z, TI, TO, i1, i2, l1, l2] := by
      simp only [List.mem_cons, List.not_mem_nil, or_false] at hb ⊢
      rcases hb with e | e | e | e <;> simp [e]
    exact Nat.lt_succ_of_lt (lt b this)
end
/-! ### its objects tracked -/
def adoptH (H : Hp) : List (Addr × V × V) → Hp
  | [] => H
  | q :: r => adoptH (upd H q.1 (.tup [q.2.1, q.2.2])) r
theorem adopt_ok {P : Program} {w : World} {h : Heap} : ∀ (l : List (Addr × V × V)) (H : Hp), (l.map (·.1)).Nodup → (∀ q ∈ l, H q.1 = none) → (∀ q ∈ l, ∃ u v, RelV q.2.1 u ∧ RelV q.2.2 v ∧ IsPair h q.1 u v) → HOk P w H h →
    HOk P w (adoptH H l) h ∧ (∀ b, b ∉ l.map (·.1) → adoptH H l b = H b) ∧ ∀ q ∈ l, adoptH H l q.1 = some (.tup [q.2.1, q.2.2])
  | [], H, _, _, _, ok => ⟨ok, fun _ _ => rfl, fun q hq => by cases hq⟩
  | q :: r, H, nd, hn, hp, ok => by
    rw [List.map_cons, List.nodup_cons] at nd
    obtain ⟨u, v, ru, rv, e⟩ := hp q List.mem_cons_self
    have new : ObjOk P w (upd H q.1 (.tup [q.2.1, q.2.2])) h q.1 (.tup [q.2.1, q.2.2]) := ⟨by show 2 ≤ sizeLine; decide, [u, v], .cons ru (.cons rv .nil), ⟨_, e, rfl, _, rfl⟩⟩
    have ok1 := ok.laidN (fun _ _ e => e) (hn q List.mem_cons_self) new
    have ne : ∀ p ∈ r, p.1 ≠ q.1 := fun p hp z => nd.1 (List.mem_map.mpr ⟨p, hp, z⟩)
    obtain ⟨a1, a2, a3⟩ := adopt_ok r (upd H q.1 (.tup [q.2.1, q.2.2])) nd.2 (fun p hp' => by rw [upd_ne (ne p hp')]; exact hn p (List.mem_cons_of_mem _ hp')) (fun p hp' => hp p (List.mem_cons_of_mem _ hp')) ok1
    refine ⟨a1, fun b hb => ?_, fun p hp' => ?_⟩
    · rw [List.map_cons, List.mem_cons, not_or] at hb
      show adoptH (upd H q.1 _) r b = H b
      rw [a2 b hb.2, upd_ne hb.1]
    · rcases List.mem_cons.mp hp' with z | z
      · rw [z]
        show adoptH (upd H q.1 _) r q.1 = _
        rw [a2 q.1 nd.1, upd_same]
      · exact a3 p z
theorem vals_refs : ∀ ps : List Addr, Vals (ps.map V.ref) (ps.map Value.ref)
  | [] => .nil
  | _ :: r => .cons rfl (vals_refs r)
section
variable {X : Cx}
/-- list(zip(a, b)): a new list of new pairs -/
def tListZip (K : PySem.W.Frag) (ta : TA) : TE := fun σ H Q => ta σ H fun vs H1 => ∃ a b xs ys, vs = [.ref a, .ref b] ∧ SqL K H1 a xs ∧ SqL K H1 b ys ∧ xs.length = ys.length ∧
  ∀ (D : Addr) (ps : List Addr) (H' : Hp), H1 D = none → Same H1 H' → H' D = some (.lst (ps.map V.ref)) → ps.length = xs.length → (∀ (i : Nat) (p : Addr), ps[i]? = some p → ∃ x y, xs[i]? = some x ∧ ys[i]? = some y ∧ H' p = some (.tup [x, y])) → Q (.ref D) H'
theorem pe_listZip {e e2 : Expr} {ta : TA} {p p2 q pos : Pos} (hc : X.calm = true) (hg : Gl X "list") (hm : X.mg "list" = none) (hg2 : Gl X "zip") (hm2 : X.mg "zip" = none) (ha : PA X [e, e2] ta)
    (hs : starEach [e, e2] X.env = (false, eval e X.env) :: starEach [e2] X.env := by rfl) (hpl : (backTo q (starEach [e2] X.env)).any (·.1) = false := by rfl) :
    PE X (.Call (.Name "list" p) [.Call (.Name "zip" p2) [e, e2] [] q] [] pos) (tListZip X.K ta) := by
  refine ⟨fun pins s σ H Q I h => ?_⟩
  refine Call_ (ld_blt I hg hm PyProof.Rows.boot_list (PyProof.Rows.callWith_type1 (PyProof.Rows.args_cons ?_ rfl) rfl rfl))
  refine Call_ (ld_blt I hg2 hm2 PyProof.Rows.boot_zip (PyProof.Rows.callWith_type1 (thn (ha.run q pins s σ H _ I h) fun us s1 ⟨vs, H1, I1, r1, q1⟩ => ?_) hs hpl))
  obtain ⟨a, b, xs, ys, ex, hqx, hqy, hlen, k⟩ := q1
  subst ex
  cases r1 with
  | cons r rr =>
    cases rr with
    | cons r' rr =>
      cases rr
      cases r
      cases r'
      obtain ⟨its, rv, p1, z1⟩ := I1.list hqx
      obtain ⟨its2, rv2, p2', z2⟩ := I1.list hqy
      have l1 := rv.length
      have l2 := rv2.length
      refine call_zip_2 p1.isList p2'.isList fun h' hz hTI hTO h1 h2 hsz hk => PyProof.Rows.args_nil ?_
      have la : a < s1.heap.objs.size := p1.lt
      have lb : b < s1.heap.objs.size := p2'.lt
      refine call_list_zip (s := { s1 with heap := h' }) (PySem.W.ktu_apart s1.heap.objs.size a b la lb) (by simp; omega) (by simp; omega) (I1.ok.hd hc) (fun c hcm => ?_) hTI h1 h2 (p1.isList.at fun o e => hk _ o e) (p2'.isList.at fun o e => hk _ o e) hz ⟨_, _, hTO⟩ fun h3 acc' c' hk3 hS3 hgot => ?_
      · show c < h'.objs.size
        rw [hsz]
        simp only [List.mem_cons, List.not_mem_nil, or_false] at hcm
        rcases hcm with e | e | e | e | e | e | e <;> rw [e]
        · exact Nat.add_lt_add_left (by decide) _
        · exact Nat.add_lt_add_left (by decide) _
        · exact Nat.add_lt_add_left (by decide) _
        · exact Nat.lt_add_of_pos_right (by decide)
        · exact Nat.add_lt_add_left (by decide) _
        · exact Nat.lt_of_lt_of_le la (Nat.le_add_right _ _)
        · exact Nat.lt_of_lt_of_le lb (Nat.le_add_right _ _)
      · have hsz' : h'.objs.size = s1.heap.objs.size + 5 := hsz
        have old : ∀ c o, s1.heap.get? c = some o → h3.get? c = some o := fun c o e => hk3 c o (fun z => by
          have := Heap.lt_size e
          have z' : c ∈ [h'.objs.size, s1.heap.objs.size + 4, s1.heap.objs.size + 3, s1.heap.objs.size, s1.heap.objs.size + 1] := z
          simp only [List.mem_cons, List.not_mem_nil, or_false] at z'
          rcases z' with q | q | q | q | q
          · rw [q, hsz'] at this; exact Nat.not_lt.mpr (Nat.le_add_right _ _) this
          · rw [q] at this; exact Nat.not_lt.mpr (Nat.le_add_right _ _) this
          · rw [q] at this; exact Nat.not_lt.mpr (Nat.le_add_right _ _) this
          · rw [q] at this; exact Nat.lt_irrefl _ this
          · rw [q] at this; exact Nat.not_lt.mpr (Nat.le_add_right _ _) this) (hk c o e)
        obtain ⟨ps, e1, e2', e3, e4⟩ := hgot
        have e2 : ps.length = its.length := by simpa using e2'
        have hN : ∀ j p, ps[j]? = some p → s1.heap.objs.size + 6 ≤ p := fun j p hj => by
          have := (e4 j p hj).1
          have z : h'.objs.size + 1 ≤ p := this
          omega
        let l := ps.zip (xs.zip ys)
        have lz : (xs.zip ys).length = xs.length := by rw [List.length_zip]; omega
        have lm : l.map (·.1) = ps := List.map_fst_zip (by rw [lz]; omega)
        have memI : ∀ q ∈ l, ∃ j : Nat, ps[j]? = some q.1 ∧ xs[j]? = some q.2.1 ∧ ys[j]? = some q.2.2 := fun q hq => by
          obtain ⟨j, hj⟩ := List.getElem?_of_mem hq
          obtain ⟨h1, h2⟩ := List.getElem?_zip_eq_some.mp hj
          obtain ⟨h3, h4⟩ := List.getElem?_zip_eq_some.mp h2
          exact ⟨j, h1, h3, h4⟩
        have frH : ∀ c, s1.heap.objs.size ≤ c → H1 c = none := fun c hc => I1.hok.fresh hc
        have ok0 : HOk X.prog X.w H1 h3 := I1.hok.kept old
        obtain ⟨ok1, a2, a3⟩ := adopt_ok (P := X.prog) (w := X.w) (h := h3) l H1 (by rw [lm]; exact e3) (fun q hq => by
          obtain ⟨j, hj, _⟩ := memI q hq
          exact frH _ (by have := hN j _ hj; omega)) (fun q hq => by
          obtain ⟨j, hj, hx, hy⟩ := memI q hq
          obtain ⟨_, _, x, y, hx', hy', hp⟩ := e4 j _ hj
          obtain ⟨u, hu, ru⟩ := rv.get hx
          obtain ⟨v, hv, rv'⟩ := rv2.get hy
          have eu : x = u := by
            have : its[j]? = some x := by simpa using hx'
            rw [hu] at this
            exact (Option.some.inj this).symm
          have ev : y = v := by
            have : its2[j]? = some y := by simpa using hy'
            rw [hv] at this
            exact (Option.some.inj this).symm
          subst eu ev
          exact ⟨_, _, ru, rv', hp⟩) ok0
        have nSl : h'.objs.size ∉ l.map (·.1) := by
          rw [lm]
          intro hm
          obtain ⟨j, hj⟩ := List.getElem?_of_mem hm
          have := (e4 j _ hj).1
          have z : h'.objs.size + 1 ≤ h'.objs.size := this
          omega
        have nS1 : H1 h'.objs.size = none := frH _ (by omega)
        have nS : adoptH H1 l h'.objs.size = none := by rw [a2 _ nSl]; exact nS1
        have ok2 : HOk X.prog X.w (upd (adoptH H1 l) h'.objs.size (.lst (ps.map V.ref))) h3 := ok1.laidN (fun _ _ e => e) nS ⟨by rw [List.length_map]; omega, ps.map Value.ref, c', vals_refs ps, by
          have z : h3.get? h'.objs.size = some { cls := .type "list", dict := none, data := .seq acc' c', slots := #[] } := hS3
          rw [z, ← e1, Array.toArray_toList]⟩
        have same : ∀ c o, H1 c = some o → upd (adoptH H1 l) h'.objs.size (.lst (ps.map V.ref)) c = some o := fun c o e => by
          have n1 : c ≠ h'.objs.size := fun z => by rw [z, nS1] at e; cases e
          rw [upd_ne n1, a2 c ?_]
          · exact e
          · rw [lm]
            intro hm
            obtain ⟨j, hj⟩ := List.getElem?_of_mem hm
            rw [frH c (by have := hN j _ hj; omega)] at e
            cases e
        have offN : ∀ c, H1 c = none → c < s1.heap.objs.size → upd (adoptH H1 l) h'.objs.size (.lst (ps.map V.ref)) c = none := fun c e hc => by
          rw [upd_ne (fun z => by rw [z, hsz'] at hc; exact Nat.not_lt.mpr (Nat.le_add_right _ _) hc), a2 c ?_]
          · exact e
          · rw [lm]
            intro hm
            obtain ⟨j, hj⟩ := List.getElem?_of_mem hm
            exact Nat.not_lt.mpr (Nat.le_trans (Nat.le_add_right _ 6) (hN j _ hj)) hc
        have u : Un X.fs [] H1 (upd (adoptH H1 l) h'.objs.size (.lst (ps.map V.ref))) s1.heap h3 :=
          ⟨fun c o e _ _ _ => old c o e, fun c o e _ _ _ => ⟨o.slots, old c o e⟩, fun c o e n _ => offN c n (Heap.lt_size e), fun c o e _ => ⟨o, old c o e⟩, fun c xs e => same c _ e, fun c o u e => same c _ e, fun c ps e => ⟨#[], by rw [Array.append_empty]; exact same c _ e⟩⟩
        have I3 : Inv X pins σ (upd (adoptH H1 l) h'.objs.size (.lst (ps.map V.ref))) { s1 with heap := h3 } := I1.un (t' := s1.toks) u ok2
        refine ⟨.ref h'.objs.size, _, I3, rfl, k _ ps _ nS1 same upd_same (by omega) fun i p hp => ?_⟩
        have hi : i < xs.length := by
          have := (List.getElem?_eq_some_iff.mp hp).1
          omega
        have hi2 : i < ys.length := by omega
        refine ⟨xs[i], ys[i], List.getElem?_eq_getElem hi, List.getElem?_eq_getElem hi2, ?_⟩
        have hq : (p, xs[i], ys[i]) ∈ l := List.mem_of_getElem? (i := i) (List.getElem?_zip_eq_some.mpr ⟨hp, List.getElem?_zip_eq_some.mpr ⟨List.getElem?_eq_getElem hi, List.getElem?_eq_getElem hi2⟩⟩)
        have np : p ≠ h'.objs.size := fun z => by
          have := hN i p hp
          rw [z, hsz'] at this
          omega
        rw [upd_ne np]
        exact a3 _ hq
end
end Kx
namespace Kx
open PySem PySem.Spec PyProof.Rows L2
theorem costL_app : ∀ xs ys : List PyData, costL (xs ++ ys) = costL xs + costL ys
  | [], _ => by simp [costL]
  | x :: r, ys => by
    have := costL_app r ys
    simp only [List.cons_append, costL]; omega
theorem okS_app {a b : Str} (ha : okS a) (hb : okS b) : okS (a ++ b) := fun c hc => by
  have hc' : c ∈ (a.cps ++ b.cps).toList := hc
  rw [Array.toList_append] at hc'
  rcases List.mem_append.mp hc' with q | q
  · exact ha c q
  · exact hb c q
theorem cutS_le (a : Str) (lo hi : Option Int) : (cutS a lo hi).length ≤ a.length := by
  show (cutS a lo hi).cps.size ≤ a.cps.size
  unfold cutS
  rw [List.size_toArray, List.length_take, List.length_drop, Array.length_toList]
  omega
theorem okS_cut {a : Str} (ha : okS a) (lo hi : Option Int) : okS (cutS a lo hi) := fun c hc => by
  unfold cutS at hc
  exact ha c (List.mem_of_mem_drop (List.mem_of_mem_take (by simpa using hc)))
theorem okS_name {z : Str} (h : NameS z) : okS z := fun c hc => Nat.lt_of_le_of_lt (h.2.2 c hc).2 (by decide)
theorem upper_abc : ∀ c, 97 ≤ c → c ≤ 122 → ∀ d ∈ Unicode.upperOf c, d < 16 ^ 8 := by
  have key : ((List.range 26).all fun i => (Unicode.upperOf (i + 97)).all fun d => decide (d < 16 ^ 8)) = true := by decide +kernel
  intro c h1 h2 d hd
  have := List.all_eq_true.mp key (c - 97) (List.mem_range.mpr (by omega))
  rw [show c - 97 + 97 = c by omega] at this
  exact of_decide_eq_true (List.all_eq_true.mp this d hd)
theorem okS_upper {z : Str} (h : NameS z) : okS (Txt.upper z) := fun c hc => by
  have hc' : c ∈ ((z.cps.mapIdx fun _ c => (Unicode.upperOf c).toArray).flatten).toList := hc
  rw [Array.mem_toList_iff, Array.mem_flatten] at hc'
  obtain ⟨l, hl, hcl⟩ := hc'
  obtain ⟨i, hi, rfl⟩ := Array.mem_mapIdx.mp hl
  have hz := h.2.2 (z.cps[i]) (by rw [Array.mem_toList_iff]; exact Array.getElem_mem hi)
  exact upper_abc _ hz.1 hz.2 c (by simpa using hcl)
/-- v shows a small datum -/
def Sm (ex : Addr → Prop) (H : Hp) (n : Nat) (v : V) : Prop := ∃ d, Dv ex H v d ∧ cost d ≤ n ∧ okD d ∧ 4000 * d.depth ≤ n
theorem Sm.str {ex : Addr → Prop} {H : Hp} {n : Nat} {z : Str} (h : okS z) (hl : 10 * z.length + 2 ≤ n) : Sm ex H n (.str z) := ⟨_, .str z, by simp only [cost]; exact hl, by simp only [okD]; exact h, by simp only [PyData.depth]; omega⟩
theorem Sm.kp {ex : Addr → Prop} {H H' : Hp} {n : Nat} {v : V} (h : Sm ex H n v) (k : Kp ex H H') : Sm ex H' n v := let ⟨d, a, b⟩ := h; ⟨d, a.kp k, b⟩
theorem fresh_old {p : Addr} {H G : Hp} {n : Nat} {a : Addr} (k : KpP p H G) (hp : PotAt G p n) (ha : G a = none) : ¬ H a ≠ none := fun z => by
  cases e : H a with
  | none => exact z e
  | some o =>
    have := k a o e fun q => absurd q (hp.ne ha)
    rw [ha] at this
    cases this
theorem Same.upd2 {H : Hp} {p : Addr} {o o2 : HO} (h : H p = none) : Same H (L2.upd (L2.upd H p o) p o2) := fun a u e => by
  rw [upd_ne (ne_of_none e h), upd_ne (ne_of_none e h)]; exact e
theorem PotAt.old {H : Hp} {p : Addr} {n : Nat} (h : PotAt H p n) : H p ≠ none := by
  obtain ⟨a, b, c, e, _⟩ := h
  rw [e]; exact fun z => by cases z
theorem KpP.old {p : Addr} {n : Nat} {H G G' : Hp} (h : PotAt H p n) (k : KpP p G G') : Kp (fun a => H a ≠ none) G G' := k.weak fun b e => by rw [e]; exact h.old
abbrev Old (H : Hp) : Addr → Prop := fun a => H a ≠ none
def Sms (ex : Addr → Prop) (H : Hp) (n : Nat) (vs : List V) : Prop := ∃ ds, DvL ex H vs ds ∧ costL ds ≤ n ∧ okL ds ∧ 4000 * PyData.depthAll ds ≤ n
theorem okL_app : ∀ {xs ys : List PyData}, okL xs → okL ys → okL (xs ++ ys)
  | [], _, _, h => h
  | x :: r, ys, a, b => by
    have a' : okD x ∧ okL r := by simpa only [okL] using a
    have : okD x ∧ okL (r ++ ys) := ⟨a'.1, okL_app a'.2 b⟩
    simpa only [List.cons_append, okL] using this
theorem okL_mem : ∀ {xs : List PyData}, okL xs ↔ ∀ x ∈ xs, okD x
  | [] => by simp [okL]
  | x :: r => by
    have := okL_mem (xs := r)
    simp only [okL, List.mem_cons, forall_eq_or_imp, this]
section
variable {ex ey : Addr → Prop} {H H' : Hp} {n m : Nat}
theorem dAll_app : ∀ xs ys : List PyData, PyData.depthAll (xs ++ ys) = max (PyData.depthAll xs) (PyData.depthAll ys)
  | [], ys => by simp [PyData.depthAll]
  | x :: r, ys => by
    have := dAll_app r ys
    simp only [List.cons_append, PyData.depthAll]; omega
theorem dAll_mem : ∀ {xs : List PyData} {x : PyData}, x ∈ xs → x.depth ≤ PyData.depthAll xs
  | y :: r, x, h => by
    rcases List.mem_cons.mp h with rfl | h
    · simp only [PyData.depthAll]; omega
    · have := dAll_mem h
      simp only [PyData.depthAll]; omega
theorem Sms.nil : Sms ex H n [] := ⟨[], .nil, by simp [costL], by simp only [okL], by simp [PyData.depthAll]⟩
theorem Sms.cons {v : V} {vs : List V} (a : Sm ex H n v) (b : Sms ex H m vs) : Sms ex H (n + 2 + m) (v :: vs) := by
  obtain ⟨d, h1, h2, h3, h4⟩ := a
  obtain ⟨ds, g1, g2, g3, g4⟩ := b
  exact ⟨d :: ds, .cons h1 g1, by simp only [costL]; omega, by simp only [okL]; exact ⟨h3, g3⟩, by simp only [PyData.depthAll]; omega⟩
theorem Sms.app {v w : List V} (a : Sms ex H n v) (b : Sms ex H m w) : Sms ex H (n + m) (v ++ w) := by
  obtain ⟨ds, h1, h2, h3, h4⟩ := a
  obtain ⟨es, g1, g2, g3, g4⟩ := b
  exact ⟨ds ++ es, h1.app g1, by rw [costL_app]; omega, okL_app h3 g3, by rw [dAll_app]; omega⟩
theorem costL_take (k : Nat) (xs : List PyData) : costL (xs.take k) ≤ costL xs := by
  have := costL_app (xs.take k) (xs.drop k)
  rw [List.take_append_drop] at this
  omega
theorem costL_drop (k : Nat) (xs : List PyData) : costL (xs.drop k) ≤ costL xs := by
  have := costL_app (xs.take k) (xs.drop k)
  rw [List.take_append_drop] at this
  omega
theorem costL_rev : ∀ xs : List PyData, costL xs.reverse = costL xs
  | [] => rfl
  | x :: r => by
    rw [List.reverse_cons, costL_app, costL_rev r]
    simp only [costL]; omega
theorem dAll_rev : ∀ xs : List PyData, PyData.depthAll xs.reverse = PyData.depthAll xs
  | [] => rfl
  | x :: r => by
    rw [List.reverse_cons, dAll_app, dAll_rev r]
    simp only [PyData.depthAll]; omega
theorem Sms.take {v : List V} (k : Nat) (a : Sms ex H n v) : Sms ex H n (v.take k) := by
  obtain ⟨ds, h1, h2, h3, h4⟩ := a
  have := dAll_app (ds.take k) (ds.drop k)
  rw [List.take_append_drop] at this
  exact ⟨ds.take k, h1.take k, Nat.le_trans (costL_take k ds) h2, okL_mem.mpr fun x hx => okL_mem.mp h3 x (List.mem_of_mem_take hx), by omega⟩
theorem Sms.drop {v : List V} (k : Nat) (a : Sms ex H n v) : Sms ex H n (v.drop k) := by
  obtain ⟨ds, h1, h2, h3, h4⟩ := a
  have := dAll_app (ds.take k) (ds.drop k)
  rw [List.take_append_drop] at this
  exact ⟨ds.drop k, h1.drop k, Nat.le_trans (costL_drop k ds) h2, okL_mem.mpr fun x hx => okL_mem.mp h3 x (List.mem_of_mem_drop hx), by omega⟩
theorem Sms.rev {v : List V} (a : Sms ex H n v) : Sms ex H n v.reverse := by
  obtain ⟨ds, h1, h2, h3, h4⟩ := a
  exact ⟨ds.reverse, h1.rev, by rw [costL_rev]; exact h2, okL_mem.mpr fun x hx => okL_mem.mp h3 x (List.mem_reverse.mp hx), by rw [dAll_rev]; exact h4⟩
theorem Sms.tup {a : Addr} {v : List V} (h : Sms ex H n v) (t : TupF H a v) : Sm ex H (n + 4000) (.ref a) := by
  obtain ⟨ds, h1, h2, h3, h4⟩ := h
  exact ⟨_, Dv.tupM t h1, by simp only [cost]; omega, by simp only [okD]; exact h3, by simp only [PyData.depth]; omega⟩
theorem Sms.lst {a : Addr} {v : List V} (h : Sms ex H n v) (na : ¬ ex a) (t : H a = some (.lst v)) : Sm ex H (n + 4000) (.ref a) := by
  obtain ⟨ds, h1, h2, h3, h4⟩ := h
  exact ⟨_, Dv.lst na t h1, by simp only [cost]; omega, by simp only [okD]; exact h3, by simp only [PyData.depth]; omega⟩
theorem Sms.kp {v : List V} (h : Sms ex H n v) (k : Kp ex H H') : Sms ex H' n v := let ⟨d, a, b⟩ := h; ⟨d, a.kp k, b⟩
theorem Sms.le {v : List V} (h : Sms ex H n v) (k : n ≤ m) : Sms ex H m v := let ⟨d, a, b, c, e⟩ := h; ⟨d, a, Nat.le_trans b k, c, Nat.le_trans e k⟩
theorem Sm.le {v : V} (h : Sm ex H n v) (k : n ≤ m) : Sm ex H m v := let ⟨d, a, b, c, e⟩ := h; ⟨d, a, Nat.le_trans b k, c, Nat.le_trans e k⟩
theorem Sms.mem {vs : List V} {i : Nat} {v : V} (h : Sms ex H n vs) (hv : vs[i]? = some v) : Sm ex H n v := by
  obtain ⟨ds, h1, h2, h3, h4⟩ := h
  obtain ⟨e, he, de⟩ := h1.get hv
  have := cost_mem (List.mem_of_getElem? he)
  have := dAll_mem (List.mem_of_getElem? he)
  exact ⟨e, de, by omega, okL_mem.mp h3 e (List.mem_of_getElem? he), by omega⟩
theorem sms_strs {zs : List Str} (h : ∀ z ∈ zs, NameS z) : Sms ex H (84 * zs.length) (zs.map V.str) := by
  induction zs with
  | nil => exact .nil
  | cons z r ih =>
    have hz := h z List.mem_cons_self
    have := Sms.cons (ex := ex) (H := H) (Sm.str (n := 82) (okS_name hz) (by have := hz.2.1; omega)) (ih fun y hy => h y (List.mem_cons_of_mem _ hy))
    exact this.le (by rw [List.length_cons]; omega)
theorem sms_pairs {ps : List (Str × Str)} {vs : List V} (h : DvL ex H vs (ps.map pairD)) (hq : ∀ q ∈ ps, NameS q.1 ∧ NameS q.2) : Sms ex H (max (173 * ps.length) 4000) vs := by
  refine ⟨_, h, ?_, ?_, ?_⟩
  · clear h
    have : costL (ps.map pairD) ≤ 173 * ps.length := by
      induction ps with
      | nil => simp [costL]
      | cons q r ih =>
        have h1 := hq q List.mem_cons_self
        have l1 := h1.1.2.1
        have l2 := h1.2.2.1
        have := ih fun y hy => hq y (List.mem_cons_of_mem _ hy)
        simp only [List.map_cons, costL, pairD, cost, List.length_cons]; omega
    omega
  · refine okL_mem.mpr fun x hx => ?_
    obtain ⟨q, hq', rfl⟩ := List.mem_map.mp hx
    have h1 := hq q hq'
    simp only [pairD, okD, okL]
    exact ⟨okS_name h1.1, okS_name h1.2, trivial⟩
  · have : PyData.depthAll (ps.map pairD) ≤ 1 := by
      clear h hq
      induction ps with
      | nil => simp [PyData.depthAll]
      | cons q r ih => simp only [List.map_cons, PyData.depthAll, pairD, PyData.depth]; omega
    omega
end
abbrev All : Addr → Prop := fun _ => True
theorem Sms.any {ex : Addr → Prop} {H : Hp} {n : Nat} {vs : List V} (h : Sms All H n vs) : Sms ex H n vs := let ⟨d, a, b⟩ := h; ⟨d, a.mono Kp.refl fun _ _ => trivial, b⟩
theorem Sm.any {ex : Addr → Prop} {H : Hp} {n : Nat} {v : V} (h : Sm All H n v) : Sm ex H n v := let ⟨d, a, b⟩ := h; ⟨d, a.mono Kp.refl fun _ _ => trivial, b⟩
theorem Kp.all {ex : Addr → Prop} {H H' : Hp} (k : Kp ex H H') : Kp All H H' := k.weak fun _ _ => trivial
/-- a row of the three parts -/
def Row (H : Hp) (k : Int) (v : V) : Prop := ∃ a vs, v = .ref a ∧ TupF H a vs ∧ vs.length ≤ 12 ∧ Sms All H 4000 vs ∧
  (k = 0 → ∃ ps : List (Str × Str), DvL All H vs (ps.map pairD) ∧ ∀ q ∈ ps, NameS q.1 ∧ NameS q.2) ∧ (k ≠ 0 → ∃ zs : List Str, vs = zs.map V.str ∧ ∀ z ∈ zs, NameS z)
theorem Row.kp {H H' : Hp} {k : Int} {v : V} {ex : Addr → Prop} (h : Row H k v) (kk : Kp ex H H') : Row H' k v := by
  obtain ⟨a, vs, rfl, t, l, s, p1, p2⟩ := h
  exact ⟨a, vs, rfl, kk.tup t, l, s.kp kk.all, fun z => let ⟨ps, d, h⟩ := p1 z; ⟨ps, d.kp kk.all, h⟩, p2⟩
theorem row_pairs {H : Hp} {v : V} {ps : List (Str × Str)} (h : Dv All H v (.tuple (ps.map pairD))) (hl : ps.length ≤ 12) (hn : ∀ q ∈ ps, NameS q.1 ∧ NameS q.2) : Row H 0 v := by
  obtain ⟨a, vs, rfl, t, l⟩ := h.tupI
  have ll := l.len
  rw [List.length_map] at ll
  exact ⟨a, vs, rfl, t, by omega, (sms_pairs l hn).le (by omega), fun _ => ⟨ps, l, hn⟩, fun z => absurd rfl z⟩
theorem row_strs {H : Hp} {v : V} {zs : List Str} {k : Int} (hk : k ≠ 0) (h : Dv All H v (.tuple (zs.map .str))) (hl : zs.length ≤ 12) (hn : ∀ z ∈ zs, NameS z) : Row H k v := by
  obtain ⟨a, vs, rfl, t, l⟩ := h.tupI
  have e := l.strE
  subst e
  exact ⟨a, _, rfl, t, by rw [List.length_map]; exact hl, (sms_strs hn).le (by omega), fun z => absurd z hk, fun _ => ⟨zs, rfl, hn⟩⟩
theorem dupH {S : Hp → Prop} {T : Hp → Prop} {goal : Prop} (main : (∀ G, S G → T G) → goal) (body : ∀ G, S G → T G) : goal := main body
theorem takesF {X : Cx} : L2N.Takes X (fun _ _ _ _ => False) := fun _ _ ⟨_, _, _, _, _, _, _, _, _, _, _, _, _, _, _, _, w⟩ => w.elim
section
variable {X : Cx}
def rRepr2 : List V → Hp → VK → Prop := fun xs H Q => ∃ a d, xs = [.ref a] ∧ Dv (fun _ => False) H (.ref a) d ∧ okD d ∧ d.depth ≤ 60 ∧ cost d ≤ sizeLine ∧ Q (.str d.shown) H
theorem call_repr2 {om : Obj} (hK : X.K.lookup sysModules = some om) (hg : X.A.guards = some []) (hu : X.A.units + 64 < cLine) : CallR X (.builtin "repr") rRepr2 := by
  intro pins s σ H xs us Q I r h
  obtain ⟨a, d, rfl, dv, ok, hd, hc, q⟩ := h
  have hsm : H sysModules = none := (I.bs _ _ (I.ok.mod.kin _ _ hK)).2
  obtain ⟨u, rfl, rx⟩ := vals1 r
  obtain ⟨as, hr, hs⟩ := Dv.reads I hsm d _ _ dv rx
  cases rx
  refine repr_of_reads' hr (okD_showable d ok) (fun _ => hs) hg (by omega) (fun _ _ e => e) (fun h' u tk hk => ?_) (Nat.le_trans (shown_le d ok) hc)
  exact ⟨.str d.shown, H, I.kept hk, ⟨u, rfl⟩, q⟩
def tJoinK (K : PySem.W.Frag) (to te : TE) : TE := tM1 (fun x xs H Q => ∃ a p, ∃ ys : List Str, x = .str a ∧ xs = [.ref p] ∧ (SqL K H p (ys.map V.str) ∨ SqT K H p (ys.map V.str)) ∧ (ys.map (·.length)).sum + ys.length * a.length ≤ 16777216 ∧ Q (.str (Txt.join a ys)) H) to te
theorem pe_joinK {o e : Expr} {to te : TE} {apos pos : Pos} (ho : PE X o to) (he : PE X e te) (hs : starEach [e] X.env = [(false, eval e X.env)] := by rfl) (hbase : attributeBase o "join" X.env (eval o X.env) = eval o X.env := by rfl) (hline : (apos.endLine == pos.line) = true := by rfl) :
    PE X (.Call (.Attribute o "join" apos) [e] [] pos) (tJoinK X.K to te) := pe_join ho he hs hbase hline
/-- over a list or a tuple -/
def iSeq (K : PySem.W.Frag) (tl : TE) : TI := fun σ H R => tl σ H fun x H1 => ∃ a, x = .ref a ∧ (((∃ xs, SqL K H1 a xs) ∧ R (Itl K a) H1) ∨ ((∃ xs, SqT K H1 a xs) ∧ R (Itt K a) H1))
theorem pi_seq {tg l : Expr} {tl : TE} (hl : PE X l tl) : PI X tg l (iSeq X.K tl) := by
  refine ⟨fun pins s σ H R I h => thn (hl.run pins s σ H _ I h) fun v t ⟨x, H1, I1, r1, a, ex, q⟩ => ?_⟩
  subst ex
  cases r1
  have fp : ∀ b ∈ [t.heap.objs.size], FpOk X pins H1 b := fun b hb => by
    rw [List.mem_singleton.mp hb]
    exact I1.fpOk (Nat.le_refl _) (I1.hok.fresh (Nat.le_refl _))
  rcases q with ⟨⟨xs, hq⟩, q⟩ | ⟨⟨xs, hq⟩, q⟩
  · obtain ⟨its, rv, p, hz⟩ := I1.list hq
    exact wpAny_pyIter_list p.isList ⟨t.heap.objs.size, [t.heap.objs.size], _, _, H1, rfl, I1.kept (t' := t.toks) fun b o e => Heap.get?_push_of_some _ e, turn_list a _, ⟨_, Heap.get?_push_size _ rfl, rfl, rfl⟩, fp, q⟩
  · obtain ⟨its, rv, p, hz⟩ := I1.tuple hq
    exact wpAny_pyIter_tuple (show t.heap.IsTuple a its.toArray from p) ⟨t.heap.objs.size, [t.heap.objs.size], _, _, H1, rfl, I1.kept (t' := t.toks) fun b o e => Heap.get?_push_of_some _ e, turn_tuple a _, ⟨_, Heap.get?_push_size _ rfl, rfl, rfl⟩, fp, q⟩
end
theorem sqL_same {K : PySem.W.Frag} {H H' : Hp} {a : Addr} {xs : List V} (h : SqL K H a xs) (e : Same H H') : SqL K H' a xs := h.elim (fun h => .inl (h.elim (fun h => .inl (e _ _ h)) fun ⟨o, h⟩ => .inr ⟨o, e _ _ h⟩)) fun h => .inr h
theorem sqT_same {K : PySem.W.Frag} {H H' : Hp} {a : Addr} {xs : List V} (h : SqT K H a xs) (e : Same H H') : SqT K H' a xs := h.elim (fun h => .inl (h.elim (fun h => .inl (e _ _ h)) fun ⟨o, h⟩ => .inr ⟨o, e _ _ h⟩)) fun h => .inr h
def three (ps : List (Str × Str)) (ns us : List Str) : PyData := .list [.tuple (ps.map pairD), .tuple (ns.map .str), .tuple (us.map .str)]
theorem strs_cost {zs : List Str} (h : ∀ z ∈ zs, NameS z) : costL (zs.map .str) ≤ 84 * zs.length := by
  induction zs with
  | nil => simp [costL]
  | cons z r ih =>
    have := (h z List.mem_cons_self).2.1
    have := ih fun y hy => h y (List.mem_cons_of_mem _ hy)
    simp only [List.map_cons, costL, cost, List.length_cons]; omega
theorem strs_ok {zs : List Str} (h : ∀ z ∈ zs, NameS z) : okL (zs.map .str) := okL_mem.mpr fun x hx => by
  obtain ⟨z, hz, rfl⟩ := List.mem_map.mp hx
  simp only [okD]; exact okS_name (h z hz)
theorem strs_dep (zs : List Str) : PyData.depthAll (zs.map .str) = 0 := by
  induction zs with
  | nil => rfl
  | cons z r ih => simp only [List.map_cons, PyData.depthAll, PyData.depth, ih]; rfl
theorem strs_lay {zs : List Str} (h : ∀ z ∈ zs, NameS z) : PyData.canLayAll0 (zs.map .str) = true := by
  induction zs with
  | nil => simp [PyData.canLayAll0]
  | cons z r ih =>
    have hz : PyData.strOk z = true := by
      unfold PyData.strOk
      rw [Array.all_eq_true]
      intro i hi
      have := (h z List.mem_cons_self).2.2 z.cps[i] (by rw [Array.mem_toList_iff]; exact Array.getElem_mem hi)
      exact decide_eq_true (by omega)
    simp only [List.map_cons, PyData.canLayAll0, PyData.canLay0, ih fun y hy => h y (List.mem_cons_of_mem _ hy), hz, Bool.and_self]
theorem FrameAt.nP {C x : Addr} {H : Hp} {va vp vv : V} {ps : List (Str × Str)} {ns us : List Str} (h : FrameAt C H x va vp vv ps ns us) : (∀ q ∈ ps, NameS q.1 ∧ NameS q.2) ∧ (∀ z ∈ ns, NameS z) ∧ ∀ z ∈ us, NameS z :=
  ⟨fun q hq => ⟨h.ok q.1 (List.mem_append.mpr (.inl (List.mem_map.mpr ⟨q, hq, rfl⟩))), h.ok q.2 (List.mem_append.mpr (.inr (List.mem_append.mpr (.inl (List.mem_map.mpr ⟨q, hq, rfl⟩)))))⟩,
   fun z hz => h.ok z (List.mem_append.mpr (.inr (List.mem_append.mpr (.inr (List.mem_append.mpr (.inl hz)))))), fun z hz => h.ok z (List.mem_append.mpr (.inr (List.mem_append.mpr (.inr (List.mem_append.mpr (.inr hz))))))⟩
theorem three_ok {ps : List (Str × Str)} {ns us : List Str} (l1 : ps.length ≤ 12) (l2 : ns.length ≤ 6) (l3 : us.length ≤ 6) (h : (∀ q ∈ ps, NameS q.1 ∧ NameS q.2) ∧ (∀ z ∈ ns, NameS z) ∧ ∀ z ∈ us, NameS z) :
    okD (three ps ns us) ∧ (three ps ns us).depth ≤ 60 ∧ cost (three ps ns us) ≤ sizeLine := by
  obtain ⟨h1, h2, h3⟩ := h
  have c2 := strs_cost h2
  have c3 := strs_cost h3
  have c1 : costL (ps.map pairD) ≤ 173 * ps.length := by
    clear l1 l2 l3 c2 c3
    induction ps with
    | nil => simp [costL]
    | cons q r ih =>
      have a := h1 q List.mem_cons_self
      have := a.1.2.1
      have := a.2.2.1
      have := ih fun y hy => h1 y (List.mem_cons_of_mem _ hy)
      simp only [List.map_cons, costL, pairD, cost, List.length_cons]; omega
  have d1 : PyData.depthAll (ps.map pairD) ≤ 1 := by
    clear l1 l2 l3 c1 c2 c3 h1
    induction ps with
    | nil => simp [PyData.depthAll]
    | cons q r ih => simp only [List.map_cons, PyData.depthAll, pairD, PyData.depth]; omega
  refine ⟨?_, ?_, ?_⟩
  · unfold three
    simp only [okD, okL]
    refine ⟨okL_mem.mpr fun x hx => ?_, strs_ok h2, strs_ok h3, trivial⟩
    obtain ⟨q, hq, rfl⟩ := List.mem_map.mp hx
    simp only [pairD, okD, okL]
    exact ⟨okS_name (h1 q hq).1, okS_name (h1 q hq).2, trivial⟩
  · unfold three
    simp only [PyData.depth, PyData.depthAll, strs_dep]; omega
  · unfold three
    rw [sizeLine_eq]
    simp only [cost, costL]; omega
theorem join3 (s a b c : Str) : Txt.join s [a, b, c] = a ++ s ++ b ++ s ++ c := by
  have e : TL.tl (Txt.join s [a, b, c]) = TL.tl (a ++ s ++ b ++ s ++ c) := by
    rw [TL.join_eq, TL.tl_join]
    show (a.cps.toList ++ (s.cps.toList ++ (b.cps.toList ++ (s.cps.toList ++ c.cps.toList)))) = (a.cps ++ s.cps ++ b.cps ++ s.cps ++ c.cps).toList
    simp only [Array.toList_append, List.append_assoc]
  exact Str.ext' (Array.toList_inj.mp e)
abbrev Pr (P : Program) (w : World) (K : PySem.W.Frag) (mg : Str → Option Value) (base : Heap) (C : Addr) (f a : Str) : Prop := ∃ p g fd, PropOf K C f p g ∧ FnOk P w K mg base CX0 1 g fd ["self"] (getSp C a) ∧ Binds K fd ["self"] []
abbrev CaG (P : Program) (w : World) (K : PySem.W.Frag) (mg : Str → Option Value) (base : Heap) (k : Nat) (x : Str) (ps : List Str) (sp : Sp) : Prop := ∃ f fd, FnOkG P w K mg base CX0 k f fd ps sp ∧ mg x = some (.ref f) ∧ PySem.W.keepIn K (.ref f) = true ∧ Binds K fd ps []
section
variable {P : Program} {w : World} {K : PySem.W.Frag} {mg : Str → Option Value} {base : Heap}
theorem calG_of {x : Str} {st : Stmt} {N ps : List Str} {k : Nat} {sp : Sp} (h : Has K mg x st) (S : FnScope N ps (defScope st))
    (bd : ∀ (kV doc pm : Value) (an : Option Addr) (cdv ct : Value) (us : List Value), us.length = ps.length → bindArgs (PySem.W.fnOf x x (defArgs st) (defBody st) (defScope st) .none kV doc pm an cdv ct) ⟨us, []⟩ = pure (ps.zip us))
    (len : ∀ vs H Q E, sp vs H Q E → vs.length = ps.length)
    (body : ∀ (f : Addr) (cdv : Value) (A : Around) (outer : List Env) (s : Shared) (H : Hp) (vs : List V) (Q : VK) (E : XK), (A.deeper (envOfC x (defScope st) s.heap.objs.size f cdv)).guards = some [] → Room k (A.deeper (envOfC x (defScope st) s.heap.objs.size f cdv)) → sp vs H Q E →
      ∃ t, PSs (cxOf CX0 P w K mg base N x (defScope st) f cdv A outer s H E).nox (defBody st) t ∧ t { nx := fun _ H' => Q .non H', rt := Q } (start N vs) H) : CaG P w K mg base (k + 1) x ps sp := by
  obtain ⟨f, fd, F, g⟩ := h
  exact ⟨f, fd, okG F S len (fun cdv A outer s H vs Q E hgd hr h => let ⟨t, ht, q⟩ := body f cdv A outer s H vs Q E hgd hr h; ⟨t, PSs.nox ht, q⟩), g, F.kp, F.bindsN bd⟩
end
theorem ps_map (ps : List (Str × Str)) : psOf (.tuple (ps.map pairD)) = ps := by
  show (ps.map pairD).filterMap pairOf = ps
  induction ps with
  | nil => rfl
  | cons q r ih => rw [List.map_cons, List.filterMap_cons]; show q :: _ = _; rw [ih]
theorem ns_map (ns : List Str) : nsOf (.tuple (ns.map .str)) = ns := by
  show (ns.map PyData.str).filterMap strOf = ns
  induction ns with
  | nil => rfl
  | cons q r ih => rw [List.map_cons, List.filterMap_cons]; show q :: _ = _; rw [ih]
theorem frameD_good {ps : List (Str × Str)} {ns us : List Str} (h : Good ps ns us) : frameD (.tuple (ps.map pairD)) (.tuple (ns.map .str)) (.tuple (us.map .str)) = true := by
  obtain ⟨l1, l2, l3, ok, nd⟩ := h
  have strsN : ∀ zs : List Str, (∀ z ∈ zs, NameS z) → (zs.map PyData.str).all nameD = true := fun zs hz => by
    rw [List.all_eq_true]
    intro d hd
    obtain ⟨z, h1, rfl⟩ := List.mem_map.mp hd
    exact decide_eq_true (hz z h1)
  have n1 : namesD 6 (.tuple (ns.map .str)) = true := by
    unfold namesD; dsimp only
    rw [strsN ns fun z hz => ok z (List.mem_append.mpr (.inr (List.mem_append.mpr (.inr (List.mem_append.mpr (.inl hz)))))), decide_eq_true (by rw [List.length_map]; exact l2)]; rfl
  have n2 : namesD 6 (.tuple (us.map .str)) = true := by
    unfold namesD; dsimp only
    rw [strsN us fun z hz => ok z (List.mem_append.mpr (.inr (List.mem_append.mpr (.inr (List.mem_append.mpr (.inr hz)))))), decide_eq_true (by rw [List.length_map]; exact l3)]; rfl
  have n3 : arrsD (.tuple (ps.map pairD)) = true := by
    have : (ps.map pairD).all pairOkD = true := by
      rw [List.all_eq_true]
      intro d hd
      obtain ⟨q, h1, rfl⟩ := List.mem_map.mp hd
      show (nameD (.str q.1) && nameD (.str q.2)) = true
      rw [show nameD (.str q.1) = true from decide_eq_true (ok q.1 (List.mem_append.mpr (.inl (List.mem_map.mpr ⟨q, h1, rfl⟩)))), show nameD (.str q.2) = true from decide_eq_true (ok q.2 (List.mem_append.mpr (.inr (List.mem_append.mpr (.inl (List.mem_map.mpr ⟨q, h1, rfl⟩))))))]; rfl
    unfold arrsD; dsimp only
    rw [this, decide_eq_true (by rw [List.length_map]; exact l1)]; rfl
  unfold frameD
  rw [n1, n2, n3, ps_map, ns_map, ns_map, decide_eq_true nd]; rfl
theorem pairs_cost {ps : List (Str × Str)} (h : ∀ q ∈ ps, NameS q.1 ∧ NameS q.2) : costL (ps.map pairD) ≤ 173 * ps.length := by
  induction ps with
  | nil => simp [costL]
  | cons q r ih =>
    have a := h q List.mem_cons_self
    have := a.1.2.1
    have := a.2.2.1
    have := ih fun y hy => h y (List.mem_cons_of_mem _ hy)
    simp only [List.map_cons, costL, pairD, cost, List.length_cons]; omega
end Kx
namespace Kx
open PySem PySem.Spec PyProof.Rows L2 PySem.AutoSeq1
/-- a datum that is compared with a text -/
def EqOk (d : PyData) : Prop := SeqAt.shaped d = true ∨ ∃ es, d = .dict es
section
variable {X : Cx}
def rEqE : R2 := fun x y H Q => ∃ (ex : Addr → Prop) (d : PyData) (z : Str), y = .str z ∧ Dv ex H x d ∧ EqOk d ∧ SeqAt.shaped (.str z) = true ∧ Q (.bl (PyData.eqv d (.str z))) H
theorem op_eqE {om : Obj} (hK : X.K.lookup sysModules = some om) (hu : X.A.units + 64 < cLine) : OpR X (compareOp .Eq) rEqE := by
  intro pins s σ H x y v u Q I rx ry h
  obtain ⟨ex, d, z, rfl, hd, hs, sz, q⟩ := h
  rcases hs with hs | ⟨es, rfl⟩
  · have hsm : H sysModules = none := (I.bs _ _ (I.ok.mod.kin _ _ hK)).2
    obtain ⟨as, r1, _⟩ := Dv.reads I hsm d x v hd rx
    obtain ⟨bs, r2, _⟩ := Dv.reads (ex := ex) I hsm (.str z) (.str z) u (.str z) ry
    exact SeqAt.compareEq_shaped r1 r2 hs sz hu ⟨.bl _, H, I, rfl, q⟩
  · obtain ⟨t, rfl⟩ := ry
    cases hd with
    | @dic a kvs es na e2 l =>
      cases rx
      obtain ⟨_, hne, vs, rv, o, es', ep, ho, hx, hd', _⟩ := (show ObjOk X.prog X.w H s.heap a (.dK kvs) from I.hok a _ e2)
      obtain ⟨cls, dd, data, sl⟩ := o
      have hc : cls = .type "dict" := hx.1
      simp only at hd'
      subst hc hd'
      show wpAny _ _ (richCompare .Eq (.ref a) (.str z t)) _ _ _
      refine SeqAt.rc_eq_decline_or (k := false) ⟨_, ho, rfl⟩ (typeIs_str s z t) (by decide) F.sub_str_dict F.slot_dict_eq_refl F.slot_str_eq
        (fun _ hq => call_meets F.slot_dict_eq_refl ⟨_, ho, rfl⟩ F.entry_dict_eq (F.args_dict_eq_2 _ _) (dict_eq_declines_str z t a _ _ dd sl) ⟨ho, hq⟩)
        (fun _ hq => call_meets F.slot_str_eq (typeIs_str s z t) F.entry_str_eq (F.args_str_eq_2 _ _) (str_eq_declines_dict z t a _ _ dd sl) ⟨ho, hq⟩)
        (fun _ hq => wpAny_of_eq (rfl : isSame (.ref a) (.str z t) = pure false) hq) (.inr (by omega)) ⟨.bl false, H, I, rfl, q⟩
end
end Kx
namespace Kx
open PySem PySem.Spec PyProof.Rows L2
/-! ### equal frames -/
def trip (ps : List (Str × Str)) (ns us : List Str) : PyData := .tuple [.tuple (ps.map pairD), .tuple (ns.map .str), .tuple (us.map .str)]
abbrev same3 (ps : List (Str × Str)) (ns us : List Str) (qs : List (Str × Str)) (ms ts : List Str) : Bool := decide (ps = qs ∧ ns = ms ∧ us = ts)
theorem eqv_strs : ∀ xs ys : List Str, PyData.eqvAll (xs.map .str) (ys.map .str) = decide (xs = ys)
  | [], [] => rfl
  | [], _ :: _ => rfl
  | _ :: _, [] => rfl
  | x :: xs, y :: ys => by
    show (x == y && PyData.eqvAll (xs.map .str) (ys.map .str)) = _
    rw [eqv_strs xs ys]
    by_cases h : x = y
    · subst h; simp
    · simp [h]
theorem eqv_pairs : ∀ xs ys : List (Str × Str), PyData.eqvAll (xs.map pairD) (ys.map pairD) = decide (xs = ys)
  | [], [] => rfl
  | [], _ :: _ => rfl
  | _ :: _, [] => rfl
  | (a, b) :: xs, (c, d) :: ys => by
    show ((a == c && (b == d && true)) && PyData.eqvAll (xs.map pairD) (ys.map pairD)) = _
    rw [eqv_pairs xs ys]
    by_cases h : a = c
    · by_cases h2 : b = d
      · subst h h2; simp
      · simp [h2]
    · simp [h]
theorem eqv_trip (ps : List (Str × Str)) (ns us : List Str) (qs : List (Str × Str)) (ms ts : List Str) : PyData.eqv (trip ps ns us) (trip qs ms ts) = same3 ps ns us qs ms ts := by
  show (PyData.eqvAll (ps.map pairD) (qs.map pairD) && (PyData.eqvAll (ns.map .str) (ms.map .str) && (PyData.eqvAll (us.map .str) (ts.map .str) && true))) = _
  rw [eqv_pairs, eqv_strs, eqv_strs, Bool.and_true]
  by_cases h1 : ps = qs <;> by_cases h2 : ns = ms <;> by_cases h3 : us = ts <;> simp [h1, h2, h3]
theorem eqv_three (ps : List (Str × Str)) (ns us : List Str) (qs : List (Str × Str)) (ms ts : List Str) : PyData.eqv (three ps ns us) (three qs ms ts) = same3 ps ns us qs ms ts := eqv_trip ps ns us qs ms ts
theorem pairs_lay {ps : List (Str × Str)} (h : ∀ q ∈ ps, NameS q.1 ∧ NameS q.2) : PyData.canLayAll0 (ps.map pairD) = true := by
  induction ps with
  | nil => rfl
  | cons q r ih =>
    have a := h q List.mem_cons_self
    have e := strs_lay (zs := [q.1, q.2]) (fun z hz => by
      rcases List.mem_cons.mp hz with rfl | hz
      · exact a.1
      · rw [List.mem_singleton.mp hz]; exact a.2)
    show (PyData.canLayAll0 ([q.1, q.2].map .str) && PyData.canLayAll0 (r.map pairD)) = true
    rw [e, ih fun y hy => h y (List.mem_cons_of_mem _ hy)]; rfl
theorem pairs_dep (ps : List (Str × Str)) : PyData.depthAll (ps.map pairD) ≤ 1 := by
  induction ps with
  | nil => simp [PyData.depthAll]
  | cons q r ih => simp only [List.map_cons, PyData.depthAll, pairD, PyData.depth]; omega
abbrev Names (ps : List (Str × Str)) (ns us : List Str) : Prop := (∀ q ∈ ps, NameS q.1 ∧ NameS q.2) ∧ (∀ z ∈ ns, NameS z) ∧ ∀ z ∈ us, NameS z
theorem shaped_trip {ps : List (Str × Str)} {ns us : List Str} (h : Names ps ns us) : SeqAt.shaped (trip ps ns us) = true := by
  obtain ⟨h1, h2, h3⟩ := h
  have hd := pairs_dep ps
  show (PyData.canLay0 (trip ps ns us) && decide ((trip ps ns us).depth ≤ 64)) = true
  rw [Bool.and_eq_true]
  refine ⟨?_, decide_eq_true ?_⟩
  · show (PyData.canLayAll0 (ps.map pairD) && (PyData.canLayAll0 (ns.map .str) && (PyData.canLayAll0 (us.map .str) && true))) = true
    rw [pairs_lay h1, strs_lay h2, strs_lay h3]; rfl
  · unfold trip
    simp only [PyData.depth, PyData.depthAll, strs_dep]; omega
theorem shaped_three {ps : List (Str × Str)} {ns us : List Str} (h : Names ps ns us) : SeqAt.shaped (three ps ns us) = true := by
  obtain ⟨h1, h2, h3⟩ := h
  have hd := pairs_dep ps
  show (PyData.canLay0 (three ps ns us) && decide ((three ps ns us).depth ≤ 64)) = true
  rw [Bool.and_eq_true]
  refine ⟨?_, decide_eq_true ?_⟩
  · show (PyData.canLayAll0 (ps.map pairD) && (PyData.canLayAll0 (ns.map .str) && (PyData.canLayAll0 (us.map .str) && true))) = true
    rw [pairs_lay h1, strs_lay h2, strs_lay h3]; rfl
  · unfold three
    simp only [PyData.depth, PyData.depthAll, strs_dep]; omega
structure Fi (K : PySem.W.Frag) (C : Addr) : Prop where
  ha : PySem.W.findIn K (.ref C) "__class__" = some (some (.builtin "object.__class__"))
  hn : PySem.W.specialIn K (.builtin "object.__class__") "__get__" = some (some (.builtin "getset_descriptor.__get__"))
  ht : PySem.W.takesIn K (.builtin "object.__class__") = some true
  hm : PySem.W.mroIn K C (.type "object") = some true
  k2 : PySem.W.kitOne K (.type "list") (.ref C) = some false
  nf : PySem.W.notFirst K C (.type "list") = true
  ne : PySem.W.findIn K (.ref C) "__ne__" = some (some (.builtin "object.__ne__"))
theorem Fi.k1 {K : PySem.W.Frag} {C : Addr} : PySem.W.kitOne K (.ref C) (.ref C) = some true := by
  unfold PySem.W.kitOne
  rw [if_pos (by simp)]
section
variable {P : Program} {w : World} {K : PySem.W.Frag} {mg : Str → Option Value} {base : Heap}
abbrev N_Frame_eq : List Str := ["self", "other"]
abbrev P_Frame_eq : List Str := ["self", "other"]
theorem sc_Frame_eq : FnScope N_Frame_eq P_Frame_eq (defScope s_Frame_eq) := ⟨rfl, rfl, rfl, by decide +kernel, rfl, by decide +kernel, by decide +kernel⟩
def spEqF (C : Addr) : Sp := fun vs H Q _ => ∃ (x y : Addr) (va vp vv : V) (ps : List (Str × Str)) (ns us : List Str), vs = [.ref x, .ref y] ∧ FrameAt C H x va vp vv ps ns us ∧
  ((∃ (wa wp wv : V) (qs : List (Str × Str)) (ms ts : List Str), FrameAt C H y wa wp wv qs ms ts ∧ ∀ H', Same H H' → Q (.bl (same3 ps ns us qs ms ts)) H') ∨ ∃ ys, H y = some (.lst ys) ∧ Q (.bl false) H)
theorem ok_eq {om : Obj} (hK : K.lookup sysModules = some om) (T : Bt mg) {C : Addr} (X : Fx K mg C) (I : Fi K C) (h : HasM K C "__eq__" "Frame.__eq__" s_Frame_eq) : Me P w K mg base C 1 "__eq__" P_Frame_eq (spEqF C) := by
  refine met_of h sc_Frame_eq (fun _ _ _ _ _ _ us hl => match us, hl with | [_, _], _ => rfl) (fun vs H Q E h => ?_) (fun f cdv A outer s H vs Q E hr h => ?_)
  · obtain ⟨x, y, va, vp, vv, ps, ns, us, rfl, _⟩ := h
    rfl
  · obtain ⟨x, y, va, vp, vv, ps, ns, us, rfl, fx, hy⟩ := h
    refine ⟨_, (pss_cons (ps_if (pt_not (pt_val (pe_callB call_isi (by rfl) T.isinstance (by decide +kernel) (pa_cons (pv 1) (pa_cons (pe_glob (v := .ref C) rfl X.mgC rfl) pa_nil))))) (pss_one (ps_ret pe_bl)) pss_nil)
      (pss_one (ps_ret (pe_cmpR (op_eqDv hK hr.units) (pe_tupF (pa_cons (pe_fld (pv 0) rfl) (pa_cons (pe_fld (pv 0) rfl) (pa_cons (pe_fld (pv 0) rfl) pa_nil)))) (pe_tupF (pa_cons (pe_fld (pv 1) rfl) (pa_cons (pe_fld (pv 1) rfl) (pa_cons (pe_fld (pv 1) rfl) pa_nil)))) (nomark _))))), ?_⟩
    rcases hy with ⟨wa, wp, wv, qs, ms, ts, fy, q⟩ | ⟨ys, hy, q⟩
    · obtain ⟨dx, LB, LT, KD, hx, _⟩ := id fx.ob
      obtain ⟨dy, LB2, LT2, KD2, hy, _⟩ := id fy.ob
      refine ⟨_, rfl, _, _, _, _, _, rfl, .own C, .base (.ins hy X.cl I.ha I.hn I.ht I.hm), Fi.k1, _, rfl, iteF ?_⟩
      refine ⟨_, rfl, x, C, dx, _, _, rfl, hx, X.cl, X.n1, rfl, _, rfl, x, C, dx, _, _, rfl, hx, X.cl, X.n2, rfl, _, rfl, x, C, dx, _, _, rfl, hx, X.cl, X.n3, rfl, by show 3 ≤ sizeLine; decide, fun t1 H1 s1 h1 => ?_⟩
      have hy1 := s1 _ _ hy
      refine ⟨_, rfl, y, C, dy, _, _, rfl, hy1, X.cl, X.n1, rfl, _, rfl, y, C, dy, _, _, rfl, hy1, X.cl, X.n2, rfl, _, rfl, y, C, dy, _, _, rfl, hy1, X.cl, X.n3, rfl, by show 3 ≤ sizeLine; decide, fun t2 H2 s2 h2 => ?_⟩
      have kx := Kp.same (ex := fun _ => True) (s1.trans s2)
      refine ⟨fun _ => True, fun _ => True, trip ps ns us, trip qs ms ts, Dv.tupM ((Kp.same (ex := fun _ => True) s2).tup h1) (.cons (fx.da.kp kx) (.cons (fx.dp.kp kx) (.cons (fx.dv.kp kx) .nil))),
        Dv.tupM h2 (.cons (fy.da.kp kx) (.cons (fy.dp.kp kx) (.cons (fy.dv.kp kx) .nil))), shaped_trip fx.nP, shaped_trip fy.nP, ?_⟩
      rw [eqv_trip]
      exact q H2 (s1.trans s2)
    · refine ⟨_, rfl, _, _, _, _, _, rfl, .own C, .base (.lst hy), I.k2, _, rfl, iteT ?_⟩
      exact q
end
end Kx
namespace Kx
open PySem PySem.Spec PyProof.Rows L2
def isIntD : PyData → Bool
  | .int _ => true
  | .bool _ => true
  | _ => false
def isBoolD : PyData → Bool
  | .bool _ => true
  | _ => false
def lim : Int := 10 ^ 60
/-- an integer between the limits -/
def intD : PyData → Bool
  | .int i => decide (-lim < i ∧ i < lim)
  | _ => false
theorem kitI {K : PySem.W.Frag} (d : PyData) : PySem.W.kitOne K (.type (tyD d)) (.type "int") = some (isIntD d) := by
  cases d with
  | none => exact kit_ty (show kitB "NoneType" "int" = some false by decide +kernel)
  | bool _ => exact kit_ty (show kitB "bool" "int" = some true by decide +kernel)
  | int _ => exact kit_ty (show kitB "int" "int" = some true by decide +kernel)
  | str _ => exact kit_ty (show kitB "str" "int" = some false by decide +kernel)
  | list _ => exact kit_ty (show kitB "list" "int" = some false by decide +kernel)
  | tuple _ => exact kit_ty (show kitB "tuple" "int" = some false by decide +kernel)
  | dict _ => exact kit_ty (show kitB "dict" "int" = some false by decide +kernel)
theorem kitBo {K : PySem.W.Frag} (d : PyData) : PySem.W.kitOne K (.type (tyD d)) (.type "bool") = some (isBoolD d) := by
  cases d with
  | none => exact kit_ty (show kitB "NoneType" "bool" = some false by decide +kernel)
  | bool _ => exact kit_ty (show kitB "bool" "bool" = some true by decide +kernel)
  | int _ => exact kit_ty (show kitB "int" "bool" = some false by decide +kernel)
  | str _ => exact kit_ty (show kitB "str" "bool" = some false by decide +kernel)
  | list _ => exact kit_ty (show kitB "list" "bool" = some false by decide +kernel)
  | tuple _ => exact kit_ty (show kitB "tuple" "bool" = some false by decide +kernel)
  | dict _ => exact kit_ty (show kitB "dict" "bool" = some false by decide +kernel)
theorem Dv.intI {ex : Addr → Prop} {H : Hp} {v : V} {i : Int} (h : Dv ex H v (.int i)) : v = .int i := by cases h; rfl
section
variable {P : Program} {w : World} {K : PySem.W.Frag} {mg : Str → Option Value} {base : Heap}
abbrev N_is_integer : List Str := ["value"]
abbrev P_is_integer : List Str := ["value"]
theorem sc_is_integer : FnScope N_is_integer P_is_integer (defScope s_is_integer) := ⟨rfl, rfl, rfl, by decide +kernel, rfl, by decide +kernel, by decide +kernel⟩
theorem ok_is_integer (T : Bt mg) (Tb : mg "bool" = none) (gL : ∃ t, mg "LIMIT" = some (.int lim t)) (h : Has K mg "is_integer" s_is_integer) : Ca P w K mg base 1 "is_integer" P_is_integer (spJudge intD) := by
  obtain ⟨_, gL⟩ := gL
  refine cal_of h sc_is_integer (fun _ _ _ _ _ _ us hl => match us, hl with | [_], _ => rfl) (fun vs H Q E h => ?_) (fun f cdv A outer s H vs Q E hr h => ?_)
  · obtain ⟨ex, v, d, rfl, _⟩ := h
    rfl
  · obtain ⟨ex, v, d, rfl, dv, hc, k⟩ := h
    refine ⟨_, (pss_one (ps_ret (pe_and (pe_callB call_isi (by rfl) T.isinstance (by decide +kernel) (pa_cons (pv 0) (pa_cons (pe_bltn (v := .ty "int") (by rfl) T.int (by decide +kernel) rfl) pa_nil))) (pe_and (pe_not (pe_callB call_isi (by rfl) T.isinstance (by decide +kernel) (pa_cons (pv 0) (pa_cons (pe_bltn (v := .ty "bool") (by rfl) Tb (by decide +kernel) rfl) pa_nil)))) (pe_one (pe_chain op_lt op_lt (pe_un un_neg (pe_glob (v := .int lim) rfl gL ⟨_, rfl⟩)) (pv 0) (pe_glob (v := .int lim) rfl gL ⟨_, rfl⟩))))))), ?_⟩
    refine ⟨_, rfl, _, _, _, _, _, rfl, .ty _, dv.ty, kitI d, _, rfl, ?_⟩
    cases e : isIntD d with
    | false =>
      refine iteF ?_
      have := k H Same.refl
      rw [show intD d = false by cases d <;> first | rfl | cases e] at this
      exact this
    | true =>
      refine iteT ⟨_, rfl, _, _, _, _, _, rfl, .ty _, dv.ty, kitBo d, _, rfl, _, rfl, ?_⟩
      cases e2 : isBoolD d with
      | true =>
        refine iteF ?_
        have := k H Same.refl
        rw [show intD d = false by cases d <;> first | rfl | cases e2] at this
        exact this
      | false =>
        obtain ⟨i, rfl⟩ : ∃ i, d = .int i := by cases d <;> first | exact ⟨_, rfl⟩ | (cases e; done) | (cases e2; done)
        cases dv.intI
        have q := k H Same.refl
        refine iteT ⟨_, rfl, _, rfl, _, _, rfl, rfl, _, rfl, ?_⟩
        by_cases h1 : -lim < i
        · rw [decide_eq_true h1]
          refine iteT ⟨_, _, rfl, rfl, ?_⟩
          rw [show intD (.int i) = decide (i < lim) from decide_eq_decide.mpr ⟨fun z => z.2, fun z => ⟨h1, z⟩⟩] at q
          exact q
        · rw [decide_eq_false h1]
          refine iteF ?_
          rw [show intD (.int i) = false from decide_eq_false fun z => h1 z.1] at q
          exact q
/-- what _is_of_kind tells of any datum -/
def kindD (ps : List (Str × Str)) (ns us : List Str) (k : Str) : PyData → Bool
  | .str z => decide (z ∈ allN ps ns us ∧ kindF ps ns z = k)
  | _ => false
def spKindD (C : Addr) : Sp := fun vs H Q _ => ∃ (ex : Addr → Prop) (x : Addr) (va vp vv v : V) (d : PyData) (ps : List (Str × Str)) (ns us : List Str) (k : Str), vs = [.ref x, v, .str k] ∧ FrameAt C H x va vp vv ps ns us ∧ Dv ex H v d ∧ Q (.bl (kindD ps ns us k d)) H
theorem ok_kindD (T : Bt mg) {C : Addr} (X : Fx K mg C) (h : HasM K C "_is_of_kind" "Frame._is_of_kind" s_Frame_is_of_kind) : Me P w K mg base C 1 "_is_of_kind" P_Frame_is_of_kind (spKindD C) := by
  refine met_of h sc_Frame_is_of_kind (fun _ _ _ _ _ _ us hl => match us, hl with | [_, _, _], _ => rfl) (fun vs H Q E h => ?_) (fun f cdv A outer s H vs Q E hr h => ?_)
  · obtain ⟨ex, x, va, vp, vv, v, d, ps, ns, us, k, rfl, _⟩ := h
    rfl
  · obtain ⟨ex, x, va, vp, vv, v, d, ps, ns, us, k, rfl, fr, dv0, q⟩ := h
    refine ⟨_, (pss_one (ps_ret (pe_and (pe_callB call_isi (by rfl) T.isinstance (by decide +kernel) (pa_cons (pv 1) (pa_cons (pe_bltn (v := .ty "str") (by rfl) T.str (by decide +kernel) rfl) pa_nil))) (pe_one (pe_cmpR op_eq (pe_dget1 (hu_of hr) (pe_fld (pv 0) rfl) (pv 1) ⟨rfl, rfl, rfl, rfl⟩) (pv 2) (nomark _)))))), ?_⟩
    obtain ⟨⟨dx, LB, LT, KD, hx, hlb, hlt, hkd⟩, da, dp, dv, nd, _⟩ := fr
    refine ⟨_, rfl, _, _, _, _, _, rfl, .ty _, dv0.ty, kitS d, _, rfl, ?_⟩
    cases e : isStrD d with
    | false =>
      refine iteF ?_
      rw [show kindD ps ns us k d = false by cases d <;> first | rfl | cases e] at q
      exact q
    | true =>
      obtain ⟨z, rfl⟩ : ∃ z, d = .str z := by cases d <;> first | exact ⟨_, rfl⟩ | cases e
      cases dv0.strI
      refine iteT ⟨_, rfl, x, C, dx, _, _, rfl, hx, X.cl, X.n6, rfl, KD, rfl, .inl ⟨_, .inl hkd⟩, _, rfl, _, DGet.k (k := .inr z) hkd, ?_⟩
      rw [kl_get nd z]
      by_cases hz : z ∈ allN ps ns us
      · rw [if_pos hz]
        refine ⟨_, rfl, rfl, ?_⟩
        rw [show decide ((some (V.str (kindF ps ns z))).getD V.non = V.str k) = kindD ps ns us k (.str z) from decide_eq_decide.mpr ⟨fun e => ⟨hz, by injection e⟩, fun e => congrArg V.str e.2⟩]
        exact q
      · rw [if_neg hz]
        refine ⟨_, rfl, rfl, ?_⟩
        rw [show kindD ps ns us k (.str z) = false from decide_eq_false fun e => hz e.1] at q
        exact q
end
end Kx
namespace Kx
open PySem PySem.Spec PyProof.Rows L2
/-- a position term: a tuple of a name, an own name or the empty one, and an integer -/
def nameAtD (ps : List (Str × Str)) (ns us ow : List Str) (d : PyData) : Bool := PyData.eqv d (.str "") || (strInD ow d || (kindD ps ns us "position" d || kindD ps ns us "length" d))
def placeD (ps : List (Str × Str)) (ns us ow : List Str) : PyData → Bool
  | .tuple [a, b] => intD b && nameAtD ps ns us ow a
  | _ => false
def shp : PyData → Prop
  | .tuple ds => ∀ e ∈ ds, EqOk e ∧ cost e ≤ 8000000
  | _ => True
section
variable {P : Program} {w : World} {K : PySem.W.Frag} {mg : Str → Option Value} {base : Heap}
abbrev N_Frame_has_place : List Str := ["self", "value", "own", "name"]
abbrev P_Frame_has_place : List Str := ["self", "value", "own"]
theorem sc_Frame_has_place : FnScope N_Frame_has_place P_Frame_has_place (defScope s_Frame_has_place) := ⟨rfl, rfl, rfl, by decide +kernel, rfl, by decide +kernel, by decide +kernel⟩
def spPlace (C : Addr) : Sp := fun vs H Q _ => ∃ (ex : Addr → Prop) (x o : Addr) (va vp vv v : V) (d : PyData) (ps : List (Str × Str)) (ns us ow : List Str), vs = [.ref x, v, .ref o] ∧ FrameAt C H x va vp vv ps ns us ∧ Dv ex H v d ∧ shp d ∧ TupF H o (ow.map V.str) ∧ ∀ H', Same H H' → Q (.bl (placeD ps ns us ow d)) H'
theorem ok_place {om : Obj} (hK : K.lookup sysModules = some om) (T : Bt mg) {C : Addr} (X : Fx K mg C) (h : HasM K C "has_place" "Frame.has_place" s_Frame_has_place) (C1 : Ca P w K mg base 1 "is_integer" P_is_integer (spJudge intD)) (M1 : Me P w K mg base C 1 "_is_of_kind" P_Frame_is_of_kind (spKindD C)) : Me P w K mg base C 2 "has_place" P_Frame_has_place (spPlace C) := by
  obtain ⟨_, _, c_is_integer⟩ := C1
  obtain ⟨_, _, c_is_of_kind⟩ := M1
  refine met_of h sc_Frame_has_place (fun _ _ _ _ _ _ us hl => match us, hl with | [_, _, _], _ => rfl) (fun vs H Q E h => ?_) (fun f cdv A outer s H vs Q E hr h => ?_)
  · obtain ⟨ex, x, o, va, vp, vv, v, d, ps, ns, us, ow, rfl, _⟩ := h
    rfl
  · obtain ⟨ex, x, o, va, vp, vv, v, d, ps, ns, us, ow, rfl, fr, dv, sh, to, k⟩ := h
    refine ⟨_, (pss_cons (ps_if (PW.pt (pw_or (pt_not (pt_val (pe_callB call_isi (by rfl) T.isinstance (by decide +kernel) (pa_cons (pv 1) (pa_cons (pe_bltn (v := .ty "tuple") (by rfl) T.tuple (by decide +kernel) rfl) pa_nil))))) (pw_or (pt_cmpR op_ne (pe_callB call_len (by rfl) T.len (by decide +kernel) (pa_cons (pv 1) pa_nil)) pe_int (nomark _)) (pw_or1 (pt_not (pt_val (pe_call c_is_integer.1 (hr.mono (by decide)) rfl c_is_integer.2.1 c_is_integer.2.2.1 c_is_integer.2.2.2 .nil pass0 (pa_cons (pe_ix ix_tup (pv 1) pe_int (fun _ _ => rfl)) pa_nil)))))))) (pss_one (ps_ret pe_bl)) pss_nil)
      (pss_cons (ps_set (i := 3) sc_Frame_has_place.nd rfl (.inl rfl) (pe_ix ix_tup (pv 1) pe_int (fun _ _ => rfl)))
      (pss_one (ps_ret (pe_or (pe_cmpR (op_eqE hK hr.units) (pv 3) pe_str (nomark _)) (pe_or (pe_cmpR (op_inS (hu_of hr)) (pv 3) (pv 2) rfl) (pe_or (pe_meth (pv 0) X.cl c_is_of_kind.2.1 c_is_of_kind.1 (hr.mono (by decide)) c_is_of_kind.2.2 .nil pass0 (pa_cons (pv 3) (pa_cons pe_str pa_nil))) (pe_one (pe_meth (pv 0) X.cl c_is_of_kind.2.1 c_is_of_kind.1 (hr.mono (by decide)) c_is_of_kind.2.2 .nil pass0 (pa_cons (pv 3) (pa_cons pe_str pa_nil))))))))))), ?_⟩
    refine ⟨_, rfl, _, _, _, _, _, rfl, .ty _, dv.ty, kitT d, _, rfl, ?_⟩
    cases e : isTupD d with
    | false =>
      have no : placeD ps ns us ow d = false := by cases d <;> first | rfl | (cases e; done)
      have := k H Same.refl
      rw [no] at this
      exact iteT (iteT this)
    | true =>
      obtain ⟨ds, rfl⟩ : ∃ ds, d = .tuple ds := by cases d <;> first | exact ⟨_, rfl⟩ | (cases e; done)
      obtain ⟨a, xs, rfl, ht, dl⟩ := dv.tupI
      have hl := dl.len
      refine iteF ?_
      have sqx : SqT K H a xs := ht.sq
      refine ⟨_, rfl, _, _, rfl, .inr ⟨_, sqx, rfl⟩, rfl, ?_⟩
      refine ⟨_, rfl, ?_⟩
      by_cases h2 : xs.length = 2
      · obtain ⟨a0, a1, rfl⟩ : ∃ a0 a1, xs = [a0, a1] := match xs, h2 with | [_, _], _ => ⟨_, _, rfl⟩
        obtain ⟨d0, d1, rfl⟩ : ∃ d0 d1, ds = [d0, d1] := match ds, hl with | [_, _], _ => ⟨_, _, rfl⟩
        rw [decide_eq_true (show V.int (([a0, a1] : List V).length : Int) = V.int 2 from rfl)]
        cases dl with
        | cons dv0 dl =>
        cases dl with
        | cons dv1 _ =>
        refine iteF ?_
        have s0 := sh d0 List.mem_cons_self
        have s1 := sh d1 (List.mem_cons_of_mem _ List.mem_cons_self)
        refine ⟨_, rfl, a, [a0, a1], 1, a1, rfl, rfl, sqx, rfl, ex, _, _, rfl, dv1, s1.2, fun H1 sm => ?_⟩
        refine ⟨_, rfl, ?_⟩
        have q := k H1 sm
        rw [show placeD ps ns us ow (.tuple [d0, d1]) = (intD d1 && nameAtD ps ns us ow d0) from rfl] at q
        have kx := Kp.same (ex := ex) sm
        cases e1 : intD d1 with
        | false =>
          rw [e1] at q
          exact iteT q
        | true =>
          rw [e1] at q
          refine iteF ?_
          refine ⟨_, rfl, a, [a0, a1], 0, a0, rfl, rfl, (kx.tup ht).sq, rfl, ?_⟩
          have d0' := dv0.kp kx
          refine ⟨_, rfl, ex, d0, "", rfl, d0', s0.1, by decide +kernel, _, rfl, ?_⟩
          rw [show (true && nameAtD ps ns us ow d0) = (PyData.eqv d0 (.str "") || (strInD ow d0 || (kindD ps ns us "position" d0 || kindD ps ns us "length" d0))) from rfl] at q
          have frx := fr.same sm
          cases b1 : PyData.eqv d0 (.str "") with
          | true =>
            rw [b1] at q
            exact iteT q
          | false =>
            rw [b1] at q
            refine iteF ⟨_, rfl, _, rfl, ex, o, ow, d0, rfl, (kx.tup to).sq, d0', _, rfl, ?_⟩
            cases b2 : strInD ow d0 with
            | true =>
              rw [b2] at q
              exact iteT q
            | false =>
              rw [b2] at q
              obtain ⟨dx, LB, LT, KD, hx, _⟩ := frx.ob
              refine iteF ⟨_, rfl, x, dx, _, rfl, hx, rfl, _, rfl, ex, x, va, vp, vv, a0, d0, ps, ns, us, _, rfl, frx, d0', _, rfl, ?_⟩
              cases b3 : kindD ps ns us "position" d0 with
              | true =>
                rw [b3] at q
                exact iteT q
              | false =>
                rw [b3] at q
                exact iteF ⟨_, rfl, x, dx, _, rfl, hx, rfl, _, rfl, ex, x, va, vp, vv, a0, d0, ps, ns, us, _, rfl, frx, d0', q⟩
      · rw [decide_eq_false (fun q : V.int (xs.length : Int) = V.int 2 => h2 (by injection q with q; omega))]
        have := k H Same.refl
        rw [show placeD ps ns us ow (.tuple ds) = false from match ds, hl with
          | [], _ => rfl
          | [_], _ => rfl
          | [_, _], hl => absurd hl h2
          | _ :: _ :: _ :: _, _ => rfl] at this
        exact iteT (iteT this)
end
end Kx
namespace Kx
open PySem PySem.Spec PyProof.Rows L2
/-- own names that are right: at most two, different, no names of the frame -/
def OwnOk (ps : List (Str × Str)) (ns us ow : List Str) : Prop := ow.length ≤ 2 ∧ ow.Nodup ∧ ∀ z ∈ ow, NameS z ∧ ¬ z ∈ allN ps ns us
section
variable {P : Program} {w : World} {K : PySem.W.Frag} {mg : Str → Option Value} {base : Heap}
abbrev N_are_own_names : List Str := ["frame", "value", "name"]
abbrev P_are_own_names : List Str := ["frame", "value"]
theorem sc_are_own_names : FnScope N_are_own_names P_are_own_names (defScope s_are_own_names) := ⟨rfl, rfl, rfl, by decide +kernel, rfl, by decide +kernel, by decide +kernel⟩
def spOwn (C : Addr) : Sp := fun vs H Q _ => ∃ (x o : Addr) (va vp vv : V) (ps : List (Str × Str)) (ns us ow : List Str), vs = [.ref x, .ref o] ∧ FrameAt C H x va vp vv ps ns us ∧ TupF H o (ow.map V.str) ∧ OwnOk ps ns us ow ∧ ∀ H', Same H H' → Q (.bl true) H'
theorem ok_own (T : Bt mg) (gO : ∃ t, mg "MAX_OWN" = some (.int 2 t)) {C : Addr} (X : Fx K mg C) (h : Has K mg "are_own_names" s_are_own_names) (M1 : Me P w K mg base C 2 "is_fresh" P_Frame_is_fresh (spFresh C)) : Ca P w K mg base 3 "are_own_names" P_are_own_names (spOwn C) := by
  obtain ⟨_, gO⟩ := gO
  obtain ⟨_, _, c_is_fresh⟩ := M1
  refine cal_of h sc_are_own_names (fun _ _ _ _ _ _ us hl => match us, hl with | [_, _], _ => rfl) (fun vs H Q E h => ?_) (fun f cdv A outer s H vs Q E hr h => ?_)
  · obtain ⟨x, o, va, vp, vv, ps, ns, us, ow, rfl, _⟩ := h
    rfl
  · obtain ⟨x, o, va, vp, vv, ps, ns, us, ow, rfl, fr, to, ⟨hl, nd, hn⟩, k⟩ := h
    refine ⟨_, (pss_cons (ps_if (PW.pt (pw_or (pt_not (pt_val (pe_callB call_isi (by rfl) T.isinstance (by decide +kernel) (pa_cons (pv 1) (pa_cons (pe_bltn (v := .ty "tuple") (by rfl) T.tuple (by decide +kernel) rfl) pa_nil))))) (pw_or1 (pt_cmpR op_gt (pe_callB call_len (by rfl) T.len (by decide +kernel) (pa_cons (pv 1) pa_nil)) (pe_glob (v := .int 2) rfl gO ⟨_, rfl⟩) (nomark _))))) (pss_one (ps_ret pe_bl)) pss_nil)
      (pss_one (ps_ret (pe_and (pe_callB (cr_all rfl) (by rfl) T.all (by decide +kernel) (pa_cons (pe_lc (own := [("name", 2)]) (g := (gName 2)) (tt := tYes) (by rfl) sc_are_own_names.nd (pi_tup (pv 1)) (blkOk_by (own := [("name", 2)]) (N := ["frame", "value", "name"]) (sc := defScope s_are_own_names) (by decide +kernel)) (fun _ _ _ _ _ => pg_name (i := 2) sc_are_own_names.nd rfl (Or.inl rfl)) (fun _ _ _ _ _ => pts_nil) (fun _ _ _ _ _ => (pe_meth (pv 0) X.cl c_is_fresh.2.1 c_is_fresh.1 (hr.mono (by decide)) c_is_fresh.2.2 .nil pass0 (pa_cons (pv 2) pa_nil)))) pa_nil)) (pe_one (pe_cmpR op_eq (pe_lenSetT rfl rfl T.len rfl T.set (pv 1)) (pe_callB call_len (by rfl) T.len (by decide +kernel) (pa_cons (pv 1) pa_nil)) (nomark _))))))), ?_⟩
    have dt := Dv.tupM (ex := fun _ => True) to (DvL.strs ow)
    refine ⟨_, rfl, _, _, _, _, _, rfl, .ty _, dt.ty, kitT _, _, rfl, ?_⟩
    refine iteF ⟨_, rfl, _, _, rfl, .inr ⟨_, to.sq, rfl⟩, _, _, rfl, rfl, _, rfl, ?_⟩
    rw [decide_eq_false (by rw [List.length_map]; omega : ¬ (2 : Int) < ((ow.map V.str).length : Int))]
    refine iteF ?_
    obtain ⟨dx, LB, LT, KD, hx, _⟩ := fr.ob
    refine ⟨_, rfl, o, rfl, ⟨_, to.sq⟩, fun D hD => lc_o (walk_tup (K := K) (a := o) (xs := ow.map V.str)) (fun i => ow[i]?.map fun _ => V.bl true) (by rw [List.length_map, sizeLine_eq]; omega) hD (fun Hx sm => ((Kp.same (ex := fun _ => True) sm).tup to).sq) ?_ ?_⟩
    · rintro i y Hx H' Nx hi sm hDx ⟨rfl, hy⟩ hno hyes
      rw [List.getElem?_map] at hy
      cases q : ow[i]? with
      | none => rw [q] at hy; cases hy
      | some z =>
        rw [q] at hy
        cases hy
        have hz := hn z (List.mem_of_getElem? q)
        have z8 : z.length ≤ 8 := hz.1.2.1
        refine ⟨rfl, yes ⟨_, rfl, x, dx, _, rfl, sm _ _ hx, rfl, _, rfl, fun _ => True, x, va, vp, vv, ps, ns, us, _, .str z, rfl, fr.same sm, .str z, by simp only [cost]; omega, fun H2 sm2 => ?_⟩⟩
        rw [show freshD ps ns us (.str z) = true by
          show (decide (NameS z) && !decide (z ∈ allN ps ns us)) = true
          rw [decide_eq_true hz.1, decide_eq_false hz.2]; rfl]
        exact hyes _ (by rw [q]; rfl) _ sm2
    · intro Hx sm hDx
      rw [List.length_map, range_list, show (ow.map fun _ => V.bl true) = (ow.map fun _ => true).map V.bl by rw [List.map_map]; rfl] at hDx
      have tx := (Kp.same (ex := fun _ => True) sm).tup to
      refine ⟨D, _, rfl, SqL.of hDx, ?_⟩
      rw [show (ow.map fun _ => true).all id = true by rw [List.all_map]; exact List.all_eq_true.mpr fun _ _ => rfl]
      refine ⟨_, rfl, iteT ?_⟩
      refine ⟨_, rfl, o, ow, rfl, tx.sq, by omega, _, rfl, _, _, rfl, .inr ⟨_, tx.sq, rfl⟩, rfl, ?_⟩
      have hu : (uniq ow).length = ow.length := by
        have a1 := uniq_len ow
        have a2 := nodup_le ow (uniq ow) nd fun x hx => (uniq_mem _ _).mpr hx
        omega
      rw [decide_eq_true (show V.int ((uniq ow).length : Int) = V.int ((ow.map V.str).length : Int) by rw [List.length_map, hu])]
      exact k Hx sm
end
end Kx
namespace Kx
open PySem PySem.Spec PyProof.Rows L2
section
variable {P : Program} {w : World} {K : PySem.W.Frag} {mg : Str → Option Value} {base : Heap}
abbrev N_check_own : List Str := ["frame", "own"]
abbrev P_check_own : List Str := ["frame", "own"]
theorem sc_check_own : FnScope N_check_own P_check_own (defScope s_check_own) := ⟨rfl, rfl, rfl, by decide +kernel, rfl, by decide +kernel, by decide +kernel⟩
def spChk (C : Addr) : Sp := fun vs H Q _ => ∃ (x o : Addr) (va vp vv : V) (ps : List (Str × Str)) (ns us ow : List Str), vs = [.ref x, .ref o] ∧ FrameAt C H x va vp vv ps ns us ∧ TupF H o (ow.map V.str) ∧ OwnOk ps ns us ow ∧ ∀ H', Same H H' → Q .non H'
theorem ok_chk (T : Bt mg) {C : Addr} (h : Has K mg "_check_own" s_check_own) (C1 : Ca P w K mg base 3 "are_own_names" P_are_own_names (spOwn C)) : Ca P w K mg base 4 "_check_own" P_check_own (spChk C) := by
  obtain ⟨_, _, c_are_own_names⟩ := C1
  refine cal_of h sc_check_own (fun _ _ _ _ _ _ us hl => match us, hl with | [_, _], _ => rfl) (fun vs H Q E h => ?_) (fun f cdv A outer s H vs Q E hr h => ?_)
  · obtain ⟨x, o, va, vp, vv, ps, ns, us, ow, rfl, _⟩ := h
    rfl
  · obtain ⟨x, o, va, vp, vv, ps, ns, us, ow, rfl, fr, to, ok, k⟩ := h
    refine ⟨_, (pss_one (ps_if (pt_not (pt_val (pe_call c_are_own_names.1 (hr.mono (by decide)) rfl c_are_own_names.2.1 c_are_own_names.2.2.1 c_are_own_names.2.2.2 .nil pass0 (pa_cons (pv 0) (pa_cons (pv 1) pa_nil))))) (pss_one ps_never) pss_nil)), ?_⟩
    refine ⟨_, rfl, _, rfl, x, o, va, vp, vv, ps, ns, us, ow, rfl, fr, to, ok, fun H1 sm => ?_⟩
    exact ⟨_, rfl, iteF (k H1 sm)⟩
end
end Kx
namespace Kx
open PySem PySem.Spec PyProof.Rows L2
/-- a value term -/
def amountD (ps : List (Str × Str)) (ns us ow : List Str) : PyData → Bool
  | .tuple [a, b, c, e] => kindD ps ns us "array" a && (placeD ps ns us ow (.tuple [b, c]) && intD e)
  | .tuple [a, b] => (PyData.eqv a (.str "") || kindD ps ns us "value" a) && intD b
  | _ => false
section
variable {P : Program} {w : World} {K : PySem.W.Frag} {mg : Str → Option Value} {base : Heap}
abbrev N_Frame_has_amount : List Str := ["self", "value", "own"]
abbrev P_Frame_has_amount : List Str := ["self", "value", "own"]
theorem sc_Frame_has_amount : FnScope N_Frame_has_amount P_Frame_has_amount (defScope s_Frame_has_amount) := ⟨rfl, rfl, rfl, by decide +kernel, rfl, by decide +kernel, by decide +kernel⟩
def spAmount (C : Addr) : Sp := fun vs H Q _ => ∃ (ex : Addr → Prop) (x o : Addr) (va vp vv v : V) (d : PyData) (ps : List (Str × Str)) (ns us ow : List Str), vs = [.ref x, v, .ref o] ∧ FrameAt C H x va vp vv ps ns us ∧ Dv ex H v d ∧ shp d ∧ TupF H o (ow.map V.str) ∧ ∀ H', Same H H' → Q (.bl (amountD ps ns us ow d)) H'
theorem ok_amount {om : Obj} (hK : K.lookup sysModules = some om) (T : Bt mg) {C : Addr} (X : Fx K mg C) (h : HasM K C "has_amount" "Frame.has_amount" s_Frame_has_amount) (C1 : Ca P w K mg base 1 "is_integer" P_is_integer (spJudge intD)) (M1 : Me P w K mg base C 1 "_is_of_kind" P_Frame_is_of_kind (spKindD C))
    (M2 : Me P w K mg base C 2 "has_place" P_Frame_has_place (spPlace C)) : Me P w K mg base C 3 "has_amount" P_Frame_has_amount (spAmount C) := by
  obtain ⟨_, _, c_is_integer⟩ := C1
  obtain ⟨_, _, c_is_of_kind⟩ := M1
  obtain ⟨_, _, c_has_place⟩ := M2
  refine met_of h sc_Frame_has_amount (fun _ _ _ _ _ _ us hl => match us, hl with | [_, _, _], _ => rfl) (fun vs H Q E h => ?_) (fun f cdv A outer s H vs Q E hr h => ?_)
  · obtain ⟨ex, x, o, va, vp, vv, v, d, ps, ns, us, ow, rfl, _⟩ := h
    rfl
  · obtain ⟨ex, x, o, va, vp, vv, v, d, ps, ns, us, ow, rfl, fr, dv, sh, to, k⟩ := h
    refine ⟨_, (pss_cons (ps_if (pt_not (pt_val (pe_callB call_isi (by rfl) T.isinstance (by decide +kernel) (pa_cons (pv 1) (pa_cons (pe_bltn (v := .ty "tuple") (by rfl) T.tuple (by decide +kernel) rfl) pa_nil))))) (pss_one (ps_ret pe_bl)) pss_nil)
      (pss_cons (ps_if (pt_cmpR op_eq (pe_callB call_len (by rfl) T.len (by decide +kernel) (pa_cons (pv 1) pa_nil)) pe_int (nomark _)) (pss_one (ps_ret (pe_and (pe_meth (pv 0) X.cl c_is_of_kind.2.1 c_is_of_kind.1 (hr.mono (by decide)) c_is_of_kind.2.2 .nil pass0 (pa_cons (pe_ix ix_tup (pv 1) pe_int (fun _ _ => rfl)) (pa_cons pe_str pa_nil))) (pe_and (pe_meth (pv 0) X.cl c_has_place.2.1 c_has_place.1 (hr.mono (by decide)) c_has_place.2.2 .nil pass0 (pa_cons (pe_slice sl_tupF (pv 1) (po_some pe_int) (po_some pe_int)) (pa_cons (pv 2) pa_nil))) (pe_one (pe_call c_is_integer.1 (hr.mono (by decide)) rfl c_is_integer.2.1 c_is_integer.2.2.1 c_is_integer.2.2.2 .nil pass0 (pa_cons (pe_ix ix_tup (pv 1) pe_int (fun _ _ => rfl)) pa_nil))))))) pss_nil)
      (pss_one (ps_ret (pe_and (pe_cmpR op_eq (pe_callB call_len (by rfl) T.len (by decide +kernel) (pa_cons (pv 1) pa_nil)) pe_int (nomark _)) (pe_and (pe_or (pe_cmpR (op_eqE hK hr.units) (pe_ix ix_tup (pv 1) pe_int (fun _ _ => rfl)) pe_str (nomark _)) (pe_one (pe_meth (pv 0) X.cl c_is_of_kind.2.1 c_is_of_kind.1 (hr.mono (by decide)) c_is_of_kind.2.2 .nil pass0 (pa_cons (pe_ix ix_tup (pv 1) pe_int (fun _ _ => rfl)) (pa_cons pe_str pa_nil))))) (pe_one (pe_call c_is_integer.1 (hr.mono (by decide)) rfl c_is_integer.2.1 c_is_integer.2.2.1 c_is_integer.2.2.2 .nil pass0 (pa_cons (pe_ix ix_tup (pv 1) pe_int (fun _ _ => rfl)) pa_nil))))))))), ?_⟩
    refine ⟨_, rfl, _, _, _, _, _, rfl, .ty _, dv.ty, kitT d, _, rfl, ?_⟩
    cases e : isTupD d with
    | false =>
      have no : amountD ps ns us ow d = false := by cases d <;> first | rfl | (cases e; done)
      have := k H Same.refl
      rw [no] at this
      exact iteT this
    | true =>
      obtain ⟨ds, rfl⟩ : ∃ ds, d = .tuple ds := by cases d <;> first | exact ⟨_, rfl⟩ | (cases e; done)
      obtain ⟨a, xs, rfl, ht, dl⟩ := dv.tupI
      have hl := dl.len
      refine iteF ?_
      have sqx : SqT K H a xs := ht.sq
      refine ⟨_, rfl, _, _, rfl, .inr ⟨_, sqx, rfl⟩, rfl, _, rfl, ?_⟩
      obtain ⟨dx, LB, LT, KD, hx, _⟩ := fr.ob
      by_cases h4 : xs.length = 4
      · obtain ⟨a0, a1, a2, a3, rfl⟩ : ∃ a0 a1 a2 a3, xs = [a0, a1, a2, a3] := match xs, h4 with | [_, _, _, _], _ => ⟨_, _, _, _, rfl⟩
        obtain ⟨d0, d1, d2, d3, rfl⟩ : ∃ d0 d1 d2 d3, ds = [d0, d1, d2, d3] := match ds, hl with | [_, _, _, _], _ => ⟨_, _, _, _, rfl⟩
        rw [decide_eq_true (show V.int (([a0, a1, a2, a3] : List V).length : Int) = V.int 4 from rfl)]
        obtain ⟨dv0, dv1, dv2, dv3⟩ : Dv ex H a0 d0 ∧ Dv ex H a1 d1 ∧ Dv ex H a2 d2 ∧ Dv ex H a3 d3 := by
          cases dl with
          | cons q0 dl => cases dl with
            | cons q1 dl => cases dl with
              | cons q2 dl => cases dl with
                | cons q3 dl => exact ⟨q0, q1, q2, q3⟩
        have s1 := sh d1 (by simp)
        have s2 := sh d2 (by simp)
        have s3 := sh d3 (by simp)
        refine iteT ?_
        refine ⟨_, rfl, x, dx, _, rfl, hx, rfl, _, rfl, a, _, 0, a0, rfl, rfl, sqx, rfl, ex, x, va, vp, vv, a0, d0, ps, ns, us, _, rfl, fr, dv0, ?_⟩
        have q : ∀ H', Same H H' → Q (.bl (kindD ps ns us "array" d0 && (placeD ps ns us ow (.tuple [d1, d2]) && intD d3))) H' := k
        refine ⟨_, rfl, ?_⟩
        cases e1 : kindD ps ns us "array" d0 with
        | false =>
          have := q H Same.refl
          rw [e1] at this
          exact iteF this
        | true =>
          refine iteT ⟨_, rfl, x, dx, _, rfl, hx, rfl, _, rfl, _, rfl, _, rfl, a, _, rfl, ht, fun p H1 sm hp => ?_⟩
          have hp2 : TupF H1 p [a1, a2] := hp
          have kx := Kp.same (ex := ex) sm
          refine ⟨_, rfl, ex, x, o, va, vp, vv, _, .tuple [d1, d2], ps, ns, us, ow, rfl, fr.same sm, .tupM hp2 (.cons (dv1.kp kx) (.cons (dv2.kp kx) .nil)), ?_, kx.tup to, fun H2 sm2 => ?_⟩
          · intro e he
            rcases List.mem_cons.mp he with rfl | he
            · exact s1
            · rcases List.mem_cons.mp he with rfl | he
              · exact s2
              · cases he
          · have s12 := sm.trans sm2
            refine ⟨_, rfl, ?_⟩
            cases e2 : placeD ps ns us ow (.tuple [d1, d2]) with
            | false =>
              have := q H2 s12
              rw [e1, e2] at this
              exact iteF this
            | true =>
              have kx2 := Kp.same (ex := ex) s12
              refine iteT ⟨_, rfl, a, _, 3, a3, rfl, rfl, (kx2.tup ht).sq, rfl, ex, _, _, rfl, dv3.kp kx2, s3.2, fun H3 sm3 => ?_⟩
              have := q H3 (s12.trans sm3)
              rw [e1, e2] at this
              exact this
      · rw [decide_eq_false (fun q : V.int (xs.length : Int) = V.int 4 => h4 (by injection q with q; omega))]
        refine iteF ⟨_, rfl, _, _, rfl, .inr ⟨_, sqx, rfl⟩, rfl, _, rfl, ?_⟩
        by_cases h2 : xs.length = 2
        · obtain ⟨a0, a1, rfl⟩ : ∃ a0 a1, xs = [a0, a1] := match xs, h2 with | [_, _], _ => ⟨_, _, rfl⟩
          obtain ⟨d0, d1, rfl⟩ : ∃ d0 d1, ds = [d0, d1] := match ds, hl with | [_, _], _ => ⟨_, _, rfl⟩
          rw [decide_eq_true (show V.int (([a0, a1] : List V).length : Int) = V.int 2 from rfl)]
          obtain ⟨dv0, dv1⟩ : Dv ex H a0 d0 ∧ Dv ex H a1 d1 := by
            cases dl with
            | cons q0 dl => cases dl with
              | cons q1 dl => exact ⟨q0, q1⟩
          have s0 := sh d0 (by simp)
          have s1 := sh d1 (by simp)
          have q : ∀ H', Same H H' → Q (.bl ((PyData.eqv d0 (.str "") || kindD ps ns us "value" d0) && intD d1)) H' := k
          refine iteT ⟨_, rfl, a, _, 0, a0, rfl, rfl, sqx, rfl, ex, d0, "", rfl, dv0, s0.1, by decide +kernel, _, rfl, ?_⟩
          have last : (PyData.eqv d0 (.str "") || kindD ps ns us "value" d0) = true → ∀ H1, Same H H1 → Q (.bl (intD d1)) H1 := fun e H1 sm => by
            have := q H1 sm
            rw [e] at this
            exact this
          cases b1 : PyData.eqv d0 (.str "") with
          | true => exact iteT ⟨_, rfl, iteT ⟨_, rfl, a, _, 1, a1, rfl, rfl, sqx, rfl, ex, _, _, rfl, dv1, s1.2, fun H1 sm => last (by rw [b1]; rfl) H1 sm⟩⟩
          | false =>
            refine iteF ⟨_, rfl, x, dx, _, rfl, hx, rfl, _, rfl, a, _, 0, a0, rfl, rfl, sqx, rfl, ex, x, va, vp, vv, a0, d0, ps, ns, us, _, rfl, fr, dv0, _, rfl, ?_⟩
            cases b2 : kindD ps ns us "value" d0 with
            | true => exact iteT ⟨_, rfl, a, _, 1, a1, rfl, rfl, sqx, rfl, ex, _, _, rfl, dv1, s1.2, fun H1 sm => last (by rw [b1, b2]; rfl) H1 sm⟩
            | false =>
              have := q H Same.refl
              rw [b1, b2] at this
              exact iteF this
        · have no : amountD ps ns us ow (.tuple ds) = false := match ds, hl with
            | [], _ => rfl
            | [_], _ => rfl
            | [_, _], hl => absurd hl h2
            | [_, _, _], _ => rfl
            | [_, _, _, _], hl => absurd hl h4
            | _ :: _ :: _ :: _ :: _ :: _, _ => rfl
          rw [decide_eq_false (fun q : V.int (xs.length : Int) = V.int 2 => h2 (by injection q with q; omega))]
          have := k H Same.refl
          rw [no] at this
          exact iteF this
end
end Kx
namespace Kx
open PySem PySem.Spec PyProof.Rows L2
/-! ### o.m(e, k = v) -/
def tMethPK (C : Addr) (m : Str) (n j : Nat) (sp : Sp) (gV : List V → List V → List V) (E : XK) (ta : TE) (t tk : TA) : TE := fun σ H Q => ta σ H fun x H1 => ∃ a dx fs, x = .ref a ∧ H1 a = some (.ins C dx fs) ∧ fs.lookup m = none ∧ t σ H1 fun vs H2 => tk σ H2 fun zs H3 => vs.length + 1 = n ∧ zs.length = j ∧ sp (gV (.ref a :: vs) zs) H3 Q E
section
variable {X : Cx} {CX : CXT} {k n : Nat} {f C : Addr} {fd : FuncData} {ps ks : List Str} {sp : Sp} {E : XK} {m : Str} {pos apos : Pos} {e o : Expr} {es : List Expr} {kws : List Keyword} {ta : TE} {t tk : TA} {g : List Value → List Value → List Value} {gV : List V → List V → List V}
theorem pe_methPK {pl : Sem Bool} (he : PE X o ta) (c : Cls X.K C) (hm : Meth X.K C m f) (F : FnOk X.prog X.w X.K X.mg X.base CX k f fd ps sp) (hr : Room k X.A) (hb : KBn X.K fd ps n ks g gV) (hx : Passes CX X E) (ha : PA X (e :: es) t) (hkw : PK X kws tk)
    (hall : (backToKw pos (keywordEach kws X.env)).all (·.1.isSome) = true := by rfl) (hks : (backToKw pos (keywordEach kws X.env)).filterMap (·.1) = ks := by rfl)
    (hst : starEach (e :: es) X.env = (false, eval e X.env) :: starEach es X.env := by rfl)
    (hpl : ((backTo pos (starEach (e :: es) X.env)).any (·.1) || (backToKw pos (keywordEach kws X.env)).any (·.1.isNone)) = false := by rfl)
    (ht : eval (.Call (.Attribute o m apos) (e :: es) kws pos) X.env = (do
      let ov ← eval o X.env
      standAt apos.atName
      let (f, first) ← holding [ov] (getMethod ov m pl)
      callWith pos f first (backTo pos (starEach (e :: es) X.env)) (backToKw pos (keywordEach kws X.env))) := by rfl) :
    PE X (.Call (.Attribute o m apos) (e :: es) kws pos) (tMethPK C m n ks.length sp gV E ta t tk) := by
  refine ⟨fun pins s σ H Q I h => ?_⟩
  refine PySem.W.methodCall_KW (pl := pl) (thn (he.run pins s σ H _ I h) fun u s1 ⟨x, H1, I1, rx, a, dx, fs, ex, ea, l, q⟩ => ?_) ht
  subst ex
  obtain rfl : u = Value.ref a := rx
  refine getmeth_ok I1 ea c hm l ?_
  refine PySem.W.callWith_KW (first := [.ref a]) (h₀ := X.base) I.ok.mod.kin hm.kp hall (thn (ha.run pos pins s1 σ H1 _ I1 q) fun us s2 ⟨vs, H2, I2, r, q2⟩ => ?_) hpl hst
  refine thn (hkw.run pos pins s2 σ H2 _ I2 q2) fun ws s3 ⟨zs, H3, I3, rz, l1, l2, q3⟩ => ⟨I3.kIn, ?_⟩
  rw [hks]
  have r1 : Vals (V.ref a :: vs) (Value.ref a :: us) := .cons rfl r
  have r2 := hb.rel r1 rz
  have l3 : (Value.ref a :: us).length = n := by rw [← r1.length]; exact l1
  refine wpAny_call (codeAny_mono (F.run X.A X.stack s3 H3 ⟨.ref a :: us, ks.zip ws⟩ (g (.ref a :: us) ws) (gV (.ref a :: vs) zs) Q E hr I3.env0 (hb.to s3 (.ref a :: us) ws I3.kIn l3 (rz.length.symm.trans l2)) r2 q3) fun r s' hq => ?_)
  cases r with
  | error e => exact hx pins σ H3 s3 e s' I3 hq
  | ok fl =>
    cases fl with
    | ret u => exact I3.after hq
    | next => exact False.elim hq
    | brk => exact False.elim hq
    | cont => exact False.elim hq
end
def gApp {α : Type} (vs ms zs : List α) : List α := vs ++ zs
/-- a method with one keyword-only default, the empty tuple at T -/
abbrev Mo (P : Program) (w : World) (K : PySem.W.Frag) (mg : Str → Option Value) (base : Heap) (C T : Addr) (k : Nat) (m : Str) (ps : List Str) (sp : Sp) : Prop :=
  ∃ f fd, FnOk P w K mg base CX0 k f fd ps sp ∧ Meth K C m f ∧ (∃ ds, Vals [.ref T] ds ∧ Binds K fd ps ds) ∧ ∃ g, KBn K fd ps 2 ["own"] g (fun vs zs => vs ++ zs)
def HasMo (K : PySem.W.Frag) (C T : Addr) (m q : Str) (st : Stmt) : Prop := ∃ f fd, FunD K m q (defArgs st) (defBody st) (defScope st) [] [("own", .ref T)] f fd ∧ Meth K C m f
section
variable {P : Program} {w : World} {K : PySem.W.Frag} {mg : Str → Option Value} {base : Heap}
theorem mo_of {C T : Addr} {m q : Str} {st : Stmt} {N ps : List Str} {k : Nat} {sp : Sp} (h : HasMo K C T m q st) (S : FnScope N ps (defScope st)) (hp : ps.length = 3)
    (b1 : ∀ (D : Addr) (doc pm : Value) (an : Option Addr) (cdv ct : Value) (us ks : List Value), us.length = 2 → ks.length = 1 → KwChain D ((["own"] : List Str).zip ks) (bindArgs (PySem.W.fnOf m q (defArgs st) (defBody st) (defScope st) .none (.ref D) doc pm an cdv ct) ⟨us, []⟩) (ps.zip (us ++ ks)))
    (b2 : ∀ (D : Addr) (doc pm : Value) (an : Option Addr) (cdv ct : Value) (us ws : List Value), us.length = 2 → ws.length = 1 → bindArgs (PySem.W.fnOf m q (defArgs st) (defBody st) (defScope st) .none (.ref D) doc pm an cdv ct) ⟨us, (["own"] : List Str).zip ws⟩ = pure (ps.zip (us ++ ws)))
    (len : ∀ vs H Q E, sp vs H Q E → vs.length = ps.length)
    (body : ∀ (f : Addr) (cdv : Value) (A : Around) (outer : List Env) (s : Shared) (H : Hp) (vs : List V) (Q : VK) (E : XK), Room k (A.deeper (envOfC q (defScope st) s.heap.objs.size f cdv)) → sp vs H Q E →
      ∃ t, PSs (cxOf CX0 P w K mg base N q (defScope st) f cdv A outer s H E).nox (defBody st) t ∧ t { nx := fun _ H' => Q .non H', rt := Q } (start N vs) H) : Mo P w K mg base C T (k + 1) m ps sp := by
  obtain ⟨f, fd, F, g⟩ := h
  refine ⟨f, fd, F.ok S len (fun cdv A outer s H vs Q E hr h => let ⟨t, ht, q⟩ := body f cdv A outer s H vs Q E hr h; ⟨t, PSs.nox ht, q⟩), g, ?_, ?_⟩
  · exact FunD.binds0 (ps := ps) F 2 (by simp) (by rw [hp]; rfl) (fun D doc pm an cdv ct us ks h1 h2 => b1 D doc pm an cdv ct us ks h1 h2)
  · obtain ⟨mv, k⟩ := FunD.kbinds0 (ps := ps) F 2 ["own"] [] @gApp (by simp) (fun q h => by cases h) (fun r1 _ r3 => r1.append r3) (fun D doc pm an cdv ct us mv ws h1 h2 h3 => match mv, h2 with
      | [], _ => by
        have := b2 D doc pm an cdv ct us ws h1 h3
        rw [this]
        rfl)
    exact ⟨_, k⟩
abbrev N_Frame_is_position_term : List Str := ["self", "value", "own"]
abbrev P_Frame_is_position_term : List Str := ["self", "value", "own"]
theorem sc_Frame_is_position_term : FnScope N_Frame_is_position_term P_Frame_is_position_term (defScope s_Frame_is_position_term) := ⟨rfl, rfl, rfl, by decide +kernel, rfl, by decide +kernel, by decide +kernel⟩
def spIsP (C : Addr) (f : List (Str × Str) → List Str → List Str → List Str → PyData → Bool) : Sp := fun vs H Q _ => ∃ (ex : Addr → Prop) (x o : Addr) (va vp vv v : V) (d : PyData) (ps : List (Str × Str)) (ns us ow : List Str), vs = [.ref x, v, .ref o] ∧ FrameAt C H x va vp vv ps ns us ∧ Dv ex H v d ∧ shp d ∧ TupF H o (ow.map V.str) ∧ OwnOk ps ns us ow ∧ ∀ H', Same H H' → Q (.bl (f ps ns us ow d)) H'
theorem ok_isP (T : Bt mg) {C To : Addr} (X : Fx K mg C) (h : HasMo K C To "is_position_term" "Frame.is_position_term" s_Frame_is_position_term) (C1 : Ca P w K mg base 4 "_check_own" P_check_own (spChk C))
    (M2 : Me P w K mg base C 2 "has_place" P_Frame_has_place (spPlace C)) : Mo P w K mg base C To 5 "is_position_term" P_Frame_is_position_term (spIsP C placeD) := by
  obtain ⟨_, _, c__check_own⟩ := C1
  obtain ⟨_, _, c_has_place⟩ := M2
  refine mo_of h sc_Frame_is_position_term rfl (fun D doc pm an cdv ct us ks h1 h2 => match us, ks, h1, h2 with
      | [_, _], [_], _, _ => ⟨_, _, _, _, _, _, rfl, rfl, rfl⟩) (fun D doc pm an cdv ct us ws h1 h3 => match us, ws, h1, h3 with
      | [_, _], [_], _, _ => rfl) (fun vs H Q E h => ?_) (fun f cdv A outer s H vs Q E hr h => ?_)
  · obtain ⟨ex, x, o, va, vp, vv, v, d, ps, ns, us, ow, rfl, _⟩ := h
    rfl
  · obtain ⟨ex, x, o, va, vp, vv, v, d, ps, ns, us, ow, rfl, fr, dv, sh, to, ok, k⟩ := h
    refine ⟨_, (pss_cons (ps_expr (pe_call c__check_own.1 (hr.mono (by decide)) rfl c__check_own.2.1 c__check_own.2.2.1 c__check_own.2.2.2 .nil pass0 (pa_cons (pv 0) (pa_cons (pv 2) pa_nil))))
      (pss_one (ps_ret (pe_meth (pv 0) X.cl c_has_place.2.1 c_has_place.1 (hr.mono (by decide)) c_has_place.2.2 .nil pass0 (pa_cons (pv 1) (pa_cons (pv 2) pa_nil)))))), ?_⟩
    obtain ⟨dx, LB, LT, KD, hx, _⟩ := fr.ob
    refine ⟨_, rfl, _, rfl, x, o, va, vp, vv, ps, ns, us, ow, rfl, fr, to, ok, fun H1 sm => ?_⟩
    have kx := Kp.same (ex := ex) sm
    exact ⟨_, rfl, x, dx, _, rfl, sm _ _ hx, rfl, _, rfl, _, rfl, ex, x, o, va, vp, vv, v, d, ps, ns, us, ow, rfl, fr.same sm, dv.kp kx, sh, kx.tup to, fun H2 sm2 => k H2 (sm.trans sm2)⟩
abbrev N_Frame_is_value_term : List Str := ["self", "value", "own"]
abbrev P_Frame_is_value_term : List Str := ["self", "value", "own"]
theorem sc_Frame_is_value_term : FnScope N_Frame_is_value_term P_Frame_is_value_term (defScope s_Frame_is_value_term) := ⟨rfl, rfl, rfl, by decide +kernel, rfl, by decide +kernel, by decide +kernel⟩
theorem ok_isV (T : Bt mg) {C To : Addr} (X : Fx K mg C) (h : HasMo K C To "is_value_term" "Frame.is_value_term" s_Frame_is_value_term) (C1 : Ca P w K mg base 4 "_check_own" P_check_own (spChk C))
    (M2 : Me P w K mg base C 3 "has_amount" P_Frame_has_amount (spAmount C)) : Mo P w K mg base C To 5 "is_value_term" P_Frame_is_value_term (spIsP C amountD) := by
  obtain ⟨_, _, c__check_own⟩ := C1
  obtain ⟨_, _, c_has_amount⟩ := M2
  refine mo_of h sc_Frame_is_value_term rfl (fun D doc pm an cdv ct us ks h1 h2 => match us, ks, h1, h2 with
      | [_, _], [_], _, _ => ⟨_, _, _, _, _, _, rfl, rfl, rfl⟩) (fun D doc pm an cdv ct us ws h1 h3 => match us, ws, h1, h3 with
      | [_, _], [_], _, _ => rfl) (fun vs H Q E h => ?_) (fun f cdv A outer s H vs Q E hr h => ?_)
  · obtain ⟨ex, x, o, va, vp, vv, v, d, ps, ns, us, ow, rfl, _⟩ := h
    rfl
  · obtain ⟨ex, x, o, va, vp, vv, v, d, ps, ns, us, ow, rfl, fr, dv, sh, to, ok, k⟩ := h
    refine ⟨_, (pss_cons (ps_expr (pe_call c__check_own.1 (hr.mono (by decide)) rfl c__check_own.2.1 c__check_own.2.2.1 c__check_own.2.2.2 .nil pass0 (pa_cons (pv 0) (pa_cons (pv 2) pa_nil))))
      (pss_one (ps_ret (pe_meth (pv 0) X.cl c_has_amount.2.1 c_has_amount.1 (hr.mono (by decide)) c_has_amount.2.2 .nil pass0 (pa_cons (pv 1) (pa_cons (pv 2) pa_nil)))))), ?_⟩
    obtain ⟨dx, LB, LT, KD, hx, _⟩ := fr.ob
    refine ⟨_, rfl, _, rfl, x, o, va, vp, vv, ps, ns, us, ow, rfl, fr, to, ok, fun H1 sm => ?_⟩
    have kx := Kp.same (ex := ex) sm
    exact ⟨_, rfl, x, dx, _, rfl, sm _ _ hx, rfl, _, rfl, _, rfl, ex, x, o, va, vp, vv, v, d, ps, ns, us, ow, rfl, fr.same sm, dv.kp kx, sh, kx.tup to, fun H2 sm2 => k H2 (sm.trans sm2)⟩
end
end Kx
namespace Kx
open PySem PySem.Spec PyProof.Rows L2
theorem DvL.appI {ex : Addr → Prop} {H : Hp} {e : List PyData} : ∀ {d : List PyData} {xs : List V}, DvL ex H xs (d ++ e) → ∃ ys zs, xs = ys ++ zs ∧ DvL ex H ys d ∧ DvL ex H zs e
  | [], xs, h => ⟨[], xs, rfl, .nil, h⟩
  | a :: d, _, .cons h1 h2 => by
    obtain ⟨ys, zs, rfl, h3, h4⟩ := DvL.appI h2
    exact ⟨_ :: ys, zs, rfl, .cons h1 h3, h4⟩
theorem atI_last {α : Type} (xs : List α) (x : α) : atI (xs ++ [x]) (-1) = some x := by
  unfold atI ixN
  have l : (xs ++ [x]).length = xs.length + 1 := by simp
  rw [l, if_neg (by omega), if_pos (by omega)]
  show (xs ++ [x])[(_ : Int).toNat]? = _
  rw [show (-1 + ((xs.length + 1 : Nat) : Int)).toNat = xs.length by omega]
  simp
theorem cutV_last (xs : List V) (x : V) : cutV (xs ++ [x]) none (some (-1)) = xs := by
  unfold cutV
  have l : (xs ++ [x]).length = xs.length + 1 := by simp
  have e2 : HT.sIx (xs.length + 1) (xs.length + 1) (some (-1)) = xs.length := by
    show (if (-1 : Int) < 0 then (-1 + ((xs.length + 1 : Nat) : Int)).toNat else min (-1 : Int).toNat (xs.length + 1)) = _
    rw [if_pos (by decide)]
    omega
  rw [l, e2, show HT.sIx (xs.length + 1) 0 none = 0 from rfl]
  simp
def termD (ps : List (Str × Str)) (ns us : List Str) (d : PyData) : Bool := placeD ps ns us [] d || amountD ps ns us [] d
theorem own0 {ps : List (Str × Str)} {ns us : List Str} : OwnOk ps ns us [] := ⟨Nat.zero_le _, List.nodup_nil, fun z h => (by cases h)⟩
section
variable {P : Program} {w : World} {K : PySem.W.Frag} {mg : Str → Option Value} {base : Heap}
abbrev N_Frame_shifted : List Str := ["self", "term", "number", "total"]
abbrev P_Frame_shifted : List Str := ["self", "term", "number"]
theorem sc_Frame_shifted : FnScope N_Frame_shifted P_Frame_shifted (defScope s_Frame_shifted) := ⟨rfl, rfl, rfl, by decide +kernel, rfl, by decide +kernel, by decide +kernel⟩
end
end Kx
namespace Kx
open PySem PySem.Spec PyProof.Rows L2
abbrev letB (ps : List (Str × Str)) (ns us : List Str) : Bool := frameD (.tuple (ps.map pairD)) (.tuple (ns.map .str)) (.tuple (us.map .str))
/-- the tuples of three parts -/
structure Prt (H : Hp) (wa wp wv : V) (qs : List (Str × Str)) (ms ts : List Str) : Prop where
  a : Dv All H wa (.tuple (qs.map pairD))
  p : Dv All H wp (.tuple (ms.map .str))
  v : Dv All H wv (.tuple (ts.map .str))
  l1 : qs.length ≤ 1000
  l2 : ms.length ≤ 1000
  l3 : ts.length ≤ 1000
  nm : Names qs ms ts
theorem Prt.kp {ex : Addr → Prop} {H H' : Hp} {wa wp wv : V} {qs : List (Str × Str)} {ms ts : List Str} (h : Prt H wa wp wv qs ms ts) (k : Kp ex H H') : Prt H' wa wp wv qs ms ts := ⟨h.a.kp k.all, h.p.kp k.all, h.v.kp k.all, h.l1, h.l2, h.l3, h.nm⟩
theorem FrameAt.prt {C x : Addr} {H : Hp} {va vp vv : V} {ps : List (Str × Str)} {ns us : List Str} (h : FrameAt C H x va vp vv ps ns us) : Prt H va vp vv ps ns us := ⟨h.da, h.dp, h.dv, by have := h.l1; omega, by have := h.l2; omega, by have := h.l3; omega, h.nP⟩
/-- a frame of three right parts is made -/
theorem make_spec {C I : Addr} {H : Hp} {wa wp wv : V} {qs : List (Str × Str)} {ms ts : List Str} {Q : VK} {E : XK} (h : Prt H wa wp wv qs ms ts)
    (kg : letB qs ms ts = true → ∀ y H', FrameAt C H' y wa wp wv qs ms ts → Same H H' → Q (.ref y) H') (kb : letB qs ms ts = false → ∀ H', Same H H' → E (.ref I) none H') :
    ∀ x dx, H x = none → H dx = none → dx ≠ x → spInit C I [.ref x, wa, wp, wv] (upd (upd H dx (.own x)) x (.ins C dx [])) (fun v H2 => v = .non ∧ Q (.ref x) H2) E := by
  intro x dx hx hdx hne
  have s1 : Same H (upd (upd H dx (.own x)) x (.ins C dx [])) := (Same.upd hdx).trans (Same.upd (by rw [upd_ne (Ne.symm hne)]; exact hx))
  have sx : ∀ {H'}, KpX x (upd (upd H dx (.own x)) x (.ins C dx [])) H' → Same H H' := fun k b o e => k b o (s1 b o e) fun z => absurd z (ne_of_none e hx)
  have kk : Kp All H (upd (upd H dx (.own x)) x (.ins C dx [])) := Kp.same s1
  have c1 := pairs_cost (ps := qs) h.nm.1
  have c2 := strs_cost h.nm.2.1
  have c3 := strs_cost h.nm.2.2
  have l1 := h.l1
  have l2 := h.l2
  have l3 := h.l3
  refine ⟨x, dx, wa, wp, wv, _, _, _, All, rfl, upd_same, h.a.kp kk, h.p.kp kk, h.v.kp kk, by simp only [cost]; omega, by simp only [cost]; omega, by simp only [cost]; omega, fun hf H' fa k => ⟨rfl, ?_⟩, fun hf H' k => kb hf H' (sx k)⟩
  rw [ps_map, ns_map, ns_map] at fa
  exact kg hf x H' fa (sx k)
theorem eraseMap {α β : Type} (f : α → β) : ∀ (l : List α) (i : Nat), (l.map f).eraseIdx i = (l.eraseIdx i).map f
  | [], _ => rfl
  | _ :: _, 0 => rfl
  | x :: l, i + 1 => by
    show f x :: (l.map f).eraseIdx i = f x :: (l.eraseIdx i).map f
    rw [eraseMap f l i]
theorem erasePerm {α : Type} : ∀ (l : List α) (i : Nat) (h : i < l.length), (l[i] :: l.eraseIdx i).Perm l
  | [], _, h => absurd h (by simp)
  | x :: l, 0, _ => List.Perm.refl _
  | x :: l, i + 1, h => by
    have h' : i < l.length := by simpa using h
    show (l[i] :: x :: l.eraseIdx i).Perm (x :: l)
    exact (List.Perm.swap x l[i] _).trans ((erasePerm l i h').cons x)
/-- what stands in a record -/
structure RecAt (H : Hp) (R : Addr) (va vp vv : V) (ps : List (Str × Str)) (ns us : List Str) : Prop where
  l : H R = some (.lst [va, vp, vv])
  pt : Prt H va vp vv ps ns us
  b1 : ps.length ≤ 100
  b2 : ns.length ≤ 100
  b3 : us.length ≤ 100
theorem RecAt.kp {ex : Addr → Prop} {H H' : Hp} {R : Addr} {wa wp wv : V} {qs : List (Str × Str)} {ms ts : List Str} (h : RecAt H R wa wp wv qs ms ts) (k : Kp ex H H') (n : ¬ ex R) : RecAt H' R wa wp wv qs ms ts := ⟨k.get h.l n, h.pt.kp k, h.b1, h.b2, h.b3⟩
theorem RecAt.same {H H' : Hp} {R : Addr} {wa wp wv : V} {qs : List (Str × Str)} {ms ts : List Str} (h : RecAt H R wa wp wv qs ms ts) (k : Same H H') : RecAt H' R wa wp wv qs ms ts := ⟨k _ _ h.l, h.pt.kp (Kp.same (ex := All) k), h.b1, h.b2, h.b3⟩
section
variable {P : Program} {w : World} {K : PySem.W.Frag} {mg : Str → Option Value} {base : Heap}
abbrev N_law_shuffled : List Str := ["pot", "items", "left", "turn"]
abbrev P_law_shuffled : List Str := ["pot", "items"]
theorem sc_law_shuffled : FnScope N_law_shuffled P_law_shuffled (defScope s_law_shuffled) := ⟨rfl, rfl, rfl, by decide +kernel, rfl, by decide +kernel, by decide +kernel⟩
def spShuf : Sp := fun vs H Q _ => ∃ (p a : Addr) (n : Nat) (zs : List Str), vs = [.ref p, .ref a] ∧ PotAt H p n ∧ n ≤ 700000 ∧ H a = some (.lst (zs.map V.str)) ∧ a ≠ p ∧ zs.length ≤ 100 ∧
  ∀ (D : Addr) (ws : List Str) (H' : Hp), H D = none → ws.Perm zs → H' D = some (.lst (ws.map V.str)) → PotAt H' p (n + zs.length) → KpP p H H' → Q (.ref D) H'
theorem ok_shuf (T : Bt mg) (h : Has K mg "_law_shuffled" s_law_shuffled) (C1 : Ca P w K mg base 1 "_law_dip" P_law_dip spDip) : Ca P w K mg base 2 "_law_shuffled" P_law_shuffled spShuf := by
  obtain ⟨_, _, c__law_dip⟩ := C1
  refine cal_of h sc_law_shuffled (fun _ _ _ _ _ _ us hl => match us, hl with | [_, _], _ => rfl) (fun vs H Q E h => ?_) (fun f cdv A outer s H vs Q E hr h => ?_)
  · obtain ⟨p, a, n, zs, rfl, _⟩ := h
    rfl
  · obtain ⟨p, a, n, zs, rfl, hp, hn, ha, hap, hz, k⟩ := h
    refine ⟨_, (pss_cons (ps_set (i := 2) sc_law_shuffled.nd rfl (.inr rfl) (pe_callTy call_list_of (by rfl) T.list (by decide +kernel) (pa_cons (pv 1) pa_nil)))
      (pss_one (ps_ret (pe_lc (own := [("turn", 3)]) (g := (gName 3)) (tt := tYes) (by rfl) sc_law_shuffled.nd (pi_range1 rfl T.range (pa_cons (pe_callB call_len (by rfl) T.len (by decide +kernel) (pa_cons (pv 1) pa_nil)) pa_nil)) (blkOk_by (own := [("turn", 3)]) (N := ["pot", "items", "left", "turn"]) (sc := defScope s_law_shuffled) (by decide +kernel)) (fun _ _ _ _ _ => pg_name (i := 3) sc_law_shuffled.nd rfl (Or.inl rfl)) (fun _ _ _ _ _ => pts_nil) (fun _ _ _ _ _ => (show PE _ _ (tBM K "list" rPopAt (tVar 2) (tCons (tCall spDip [] E0 (tCons (tVar 0) (tCons (tCB (rLen K) (tCons (tVar 2) tNil)) tNil))) tNil)) from (pe_bm PySem.F.plainAttrs_list PySem.F.slot_list_pop PySem.F.type_list_pop mt_popAt (pv 2) (pa_cons (pe_call c__law_dip.1 (hr.mono (by decide)) rfl c__law_dip.2.1 c__law_dip.2.2.1 c__law_dip.2.2.2 .nil pass0 (pa_cons (pv 0) (pa_cons (pe_callB (show CallR _ _ (rLen K) from call_len) (by rfl) T.len (by decide +kernel) (pa_cons (pv 2) pa_nil)) pa_nil))) pa_nil)))))))), ?_⟩
    refine ⟨_, rfl, a, _, rfl, .inl (SqL.of ha), fun L hL => ?_⟩
    have hLp : L ≠ p := hp.ne hL
    have ha1 : (upd H L (.lst (zs.map V.str))) a = some (.lst (zs.map V.str)) := by rw [upd_ne (ne_of_none ha hL)]; exact ha
    refine ⟨_, rfl, _, _, rfl, .inl ⟨_, SqL.of ha1, rfl⟩, _, rfl, by rw [List.length_map]; omega, by rw [List.length_map]; omega, fun D hD => ?_⟩
    have hDL : L ≠ D := ne_of_none upd_same hD
    have hDp : D ≠ p := (hp.same (Same.upd hL)).ne hD
    have hDn : H D = none := by rw [upd_ne hDL.symm] at hD; exact hD
    rw [List.length_map]
    refine lc_range (lo := 0) (n := ((zs.length : Nat) : Int).toNat) (fun i Hx => ∃ ws rest : List Str, Hx D = some (.lst (ws.map V.str)) ∧ Hx L = some (.lst (rest.map V.str)) ∧ (ws ++ rest).Perm zs ∧ ws.length = i ∧ PotAt Hx p (n + i) ∧ KpP p H Hx)
      ⟨[], zs, upd_same, by rw [upd_ne hDL]; exact upd_same, List.Perm.refl _, rfl, (hp.same (Same.upd hL)).same (Same.upd hD), Kp.same ((Same.upd hL).trans (Same.upd hD))⟩ ?_ ?_
    · rintro i Hx hi ⟨ws, rest, hDx, hLx, hperm, hwl, hpx, hkx⟩
      have hlen := hperm.length_eq
      rw [List.length_append] at hlen
      have hrest : 1 ≤ rest.length := by omega
      refine ⟨rfl, yes ?_⟩
      refine ⟨_, rfl, .inl ⟨rfl, _, SqL.of hLx⟩, _, rfl, _, rfl, _, _, rfl, .inl ⟨_, SqL.of hLx, rfl⟩, p, n + i, _, rfl, hpx, by omega, by rw [List.length_map]; omega, by rw [List.length_map]; omega, fun d H1 hd0 hd1 hp1 hk1 => ?_⟩
      rw [List.length_map] at hd1
      have hL1 := hk1.get hLx hLp
      have hD1 := hk1.get hDx hDp
      have hj : d.toNat < rest.length := by omega
      refine ⟨L, _, d, d.toNat, .str rest[d.toNat], rfl, rfl, hL1, by omega, by omega, by rw [List.length_map]; exact PySem.seqIndex_of hd0 (by omega), by rw [List.getElem?_map, List.getElem?_eq_getElem hj]; rfl, ?_⟩
      have hD2 : (upd H1 L (.lst ((rest.map V.str).eraseIdx d.toNat))) D = some (.lst (ws.map V.str)) := by rw [upd_ne hDL.symm]; exact hD1
      refine ⟨_, hD2, by rw [List.length_map, hwl, sizeLine_eq]; omega, ws ++ [rest[d.toNat]], rest.eraseIdx d.toNat, by rw [upd_same, List.map_append]; rfl, ?_, ?_, by rw [List.length_append, hwl]; rfl, ?_, ?_⟩
      · rw [upd_ne hDL, upd_same]
        congr 2
        rw [eraseMap]
      · refine List.Perm.trans ?_ hperm
        rw [List.append_assoc]
        refine List.Perm.append_left ws ?_
        exact erasePerm rest d.toNat hj
      · obtain ⟨a1, b1, c1, e1, r1⟩ := hp1
        exact ⟨a1, b1, c1, by rw [upd_ne hDp.symm, upd_ne hLp.symm]; exact e1, by omega⟩
      · intro b o hb hbp
        have nL : b ≠ L := ne_of_none hb hL
        have nD : b ≠ D := ne_of_none hb hDn
        rw [upd_ne nD, upd_ne nL]
        exact hk1 b o (hkx b o hb hbp) hbp
    · rintro Hx ⟨ws, rest, hDx, hLx, hperm, hwl, hpx, hkx⟩
      have hlen := hperm.length_eq
      rw [List.length_append] at hlen
      have hr0 : rest = [] := List.eq_nil_of_length_eq_zero (by omega)
      subst hr0
      rw [List.append_nil] at hperm
      exact k D ws Hx hDn hperm hDx (hpx.mono (by omega)) hkx
end
end Kx
namespace Kx
open PySem PySem.Spec PyProof.Rows L2
section
variable {P : Program} {w : World} {K : PySem.W.Frag} {mg : Str → Option Value} {base : Heap}
abbrev N_law_used : List Str := ["parts", "found", "name", "length"]
abbrev P_law_used : List Str := ["parts"]
theorem sc_law_used : FnScope N_law_used P_law_used (defScope s_law_used) := ⟨rfl, rfl, rfl, by decide +kernel, rfl, by decide +kernel, by decide +kernel⟩
def spUsed : Sp := fun vs H Q _ => ∃ (R : Addr) (va vp vv : V) (ps : List (Str × Str)) (ns us : List Str), vs = [.ref R] ∧ RecAt H R va vp vv ps ns us ∧ ∀ (D : Addr) (H' : Hp), H D = none → Same H H' → H' D = some (.lst ((allN ps ns us).map V.str)) → Q (.ref D) H'
theorem ok_used (T : Bt mg) (h : Has K mg "_law_used" s_law_used) (C1 : Ca P w K mg base 1 "_law_lengths" P_law_lengths spLengths) : Ca P w K mg base 2 "_law_used" P_law_used spUsed := by
  obtain ⟨_, _, c__law_lengths⟩ := C1
  refine cal_of h sc_law_used (fun _ _ _ _ _ _ us hl => match us, hl with | [_], _ => rfl) (fun vs H Q E h => ?_) (fun f cdv A outer s H vs Q E hr h => ?_)
  · obtain ⟨R, va, vp, vv, ps, ns, us, rfl, _⟩ := h
    rfl
  · obtain ⟨R, va, vp, vv, ps, ns, us, rfl, ⟨hR, pt, b1, b2, b3⟩, k⟩ := h
    refine ⟨_, (pss_cons (ps_set (i := 1) sc_law_used.nd rfl (.inl rfl) (pe_op op_cat (pe_lc (own := [("name", 2), ("length", 3)]) (g := (gTup K 2 (gCons (gName 2) (gCons (gName 3) gNil)))) (tt := tYes) (by rfl) sc_law_used.nd (pi_tup (pe_ix ix_list (pv 0) pe_int (fun _ _ => rfl))) (blkOk_by (own := [("name", 2), ("length", 3)]) (N := ["parts", "found", "name", "length"]) (sc := defScope s_law_used) (by decide +kernel)) (fun _ _ _ _ _ => pg_tup (by rfl) (pgs_cons (pg_name (i := 2) sc_law_used.nd rfl (Or.inl rfl)) (pgs_cons (pg_name (i := 3) sc_law_used.nd rfl (Or.inl rfl)) pgs_nil))) (fun _ _ _ _ _ => pts_nil) (fun _ _ _ _ _ => (pv 2))) (pe_call c__law_lengths.1 (hr.mono (by decide)) rfl c__law_lengths.2.1 c__law_lengths.2.2.1 c__law_lengths.2.2.2 .nil pass0 (pa_cons (pe_ix ix_list (pv 0) pe_int (fun _ _ => rfl)) pa_nil))))
      (pss_one (ps_ret (pe_op op_cat (pe_op op_cat (pv 1) (pe_callTy call_list_of (by rfl) T.list (by decide +kernel) (pa_cons (pe_ix ix_list (pv 0) pe_int (fun _ _ => rfl)) pa_nil))) (pe_callTy call_list_of (by rfl) T.list (by decide +kernel) (pa_cons (pe_ix ix_list (pv 0) pe_int (fun _ _ => rfl)) pa_nil)))))), ?_⟩
    obtain ⟨aA, xA, rfl, tA, dA⟩ := pt.a.tupI
    obtain ⟨aP, xP, rfl, tP, dP⟩ := pt.p.tupI
    obtain ⟨aV, xV, rfl, tV, dV⟩ := pt.v.tupI
    have n1 := dA.len
    have n2 := dP.len
    have n3 := dV.len
    rw [List.length_map] at n1 n2 n3
    have eP := dP.strE
    have eV := dV.strE
    subst eP eV
    have kk : ∀ {G G' : Hp}, Same G G' → Kp All G G' := fun m => Kp.same m
    have ul := uniq_len (ps.map (·.2))
    rw [List.length_map] at ul
    refine ⟨_, rfl, R, _, 0, _, rfl, rfl, SqL.of hR, rfl, aA, rfl, ⟨_, tA.sq⟩, fun D hD => ?_⟩
    refine lc_o (walk_tup (K := K) (a := aA) (xs := xA)) (fun i => ps[i]?.map fun q => V.str q.1) (by rw [sizeLine_eq]; omega) hD (fun Hx sm => ((kk sm).tup tA).sq) ?_ ?_
    · rintro i y Hx H' Nx hi sm hDx ⟨rfl, hy⟩ hno hyes
      obtain ⟨e, he, dve⟩ := dA.get hy
      have hi' : i < ps.length := by omega
      rw [List.getElem?_map, List.getElem?_eq_getElem hi'] at he
      cases he
      obtain ⟨b, rfl, hb⟩ := dve.pairI
      refine ⟨b, _, rfl, ((kk sm).tup hb).sq, rfl, _, _, rfl, _, _, rfl, rfl, ?_⟩
      refine ⟨rfl, yes ⟨_, rfl, hyes _ (by rw [List.getElem?_eq_getElem hi']; rfl) _ Same.refl⟩⟩
    · intro H1 m1 hD1
      rw [n1, range_list] at hD1
      refine ⟨_, rfl, R, _, 0, _, rfl, rfl, SqL.of (m1 _ _ hR), rfl, All, _, ps, rfl, pt.a.kp (kk m1), b1, fun D2 H2 hD2 m2 hD2x => ?_⟩
      refine ⟨D, D2, _, _, rfl, rfl, m2 _ _ hD1, hD2x, by rw [List.length_map, List.length_map, sizeLine_eq]; omega, fun D3 hD3 => ?_⟩
      have m12 := m1.trans m2
      have m3 : Same H2 (upd H2 D3 (.lst ((ps.map fun q => V.str q.1) ++ (uniq (ps.map (·.2))).map V.str))) := Same.upd hD3
      have e3 : (upd H2 D3 (.lst ((ps.map fun q => V.str q.1) ++ (uniq (ps.map (·.2))).map V.str))) D3 = some (.lst ((ps.map fun q => V.str q.1) ++ (uniq (ps.map (·.2))).map V.str)) := upd_same
      generalize upd H2 D3 (.lst ((ps.map fun q => V.str q.1) ++ (uniq (ps.map (·.2))).map V.str)) = H3 at m3 e3 ⊢
      have m13 := m12.trans m3
      refine ⟨_, rfl, _, rfl, R, _, 1, _, rfl, rfl, SqL.of (m13 _ _ hR), rfl, aP, _, rfl, .inr ((kk m13).tup tP).sq, fun D4 hD4 => ?_⟩
      have m4 : Same H3 (upd H3 D4 (.lst (ns.map V.str))) := Same.upd hD4
      have e4 : (upd H3 D4 (.lst (ns.map V.str))) D4 = some (.lst (ns.map V.str)) := upd_same
      generalize upd H3 D4 (.lst (ns.map V.str)) = H4 at m4 e4 ⊢
      refine ⟨D3, D4, _, _, rfl, rfl, m4 _ _ e3, e4, by simp only [List.length_append, List.length_map]; rw [sizeLine_eq]; omega, fun D5 hD5 => ?_⟩
      have m5 := m4.trans (Same.upd (o := .lst (((ps.map fun q => V.str q.1) ++ (uniq (ps.map (·.2))).map V.str) ++ ns.map V.str)) hD5)
      have e5 : (upd H4 D5 (.lst (((ps.map fun q => V.str q.1) ++ (uniq (ps.map (·.2))).map V.str) ++ ns.map V.str))) D5 = some (.lst (((ps.map fun q => V.str q.1) ++ (uniq (ps.map (·.2))).map V.str) ++ ns.map V.str)) := upd_same
      generalize upd H4 D5 (.lst (((ps.map fun q => V.str q.1) ++ (uniq (ps.map (·.2))).map V.str) ++ ns.map V.str)) = H5 at m5 e5 ⊢
      have m15 := m13.trans m5
      refine ⟨_, rfl, R, _, 2, _, rfl, rfl, SqL.of (m15 _ _ hR), rfl, aV, _, rfl, .inr ((kk m15).tup tV).sq, fun D6 hD6 => ?_⟩
      have m6 : Same H5 (upd H5 D6 (.lst (us.map V.str))) := Same.upd hD6
      have e6 : (upd H5 D6 (.lst (us.map V.str))) D6 = some (.lst (us.map V.str)) := upd_same
      generalize upd H5 D6 (.lst (us.map V.str)) = H6 at m6 e6 ⊢
      refine ⟨D5, D6, _, _, rfl, rfl, m6 _ _ e5, e6, by simp only [List.length_append, List.length_map]; rw [sizeLine_eq]; omega, fun D7 hD7 => ?_⟩
      have m16 := m15.trans m6
      have hD7n : H D7 = none := by
        cases e : H D7 with
        | none => rfl
        | some o =>
          have := m16 _ _ e
          rw [hD7] at this
          cases this
      refine k D7 _ hD7n (m16.trans (Same.upd hD7)) ?_
      rw [upd_same]
      congr 2
      simp only [List.map_append, List.map_map, List.append_assoc]
      rfl
abbrev N_law_number : List Str := ["pot"]
abbrev P_law_number : List Str := ["pot"]
theorem sc_law_number : FnScope N_law_number P_law_number (defScope s_law_number) := ⟨rfl, rfl, rfl, by decide +kernel, rfl, by decide +kernel, by decide +kernel⟩
def spNumber : Sp := fun vs H Q _ => ∃ (p : Addr) (n : Nat), vs = [.ref p] ∧ PotAt H p n ∧ n ≤ 900000 ∧ ∀ (m : Int) (H' : Hp), intD (.int m) = true → PotAt H' p (n + 1) → KpP p H H' → Q (.int m) H'
theorem ok_number (T : Bt mg) (h : Has K mg "_law_number" s_law_number) (C2 : Ca P w K mg base 2 "_law_choose" P_law_choose spChoose) : Ca P w K mg base 3 "_law_number" P_law_number spNumber := by
  obtain ⟨_, _, c__law_choose⟩ := C2
  refine cal_of h sc_law_number (fun _ _ _ _ _ _ us hl => match us, hl with | [_], _ => rfl) (fun vs H Q E h => ?_) (fun f cdv A outer s H vs Q E hr h => ?_)
  · obtain ⟨p, n, rfl, _⟩ := h
    rfl
  · obtain ⟨p, n, rfl, hp, hn, k⟩ := h
    refine ⟨_, (pss_one (ps_ret (pe_call c__law_choose.1 (hr.mono (by decide)) rfl c__law_choose.2.1 c__law_choose.2.2.1 c__law_choose.2.2.2 .nil pass0 (pa_cons (pv 0) (pa_cons (pe_lst (pa_cons pe_int (pa_cons pe_int (pa_cons pe_int (pa_cons (pe_un un_neg pe_int) (pa_cons pe_int (pa_cons (pe_un un_neg pe_int) (pa_cons pe_int (pa_cons (pe_op op_pow pe_int pe_int) (pa_cons (pe_op op_sub (pe_op op_pow pe_int pe_int) pe_int) (pa_cons (pe_op op_sub pe_int (pe_op op_pow pe_int pe_int)) pa_nil))))))))))) pa_nil))))), ?_⟩
    refine ⟨_, rfl, _, rfl, _, rfl, _, _, rfl, rfl, ⟨by decide, by decide, by decide⟩, _, _, rfl, rfl, ⟨by decide, by decide, by decide⟩, _, _, rfl, rfl, _, _, rfl, rfl, ⟨by decide, by decide, by decide⟩, _, _, rfl, rfl, by show 10 ≤ sizeLine; decide,
      fun l hl => ⟨p, n, _, _, rfl, hp.same (Same.upd hl), by omega, .inl ⟨l, rfl, hp.ne hl, upd_same⟩, by show 1 ≤ 10; decide, by show 10 ≤ 1000; decide, fun i v H1 hv hp1 hk1 => ?_⟩⟩
    obtain ⟨m, rfl, hm⟩ : ∃ m : Int, v = .int m ∧ intD (.int m) = true := by
      have all : ∀ v ∈ ([.int 0, .int 0, .int 1, .int (-1), .int 2, .int (-3), .int 17, .int (10 ^ (59 : Int).toNat), .int (10 ^ (60 : Int).toNat - 1), .int (1 - 10 ^ (60 : Int).toNat)] : List V), ∃ m : Int, v = .int m ∧ intD (.int m) = true := (by repeat (first | exact List.forall_mem_nil _ | refine List.forall_mem_cons.mpr ⟨⟨_, rfl, by decide +kernel⟩, ?_⟩))
      exact all v (List.mem_of_getElem? hv)
    exact k m H1 hm hp1 ((Kp.new hl).trans hk1)
end
end Kx
namespace Kx
open PySem PySem.Spec PyProof.Rows L2
/-- what may stand in a drawn term -/
def PartOk (S : List Str) (d : PyData) : Prop := (∃ z, d = .str z ∧ z ∈ S) ∨ (∃ m, d = .int m ∧ intD (.int m) = true) ∨ d = .bool true
abbrev namesS (ps : List (Str × Str)) (ns us ow : List Str) : List Str := "" :: (allN ps ns us ++ ow)
theorem nS_n {ps : List (Str × Str)} {ns us ow : List Str} {z : Str} (h : z ∈ ns) : z ∈ namesS ps ns us ow := List.mem_cons_of_mem _ (List.mem_append.mpr (.inl (List.mem_append.mpr (.inr (List.mem_append.mpr (.inr (List.mem_append.mpr (.inl h))))))))
theorem nS_u {ps : List (Str × Str)} {ns us ow : List Str} {z : Str} (h : z ∈ us) : z ∈ namesS ps ns us ow := List.mem_cons_of_mem _ (List.mem_append.mpr (.inl (List.mem_append.mpr (.inr (List.mem_append.mpr (.inr (List.mem_append.mpr (.inr h))))))))
theorem nS_l {ps : List (Str × Str)} {ns us ow : List Str} {z : Str} (h : z ∈ uniq (ps.map (·.2))) : z ∈ namesS ps ns us ow := List.mem_cons_of_mem _ (List.mem_append.mpr (.inl (List.mem_append.mpr (.inr (List.mem_append.mpr (.inl h))))))
theorem nS_a {ps : List (Str × Str)} {ns us ow : List Str} {z : Str} (h : z ∈ ps.map (·.1)) : z ∈ namesS ps ns us ow := List.mem_cons_of_mem _ (List.mem_append.mpr (.inl (List.mem_append.mpr (.inl h))))
theorem nS_o {ps : List (Str × Str)} {ns us ow : List Str} {z : Str} (h : z ∈ ow) : z ∈ namesS ps ns us ow := List.mem_cons_of_mem _ (List.mem_append.mpr (.inr h))
section
variable {P : Program} {w : World} {K : PySem.W.Frag} {mg : Str → Option Value} {base : Heap}
abbrev N_law_position : List Str := ["pot", "parts", "mine", "names"]
abbrev P_law_position : List Str := ["pot", "parts", "mine"]
theorem sc_law_position : FnScope N_law_position P_law_position (defScope s_law_position) := ⟨rfl, rfl, rfl, by decide +kernel, rfl, by decide +kernel, by decide +kernel⟩
def spPosn : Sp := fun vs H Q _ => ∃ (p R mt : Addr) (n : Nat) (va vp vv : V) (ps : List (Str × Str)) (ns us ow : List Str), vs = [.ref p, .ref R, .ref mt] ∧ PotAt H p n ∧ n ≤ 800000 ∧ RecAt H R va vp vv ps ns us ∧ R ≠ p ∧ TupF H mt (ow.map V.str) ∧ ow.length ≤ 5 ∧
  ∀ (t : Addr) (z : Str) (m : Int) (H' : Hp), z ∈ namesS ps ns us ow → intD (.int m) = true → TupF H' t [.str z, .int m] → PotAt H' p (n + 2) → KpP p H H' → Q (.ref t) H'
theorem ok_posn (T : Bt mg) (h : Has K mg "_law_position" s_law_position) (C1 : Ca P w K mg base 1 "_law_lengths" P_law_lengths spLengths) (C2 : Ca P w K mg base 2 "_law_choose" P_law_choose spChoose) (C3 : Ca P w K mg base 3 "_law_number" P_law_number spNumber) : Ca P w K mg base 4 "_law_position" P_law_position spPosn := by
  obtain ⟨_, _, c__law_lengths⟩ := C1
  obtain ⟨_, _, c__law_choose⟩ := C2
  obtain ⟨_, _, c__law_number⟩ := C3
  refine cal_of h sc_law_position (fun _ _ _ _ _ _ us hl => match us, hl with | [_, _, _], _ => rfl) (fun vs H Q E h => ?_) (fun f cdv A outer s H vs Q E hr h => ?_)
  · obtain ⟨p, R, mt, n, va, vp, vv, ps, ns, us, ow, rfl, _⟩ := h
    rfl
  · obtain ⟨p, R, mt, n, va, vp, vv, ps, ns, us, ow, rfl, hp, hn, ⟨hR, pt, b1, b2, b3⟩, nRp, tm, lo, k⟩ := h
    refine ⟨_, (pss_cons (ps_set (i := 3) sc_law_position.nd rfl (.inl rfl) (pe_op op_cat (pe_op op_cat (pe_op op_cat (pe_op op_cat (pe_lst (pa_cons pe_str (pa_cons pe_str pa_nil))) (pe_callTy call_list_of (by rfl) T.list (by decide +kernel) (pa_cons (pe_ix ix_list (pv 1) pe_int (fun _ _ => rfl)) pa_nil))) (pe_call c__law_lengths.1 (hr.mono (by decide)) rfl c__law_lengths.2.1 c__law_lengths.2.2.1 c__law_lengths.2.2.2 .nil pass0 (pa_cons (pe_ix ix_list (pv 1) pe_int (fun _ _ => rfl)) pa_nil))) (pe_callTy call_list_of (by rfl) T.list (by decide +kernel) (pa_cons (pv 2) pa_nil))) (pe_callTy call_list_of (by rfl) T.list (by decide +kernel) (pa_cons (pv 2) pa_nil))))
      (pss_one (ps_ret (pe_tupF (pa_cons (pe_call c__law_choose.1 (hr.mono (by decide)) rfl c__law_choose.2.1 c__law_choose.2.2.1 c__law_choose.2.2.2 .nil pass0 (pa_cons (pv 0) (pa_cons (pv 3) pa_nil))) (pa_cons (pe_call c__law_number.1 (hr.mono (by decide)) rfl c__law_number.2.1 c__law_number.2.2.1 c__law_number.2.2.2 .nil pass0 (pa_cons (pv 0) pa_nil)) pa_nil)))))), ?_⟩
    have kk : ∀ {G G' : Hp}, Same G G' → Kp All G G' := fun m => Kp.same m
    obtain ⟨aP, xP, rfl, tP, dP⟩ := pt.p.tupI
    have n2 := dP.len
    rw [List.length_map] at n2
    have eP := dP.strE
    subst eP
    have ul := uniq_len (ps.map (·.2))
    rw [List.length_map] at ul
    have hL := sizeLine_eq
    refine ⟨by show 2 ≤ sizeLine; decide, fun l hl => ?_⟩
    have m1 : Same H (upd H l (.lst [.str "", .str ""])) := Same.upd hl
    have e1 : (upd H l (.lst [.str "", .str ""])) l = some (.lst [.str "", .str ""]) := upd_same
    generalize upd H l (.lst [.str "", .str ""]) = H1 at m1 e1 ⊢
    refine ⟨_, rfl, R, _, 1, _, rfl, rfl, SqL.of (m1 _ _ hR), rfl, aP, _, rfl, .inr ((kk m1).tup tP).sq, fun D2 hD2 => ?_⟩
    have m2 : Same H1 (upd H1 D2 (.lst (ns.map V.str))) := Same.upd hD2
    have e2 : (upd H1 D2 (.lst (ns.map V.str))) D2 = some (.lst (ns.map V.str)) := upd_same
    generalize upd H1 D2 (.lst (ns.map V.str)) = H2 at m2 e2 ⊢
    refine ⟨l, D2, _, _, rfl, rfl, m2 _ _ e1, e2, by simp only [List.length_cons, List.length_nil, List.length_map]; omega, fun D3 hD3 => ?_⟩
    have m3 : Same H2 (upd H2 D3 (.lst ([.str "", .str ""] ++ ns.map V.str))) := Same.upd hD3
    have e3 : (upd H2 D3 (.lst ([.str "", .str ""] ++ ns.map V.str))) D3 = some (.lst ([.str "", .str ""] ++ ns.map V.str)) := upd_same
    generalize upd H2 D3 (.lst ([.str "", .str ""] ++ ns.map V.str)) = H3 at m3 e3 ⊢
    have m13 := (m1.trans m2).trans m3
    refine ⟨_, rfl, R, _, 0, _, rfl, rfl, SqL.of (m13 _ _ hR), rfl, All, _, ps, rfl, pt.a.kp (kk m13), b1, fun D4 H4 hD4 m4 e4 => ?_⟩
    refine ⟨D3, D4, _, _, rfl, rfl, m4 _ _ e3, e4, by simp only [List.length_append, List.length_cons, List.length_nil, List.length_map]; omega, fun D5 hD5 => ?_⟩
    have m5 : Same H4 (upd H4 D5 (.lst (([.str "", .str ""] ++ ns.map V.str) ++ (uniq (ps.map (·.2))).map V.str))) := Same.upd hD5
    have e5 : (upd H4 D5 (.lst (([.str "", .str ""] ++ ns.map V.str) ++ (uniq (ps.map (·.2))).map V.str))) D5 = some (.lst (([.str "", .str ""] ++ ns.map V.str) ++ (uniq (ps.map (·.2))).map V.str)) := upd_same
    generalize upd H4 D5 (.lst (([.str "", .str ""] ++ ns.map V.str) ++ (uniq (ps.map (·.2))).map V.str)) = H5 at m5 e5 ⊢
    have m15 := (m13.trans m4).trans m5
    refine ⟨_, rfl, mt, _, rfl, .inr ((kk m15).tup tm).sq, fun D6 hD6 => ?_⟩
    have m6 : Same H5 (upd H5 D6 (.lst (ow.map V.str))) := Same.upd hD6
    have e6 : (upd H5 D6 (.lst (ow.map V.str))) D6 = some (.lst (ow.map V.str)) := upd_same
    generalize upd H5 D6 (.lst (ow.map V.str)) = H6 at m6 e6 ⊢
    refine ⟨D5, D6, _, _, rfl, rfl, m6 _ _ e5, e6, by simp only [List.length_append, List.length_cons, List.length_nil, List.length_map]; omega, fun D7 hD7 => ?_⟩
    have m7 : Same H6 (upd H6 D7 (.lst ((([.str "", .str ""] ++ ns.map V.str) ++ (uniq (ps.map (·.2))).map V.str) ++ ow.map V.str))) := Same.upd hD7
    have e7 : (upd H6 D7 (.lst ((([.str "", .str ""] ++ ns.map V.str) ++ (uniq (ps.map (·.2))).map V.str) ++ ow.map V.str))) D7 = some (.lst ((([.str "", .str ""] ++ ns.map V.str) ++ (uniq (ps.map (·.2))).map V.str) ++ ow.map V.str)) := upd_same
    generalize upd H6 D7 (.lst ((([.str "", .str ""] ++ ns.map V.str) ++ (uniq (ps.map (·.2))).map V.str) ++ ow.map V.str)) = H7 at m7 e7 ⊢
    have m17 := (m15.trans m6).trans m7
    refine ⟨_, rfl, mt, _, rfl, .inr ((kk m17).tup tm).sq, fun D8 hD8 => ?_⟩
    have m8 : Same H7 (upd H7 D8 (.lst (ow.map V.str))) := Same.upd hD8
    have e8 : (upd H7 D8 (.lst (ow.map V.str))) D8 = some (.lst (ow.map V.str)) := upd_same
    generalize upd H7 D8 (.lst (ow.map V.str)) = H8 at m8 e8 ⊢
    obtain ⟨W, hW⟩ : ∃ W : List Str, W = ((((["", ""] : List Str) ++ ns) ++ uniq (ps.map (·.2))) ++ ow) ++ ow := ⟨_, rfl⟩
    have eW : ((([V.str "", V.str ""] ++ ns.map V.str) ++ (uniq (ps.map (·.2))).map V.str) ++ ow.map V.str) ++ ow.map V.str = W.map V.str := by
      rw [hW]
      simp only [List.map_append, List.map_cons, List.map_nil]
    have lW : W.length = 2 + ns.length + (uniq (ps.map (·.2))).length + ow.length + ow.length := by
      rw [hW]
      simp only [List.length_append, List.length_cons, List.length_nil]
    refine ⟨D7, D8, _, _, rfl, rfl, m8 _ _ e7, e8, by simp only [List.length_append, List.length_cons, List.length_nil, List.length_map]; omega, fun D9 hD9 => ?_⟩
    rw [eW]
    have m9 : Same H8 (upd H8 D9 (.lst (W.map V.str))) := Same.upd hD9
    have e9 : (upd H8 D9 (.lst (W.map V.str))) D9 = some (.lst (W.map V.str)) := upd_same
    generalize upd H8 D9 (.lst (W.map V.str)) = H9 at m9 e9 ⊢
    have m19 := (m17.trans m8).trans m9
    have hp9 := hp.same m19
    have nDp : D9 ≠ p := (hp.same (m17.trans m8)).ne hD9
    refine ⟨_, rfl, _, rfl, p, n, _, _, rfl, hp9, by omega, .inl ⟨D9, rfl, nDp, e9⟩, by rw [List.length_map]; omega, by rw [List.length_map]; omega, fun i v H10 hv hp10 hk10 => ?_⟩
    obtain ⟨z, hz, rfl⟩ := List.mem_map.mp (List.mem_of_getElem? hv)
    refine ⟨_, rfl, p, n + 1, rfl, hp10, by omega, fun m H11 hm hp11 hk11 => ?_⟩
    refine ⟨by show 2 ≤ sizeLine; decide, fun t H12 s12 h12 => ?_⟩
    have hzm : z ∈ namesS ps ns us ow := by
      rw [hW] at hz
      simp only [List.mem_append, List.mem_cons, List.not_mem_nil, or_false] at hz
      rcases hz with (((h | h) | h) | h) | h
      · rcases h with h | h <;> (rw [h]; exact List.mem_cons_self)
      · exact nS_n h
      · exact nS_l h
      · exact nS_o h
      · exact nS_o h
    exact k t z m H12 hzm hm h12 ((hp11.same s12).mono (by omega)) (((Kp.same m19).trans hk10).trans (hk11.trans (Kp.same s12)))
abbrev N_law_value : List Str := ["pot", "parts", "mine"]
abbrev P_law_value : List Str := ["pot", "parts", "mine"]
theorem sc_law_value : FnScope N_law_value P_law_value (defScope s_law_value) := ⟨rfl, rfl, rfl, by decide +kernel, rfl, by decide +kernel, by decide +kernel⟩
def spDrawn : Sp := fun vs H Q _ => ∃ (p R mt : Addr) (n : Nat) (va vp vv : V) (ps : List (Str × Str)) (ns us ow : List Str), vs = [.ref p, .ref R, .ref mt] ∧ PotAt H p n ∧ n ≤ 700000 ∧ RecAt H R va vp vv ps ns us ∧ R ≠ p ∧ TupF H mt (ow.map V.str) ∧ ow.length ≤ 5 ∧
  ∀ (t : Addr) (xs : List V) (cs : List PyData) (H' : Hp), 2 ≤ cs.length → cs.length ≤ 4 → (∀ d ∈ cs, PartOk (namesS ps ns us ow) d) → TupF H' t xs → DvL All H' xs cs → PotAt H' p (n + 6) → KpP p H H' → Q (.ref t) H'
theorem ok_value (T : Bt mg) (h : Has K mg "_law_value" s_law_value) (C1 : Ca P w K mg base 1 "_law_dip" P_law_dip spDip) (C2 : Ca P w K mg base 2 "_law_choose" P_law_choose spChoose) (C3 : Ca P w K mg base 3 "_law_number" P_law_number spNumber)
    (C4 : Ca P w K mg base 4 "_law_position" P_law_position spPosn) : Ca P w K mg base 5 "_law_value" P_law_value spDrawn := by
  obtain ⟨_, _, c__law_dip⟩ := C1
  obtain ⟨_, _, c__law_choose⟩ := C2
  obtain ⟨_, _, c__law_number⟩ := C3
  obtain ⟨_, _, c__law_position⟩ := C4
  refine cal_of h sc_law_value (fun _ _ _ _ _ _ us hl => match us, hl with | [_, _, _], _ => rfl) (fun vs H Q E h => ?_) (fun f cdv A outer s H vs Q E hr h => ?_)
  · obtain ⟨p, R, mt, n, va, vp, vv, ps, ns, us, ow, rfl, _⟩ := h
    rfl
  · obtain ⟨p, R, mt, n, va, vp, vv, ps, ns, us, ow, rfl, hp, hn, rec, nRp, tm, lo, k⟩ := h
    refine ⟨_, (pss_cons (ps_if (PW.pt (pw_and (pt_cmpR (op_neT0 hr.units0) (pe_ix ix_list (pv 1) pe_int (fun _ _ => rfl)) (pe_tupF pa_nil) (nomark _)) (pw_and1 (pt_cmpR op_eq (pe_call c__law_dip.1 (hr.mono (by decide)) rfl c__law_dip.2.1 c__law_dip.2.2.1 c__law_dip.2.2.2 .nil pass0 (pa_cons (pv 0) (pa_cons pe_int pa_nil))) pe_int (nomark _))))) (pss_one (ps_ret (pe_op op_catF (pe_op op_catF (pe_tupF (pa_cons (pe_ix ix_tup (pe_call c__law_choose.1 (hr.mono (by decide)) rfl c__law_choose.2.1 c__law_choose.2.2.1 c__law_choose.2.2.2 .nil pass0 (pa_cons (pv 0) (pa_cons (pe_ix ix_list (pv 1) pe_int (fun _ _ => rfl)) pa_nil))) pe_int (fun _ _ => rfl)) pa_nil)) (pe_call c__law_position.1 (hr.mono (by decide)) rfl c__law_position.2.1 c__law_position.2.2.1 c__law_position.2.2.2 .nil pass0 (pa_cons (pv 0) (pa_cons (pv 1) (pa_cons (pv 2) pa_nil))))) (pe_tupF (pa_cons (pe_call c__law_number.1 (hr.mono (by decide)) rfl c__law_number.2.1 c__law_number.2.2.1 c__law_number.2.2.2 .nil pass0 (pa_cons (pv 0) pa_nil)) pa_nil))))) pss_nil)
      (pss_one (ps_ret (pe_tupF (pa_cons (pe_call c__law_choose.1 (hr.mono (by decide)) rfl c__law_choose.2.1 c__law_choose.2.2.1 c__law_choose.2.2.2 .nil pass0 (pa_cons (pv 0) (pa_cons (pe_op op_cat (pe_op op_cat (pe_lst (pa_cons pe_str (pa_cons pe_str pa_nil))) (pe_callTy call_list_of (by rfl) T.list (by decide +kernel) (pa_cons (pe_ix ix_list (pv 1) pe_int (fun _ _ => rfl)) pa_nil))) (pe_callTy call_list_of (by rfl) T.list (by decide +kernel) (pa_cons (pe_ix ix_list (pv 1) pe_int (fun _ _ => rfl)) pa_nil))) pa_nil))) (pa_cons (pe_call c__law_number.1 (hr.mono (by decide)) rfl c__law_number.2.1 c__law_number.2.2.1 c__law_number.2.2.2 .nil pass0 (pa_cons (pv 0) pa_nil)) pa_nil)))))), ?_⟩
    have kk : ∀ {G G' : Hp}, Same G G' → Kp All G G' := fun m => Kp.same m
    obtain ⟨hR, pt, b1, b2, b3⟩ := id rec
    obtain ⟨aA, xA, rfl, tA, dA⟩ := pt.a.tupI
    have n1 := dA.len
    rw [List.length_map] at n1
    refine ⟨_, rfl, R, _, 0, _, rfl, rfl, SqL.of hR, rfl, Nat.zero_le _, fun e0 H1 m1 h0 => ?_⟩
    refine ⟨aA, e0, xA, rfl, rfl, ((kk m1).tup tA).sq, h0.sq, _, rfl, ?_⟩
    have hL := sizeLine_eq
    apply @dupH (fun G => PotAt G p (n + 1) ∧ KpP p H G)
    · intro body
      cases he : xA.isEmpty with
      | true => exact iteF (iteF (body H1 ⟨(hp.same m1).mono (by omega), Kp.same m1⟩))
      | false =>
        have hne : xA ≠ [] := fun z => by rw [z] at he; cases he
        have hl0 : 1 ≤ xA.length := List.length_pos_iff.mpr hne
        refine iteT ⟨_, rfl, p, n, 2, rfl, hp.same m1, by omega, by decide, by decide, fun d H2 d0 d1 hp2 hk2 => ?_⟩
        have k2 : KpP p H H2 := (Kp.same m1).trans hk2
        refine ⟨rfl, _, rfl, ?_⟩
        by_cases hd : d = 0
        · rw [decide_eq_true (show V.int d = V.int 0 by rw [hd])]
          clear body
          refine iteT ?_
          have rec2 := rec.kp k2 nRp
          refine ⟨_, rfl, _, rfl, R, _, 0, _, rfl, rfl, SqL.of rec2.l, rfl, p, n + 1, _, _, rfl, hp2, by omega, .inr (.inl ⟨aA, rfl, ?_, k2.tup tA⟩), hl0, by omega, fun i v H3 hv hp3 hk3 => ?_⟩
          · obtain ⟨o, _, eo⟩ := tA
            obtain ⟨a1, b1, c1, e1, _⟩ := hp
            intro z
            rw [z, e1] at eo
            cases eo
          · obtain ⟨e, he2, dve⟩ := dA.get hv
            rw [List.getElem?_map] at he2
            cases e3 : ps[i]? with
            | none => rw [e3] at he2; cases he2
            | some q =>
              rw [e3] at he2
              cases he2
              have hq := List.mem_of_getElem? e3
              obtain ⟨b, rfl, hb⟩ := dve.pairI
              have k3 := k2.trans hk3
              refine ⟨b, _, 0, _, rfl, rfl, (k3.tup hb).sq, rfl, by show 1 ≤ sizeLine; decide, fun t1 H4 s4 h4 => ?_⟩
              have k4 : KpP p H H4 := k3.trans (Kp.same s4)
              refine ⟨_, rfl, _, rfl, _, rfl, p, R, mt, n + 2, _, _, _, ps, ns, us, ow, rfl, hp3.same s4, by omega, rec.kp k4 nRp, nRp, k4.tup tm, lo, fun t2 z m H5 hz hm h5 hp5 hk5 => ?_⟩
              refine ⟨t1, t2, _, _, rfl, rfl, hk5.tup h4, h5, by show 3 ≤ sizeLine; decide, fun t3 H6 s6 h6 => ?_⟩
              refine ⟨_, rfl, p, n + 4, rfl, hp5.same s6, by omega, fun m2 H7 hm2 hp7 hk7 => ⟨by show 1 ≤ sizeLine; decide, fun t4 H8 s8 h8 => ?_⟩⟩
              refine ⟨t3, t4, _, _, rfl, rfl, ((hk7.tup h6) |> (Kp.same (ex := fun a => a = p) s8).tup), h8, by show 4 ≤ sizeLine; decide, fun t5 H9 s9 h9 => ?_⟩
              have k9 : KpP p H H9 := ((((k4.trans hk5).trans (Kp.same s6)).trans hk7).trans (Kp.same s8)).trans (Kp.same s9)
              refine k t5 _ [.str q.1, .str z, .int m, .int m2] H9 (by simp) (by simp) (fun d hd => ?_) h9 (.cons (.str _) (.cons (.str _) (.cons (.int _) (.cons (.int _) .nil)))) (((hp7.same s8).same s9).mono (by omega)) k9
              simp only [List.mem_cons, List.not_mem_nil, or_false] at hd
              rcases hd with rfl | rfl | rfl | rfl
              · exact .inl ⟨_, rfl, nS_a (List.mem_map.mpr ⟨q, hq, rfl⟩)⟩
              · exact .inl ⟨_, rfl, hz⟩
              · exact .inr (.inl ⟨_, rfl, hm⟩)
              · exact .inr (.inl ⟨_, rfl, hm2⟩)
        · rw [decide_eq_false (fun q : V.int d = V.int 0 => hd (by injection q))]
          exact iteF (body H2 ⟨hp2, k2⟩)
    · rintro G ⟨hpG, kG⟩
      have recG := rec.kp kG nRp
      obtain ⟨hRG, ptG, _, _, _⟩ := id recG
      obtain ⟨aV, xV, rfl, tV, dV⟩ := ptG.v.tupI
      have n3 := dV.len
      rw [List.length_map] at n3
      have eV := dV.strE
      subst eV
      refine ⟨_, rfl, by show 2 ≤ sizeLine; decide, fun l hl => ?_⟩
      have q1 : Same G (upd G l (.lst [.str "", .str ""])) := Same.upd hl
      have e1 : (upd G l (.lst [.str "", .str ""])) l = some (.lst [.str "", .str ""]) := upd_same
      generalize upd G l (.lst [.str "", .str ""]) = G1 at q1 e1 ⊢
      refine ⟨_, rfl, R, _, 2, _, rfl, rfl, SqL.of (q1 _ _ hRG), rfl, aV, _, rfl, .inr ((kk q1).tup tV).sq, fun D2 hD2 => ?_⟩
      have q2 : Same G1 (upd G1 D2 (.lst (us.map V.str))) := Same.upd hD2
      have e2 : (upd G1 D2 (.lst (us.map V.str))) D2 = some (.lst (us.map V.str)) := upd_same
      generalize upd G1 D2 (.lst (us.map V.str)) = G2 at q2 e2 ⊢
      refine ⟨l, D2, _, _, rfl, rfl, q2 _ _ e1, e2, by simp only [List.length_cons, List.length_nil, List.length_map]; omega, fun D3 hD3 => ?_⟩
      have q3 : Same G2 (upd G2 D3 (.lst ([.str "", .str ""] ++ us.map V.str))) := Same.upd hD3
      have e3 : (upd G2 D3 (.lst ([.str "", .str ""] ++ us.map V.str))) D3 = some (.lst ([.str "", .str ""] ++ us.map V.str)) := upd_same
      generalize upd G2 D3 (.lst ([.str "", .str ""] ++ us.map V.str)) = G3 at q3 e3 ⊢
      have q13 := (q1.trans q2).trans q3
      refine ⟨_, rfl, R, _, 2, _, rfl, rfl, SqL.of (q13 _ _ hRG), rfl, aV, _, rfl, .inr ((kk q13).tup tV).sq, fun D4 hD4 => ?_⟩
      have q4 : Same G3 (upd G3 D4 (.lst (us.map V.str))) := Same.upd hD4
      have e4 : (upd G3 D4 (.lst (us.map V.str))) D4 = some (.lst (us.map V.str)) := upd_same
      generalize upd G3 D4 (.lst (us.map V.str)) = G4 at q4 e4 ⊢
      obtain ⟨W, hW⟩ : ∃ W : List Str, W = ((["", ""] : List Str) ++ us) ++ us := ⟨_, rfl⟩
      have eW : ([V.str "", V.str ""] ++ us.map V.str) ++ us.map V.str = W.map V.str := by
        rw [hW]
        simp only [List.map_append, List.map_cons, List.map_nil]
      have lW : W.length = 2 + us.length + us.length := by
        rw [hW]
        simp only [List.length_append, List.length_cons, List.length_nil]
      refine ⟨D3, D4, _, _, rfl, rfl, q4 _ _ e3, e4, by simp only [List.length_append, List.length_cons, List.length_nil, List.length_map]; omega, fun D5 hD5 => ?_⟩
      rw [eW]
      have q5 : Same G4 (upd G4 D5 (.lst (W.map V.str))) := Same.upd hD5
      have e5 : (upd G4 D5 (.lst (W.map V.str))) D5 = some (.lst (W.map V.str)) := upd_same
      have nDp : D5 ≠ p := (hpG.same (q13.trans q4)).ne hD5
      generalize upd G4 D5 (.lst (W.map V.str)) = G5 at q5 e5 ⊢
      have q15 := (q13.trans q4).trans q5
      refine ⟨p, n + 1, _, _, rfl, hpG.same q15, by omega, .inl ⟨D5, rfl, nDp, e5⟩, by rw [List.length_map]; omega, by rw [List.length_map]; omega, fun i v G6 hv hp6 hk6 => ?_⟩
      obtain ⟨z, hz, rfl⟩ := List.mem_map.mp (List.mem_of_getElem? hv)
      refine ⟨_, rfl, p, n + 2, rfl, hp6, by omega, fun m G7 hm hp7 hk7 => ⟨by show 2 ≤ sizeLine; decide, fun t G8 s8 h8 => ?_⟩⟩
      refine k t _ [.str z, .int m] G8 (by simp) (by simp) (fun d hd => ?_) h8 (.cons (.str _) (.cons (.int _) .nil)) ((hp7.same s8).mono (by omega)) ((((kG.trans (Kp.same q15)).trans hk6).trans hk7).trans (Kp.same s8))
      simp only [List.mem_cons, List.not_mem_nil, or_false] at hd
      rcases hd with rfl | rfl
      · rw [hW] at hz
        simp only [List.mem_append, List.mem_cons, List.not_mem_nil, or_false] at hz
        refine .inl ⟨_, rfl, ?_⟩
        rcases hz with (h | h) | h
        · rcases h with h | h <;> (rw [h]; exact List.mem_cons_self)
        · exact nS_u h
        · exact nS_u h
      · exact .inr (.inl ⟨_, rfl, hm⟩)
end
end Kx
namespace Kx
open PySem PySem.Spec PyProof.Rows L2
section
variable {P : Program} {w : World} {K : PySem.W.Frag} {mg : Str → Option Value} {base : Heap}
abbrev N_law_is_number : List Str := ["value"]
abbrev P_law_is_number : List Str := ["value"]
theorem sc_law_is_number : FnScope N_law_is_number P_law_is_number (defScope s_law_is_number) := ⟨rfl, rfl, rfl, by decide +kernel, rfl, by decide +kernel, by decide +kernel⟩
theorem ok_lnum (T : Bt mg) (Tb : mg "bool" = none) (h : Has K mg "_law_is_number" s_law_is_number) : Ca P w K mg base 1 "_law_is_number" P_law_is_number (spJudge intD) := by
  refine cal_of h sc_law_is_number (fun _ _ _ _ _ _ us hl => match us, hl with | [_], _ => rfl) (fun vs H Q E h => ?_) (fun f cdv A outer s H vs Q E hr h => ?_)
  · obtain ⟨ex, v, d, rfl, _⟩ := h
    rfl
  · obtain ⟨ex, v, d, rfl, dv, hc, k⟩ := h
    refine ⟨_, (pss_one (ps_ret (pe_and (pe_callB call_isi (by rfl) T.isinstance (by decide +kernel) (pa_cons (pv 0) (pa_cons (pe_bltn (v := .ty "int") (by rfl) T.int (by decide +kernel) rfl) pa_nil))) (pe_and (pe_not (pe_callB call_isi (by rfl) T.isinstance (by decide +kernel) (pa_cons (pv 0) (pa_cons (pe_bltn (v := .ty "bool") (by rfl) Tb (by decide +kernel) rfl) pa_nil)))) (pe_one (pe_chain op_lt op_lt (pe_un un_neg (pe_op op_pow pe_int pe_int)) (pv 0) (pe_op op_pow pe_int pe_int))))))), ?_⟩
    refine ⟨_, rfl, _, _, _, _, _, rfl, .ty _, dv.ty, kitI d, _, rfl, ?_⟩
    cases e : isIntD d with
    | false =>
      refine iteF ?_
      have := k H Same.refl
      rw [show intD d = false by cases d <;> first | rfl | cases e] at this
      exact this
    | true =>
      refine iteT ⟨_, rfl, _, _, _, _, _, rfl, .ty _, dv.ty, kitBo d, _, rfl, _, rfl, ?_⟩
      cases e2 : isBoolD d with
      | true =>
        refine iteF ?_
        have := k H Same.refl
        rw [show intD d = false by cases d <;> first | rfl | cases e2] at this
        exact this
      | false =>
        obtain ⟨i, rfl⟩ : ∃ i, d = .int i := by cases d <;> first | exact ⟨_, rfl⟩ | (cases e; done) | (cases e2; done)
        cases dv.intI
        have q := k H Same.refl
        refine iteT ?_
        refine ⟨_, _, rfl, rfl, ⟨by decide, by decide, by decide⟩, _, rfl, _, rfl, _, _, rfl, rfl, decide (-lim < i), rfl, ?_⟩
        by_cases h1 : -lim < i
        · rw [decide_eq_true h1]
          refine iteT ⟨_, _, rfl, rfl, ⟨by decide, by decide, by decide⟩, _, _, rfl, rfl, ?_⟩
          rw [show intD (.int i) = decide (i < lim) from decide_eq_decide.mpr ⟨fun z => z.2, fun z => ⟨h1, z⟩⟩] at q
          exact q
        · rw [decide_eq_false h1]
          refine iteF ?_
          rw [show intD (.int i) = false from decide_eq_false fun z => h1 z.1] at q
          exact q
/-- the kinds of names, as the law has them -/
theorem kind_mem {ps : List (Str × Str)} {ns us : List Str} (nd : (allN ps ns us).Nodup) {z : Str} (hz : z ∈ allN ps ns us) : (z ∈ ps.map (·.1) ∧ kindF ps ns z = "array") ∨ (z ∈ ps.map (·.2) ∧ kindF ps ns z = "length") ∨ (z ∈ ns ∧ kindF ps ns z = "position") ∨ (z ∈ us ∧ kindF ps ns z = "value") := by
  rcases List.mem_append.mp hz with h | h
  · exact .inl ⟨h, kind_array nd z h⟩
  · rcases List.mem_append.mp h with h | h
    · have h := (uniq_mem _ _).mp h
      exact .inr (.inl ⟨h, kind_length nd z h⟩)
    · rcases List.mem_append.mp h with h | h
      · exact .inr (.inr (.inl ⟨h, kind_position nd z h⟩))
      · exact .inr (.inr (.inr ⟨h, kind_value nd z h⟩))
theorem kd_pos {ps : List (Str × Str)} {ns us : List Str} (nd : (allN ps ns us).Nodup) (z : Str) : kindD ps ns us "position" (.str z) = decide (z ∈ ns) := by
  refine decide_eq_decide.mpr ⟨fun ⟨hz, hk⟩ => ?_, fun h => ⟨List.mem_append.mpr (.inr (List.mem_append.mpr (.inr (List.mem_append.mpr (.inl h))))), kind_position nd z h⟩⟩
  rcases kind_mem nd hz with ⟨h, e⟩ | ⟨h, e⟩ | ⟨h, e⟩ | ⟨h, e⟩
  · rw [e] at hk; exact absurd hk (by decide +kernel)
  · rw [e] at hk; exact absurd hk (by decide +kernel)
  · exact h
  · rw [e] at hk; exact absurd hk (by decide +kernel)
theorem kd_len {ps : List (Str × Str)} {ns us : List Str} (nd : (allN ps ns us).Nodup) (z : Str) : kindD ps ns us "length" (.str z) = decide (z ∈ uniq (ps.map (·.2))) := by
  refine decide_eq_decide.mpr ⟨fun ⟨hz, hk⟩ => ?_, fun h => ⟨List.mem_append.mpr (.inr (List.mem_append.mpr (.inl h))), kind_length nd z ((uniq_mem _ _).mp h)⟩⟩
  rcases kind_mem nd hz with ⟨h, e⟩ | ⟨h, e⟩ | ⟨h, e⟩ | ⟨h, e⟩
  · rw [e] at hk; exact absurd hk (by decide +kernel)
  · exact (uniq_mem _ _).mpr h
  · rw [e] at hk; exact absurd hk (by decide +kernel)
  · rw [e] at hk; exact absurd hk (by decide +kernel)
theorem kd_arr {ps : List (Str × Str)} {ns us : List Str} (nd : (allN ps ns us).Nodup) (z : Str) : kindD ps ns us "array" (.str z) = decide (z ∈ ps.map (·.1)) := by
  refine decide_eq_decide.mpr ⟨fun ⟨hz, hk⟩ => ?_, fun h => ⟨List.mem_append.mpr (.inl h), kind_array nd z h⟩⟩
  rcases kind_mem nd hz with ⟨h, e⟩ | ⟨h, e⟩ | ⟨h, e⟩ | ⟨h, e⟩
  · exact h
  · rw [e] at hk; exact absurd hk (by decide +kernel)
  · rw [e] at hk; exact absurd hk (by decide +kernel)
  · rw [e] at hk; exact absurd hk (by decide +kernel)
theorem kd_val {ps : List (Str × Str)} {ns us : List Str} (nd : (allN ps ns us).Nodup) (z : Str) : kindD ps ns us "value" (.str z) = decide (z ∈ us) := by
  refine decide_eq_decide.mpr ⟨fun ⟨hz, hk⟩ => ?_, fun h => ⟨List.mem_append.mpr (.inr (List.mem_append.mpr (.inr (List.mem_append.mpr (.inr h))))), kind_value nd z h⟩⟩
  rcases kind_mem nd hz with ⟨h, e⟩ | ⟨h, e⟩ | ⟨h, e⟩ | ⟨h, e⟩
  · rw [e] at hk; exact absurd hk (by decide +kernel)
  · rw [e] at hk; exact absurd hk (by decide +kernel)
  · rw [e] at hk; exact absurd hk (by decide +kernel)
  · exact h
theorem eqv_str (y z : Str) : PyData.eqv (.str y) (.str z) = decide (y = z) := by
  show (y == z) = _
  by_cases h : y = z
  · subst h; simp
  · simp [h]
theorem nameAt_str {ps : List (Str × Str)} {ns us ow : List Str} (nd : (allN ps ns us).Nodup) (z : Str) : nameAtD ps ns us ow (.str z) = decide (z ∈ (([("" : Str)] ++ ns) ++ uniq (ps.map (·.2))) ++ ow) := by
  show (PyData.eqv (.str z) (.str "") || (decide (z ∈ ow) || (kindD ps ns us "position" (.str z) || kindD ps ns us "length" (.str z)))) = _
  rw [eqv_str, kd_pos nd, kd_len nd, ← Bool.decide_or, ← Bool.decide_or, ← Bool.decide_or]
  refine decide_eq_decide.mpr ?_
  simp only [List.mem_append, List.mem_singleton]
  constructor
  · rintro (h | h | h | h)
    · exact .inl (.inl (.inl h))
    · exact .inr h
    · exact .inl (.inl (.inr h))
    · exact .inl (.inr h)
  · rintro (((h | h) | h) | h)
    · exact .inl h
    · exact .inr (.inr (.inl h))
    · exact .inr (.inr (.inr h))
    · exact .inr (.inl h)
/-- no text is no name -/
theorem nameAt_no {ps : List (Str × Str)} {ns us ow : List Str} {d : PyData} (h : isStrD d = false) : nameAtD ps ns us ow d = false := by
  cases d <;> first | rfl | (cases h; done)
end
end Kx
namespace Kx
open PySem PySem.Spec PyProof.Rows L2
section
variable {P : Program} {w : World} {K : PySem.W.Frag} {mg : Str → Option Value} {base : Heap}
abbrev N_law_is_position : List Str := ["parts", "value", "mine"]
abbrev P_law_is_position : List Str := ["parts", "value", "mine"]
theorem sc_law_is_position : FnScope N_law_is_position P_law_is_position (defScope s_law_is_position) := ⟨rfl, rfl, rfl, by decide +kernel, rfl, by decide +kernel, by decide +kernel⟩
def spLPos (g : List (Str × Str) → List Str → List Str → List Str → PyData → Bool) : Sp := fun vs H Q _ => ∃ (ex : Addr → Prop) (R mt : Addr) (v va vp vv : V) (d : PyData) (ps : List (Str × Str)) (ns us ow : List Str), vs = [.ref R, v, .ref mt] ∧ RecAt H R va vp vv ps ns us ∧ Dv ex H v d ∧ shp d ∧ TupF H mt (ow.map V.str) ∧ ow.length ≤ 5 ∧ (allN ps ns us).Nodup ∧ ∀ H', Same H H' → Q (.bl (g ps ns us ow d)) H'
theorem ok_lpos (T : Bt mg) (h : Has K mg "_law_is_position" s_law_is_position) (C1 : Ca P w K mg base 1 "_law_is_number" P_law_is_number (spJudge intD)) (C2 : Ca P w K mg base 1 "_law_lengths" P_law_lengths spLengths) : Ca P w K mg base 2 "_law_is_position" P_law_is_position (spLPos placeD) := by
  obtain ⟨_, _, c__law_is_number⟩ := C1
  obtain ⟨_, _, c__law_lengths⟩ := C2
  refine cal_of h sc_law_is_position (fun _ _ _ _ _ _ us hl => match us, hl with | [_, _, _], _ => rfl) (fun vs H Q E h => ?_) (fun f cdv A outer s H vs Q E hr h => ?_)
  · obtain ⟨ex, R, mt, v, va, vp, vv, d, ps, ns, us, ow, rfl, _⟩ := h
    rfl
  · obtain ⟨ex, R, mt, v, va, vp, vv, d, ps, ns, us, ow, rfl, ⟨hR, pt, b1, b2, b3⟩, dv, sh, tm, lo, nd, k⟩ := h
    refine ⟨_, (pss_cons (ps_if (PW.pt (pw_or (pt_not (pt_val (pe_callB call_isi (by rfl) T.isinstance (by decide +kernel) (pa_cons (pv 1) (pa_cons (pe_bltn (v := .ty "tuple") (by rfl) T.tuple (by decide +kernel) rfl) pa_nil))))) (pw_or (pt_cmpR op_ne (pe_callB call_len (by rfl) T.len (by decide +kernel) (pa_cons (pv 1) pa_nil)) pe_int (nomark _)) (pw_or (pt_not (pt_val (pe_callB call_isi (by rfl) T.isinstance (by decide +kernel) (pa_cons (pe_ix ix_tup (pv 1) pe_int (fun _ _ => rfl)) (pa_cons (pe_bltn (v := .ty "str") (by rfl) T.str (by decide +kernel) rfl) pa_nil))))) (pw_or1 (pt_not (pt_val (pe_call c__law_is_number.1 (hr.mono (by decide)) rfl c__law_is_number.2.1 c__law_is_number.2.2.1 c__law_is_number.2.2.2 .nil pass0 (pa_cons (pe_ix ix_tup (pv 1) pe_int (fun _ _ => rfl)) pa_nil))))))))) (pss_one (ps_ret pe_bl)) pss_nil)
      (pss_one (ps_ret (pe_cmpR op_in_seq (pe_ix ix_tup (pv 1) pe_int (fun _ _ => rfl)) (pe_op op_cat (pe_op op_cat (pe_op op_cat (pe_lst (pa_cons pe_str pa_nil)) (pe_callTy call_list_of (by rfl) T.list (by decide +kernel) (pa_cons (pe_ix ix_list (pv 0) pe_int (fun _ _ => rfl)) pa_nil))) (pe_call c__law_lengths.1 (hr.mono (by decide)) rfl c__law_lengths.2.1 c__law_lengths.2.2.1 c__law_lengths.2.2.2 .nil pass0 (pa_cons (pe_ix ix_list (pv 0) pe_int (fun _ _ => rfl)) pa_nil))) (pe_callTy call_list_of (by rfl) T.list (by decide +kernel) (pa_cons (pv 2) pa_nil))) rfl)))), ?_⟩
    refine ⟨_, rfl, _, _, _, _, _, rfl, .ty _, dv.ty, kitT d, _, rfl, ?_⟩
    cases e : isTupD d with
    | false =>
      have no : placeD ps ns us ow d = false := by cases d <;> first | rfl | (cases e; done)
      have := k H Same.refl
      rw [no] at this
      exact iteT (iteT this)
    | true =>
      obtain ⟨ds, rfl⟩ : ∃ ds, d = .tuple ds := by cases d <;> first | exact ⟨_, rfl⟩ | (cases e; done)
      obtain ⟨a, xs, rfl, ht, dl⟩ := dv.tupI
      have hl := dl.len
      have sqx : SqT K H a xs := ht.sq
      refine iteF ⟨_, rfl, _, _, rfl, .inr ⟨_, sqx, rfl⟩, rfl, ?_⟩
      refine ⟨_, rfl, ?_⟩
      by_cases h2 : xs.length = 2
      · obtain ⟨a0, a1, rfl⟩ : ∃ a0 a1, xs = [a0, a1] := match xs, h2 with | [_, _], _ => ⟨_, _, rfl⟩
        obtain ⟨d0, d1, rfl⟩ : ∃ d0 d1, ds = [d0, d1] := match ds, hl with | [_, _], _ => ⟨_, _, rfl⟩
        rw [decide_eq_true (show V.int (([a0, a1] : List V).length : Int) = V.int 2 from rfl)]
        obtain ⟨dv0, dv1⟩ : Dv ex H a0 d0 ∧ Dv ex H a1 d1 := by
          cases dl with
          | cons q0 dl => cases dl with
            | cons q1 dl => exact ⟨q0, q1⟩
        have s1 := sh d1 (by simp)
        have q : ∀ H', Same H H' → Q (.bl (intD d1 && nameAtD ps ns us ow d0)) H' := k
        refine iteF ⟨_, rfl, a, [a0, a1], 0, a0, rfl, rfl, sqx, rfl, _, _, _, _, _, rfl, .ty _, dv0.ty, kitS d0, _, rfl, ?_⟩
        cases e0 : isStrD d0 with
        | false =>
          have := q H Same.refl
          rw [nameAt_no e0, Bool.and_false] at this
          exact iteT (iteT this)
        | true =>
          obtain ⟨z, rfl⟩ : ∃ z, d0 = .str z := by cases d0 <;> first | exact ⟨_, rfl⟩ | (cases e0; done)
          obtain rfl := dv0.strI
          rw [nameAt_str nd] at q
          refine iteF ⟨_, rfl, a, [.str z, a1], 1, a1, rfl, rfl, sqx, rfl, ex, _, _, rfl, dv1, s1.2, fun H0 m0 => ?_⟩
          refine ⟨_, rfl, ?_⟩
          cases e1 : intD d1 with
          | false =>
            have := q H0 m0
            rw [e1] at this
            exact iteT this
          | true =>
            rw [e1, Bool.true_and] at q
            have kk : ∀ {G G' : Hp}, Same G G' → Kp All G G' := fun m => Kp.same m
            obtain ⟨aP, xP, rfl, tP, dP⟩ := pt.p.tupI
            have n2 := dP.len
            rw [List.length_map] at n2
            have eP := dP.strE
            subst eP
            have ul := uniq_len (ps.map (·.2))
            rw [List.length_map] at ul
            have hL := sizeLine_eq
            refine iteF ⟨_, rfl, a, _, 0, .str z, rfl, rfl, ((kk m0).tup ht).sq, rfl, by show 1 ≤ sizeLine; decide, fun l hl => ?_⟩
            have m1 : Same H (upd H0 l (.lst [.str ""])) := m0.trans (Same.upd hl)
            have e1 : (upd H0 l (.lst [.str ""])) l = some (.lst [.str ""]) := upd_same
            generalize upd H0 l (.lst [.str ""]) = H1 at m1 e1 ⊢
            refine ⟨_, rfl, R, _, 1, _, rfl, rfl, SqL.of (m1 _ _ hR), rfl, aP, _, rfl, .inr ((kk m1).tup tP).sq, fun D2 hD2 => ?_⟩
            have m2 : Same H1 (upd H1 D2 (.lst (ns.map V.str))) := Same.upd hD2
            have e2 : (upd H1 D2 (.lst (ns.map V.str))) D2 = some (.lst (ns.map V.str)) := upd_same
            generalize upd H1 D2 (.lst (ns.map V.str)) = H2 at m2 e2 ⊢
            refine ⟨l, D2, _, _, rfl, rfl, m2 _ _ e1, e2, by simp only [List.length_cons, List.length_nil, List.length_map]; omega, fun D3 hD3 => ?_⟩
            have m3 : Same H2 (upd H2 D3 (.lst ([.str ""] ++ ns.map V.str))) := Same.upd hD3
            have e3 : (upd H2 D3 (.lst ([.str ""] ++ ns.map V.str))) D3 = some (.lst ([.str ""] ++ ns.map V.str)) := upd_same
            generalize upd H2 D3 (.lst ([.str ""] ++ ns.map V.str)) = H3 at m3 e3 ⊢
            have m13 := (m1.trans m2).trans m3
            refine ⟨_, rfl, R, _, 0, _, rfl, rfl, SqL.of (m13 _ _ hR), rfl, All, _, ps, rfl, pt.a.kp (kk m13), b1, fun D4 H4 hD4 m4 e4 => ?_⟩
            refine ⟨D3, D4, _, _, rfl, rfl, m4 _ _ e3, e4, by simp only [List.length_append, List.length_cons, List.length_nil, List.length_map]; omega, fun D5 hD5 => ?_⟩
            have m5 : Same H4 (upd H4 D5 (.lst (([.str ""] ++ ns.map V.str) ++ (uniq (ps.map (·.2))).map V.str))) := Same.upd hD5
            have e5 : (upd H4 D5 (.lst (([.str ""] ++ ns.map V.str) ++ (uniq (ps.map (·.2))).map V.str))) D5 = some (.lst (([.str ""] ++ ns.map V.str) ++ (uniq (ps.map (·.2))).map V.str)) := upd_same
            generalize upd H4 D5 (.lst (([.str ""] ++ ns.map V.str) ++ (uniq (ps.map (·.2))).map V.str)) = H5 at m5 e5 ⊢
            have m15 := (m13.trans m4).trans m5
            refine ⟨_, rfl, mt, _, rfl, .inr ((kk m15).tup tm).sq, fun D6 hD6 => ?_⟩
            have m6 : Same H5 (upd H5 D6 (.lst (ow.map V.str))) := Same.upd hD6
            have e6 : (upd H5 D6 (.lst (ow.map V.str))) D6 = some (.lst (ow.map V.str)) := upd_same
            generalize upd H5 D6 (.lst (ow.map V.str)) = H6 at m6 e6 ⊢
            refine ⟨D5, D6, _, _, rfl, rfl, m6 _ _ e5, e6, by simp only [List.length_append, List.length_cons, List.length_nil, List.length_map]; omega, fun D7 hD7 => ?_⟩
            have m7 : Same H6 (upd H6 D7 (.lst ((([.str ""] ++ ns.map V.str) ++ (uniq (ps.map (·.2))).map V.str) ++ ow.map V.str))) := Same.upd hD7
            have e7 : (upd H6 D7 (.lst ((([.str ""] ++ ns.map V.str) ++ (uniq (ps.map (·.2))).map V.str) ++ ow.map V.str))) D7 = some (.lst ((([.str ""] ++ ns.map V.str) ++ (uniq (ps.map (·.2))).map V.str) ++ ow.map V.str)) := upd_same
            generalize upd H6 D7 (.lst ((([.str ""] ++ ns.map V.str) ++ (uniq (ps.map (·.2))).map V.str) ++ ow.map V.str)) = H7 at m7 e7 ⊢
            have m17 := (m15.trans m6).trans m7
            have e8 : (([V.str ""] ++ ns.map V.str) ++ (uniq (ps.map (·.2))).map V.str) ++ ow.map V.str = (((([("" : Str)] ++ ns) ++ uniq (ps.map (·.2))) ++ ow).map V.str) := by simp only [List.map_append, List.map_cons, List.map_nil]
            rw [e8] at e7
            refine ⟨D7, _, rfl, .inl (SqL.of e7), rfl, flat_strs _, ?_⟩
            have := q H7 m17
            rw [← inV_str] at this
            exact this
      · rw [decide_eq_false (fun q : V.int (xs.length : Int) = V.int 2 => h2 (by injection q with q; omega))]
        have := k H Same.refl
        rw [show placeD ps ns us ow (.tuple ds) = false from match ds, hl with
          | [], _ => rfl
          | [_], _ => rfl
          | [_, _], hl => absurd hl h2
          | _ :: _ :: _ :: _, _ => rfl] at this
        exact iteT (iteT this)
abbrev N_law_is_value : List Str := ["parts", "value", "mine", "pair"]
abbrev P_law_is_value : List Str := ["parts", "value", "mine"]
theorem sc_law_is_value : FnScope N_law_is_value P_law_is_value (defScope s_law_is_value) := ⟨rfl, rfl, rfl, by decide +kernel, rfl, by decide +kernel, by decide +kernel⟩
theorem ok_lval (T : Bt mg) (h : Has K mg "_law_is_value" s_law_is_value) (C1 : Ca P w K mg base 1 "_law_is_number" P_law_is_number (spJudge intD)) (C2 : Ca P w K mg base 2 "_law_is_position" P_law_is_position (spLPos placeD)) : Ca P w K mg base 3 "_law_is_value" P_law_is_value (spLPos amountD) := by
  obtain ⟨_, _, c__law_is_number⟩ := C1
  obtain ⟨_, _, c__law_is_position⟩ := C2
  refine cal_of h sc_law_is_value (fun _ _ _ _ _ _ us hl => match us, hl with | [_, _, _], _ => rfl) (fun vs H Q E h => ?_) (fun f cdv A outer s H vs Q E hr h => ?_)
  · obtain ⟨ex, R, mt, v, va, vp, vv, d, ps, ns, us, ow, rfl, _⟩ := h
    rfl
  · obtain ⟨ex, R, mt, v, va, vp, vv, d, ps, ns, us, ow, rfl, re, dv, sh, tm, lo, nd, k⟩ := h
    refine ⟨_, (pss_cons (ps_if (PW.pt (pw_or (pt_not (pt_val (pe_callB call_isi (by rfl) T.isinstance (by decide +kernel) (pa_cons (pv 1) (pa_cons (pe_bltn (v := .ty "tuple") (by rfl) T.tuple (by decide +kernel) rfl) pa_nil))))) (pw_or (pt_cmpR op_notIn_seq (pe_callB call_len (by rfl) T.len (by decide +kernel) (pa_cons (pv 1) pa_nil)) (pe_tupF (pa_cons pe_int (pa_cons pe_int pa_nil))) rfl) (pw_or1 (pt_not (pt_val (pe_callB call_isi (by rfl) T.isinstance (by decide +kernel) (pa_cons (pe_ix ix_tup (pv 1) pe_int (fun _ _ => rfl)) (pa_cons (pe_bltn (v := .ty "str") (by rfl) T.str (by decide +kernel) rfl) pa_nil))))))))) (pss_one (ps_ret pe_bl)) pss_nil)
      (pss_cons (ps_if (pt_not (pt_val (pe_call c__law_is_number.1 (hr.mono (by decide)) rfl c__law_is_number.2.1 c__law_is_number.2.2.1 c__law_is_number.2.2.2 .nil pass0 (pa_cons (pe_ix ix_tup (pv 1) (pe_un un_neg pe_int) (fun _ _ => rfl)) pa_nil)))) (pss_one (ps_ret pe_bl)) pss_nil)
      (pss_cons (ps_if (pt_cmpR op_eq (pe_callB call_len (by rfl) T.len (by decide +kernel) (pa_cons (pv 1) pa_nil)) pe_int (nomark _)) (pss_one (ps_ret (pe_cmpR op_in_seq (pe_ix ix_tup (pv 1) pe_int (fun _ _ => rfl)) (pe_op op_cat (pe_lst (pa_cons pe_str pa_nil)) (pe_callTy call_list_of (by rfl) T.list (by decide +kernel) (pa_cons (pe_ix ix_list (pv 0) pe_int (fun _ _ => rfl)) pa_nil))) rfl))) pss_nil)
      (pss_one (ps_ret (pe_and (pe_cmpR op_in_seq (pe_ix ix_tup (pv 1) pe_int (fun _ _ => rfl)) (pe_lc (own := [("pair", 3)]) (g := (gName 3)) (tt := tYes) (by rfl) sc_law_is_value.nd (pi_tup (pe_ix ix_list (pv 0) pe_int (fun _ _ => rfl))) (blkOk_by (own := [("pair", 3)]) (N := ["parts", "value", "mine", "pair"]) (sc := defScope s_law_is_value) (by decide +kernel)) (fun _ _ _ _ _ => pg_name (i := 3) sc_law_is_value.nd rfl (Or.inl rfl)) (fun _ _ _ _ _ => pts_nil) (fun _ _ _ _ _ => (pe_ix (show IxR _ (rIxT K) from ix_tup) (pv 3) pe_int (fun _ _ => rfl)))) rfl) (pe_one (pe_call c__law_is_position.1 (hr.mono (by decide)) rfl c__law_is_position.2.1 c__law_is_position.2.2.1 c__law_is_position.2.2.2 .nil pass0 (pa_cons (pv 0) (pa_cons (pe_slice sl_tupF (pv 1) (po_some pe_int) (po_some pe_int)) (pa_cons (pv 2) pa_nil))))))))))), ?_⟩
    refine ⟨_, rfl, _, _, _, _, _, rfl, .ty _, dv.ty, kitT d, _, rfl, ?_⟩
    cases e : isTupD d with
    | false =>
      have no : amountD ps ns us ow d = false := by cases d <;> first | rfl | (cases e; done)
      have := k H Same.refl
      rw [no] at this
      exact iteT (iteT this)
    | true =>
      obtain ⟨ds, rfl⟩ : ∃ ds, d = .tuple ds := by cases d <;> first | exact ⟨_, rfl⟩ | (cases e; done)
      obtain ⟨a, xs, rfl, ht, dl⟩ := dv.tupI
      have hl := dl.len
      have sqx : SqT K H a xs := ht.sq
      have e8 : ([V.str ""] ++ us.map V.str) = (([("" : Str)] ++ us).map V.str) := by simp only [List.map_append, List.map_cons, List.map_nil]
      obtain ⟨hR, pt, b1, b2, b3⟩ := re
      have kk : ∀ {G G' : Hp}, Same G G' → Kp All G G' := fun m => Kp.same m
      have kx : ∀ {G G' : Hp}, Same G G' → Kp ex G G' := fun m => Kp.same m
      obtain ⟨aA, xA, rfl, tA, dA⟩ := pt.a.tupI
      obtain ⟨aV, xV, rfl, tV, dV⟩ := pt.v.tupI
      have n1 := dA.len
      have n3 := dV.len
      rw [List.length_map] at n1 n3
      have eV := dV.strE
      subst eV
      have hL := sizeLine_eq
      refine iteF ⟨_, rfl, _, _, rfl, .inr ⟨_, sqx, rfl⟩, by show 2 ≤ sizeLine; decide, fun p Hp mp hp => ⟨p, _, rfl, .inr hp.sq, rfl, rfl, _, rfl, ?_⟩⟩
      by_cases h4 : xs.length = 4
      · obtain ⟨a0, a1, a2, a3, rfl⟩ : ∃ a0 a1 a2 a3, xs = [a0, a1, a2, a3] := match xs, h4 with | [_, _, _, _], _ => ⟨_, _, _, _, rfl⟩
        obtain ⟨d0, d1, d2, d3, rfl⟩ : ∃ d0 d1 d2 d3, ds = [d0, d1, d2, d3] := match ds, hl with | [_, _, _, _], _ => ⟨_, _, _, _, rfl⟩
        obtain ⟨dv0, dv1, dv2, dv3⟩ : Dv ex H a0 d0 ∧ Dv ex H a1 d1 ∧ Dv ex H a2 d2 ∧ Dv ex H a3 d3 := by
          cases dl with
          | cons q0 dl => cases dl with
            | cons q1 dl => cases dl with
              | cons q2 dl => cases dl with
                | cons q3 dl => exact ⟨q0, q1, q2, q3⟩
        have s1 := sh d1 (by simp)
        have s2 := sh d2 (by simp)
        have s3 := sh d3 (by simp)
        have q : ∀ H', Same H H' → Q (.bl (kindD ps ns us "array" d0 && (placeD ps ns us ow (.tuple [d1, d2]) && intD d3))) H' := k
        refine iteF ⟨_, rfl, a, _, 0, a0, rfl, rfl, ((kx mp).tup ht).sq, rfl, _, _, _, _, _, rfl, .ty _, (dv0.kp (kx mp)).ty, kitS d0, _, rfl, ?_⟩
        cases e0 : isStrD d0 with
        | false =>
          have := q Hp mp
          rw [show kindD ps ns us "array" d0 = false by cases d0 <;> first | rfl | (cases e0; done)] at this
          exact iteT this
        | true =>
          obtain ⟨z, rfl⟩ : ∃ z, d0 = .str z := by cases d0 <;> first | exact ⟨_, rfl⟩ | (cases e0; done)
          obtain rfl := dv0.strI
          rw [kd_arr nd] at q
          refine iteF ⟨_, rfl, _, rfl, a, _, -1, a3, rfl, rfl, ((kx mp).tup ht).sq, rfl, ex, _, _, rfl, dv3.kp (kx mp), s3.2, fun H2 m2 => ⟨_, rfl, ?_⟩⟩
          replace m2 := mp.trans m2
          cases e3 : intD d3 with
          | false =>
            have := q H2 m2
            rw [e3, Bool.and_false, Bool.and_false] at this
            exact iteT this
          | true =>
            rw [e3] at q
            simp only [Bool.and_true] at q
            refine iteF ⟨_, rfl, _, _, rfl, .inr ⟨_, ((kx m2).tup ht).sq, rfl⟩, rfl, _, rfl, ?_⟩
            rw [decide_eq_false (show ¬ V.int (([V.str z, a1, a2, a3] : List V).length : Int) = V.int 2 from fun q => by injection q with q; cases q)]
            refine iteF ⟨_, rfl, a, _, 0, .str z, rfl, rfl, ((kx m2).tup ht).sq, rfl, _, rfl, R, _, 0, _, rfl, rfl, SqL.of (m2 _ _ hR), rfl, aA, rfl, ⟨_, ((kk m2).tup tA).sq⟩, fun D hD => ?_⟩
            refine lc_o (walk_tup (K := K) (a := aA) (xs := xA)) (fun i => ps[i]?.map fun q => V.str q.1) (by omega) hD (fun Hx sm => ((kk (m2.trans sm)).tup tA).sq) ?_ ?_
            · rintro i y Hx H' Nx hi sm hDx ⟨rfl, hy⟩ hno hyes
              obtain ⟨e, he, dve⟩ := dA.get hy
              have hi' : i < ps.length := by omega
              rw [List.getElem?_map, List.getElem?_eq_getElem hi'] at he
              cases he
              obtain ⟨b, rfl, hb⟩ := dve.pairI
              refine ⟨rfl, yes ⟨_, rfl, b, _, 0, _, rfl, rfl, ((kk (m2.trans sm)).tup hb).sq, rfl, hyes _ (by rw [List.getElem?_eq_getElem hi']; rfl) _ Same.refl⟩⟩
            · intro H3 m3 hD3
              rw [n1, range_list] at hD3
              have m13 := m2.trans m3
              have e9 : (ps.map fun q => V.str q.1) = (ps.map (·.1)).map V.str := by rw [List.map_map]; rfl
              rw [e9] at hD3
              refine ⟨D, _, rfl, .inl (SqL.of hD3), rfl, flat_strs _, _, rfl, ?_⟩
              rw [inV_str]
              cases e5 : decide (z ∈ ps.map (·.1)) with
              | false =>
                have := q H3 m13
                rw [e5] at this
                exact iteF this
              | true =>
                rw [e5, Bool.true_and] at q
                refine iteT ⟨_, rfl, _, rfl, _, rfl, _, rfl, a, _, rfl, (kx m13).tup ht, fun p4 H4 m4 hp4 => ?_⟩
                have hp5 : TupF H4 p4 [a1, a2] := hp4
                have m14 := m13.trans m4
                refine ⟨_, rfl, ex, R, mt, _, _, vp, _, .tuple [d1, d2], ps, ns, us, ow, rfl, ⟨m14 _ _ hR, pt.kp (kk m14), b1, b2, b3⟩, .tupM hp5 (.cons (dv1.kp (kx m14)) (.cons (dv2.kp (kx m14)) .nil)), ?_, (kx m14).tup tm, lo, nd, fun H5 m5 => q H5 (m14.trans m5)⟩
                intro e he
                rcases List.mem_cons.mp he with rfl | he
                · exact s1
                · rcases List.mem_cons.mp he with rfl | he
                  · exact s2
                  · cases he
      · by_cases h2 : xs.length = 2
        · obtain ⟨a0, a1, rfl⟩ : ∃ a0 a1, xs = [a0, a1] := match xs, h2 with | [_, _], _ => ⟨_, _, rfl⟩
          obtain ⟨d0, d1, rfl⟩ : ∃ d0 d1, ds = [d0, d1] := match ds, hl with | [_, _], _ => ⟨_, _, rfl⟩
          obtain ⟨dv0, dv1⟩ : Dv ex H a0 d0 ∧ Dv ex H a1 d1 := by
            cases dl with
            | cons q0 dl => cases dl with
              | cons q1 dl => exact ⟨q0, q1⟩
          have s1 := sh d1 (by simp)
          have q : ∀ H', Same H H' → Q (.bl ((PyData.eqv d0 (.str "") || kindD ps ns us "value" d0) && intD d1)) H' := k
          refine iteF ⟨_, rfl, a, _, 0, a0, rfl, rfl, ((kx mp).tup ht).sq, rfl, _, _, _, _, _, rfl, .ty _, (dv0.kp (kx mp)).ty, kitS d0, _, rfl, ?_⟩
          cases e0 : isStrD d0 with
          | false =>
            have := q Hp mp
            rw [show (PyData.eqv d0 (.str "") || kindD ps ns us "value" d0) = false by cases d0 <;> first | rfl | (cases e0; done)] at this
            exact iteT this
          | true =>
            obtain ⟨z, rfl⟩ : ∃ z, d0 = .str z := by cases d0 <;> first | exact ⟨_, rfl⟩ | (cases e0; done)
            obtain rfl := dv0.strI
            rw [kd_val nd, eqv_str, ← Bool.decide_or] at q
            refine iteF ⟨_, rfl, _, rfl, a, _, -1, a1, rfl, rfl, ((kx mp).tup ht).sq, rfl, ex, _, _, rfl, dv1.kp (kx mp), s1.2, fun H2 m2 => ⟨_, rfl, ?_⟩⟩
            replace m2 := mp.trans m2
            cases e3 : intD d1 with
            | false =>
              have := q H2 m2
              rw [e3, Bool.and_false] at this
              exact iteT this
            | true =>
              rw [e3, Bool.and_true] at q
              refine iteF ⟨_, rfl, _, _, rfl, .inr ⟨_, ((kx m2).tup ht).sq, rfl⟩, rfl, _, rfl, ?_⟩
              rw [decide_eq_true (show V.int (([V.str z, a1] : List V).length : Int) = V.int 2 from rfl)]
              refine iteT ⟨_, rfl, a, _, 0, .str z, rfl, rfl, ((kx m2).tup ht).sq, rfl, by show 1 ≤ sizeLine; decide, fun l hl => ?_⟩
              have m3 : Same H (upd H2 l (.lst [.str ""])) := m2.trans (Same.upd hl)
              have e4 : (upd H2 l (.lst [.str ""])) l = some (.lst [.str ""]) := upd_same
              generalize upd H2 l (.lst [.str ""]) = H3 at m3 e4 ⊢
              refine ⟨_, rfl, R, _, 2, _, rfl, rfl, SqL.of (m3 _ _ hR), rfl, aV, _, rfl, .inr ((kk m3).tup tV).sq, fun D2 hD2 => ?_⟩
              have m4 : Same H3 (upd H3 D2 (.lst (us.map V.str))) := Same.upd hD2
              have e5 : (upd H3 D2 (.lst (us.map V.str))) D2 = some (.lst (us.map V.str)) := upd_same
              generalize upd H3 D2 (.lst (us.map V.str)) = H4 at m4 e5 ⊢
              refine ⟨l, D2, _, _, rfl, rfl, m4 _ _ e4, e5, by simp only [List.length_cons, List.length_nil, List.length_map]; omega, fun D3 hD3 => ?_⟩
              have m5 : Same H4 (upd H4 D3 (.lst ([.str ""] ++ us.map V.str))) := Same.upd hD3
              have e6 : (upd H4 D3 (.lst ([.str ""] ++ us.map V.str))) D3 = some (.lst ([.str ""] ++ us.map V.str)) := upd_same
              generalize upd H4 D3 (.lst ([.str ""] ++ us.map V.str)) = H5 at m5 e6 ⊢
              rw [e8] at e6
              refine ⟨D3, _, rfl, .inl (SqL.of e6), rfl, flat_strs _, ?_⟩
              have := q H5 ((m3.trans m4).trans m5)
              rw [show decide (z = "" ∨ z ∈ us) = decide (z ∈ [("" : Str)] ++ us) from decide_eq_decide.mpr (by rw [List.mem_append, List.mem_singleton]), ← inV_str] at this
              exact this
        · have no : amountD ps ns us ow (.tuple ds) = false := match ds, hl with
            | [], _ => rfl
            | [_], _ => rfl
            | [_, _], hl => absurd hl h2
            | [_, _, _], _ => rfl
            | [_, _, _, _], hl => absurd hl h4
            | _ :: _ :: _ :: _ :: _ :: _, _ => rfl
          have := k Hp mp
          rw [no] at this
          rw [show inV (V.int (xs.length : Int)) [V.int 2, V.int 4] = false from ?_]
          · exact iteT (iteT this)
          · show (((2 : Int) == (xs.length : Int)) || (((4 : Int) == (xs.length : Int)) || false)) = false
            rw [beq_eq_false_iff_ne.mpr (show (2 : Int) ≠ (xs.length : Int) by omega), beq_eq_false_iff_ne.mpr (show (4 : Int) ≠ (xs.length : Int) by omega)]
            rfl
end
end Kx
namespace Kx
open PySem PySem.Spec PyProof.Rows L2
/-- a small datum, perhaps with a dict at the top -/
def ItOk (d : PyData) : Prop := EqOk d ∧ cost d ≤ 600 ∧ okD d ∧ d.depth ≤ 3
/-- a value that is judged -/
def NrOk (d : PyData) : Prop := shp d ∧ cost d ≤ 30000 ∧ okD d ∧ d.depth ≤ 10
def It1 (ex : Addr → Prop) (H : Hp) (v : V) : Prop := ∃ d, Dv ex H v d ∧ ItOk d
theorem It1.kp {ex : Addr → Prop} {H H' : Hp} {v : V} (h : It1 ex H v) (k : Kp ex H H') : It1 ex H' v := let ⟨d, a, b⟩ := h; ⟨d, a.kp k, b⟩
def Its (ex : Addr → Prop) (H : Hp) (n : Nat) (vs : List V) : Prop := ∃ ds, DvL ex H vs ds ∧ (∀ d ∈ ds, ItOk d) ∧ ds.length ≤ n
theorem Its.kp {ex : Addr → Prop} {H H' : Hp} {n : Nat} {vs : List V} (h : Its ex H n vs) (k : Kp ex H H') : Its ex H' n vs := let ⟨d, a, b⟩ := h; ⟨d, a.kp k, b⟩
theorem DvL.appL {ex : Addr → Prop} {H : Hp} {ys : List V} {e : List PyData} (h2 : DvL ex H ys e) : ∀ {xs : List V} {d : List PyData}, DvL ex H xs d → DvL ex H (xs ++ ys) (d ++ e)
  | _, _, .nil => h2
  | _, _, .cons a b => .cons a (DvL.appL h2 b)
theorem Its.app {ex : Addr → Prop} {H : Hp} {n m : Nat} {xs ys : List V} (a : Its ex H n xs) (b : Its ex H m ys) : Its ex H (n + m) (xs ++ ys) := by
  obtain ⟨ds, a1, a2, a3⟩ := a
  obtain ⟨es, b1, b2, b3⟩ := b
  exact ⟨ds ++ es, DvL.appL b1 a1, fun d hd => (List.mem_append.mp hd).elim (a2 d) (b2 d), by rw [List.length_append]; omega⟩
theorem Its.one {ex : Addr → Prop} {H : Hp} {v : V} (a : It1 ex H v) : Its ex H 1 [v] := let ⟨d, h1, h2⟩ := a; ⟨[d], .cons h1 .nil, fun e he => by rw [List.mem_singleton.mp he]; exact h2, Nat.le_refl _⟩
theorem DvL.takeL {ex : Addr → Prop} {H : Hp} : ∀ {xs : List V} {d : List PyData} (k : Nat), DvL ex H xs d → DvL ex H (xs.take k) (d.take k)
  | _, _, 0, _ => by simpa using DvL.nil
  | _, _, k + 1, .nil => by simpa using DvL.nil
  | _, _, k + 1, .cons a b => .cons a (DvL.takeL k b)
theorem DvL.dropL {ex : Addr → Prop} {H : Hp} : ∀ {xs : List V} {d : List PyData} (k : Nat), DvL ex H xs d → DvL ex H (xs.drop k) (d.drop k)
  | _, _, 0, h => h
  | _, _, k + 1, .nil => by simpa using DvL.nil
  | _, _, k + 1, .cons a b => DvL.dropL k b
theorem Its.take {ex : Addr → Prop} {H : Hp} {n : Nat} {xs : List V} (a : Its ex H n xs) (k : Nat) : Its ex H n (xs.take k) := let ⟨ds, a1, a2, a3⟩ := a; ⟨ds.take k, a1.takeL k, fun d hd => a2 d (List.mem_of_mem_take hd), by rw [List.length_take]; omega⟩
theorem Its.drop {ex : Addr → Prop} {H : Hp} {n : Nat} {xs : List V} (a : Its ex H n xs) (k : Nat) : Its ex H n (xs.drop k) := let ⟨ds, a1, a2, a3⟩ := a; ⟨ds.drop k, a1.dropL k, fun d hd => a2 d (List.mem_of_mem_drop hd), by rw [List.length_drop]; omega⟩
theorem DvL.revL {ex : Addr → Prop} {H : Hp} : ∀ {xs : List V} {d : List PyData}, DvL ex H xs d → DvL ex H xs.reverse d.reverse
  | _, _, .nil => .nil
  | _, _, .cons a b => by
    rw [List.reverse_cons, List.reverse_cons]
    exact DvL.appL (.cons a .nil) (DvL.revL b)
theorem Its.rev {ex : Addr → Prop} {H : Hp} {n : Nat} {xs : List V} (a : Its ex H n xs) : Its ex H n xs.reverse := let ⟨ds, a1, a2, a3⟩ := a; ⟨ds.reverse, a1.revL, fun d hd => a2 d (List.mem_reverse.mp hd), by rw [List.length_reverse]; exact a3⟩
theorem its_cost : ∀ {ds : List PyData}, (∀ d ∈ ds, ItOk d) → costL ds ≤ 602 * ds.length
  | [], _ => by simp [costL]
  | x :: r, h => by
    have := its_cost fun d hd => h d (List.mem_cons_of_mem _ hd)
    have := (h x List.mem_cons_self).2.1
    simp only [costL, List.length_cons]; omega
theorem its_ok {ds : List PyData} (h : ∀ d ∈ ds, ItOk d) : okL ds := okL_mem.mpr fun x hx => (h x hx).2.2.1
theorem its_dep : ∀ {ds : List PyData}, (∀ d ∈ ds, ItOk d) → PyData.depthAll ds ≤ 3
  | [], _ => by simp [PyData.depthAll]
  | x :: r, h => by
    have := its_dep fun d hd => h d (List.mem_cons_of_mem _ hd)
    have := (h x List.mem_cons_self).2.2.2
    simp only [PyData.depthAll]; omega
/-- a value that is judged, in the heap -/
def Nr (ex : Addr → Prop) (H : Hp) (v : V) : Prop := ∃ d, Dv ex H v d ∧ NrOk d
theorem Nr.kp {ex : Addr → Prop} {H H' : Hp} {v : V} (h : Nr ex H v) (k : Kp ex H H') : Nr ex H' v := let ⟨d, a, b⟩ := h; ⟨d, a.kp k, b⟩
theorem Its.tup {ex : Addr → Prop} {a : Addr} {H : Hp} {n : Nat} {xs : List V} (h : Its ex H n xs) (hn : n ≤ 40) (t : TupF H a xs) : Nr ex H (.ref a) := by
  obtain ⟨ds, h1, h2, h3⟩ := h
  have c := its_cost h2
  have o := its_ok h2
  have e := its_dep h2
  exact ⟨.tuple ds, .tupM t h1, fun d hd => ⟨(h2 d hd).1, by have := (h2 d hd).2.1; omega⟩, by simp only [cost]; omega, by simp only [okD]; exact o, by simp only [PyData.depth]; omega⟩
theorem Its.lst {ex : Addr → Prop} {a : Addr} {H : Hp} {n : Nat} {xs : List V} (h : Its ex H n xs) (hn : n ≤ 40) (na : ¬ ex a) (t : H a = some (.lst xs)) : Nr ex H (.ref a) := by
  obtain ⟨ds, h1, h2, h3⟩ := h
  have c := its_cost h2
  have o := its_ok h2
  have e := its_dep h2
  exact ⟨.list ds, .lst na t h1, trivial, by simp only [cost]; omega, by simp only [okD]; exact o, by simp only [PyData.depth]; omega⟩
theorem nm_ok {z : Str} (h : z = "" ∨ NameS z) : PyData.strOk z = true ∧ okS z ∧ z.length ≤ 8 := by
  rcases h with rfl | h
  · exact ⟨by decide +kernel, by unfold okS; decide +kernel, by decide +kernel⟩
  · refine ⟨?_, okS_name h, h.2.1⟩
    unfold PyData.strOk
    rw [Array.all_eq_true]
    intro i hi
    have := h.2.2 z.cps[i] (by rw [Array.mem_toList_iff]; exact Array.getElem_mem hi)
    exact decide_eq_true (by omega)
theorem it_str {z : Str} (h : z = "" ∨ NameS z) : ItOk (.str z) := by
  obtain ⟨a, b, c⟩ := nm_ok h
  refine ⟨.inl ?_, by simp only [cost]; omega, by simp only [okD]; exact b, by simp only [PyData.depth]; omega⟩
  show (PyData.strOk z && decide ((PyData.str z).depth ≤ 64)) = true
  rw [a]
  simp only [PyData.depth]
  rfl
theorem it_int {i : Int} (h : i.natAbs < 10 ^ 100) : ItOk (.int i) := ⟨.inl (by show (true && decide ((PyData.int i).depth ≤ 64)) = true; simp only [PyData.depth]; rfl), by simp only [cost]; omega, by simp only [okD]; exact h, by simp only [PyData.depth]; omega⟩
theorem it_bool (b : Bool) : ItOk (.bool b) := ⟨.inl (by cases b <;> decide +kernel), by simp only [cost]; omega, by simp only [okD], by simp only [PyData.depth]; omega⟩
theorem it_part {S : List Str} (hS : ∀ z ∈ S, z = "" ∨ NameS z) {d : PyData} (h : PartOk S d) : ItOk d := by
  rcases h with ⟨z, rfl, hz⟩ | ⟨m, rfl, hm⟩ | rfl
  · exact it_str (hS z hz)
  · have := of_decide_eq_true hm
    refine it_int ?_
    unfold lim at this
    omega
  · exact it_bool true
theorem part_lay {S : List Str} (hS : ∀ z ∈ S, z = "" ∨ NameS z) : ∀ {ds : List PyData}, (∀ d ∈ ds, PartOk S d) → PyData.canLayAll0 ds = true ∧ PyData.depthAll ds ≤ 1 ∧ costL ds ≤ 122 * ds.length
  | [], _ => ⟨by simp [PyData.canLayAll0], by simp [PyData.depthAll], by simp [costL]⟩
  | x :: r, h => by
    obtain ⟨h1, h2, h3⟩ := part_lay hS fun d hd => h d (List.mem_cons_of_mem _ hd)
    have hx : PyData.canLay0 x = true ∧ x.depth ≤ 0 ∧ cost x ≤ 120 := by
      rcases h x List.mem_cons_self with ⟨z, rfl, hz⟩ | ⟨m, rfl, hm⟩ | rfl
      · obtain ⟨a, b, c⟩ := nm_ok (hS z hz)
        exact ⟨by simp only [PyData.canLay0]; exact a, by simp only [PyData.depth]; omega, by simp only [cost]; omega⟩
      · exact ⟨by simp only [PyData.canLay0], by simp only [PyData.depth]; omega, by simp only [cost]; omega⟩
      · exact ⟨by simp only [PyData.canLay0], by simp only [PyData.depth]; omega, by simp only [cost]; omega⟩
    refine ⟨by simp only [PyData.canLayAll0, hx.1, h1, Bool.and_self], by simp only [PyData.depthAll]; omega, by simp only [costL, List.length_cons]; omega⟩
theorem part_tup {S : List Str} (hS : ∀ z ∈ S, z = "" ∨ NameS z) {ds : List PyData} (h : ∀ d ∈ ds, PartOk S d) (hl : ds.length ≤ 4) : ItOk (.tuple ds) := by
  obtain ⟨h1, h2, h3⟩ := part_lay hS h
  refine ⟨.inl ?_, by simp only [cost]; omega, by simp only [okD]; exact its_ok fun d hd => it_part hS (h d hd), by simp only [PyData.depth]; omega⟩
  show (PyData.canLayAll0 ds && decide ((PyData.tuple ds).depth ≤ 64)) = true
  rw [h1, decide_eq_true (by simp only [PyData.depth]; omega)]
  rfl
theorem namesS_ok {ps : List (Str × Str)} {ns us ow : List Str} (h : Names ps ns us) (ho : ∀ z ∈ ow, NameS z) : ∀ z ∈ namesS ps ns us ow, z = "" ∨ NameS z := by
  intro z hz
  rcases List.mem_cons.mp hz with rfl | hz
  · exact .inl rfl
  · refine .inr ?_
    rcases List.mem_append.mp hz with hz | hz
    · rcases List.mem_append.mp hz with hz | hz
      · obtain ⟨q, hq, rfl⟩ := List.mem_map.mp hz
        exact (h.1 q hq).1
      · rcases List.mem_append.mp hz with hz | hz
        · obtain ⟨q, hq, rfl⟩ := List.mem_map.mp ((uniq_mem _ _).mp hz)
          exact (h.1 q hq).2
        · rcases List.mem_append.mp hz with hz | hz
          · exact h.2.1 z hz
          · exact h.2.2 z hz
    · exact ho z hz
section
variable {P : Program} {w : World} {K : PySem.W.Frag} {mg : Str → Option Value} {base : Heap}
abbrev N_law_near : List Str := ["pot", "parts", "mine", "good", "at", "way", "odd", "some"]
abbrev P_law_near : List Str := ["pot", "parts", "mine"]
theorem sc_law_near : FnScope N_law_near P_law_near (defScope s_law_near) := ⟨rfl, rfl, rfl, by decide +kernel, rfl, by decide +kernel, by decide +kernel⟩
def spNear : Sp := fun vs H Q _ => ∃ (ex : Addr → Prop) (p R mt : Addr) (n : Nat) (va vp vv : V) (ps : List (Str × Str)) (ns us ow : List Str), vs = [.ref p, .ref R, .ref mt] ∧ ex p ∧ (∀ a, ex a → H a ≠ none) ∧ PotAt H p n ∧ n ≤ 600000 ∧ RecAt H R va vp vv ps ns us ∧ R ≠ p ∧ TupF H mt (ow.map V.str) ∧ ow.length ≤ 5 ∧ (∀ z ∈ ow, NameS z) ∧
  ∀ (v : V) (H' : Hp), Nr ex H' v → PotAt H' p (n + 30) → KpP p H H' → Q v H'
theorem ok_near (T : Bt mg) (h : Has K mg "_law_near" s_law_near) (C1 : Ca P w K mg base 1 "_law_dip" P_law_dip spDip) (C2 : Ca P w K mg base 2 "_law_choose" P_law_choose spChoose) (C3 : Ca P w K mg base 2 "_law_used" P_law_used spUsed)
    (C4 : Ca P w K mg base 4 "_law_position" P_law_position spPosn) (C5 : Ca P w K mg base 5 "_law_value" P_law_value spDrawn) : Ca P w K mg base 6 "_law_near" P_law_near spNear := by
  obtain ⟨_, _, c__law_dip⟩ := C1
  obtain ⟨_, _, c__law_choose⟩ := C2
  obtain ⟨_, _, c__law_used⟩ := C3
  obtain ⟨_, _, c__law_position⟩ := C4
  obtain ⟨_, _, c__law_value⟩ := C5
  refine cal_of h sc_law_near (fun _ _ _ _ _ _ us hl => match us, hl with | [_, _, _], _ => rfl) (fun vs H Q E h => ?_) (fun f cdv A outer s H vs Q E hr h => ?_)
  · obtain ⟨ex, p, R, mt, n, va, vp, vv, ps, ns, us, ow, rfl, _⟩ := h
    rfl
  · obtain ⟨ex, p, R, mt, n, va, vp, vv, ps, ns, us, ow, rfl, exp, exo, hp, hn, rec, nRp, tm, lo, ho, k⟩ := h
    refine ⟨_, (pss_cons (ps_set (i := 3) sc_law_near.nd rfl (.inl rfl) (pe_call c__law_choose.1 (hr.mono (by decide)) rfl c__law_choose.2.1 c__law_choose.2.2.1 c__law_choose.2.2.2 .nil pass0 (pa_cons (pv 0) (pa_cons (pe_lst (pa_cons (pe_call c__law_position.1 (hr.mono (by decide)) rfl c__law_position.2.1 c__law_position.2.2.1 c__law_position.2.2.2 .nil pass0 (pa_cons (pv 0) (pa_cons (pv 1) (pa_cons (pv 2) pa_nil)))) (pa_cons (pe_call c__law_value.1 (hr.mono (by decide)) rfl c__law_value.2.1 c__law_value.2.2.1 c__law_value.2.2.2 .nil pass0 (pa_cons (pv 0) (pa_cons (pv 1) (pa_cons (pv 2) pa_nil)))) (pa_cons (pe_call c__law_value.1 (hr.mono (by decide)) rfl c__law_value.2.1 c__law_value.2.2.1 c__law_value.2.2.2 .nil pass0 (pa_cons (pv 0) (pa_cons (pv 1) (pa_cons (pv 2) pa_nil)))) pa_nil)))) pa_nil))))
      (pss_cons (ps_par (i := 4) (j := 5) (by rfl) sc_law_near.nd rfl rfl (by decide) rfl rfl (pa_cons (pe_call c__law_dip.1 (hr.mono (by decide)) rfl c__law_dip.2.1 c__law_dip.2.2.1 c__law_dip.2.2.2 .nil pass0 (pa_cons (pv 0) (pa_cons (pe_callB call_len (by rfl) T.len (by decide +kernel) (pa_cons (pv 3) pa_nil)) pa_nil))) (pa_cons (pe_call c__law_dip.1 (hr.mono (by decide)) rfl c__law_dip.2.1 c__law_dip.2.2.1 c__law_dip.2.2.2 .nil pass0 (pa_cons (pv 0) (pa_cons pe_int pa_nil))) pa_nil)) (by rfl))
      (pss_cons (ps_set (i := 6) sc_law_near.nd rfl (.inl rfl) (pe_lst (pa_cons pe_non (pa_cons pe_bl (pa_cons pe_bl (pa_cons pe_str (pa_cons pe_str (pa_cons pe_str (pa_cons pe_int (pa_cons pe_int (pa_cons (pe_tupF pa_nil) (pa_cons (pe_tupF (pa_cons pe_str (pa_cons pe_int pa_nil))) (pa_cons (pe_lst pa_nil) (pa_cons (pe_op op_pow pe_int pe_int) (pa_cons (pe_un un_neg (pe_op op_pow pe_int pe_int)) (pa_cons (pe_op op_mulW (pe_op op_pow pe_int pe_int) (pe_op op_pow pe_int pe_int)) (pa_cons pe_dnewK pa_nil)))))))))))))))))
      (pss_cons (ps_set (i := 6) sc_law_near.nd rfl (.inl rfl) (pe_op op_cat (pv 6) (pe_call c__law_used.1 (hr.mono (by decide)) rfl c__law_used.2.1 c__law_used.2.2.1 c__law_used.2.2.2 .nil pass0 (pa_cons (pv 1) pa_nil))))
      (pss_cons (ps_if (pt_cmpR op_lt (pv 5) pe_int (nomark _)) (pss_one (ps_ret (pv 3))) pss_nil)
      (pss_cons (ps_if (pt_cmpR op_lt (pv 5) pe_int (nomark _)) (pss_one (ps_ret (pe_op op_catF (pe_op op_catF (pe_slice sl_tupF (pv 3) po_none (po_some (pv 4))) (pe_tupF (pa_cons (pe_call c__law_choose.1 (hr.mono (by decide)) rfl c__law_choose.2.1 c__law_choose.2.2.1 c__law_choose.2.2.2 .nil pass0 (pa_cons (pv 0) (pa_cons (pv 6) pa_nil))) pa_nil))) (pe_slice sl_tupF (pv 3) (po_some (pe_op op_add (pv 4) pe_int)) po_none)))) pss_nil)
      (pss_cons (ps_if (pt_cmpR op_eq (pv 5) pe_int (nomark _)) (pss_one (ps_ret (pe_op op_catF (pe_op op_catF (pe_slice sl_tupF (pv 3) po_none (po_some (pv 4))) (pe_tupF (pa_cons (pe_call c__law_choose.1 (hr.mono (by decide)) rfl c__law_choose.2.1 c__law_choose.2.2.1 c__law_choose.2.2.2 .nil pass0 (pa_cons (pv 0) (pa_cons (pv 6) pa_nil))) pa_nil))) (pe_slice sl_tupF (pv 3) (po_some (pv 4)) po_none)))) pss_nil)
      (pss_cons (ps_set (i := 7) sc_law_near.nd rfl (.inl rfl) (pe_lst (pa_cons (pe_op op_catF (pe_slice sl_tupF (pv 3) po_none (po_some (pv 4))) (pe_slice sl_tupF (pv 3) (po_some (pe_op op_add (pv 4) pe_int)) po_none)) (pa_cons (pe_callTy call_list_of (by rfl) T.list (by decide +kernel) (pa_cons (pv 3) pa_nil)) (pa_cons (pe_tupF (pa_cons (pv 3) pa_nil)) (pa_cons (pe_revT (pv 3)) (pa_cons (pe_op op_repF (pv 3) pe_int) (pa_cons pe_non (pa_cons pe_str (pa_cons pe_int (pa_cons pe_dnewK (pa_cons (pe_tupF pa_nil) pa_nil))))))))))))
      (pss_one (ps_ret (pe_call c__law_choose.1 (hr.mono (by decide)) rfl c__law_choose.2.1 c__law_choose.2.2.1 c__law_choose.2.2.2 .nil pass0 (pa_cons (pv 0) (pa_cons (pv 7) pa_nil))))))))))))), ?_⟩
    have any : ∀ {G G' : Hp}, Same G G' → Kp All G G' := fun m => Kp.same m
    have kw : ∀ {G G' : Hp}, KpP p G G' → Kp ex G G' := fun k => k.weak fun b e => by rw [e]; exact exp
    have fr : ∀ {G : Hp} {m : Nat} {a : Addr}, KpP p H G → PotAt G p m → G a = none → ¬ ex a := fun k hp ha z => fresh_old k hp ha (exo _ z)
    have hSz := sizeLine_eq
    have hS := namesS_ok rec.pt.nm ho
    have lp := rec.b1
    have ln := rec.b2
    have lu := rec.b3
    have un := uniq_len (ps.map (·.2))
    rw [List.length_map] at un
    have lA : (allN ps ns us).length ≤ 400 := by
      simp only [List.length_append, List.length_map]; omega
    refine ⟨_, rfl, _, rfl, _, rfl, _, rfl, p, R, mt, n, _, _, _, ps, ns, us, ow, rfl, hp, by omega, rec, nRp, tm, lo, fun t1 z m H2 hz hm h2 hp2 hk2 => ?_⟩
    refine ⟨_, rfl, _, rfl, _, rfl, p, R, mt, n + 2, _, _, _, ps, ns, us, ow, rfl, hp2, by omega, rec.kp hk2 nRp, nRp, hk2.tup tm, lo, fun t2 ys cs H4 c2 c4 hcs h4 d4 hp4 hk4 => ?_⟩
    have k04 : KpP p H H4 := hk2.trans hk4
    refine ⟨_, rfl, _, rfl, _, rfl, p, R, mt, n + 8, _, _, _, ps, ns, us, ow, rfl, hp4, by omega, rec.kp k04 nRp, nRp, k04.tup tm, lo, fun t3 ys3 cs3 H5 c5 c6 hcs3 h6 d6 hp6 hk6 => ?_⟩
    have k06 : KpP p H H5 := k04.trans hk6
    refine ⟨by show 3 ≤ sizeLine; decide, fun l hl => ⟨p, n + 14, _, _, rfl, hp6.same (Same.upd hl), by omega, .inl ⟨l, rfl, hp6.ne hl, upd_same⟩, by show 1 ≤ 3; decide, by show 3 ≤ 1000; decide, fun j v H7 hv hp7 hk7 => ?_⟩⟩
    have k57 : KpP p H5 H7 := (Kp.new hl).trans hk7
    have k07 : KpP p H H7 := k06.trans k57
    obtain ⟨t, os, rfl, ht, ⟨hI, gs, hG, hGp, hGl⟩, l2, l4⟩ : ∃ (t : Addr) (os : List V), v = .ref t ∧ TupF H7 t os ∧ (Its ex H7 4 os ∧ ∃ gs, DvL ex H7 os gs ∧ (∀ d ∈ gs, PartOk (namesS ps ns us ow) d) ∧ gs.length ≤ 4) ∧ 2 ≤ os.length ∧ os.length ≤ 4 := by
      have mk : ∀ {xs : List V} {cs : List PyData} {G : Hp}, DvL All G xs cs → 2 ≤ cs.length → cs.length ≤ 4 → (∀ d ∈ cs, PartOk (namesS ps ns us ow) d) → KpP p G H7 → (Its ex H7 4 xs ∧ ∃ gs, DvL ex H7 xs gs ∧ (∀ d ∈ gs, PartOk (namesS ps ns us ow) d) ∧ gs.length ≤ 4) ∧ 2 ≤ xs.length ∧ xs.length ≤ 4 := fun {xs cs G} hd a b c e => by
        have := hd.len
        have z := (hd.mono Kp.refl fun _ _ => trivial : DvL ex G xs cs).kp (kw e)
        exact ⟨⟨⟨cs, z, fun d hd => it_part hS (c d hd), b⟩, cs, z, c, b⟩, by omega, by omega⟩
      rcases j with _ | _ | _ | j
      · cases hv
        have := mk (G := H2) (xs := [.str z, .int m]) (cs := [.str z, .int m]) (.cons (.str _) (.cons (.int _) .nil)) (by simp) (by simp) (fun d hd => by
          simp only [List.mem_cons, List.not_mem_nil, or_false] at hd
          rcases hd with rfl | rfl
          · exact .inl ⟨_, rfl, hz⟩
          · exact .inr (.inl ⟨_, rfl, hm⟩)) ((hk4.trans hk6).trans k57)
        exact ⟨t1, _, rfl, k57.tup (hk6.tup (hk4.tup h2)), this.1, this.2⟩
      · cases hv
        have := mk d4 c2 c4 hcs (hk6.trans k57)
        exact ⟨t2, ys, rfl, k57.tup (hk6.tup h4), this.1, this.2⟩
      · cases hv
        have := mk d6 c5 c6 hcs3 k57
        exact ⟨t3, ys3, rfl, k57.tup h6, this.1, this.2⟩
      · cases hv
    clear hv h2 h4 d4 hz hm hcs c2 c4 hl d6 h6 hcs3 c5 c6 hp2 hp4 hp6 hk2 hk4 hk6 k57 hk7 k06 k04
    -- at, way
    refine ⟨_, rfl, _, rfl, _, _, rfl, .inr ⟨_, ht.sq, rfl⟩, p, n + 15, _, rfl, hp7, by omega, by omega, by omega, fun d H8 e0 e1 hp8 hk8 => ?_⟩
    refine ⟨_, rfl, p, n + 16, _, rfl, hp8, by omega, by decide, by decide, fun wy H9 w0 w1 hp9 hk9 => ?_⟩
    have k79 : KpP p H7 H9 := hk8.trans hk9
    have ht9 := k79.tup ht
    have hI9 := hI.kp (kw k79)
    have hG9 := hG.kp (kw k79)
    have k09 := k07.trans k79
    obtain ⟨a, rfl⟩ : ∃ a : Nat, d = a := ⟨d.toNat, by omega⟩
    clear hk8 hp8 hp7 ht hI hG k07 hk9
    refine ⟨_, _, rfl, ?_⟩
    have kk9 : ∀ {G : Hp}, Same H9 G → KpP p H9 G := fun m => Kp.same m
    refine ⟨by show 0 ≤ sizeLine; decide, fun tp Ha sa hta => ⟨by show 2 ≤ sizeLine; decide, fun ti Hb sb hti => ⟨by show 0 ≤ sizeLine; decide, fun le hle => ?_⟩⟩⟩
    refine ⟨_, _, rfl, rfl, ⟨by decide, by decide, by decide⟩, _, _, rfl, rfl, ⟨by decide, by decide, by decide⟩, _, rfl, _, _, rfl, rfl, ⟨by decide, by decide, by decide⟩, _, _, rfl, rfl, ⟨by decide, by decide, by decide⟩, _, _, rfl, rfl, ?_, fun dd hdd => ⟨by show 15 ≤ sizeLine; decide, fun l3 hl3 => ?_⟩⟩
    · show (10 ^ (60 : Int).toNat : Int).natAbs.log2 + (10 ^ (39 : Int).toNat : Int).natAbs.log2 < 1000000
      decide +kernel
    have hlp : ¬ ex le := fr (k09.trans (Kp.same (sa.trans sb))) ((hp9.same sa).same sb) hle
    have hddp : ¬ ex dd := fr (k09.trans (Kp.same ((sa.trans sb).trans (Same.upd hle)))) (((hp9.same sa).same sb).same (Same.upd hle)) hdd
    have sle : Same Hb (upd Hb le (.lst [])) := Same.upd hle
    have ele : (upd Hb le (.lst [])) le = some (.lst []) := upd_same
    generalize upd Hb le (.lst []) = Hc at sle ele hdd hl3 ⊢
    have sdd : Same Hc (upd Hc dd (.dK [])) := Same.upd hdd
    have edd : (upd Hc dd (.dK [])) dd = some (.dK []) := upd_same
    generalize upd Hc dd (.dK []) = Hd at sdd edd hl3 ⊢
    have sl3 : Same Hd (upd Hd l3 (.lst [.non, .bl true, .bl false, .str "", .str "zzz", .str "0", .int 0, .int 1, .ref tp, .ref ti, .ref le, .int (10 ^ (60 : Int).toNat), .int (-(10 ^ (60 : Int).toNat)), .int (10 ^ (60 : Int).toNat * 10 ^ (39 : Int).toNat), .ref dd])) := Same.upd hl3
    have e3 : (upd Hd l3 (.lst [.non, .bl true, .bl false, .str "", .str "zzz", .str "0", .int 0, .int 1, .ref tp, .ref ti, .ref le, .int (10 ^ (60 : Int).toNat), .int (-(10 ^ (60 : Int).toNat)), .int (10 ^ (60 : Int).toNat * 10 ^ (39 : Int).toNat), .ref dd])) l3 = some (.lst [.non, .bl true, .bl false, .str "", .str "zzz", .str "0", .int 0, .int 1, .ref tp, .ref ti, .ref le, .int (10 ^ (60 : Int).toNat), .int (-(10 ^ (60 : Int).toNat)), .int (10 ^ (60 : Int).toNat * 10 ^ (39 : Int).toNat), .ref dd]) := upd_same
    generalize upd Hd l3 (.lst [.non, .bl true, .bl false, .str "", .str "zzz", .str "0", .int 0, .int 1, .ref tp, .ref ti, .ref le, .int (10 ^ (60 : Int).toNat), .int (-(10 ^ (60 : Int).toNat)), .int (10 ^ (60 : Int).toNat * 10 ^ (39 : Int).toNat), .ref dd]) = H10 at sl3 e3 ⊢
    have m10 : Same H9 H10 := (((sa.trans sb).trans sle).trans sdd).trans sl3
    have oddI : ∀ v ∈ ([.non, .bl true, .bl false, .str "", .str "zzz", .str "0", .int 0, .int 1, .ref tp, .ref ti, .ref le, .int (10 ^ (60 : Int).toNat), .int (-(10 ^ (60 : Int).toNat)), .int (10 ^ (60 : Int).toNat * 10 ^ (39 : Int).toNat), .ref dd] : List V), It1 ex H10 v := by
      have it0 : ∀ {z : Str}, PyData.strOk z = true → okS z → z.length ≤ 8 → ItOk (.str z) := fun {z} a b c => ⟨.inl (by show (PyData.strOk z && decide ((PyData.str z).depth ≤ 64)) = true; rw [a]; simp only [PyData.depth]; rfl), by simp only [cost]; omega, by simp only [okD]; exact b, by simp only [PyData.depth]; omega⟩
      have stI : ItOk (.str "i") := it0 (by decide +kernel) (by unfold okS; decide +kernel) (by decide +kernel)
      refine List.forall_mem_cons.mpr ⟨⟨_, .non, .inl (by decide +kernel), by simp only [cost]; omega, by simp only [okD], by simp only [PyData.depth]; omega⟩, ?_⟩
      refine List.forall_mem_cons.mpr ⟨⟨_, .bl _, it_bool _⟩, ?_⟩
      refine List.forall_mem_cons.mpr ⟨⟨_, .bl _, it_bool _⟩, ?_⟩
      refine List.forall_mem_cons.mpr ⟨⟨_, .str _, it_str (.inl rfl)⟩, ?_⟩
      refine List.forall_mem_cons.mpr ⟨⟨_, .str _, it0 (by decide +kernel) (by unfold okS; decide +kernel) (by decide +kernel)⟩, ?_⟩
      refine List.forall_mem_cons.mpr ⟨⟨_, .str _, it0 (by decide +kernel) (by unfold okS; decide +kernel) (by decide +kernel)⟩, ?_⟩
      refine List.forall_mem_cons.mpr ⟨⟨_, .int _, it_int (by decide +kernel)⟩, ?_⟩
      refine List.forall_mem_cons.mpr ⟨⟨_, .int _, it_int (by decide +kernel)⟩, ?_⟩
      refine List.forall_mem_cons.mpr ⟨⟨.tuple [], .tupM ((any (((sb.trans sle).trans sdd).trans sl3)).tup hta) .nil, .inl (by decide +kernel), by simp only [cost, costL]; omega, by simp only [okD, okL], by simp only [PyData.depth, PyData.depthAll]; omega⟩, ?_⟩
      refine List.forall_mem_cons.mpr ⟨⟨.tuple [.str "i", .int 0], .tupM ((any ((sle.trans sdd).trans sl3)).tup hti) (.cons (.str _) (.cons (.int _) .nil)), .inl (by decide +kernel), ?_, ?_, by simp only [PyData.depth, PyData.depthAll]; omega⟩, ?_⟩
      · have := stI.2.1
        simp only [cost, costL] at this ⊢
        rw [show ("i" : Str).length = 1 by decide +kernel]
        omega
      · exact ⟨stI.2.2.1, show (0 : Int).natAbs < 10 ^ 100 by decide +kernel, trivial⟩
      refine List.forall_mem_cons.mpr ⟨⟨.list [], .lst hlp ((sdd.trans sl3) _ _ ele) .nil, .inl (by decide +kernel), by simp only [cost, costL]; omega, by simp only [okD, okL], by simp only [PyData.depth, PyData.depthAll]; omega⟩, ?_⟩
      refine List.forall_mem_cons.mpr ⟨⟨_, .int _, it_int (by decide +kernel)⟩, ?_⟩
      refine List.forall_mem_cons.mpr ⟨⟨_, .int _, it_int (by decide +kernel)⟩, ?_⟩
      refine List.forall_mem_cons.mpr ⟨⟨_, .int _, it_int (by decide +kernel)⟩, ?_⟩
      exact List.forall_mem_cons.mpr ⟨⟨.dict [], .dic hddp (sl3 _ _ edd) .nil, .inr ⟨_, rfl⟩, by simp only [cost, costK]; omega, by simp only [okD, okK], by decide +kernel⟩, List.forall_mem_nil _⟩
    have lW0 : ([.non, .bl true, .bl false, .str "", .str "zzz", .str "0", .int 0, .int 1, .ref tp, .ref ti, .ref le, .int (10 ^ (60 : Int).toNat), .int (-(10 ^ (60 : Int).toNat)), .int (10 ^ (60 : Int).toNat * 10 ^ (39 : Int).toNat), .ref dd] : List V).length = 15 := rfl
    generalize ([.non, .bl true, .bl false, .str "", .str "zzz", .str "0", .int 0, .int 1, .ref tp, .ref ti, .ref le, .int (10 ^ (60 : Int).toNat), .int (-(10 ^ (60 : Int).toNat)), .int (10 ^ (60 : Int).toNat * 10 ^ (39 : Int).toNat), .ref dd] : List V) = W0 at e3 oddI lW0 ⊢
    have hp10 := hp9.same m10
    have k010 : KpP p H H10 := k09.trans (Kp.same m10)
    have ht10 := (any m10).tup ht9
    have hI10 := hI9.kp (Kp.same m10)
    have hG10 := hG9.kp (Kp.same m10)
    clear m10 sl3 sdd sle sa sb hta hti ele edd hl3 hdd hle hI9 hG9 ht9 k09 kk9 k79 hp9 hlp hddp
    refine ⟨_, rfl, _, rfl, R, _, _, _, ps, ns, us, rfl, rec.kp k010 nRp, fun D H11 hD s11 hD11 => ⟨l3, D, _, _, rfl, rfl, s11 _ _ e3, hD11, by rw [lW0, List.length_map]; omega, fun D2 hD2 => ?_⟩⟩
    have nD2p : D2 ≠ p := (hp10.same s11).ne hD2
    have s12 : Same H11 (upd H11 D2 (.lst (W0 ++ (allN ps ns us).map V.str))) := Same.upd hD2
    have e12 : (upd H11 D2 (.lst (W0 ++ (allN ps ns us).map V.str))) D2 = some (.lst (W0 ++ (allN ps ns us).map V.str)) := upd_same
    generalize upd H11 D2 (.lst (W0 ++ (allN ps ns us).map V.str)) = H12 at s12 e12 ⊢
    have m12 : Same H10 H12 := s11.trans s12
    have hp12 := hp10.same m12
    have k012 : KpP p H H12 := k010.trans (Kp.same m12)
    have ht12 := (any m12).tup ht10
    have hI12 := hI10.kp (Kp.same m12)
    have hG12 := hG10.kp (Kp.same m12)
    have oddAll : ∀ v ∈ W0 ++ (allN ps ns us).map V.str, It1 ex H12 v := fun v hv => by
      rcases List.mem_append.mp hv with h | h
      · exact (oddI v h).kp (Kp.same m12)
      · obtain ⟨z, hz, rfl⟩ := List.mem_map.mp h
        exact ⟨_, .str z, it_str (hS z (List.mem_cons_of_mem _ (List.mem_append.mpr (.inl hz))))⟩
    have lW : (W0 ++ (allN ps ns us).map V.str).length = 15 + (allN ps ns us).length := by rw [List.length_append, List.length_map, lW0]
    generalize W0 ++ (allN ps ns us).map V.str = W1 at e12 oddAll lW
    clear m12 s12 s11 hD11 hD hD2 oddI e3 lW0 hp10 k010 ht10 hI10 hG10
    refine ⟨_, rfl, _, _, rfl, rfl, _, rfl, ?_⟩
    by_cases h1 : wy < 2
    · rw [decide_eq_true h1]
      exact iteT ⟨_, rfl, k (.ref t) H12 (hI12.tup (by decide) ht12) (hp12.mono (by omega)) k012⟩
    · rw [decide_eq_false h1]
      refine iteF ⟨_, rfl, _, _, rfl, rfl, _, rfl, ?_⟩
      by_cases h2 : wy < 4
      · rw [decide_eq_true h2]
        refine iteT ⟨_, rfl, _, rfl, _, rfl, t, os, rfl, ht12, fun ta H13 s13 h13 => ?_⟩
        rw [cut_take _ _ (by omega : (0 : Int) ≤ (a : Int)), Int.toNat_natCast] at h13
        refine ⟨_, rfl, _, rfl, p, n + 17, _, _, rfl, hp12.same s13, by omega, .inl ⟨D2, rfl, nD2p, s13 _ _ e12⟩, by rw [lW]; omega, by rw [lW]; omega, fun i v H14 hv hp14 hk14 => ?_⟩
        have k1214 : KpP p H12 H14 := (Kp.same s13).trans hk14
        have hv1 := (oddAll v (List.mem_of_getElem? hv)).kp (kw k1214)
        refine ⟨by show 1 ≤ sizeLine; decide, fun tb H15 s15 h15 => ?_⟩
        have lt : (os.take a).length ≤ 4 := by rw [List.length_take]; omega
        refine ⟨ta, tb, _, _, rfl, rfl, (any s15).tup (hk14.tup h13), h15, by simp only [List.length_cons, List.length_nil]; omega, fun tc H16 s16 h16 => ?_⟩
        have k1216 : KpP p H12 H16 := (k1214.trans (Kp.same s15)).trans (Kp.same s16)
        refine ⟨_, rfl, _, rfl, _, _, rfl, rfl, _, rfl, t, os, rfl, k1216.tup ht12, fun td H17 s17 h17 => ?_⟩
        rw [cut_drop _ _ (by omega : (0 : Int) ≤ (a : Int) + 1), show ((a : Int) + 1).toNat = a + 1 by omega] at h17
        have ld : (os.drop (a + 1)).length ≤ 4 := by rw [List.length_drop]; omega
        refine ⟨tc, td, _, _, rfl, rfl, (any s17).tup h16, h17, by simp only [List.length_append, List.length_cons, List.length_nil]; omega, fun te H18 s18 h18 => ?_⟩
        have k1218 : KpP p H12 H18 := (k1216.trans (Kp.same s17)).trans (Kp.same s18)
        have k1418 : KpP p H14 H18 := (((Kp.same s15).trans (Kp.same s16)).trans (Kp.same s17)).trans (Kp.same s18)
        have q := ((((hI12.kp (kw k1218)).take a).app (Its.one (hv1.kp (kw k1418)))).app ((hI12.kp (kw k1218)).drop (a + 1))).tup (a := te) (by decide) h18
        exact k (.ref te) H18 q (((((hp14.same s15).same s16).same s17).same s18).mono (by omega)) (k012.trans k1218)
      · rw [decide_eq_false h2]
        refine iteF ⟨_, rfl, rfl, _, rfl, ?_⟩
        by_cases h3 : V.int wy = V.int 4
        · rw [decide_eq_true h3]
          refine iteT ⟨_, rfl, _, rfl, _, rfl, t, os, rfl, ht12, fun ta H13 s13 h13 => ?_⟩
          rw [cut_take _ _ (by omega : (0 : Int) ≤ (a : Int)), Int.toNat_natCast] at h13
          refine ⟨_, rfl, _, rfl, p, n + 17, _, _, rfl, hp12.same s13, by omega, .inl ⟨D2, rfl, nD2p, s13 _ _ e12⟩, by rw [lW]; omega, by rw [lW]; omega, fun i v H14 hv hp14 hk14 => ?_⟩
          have k1214 : KpP p H12 H14 := (Kp.same s13).trans hk14
          have hv1 := (oddAll v (List.mem_of_getElem? hv)).kp (kw k1214)
          refine ⟨by show 1 ≤ sizeLine; decide, fun tb H15 s15 h15 => ?_⟩
          have lt : (os.take a).length ≤ 4 := by rw [List.length_take]; omega
          refine ⟨ta, tb, _, _, rfl, rfl, (any s15).tup (hk14.tup h13), h15, by simp only [List.length_cons, List.length_nil]; omega, fun tc H16 s16 h16 => ?_⟩
          have k1216 : KpP p H12 H16 := (k1214.trans (Kp.same s15)).trans (Kp.same s16)
          refine ⟨_, rfl, _, rfl, _, rfl, t, os, rfl, k1216.tup ht12, fun td H17 s17 h17 => ?_⟩
          rw [cut_drop _ _ (by omega : (0 : Int) ≤ (a : Int)), Int.toNat_natCast] at h17
          have ld : (os.drop a).length ≤ 4 := by rw [List.length_drop]; omega
          refine ⟨tc, td, _, _, rfl, rfl, (any s17).tup h16, h17, by simp only [List.length_append, List.length_cons, List.length_nil]; omega, fun te H18 s18 h18 => ?_⟩
          have k1218 : KpP p H12 H18 := (k1216.trans (Kp.same s17)).trans (Kp.same s18)
          have k1418 : KpP p H14 H18 := (((Kp.same s15).trans (Kp.same s16)).trans (Kp.same s17)).trans (Kp.same s18)
          have q := ((((hI12.kp (kw k1218)).take a).app (Its.one (hv1.kp (kw k1418)))).app ((hI12.kp (kw k1218)).drop a)).tup (a := te) (by decide) h18
          exact k (.ref te) H18 q (((((hp14.same s15).same s16).same s17).same s18).mono (by omega)) (k012.trans k1218)
        · rw [decide_eq_false h3]
          refine iteF ⟨_, rfl, _, rfl, _, rfl, t, os, rfl, ht12, fun ta H13 s13 h13 => ?_⟩
          rw [cut_take _ _ (by omega : (0 : Int) ≤ (a : Int)), Int.toNat_natCast] at h13
          refine ⟨_, rfl, _, rfl, _, _, rfl, rfl, _, rfl, t, os, rfl, (any s13).tup ht12, fun td H14 s14 h14 => ?_⟩
          rw [cut_drop _ _ (by omega : (0 : Int) ≤ (a : Int) + 1), show ((a : Int) + 1).toNat = a + 1 by omega] at h14
          have lt : (os.take a).length ≤ 4 := by rw [List.length_take]; omega
          have ld : (os.drop (a + 1)).length ≤ 4 := by rw [List.length_drop]; omega
          refine ⟨ta, td, _, _, rfl, rfl, (any s14).tup h13, h14, by omega, fun tc H15 s15 h15 => ?_⟩
          have m15 := (s13.trans s14).trans s15
          refine ⟨_, rfl, t, os, rfl, .inr ((any m15).tup ht12).sq, fun lg hlg => ?_⟩
          have s16 : Same H15 (upd H15 lg (.lst os)) := Same.upd hlg
          have e16 : (upd H15 lg (.lst os)) lg = some (.lst os) := upd_same
          have nlg : ¬ ex lg := fr (k012.trans (Kp.same m15)) (hp12.same m15) hlg
          generalize upd H15 lg (.lst os) = H16 at s16 e16 ⊢
          have m16 := m15.trans s16
          refine ⟨_, rfl, by show 1 ≤ sizeLine; decide, fun tg H17 s17 h17 => ?_⟩
          have m17 := m16.trans s17
          refine ⟨_, rfl, t, os, rfl, (any m17).tup ht12, fun tr H18 s18 h18 => ?_⟩
          have m18 := m17.trans s18
          refine ⟨_, rfl, t, 2, os, rfl, rfl, (any m18).tup ht12, by decide, by decide, by omega, fun tq H19 s19 h19 => ?_⟩
          have m19 := m18.trans s19
          refine fun dd2 hdd2 => ⟨by show 0 ≤ sizeLine; decide, fun te H20 s20 h20 => ⟨by show 10 ≤ sizeLine; decide, fun l5 hl5 => ?_⟩⟩
          have sdd2 : Same H19 (upd H19 dd2 (.dK [])) := Same.upd hdd2
          have edd2 := s20 _ _ (upd_same : (upd H19 dd2 (.dK [])) dd2 = some (.dK []))
          have ndd2 : ¬ ex dd2 := fr (k012.trans (Kp.same m19)) (hp12.same m19) hdd2
          replace s20 := sdd2.trans s20
          have m20 := m19.trans s20
          have nl5 : l5 ≠ p := (hp12.same m20).ne hl5
          have s21 : Same H20 (upd H20 l5 (.lst [.ref tc, .ref lg, .ref tg, .ref tr, .ref tq, .non, .str "i", .int 0, .ref dd2, .ref te])) := Same.upd hl5
          have e21 : (upd H20 l5 (.lst [.ref tc, .ref lg, .ref tg, .ref tr, .ref tq, .non, .str "i", .int 0, .ref dd2, .ref te])) l5 = some (.lst [.ref tc, .ref lg, .ref tg, .ref tr, .ref tq, .non, .str "i", .int 0, .ref dd2, .ref te]) := upd_same
          generalize upd H20 l5 (.lst [.ref tc, .ref lg, .ref tg, .ref tr, .ref tq, .non, .str "i", .int 0, .ref dd2, .ref te]) = H21 at s21 e21 ⊢
          have m21 := m20.trans s21
          have kq : ∀ {G G' : Hp}, Same G G' → KpP p G G' := fun m => Kp.same m
          refine ⟨_, rfl, _, rfl, p, n + 17, _, _, rfl, hp12.same m21, by omega, .inl ⟨l5, rfl, nl5, e21⟩, by show 1 ≤ 10; decide, by show 10 ≤ 1000; decide, fun i v H22 hv hp22 hk22 => ?_⟩
          have hI21 := hI12.kp (Kp.same m21)
          have hG21 := hG12.kp (Kp.same m21)
          have h2l : (List.replicate (2 : Int).toNat os).flatten = os ++ os := by
            show (List.replicate 2 os).flatten = _
            simp [List.replicate]
          have all : ∀ v ∈ ([.ref tc, .ref lg, .ref tg, .ref tr, .ref tq, .non, .str "i", .int 0, .ref dd2, .ref te] : List V), Nr ex H21 v := by
            refine List.forall_mem_cons.mpr ⟨(((hI21.take a).app (hI21.drop (a + 1)))).tup (by decide) ((any ((((((s16.trans s17).trans s18).trans s19).trans s20)).trans s21)).tup h15), ?_⟩
            refine List.forall_mem_cons.mpr ⟨hI21.lst (by decide) nlg ((((((s17.trans s18).trans s19).trans s20)).trans s21) _ _ e16), ?_⟩
            refine List.forall_mem_cons.mpr ⟨(Its.one ⟨.tuple gs, .tupM ((any m21).tup ht12) hG21, part_tup hS hGp hGl⟩).tup (by decide) ((any (((s18.trans s19).trans s20).trans s21)).tup h17), ?_⟩
            refine List.forall_mem_cons.mpr ⟨hI21.rev.tup (by decide) ((any ((s19.trans s20).trans s21)).tup h18), ?_⟩
            refine List.forall_mem_cons.mpr ⟨(hI21.app hI21).tup (by decide) ((any (s20.trans s21)).tup (by rw [h2l] at h19; exact h19)), ?_⟩
            refine List.forall_mem_cons.mpr ⟨⟨_, .non, trivial, by simp only [cost]; omega, by simp only [okD], by simp only [PyData.depth]; omega⟩, ?_⟩
            refine List.forall_mem_cons.mpr ⟨⟨_, .str _, trivial, by rw [show cost (.str "i") = 12 by decide +kernel]; omega, by unfold okD okS; decide +kernel, by simp only [PyData.depth]; omega⟩, ?_⟩
            refine List.forall_mem_cons.mpr ⟨⟨_, .int _, trivial, by simp only [cost]; omega, show (0 : Int).natAbs < 10 ^ 100 by decide +kernel, by simp only [PyData.depth]; omega⟩, ?_⟩
            refine List.forall_mem_cons.mpr ⟨⟨.dict [], .dic ndd2 (s21 _ _ edd2) .nil, trivial, by simp only [cost, costK]; omega, by simp only [okD, okK], by decide +kernel⟩, ?_⟩
            exact List.forall_mem_cons.mpr ⟨⟨.tuple [], .tupM ((any s21).tup h20) .nil, fun d hd => (by cases hd), by simp only [cost, costL]; omega, by simp only [okD, okL], by simp only [PyData.depth, PyData.depthAll]; omega⟩, List.forall_mem_nil _⟩
          exact k v H22 ((all v (List.mem_of_getElem? hv)).kp (kw hk22)) (hp22.mono (by omega)) ((k012.trans (kq m21)).trans hk22)
end
end Kx
namespace PySem
namespace HandSPX
open Builtin Builtin.ObjectAttr
/-- the mro of IndexError -/
abbrev ieT : List Value := [.type "IndexError", .type "LookupError", .type "Exception", .type "BaseException", .type "object"]
section
variable {prog : Program} {w : World} {A : Around} {R : Result → Shared → Prop} {h0 : Heap} {g : Array GenState} {d : Drawn} {t : Nat} {os : OsState}
/-- a first field of an exception over IndexError -/
theorem setI {K : W.Frag} {n : Str} {tn : Tok} {u : Value} {e C : Addr} {fv : Array Value} {cd : ClassData}
    (KI : K.In h0) (at0 : h0.get? e = some { cls := .ref C, data := .fields fv }) (cdC : W.clsIn K C = some cd) (mr : cd.mro = .ref C :: ieT) (hasD : cd.hasDict = true) (no : W.findIn K (.ref C) n = some none)
    (go : ∀ h1 t1 dd, (∀ b o, b ≠ e → h0.get? b = some o → h1.get? b = some o) → h0.objs.size ≤ dd → dd ≠ e → h1.get? e = some { cls := .ref C, dict := some dd, data := .fields fv } →
      h1.Ns1 dd (fun y => if y = n then some u else none) → R (.ok (.ret .none)) ⟨h1, g, d, t1, os⟩) :
    codeAny (model prog w) A (.call (.builtin "object.__setattr__") ⟨[.ref e, .str n tn, u], []⟩) R ⟨h0, g, d, t, os⟩ := by
  have inst : W.InstAt h0 e { cls := .ref C, data := .fields fv } C none := ⟨at0, rfl, rfl, trivial⟩
  have St := F.store_object
  have full : cd.mro.isEmpty = false := by rw [mr]; rfl
  have isO : cd.mro.contains (.type "object") = true := by rw [mr, List.contains_cons]; exact (Bool.or_eq_true _ _).mpr (.inr (by decide +kernel))
  have off : e ≠ h0.objs.size := Nat.ne_of_lt (Heap.lt_size at0)
  have isObj : W.Looks (model prog w) h0 (isInstance (.ref e) (.type "object")) true :=
    inst.type.andThen (W.looks_mroIn KI (by unfold W.mroIn; rw [cdC, Option.bind_some, if_neg (by rw [full]; decide), isO]))
  refine codeAny_call_builtin St.slot.plain St.entry
    (@W.check_slot (model prog w) _ _ ⟨h0, g, d, t, os⟩ "object.__setattr__" "object" "__setattr__" (.ref e) [.str n tn, u] [] _ St.kind St.split isObj (St.args (.ref e) (.str n tn) u) ?_)
  have lm : W.Looks (model prog w) h0 (mroOf (.ref C)) cd.mro := (W.looks_clsIn KI cdC).andThen .now
  have lt : W.Looks (model prog w) h0 (storeTaker? none) none := .now
  have lc : W.Looks (model prog w) h0 (classData C) cd := W.looks_clsIn KI cdC
  rw [W.osa_eq, refuse_eq]
  refine wpAny_bind (wpAny_bind (inst.type.at (wpAny_bind (lm.at ?_))))
  rw [mr, refuseLoop_ref, F.store_IndexError.passes]
  refine wpAny_pure (wpAny_bind (inst.type.at (wpAny_bind ((W.looks_findIn KI no).at (wpAny_bind (lt.at ?_))))))
  show wpAny _ _ (storeInOwnDict (.ref e) (.ref C) (.str n tn) n u false) _ _ _
  obtain ⟨c1, c2, c3, c4, c5, c6, c7, c8, c9, c10, c11⟩ := cd
  dsimp only at hasD
  subst hasD
  unfold storeInOwnDict ownDictForStores
  repeat (first | with_reducible refine store_in_new ?_ ?_ | with_reducible refine wpAny_loadPart_at at0 ?_ | with_reducible refine lc.at ?_ | wp_step)
  · exact ⟨_, #[], _, (Heap.get?_update_ne _ _ _ _ off.symm).trans (Heap.get?_push_at rfl rfl), rfl, fun x hx => absurd hx (by simp), fun _ => rfl⟩
  · intro h1 t1 ns same
    have at1 : (h0.push { cls := .type "dict", data := .dict #[] }).get? e = some { cls := .ref C, data := .fields fv } := Heap.get?_push_of_some _ at0
    refine go h1 t1 h0.objs.size (fun b o nb hb => ?_) (Nat.le_refl _) off.symm ?_ ns
    · exact (same.2 b (Nat.ne_of_lt (Heap.lt_size hb))).trans ((Heap.get?_update_ne _ _ _ _ nb).trans (Heap.get?_push_of_some _ hb))
    · exact (same.2 e off).trans (Heap.get?_update_self _ at1 rfl)
end
end HandSPX
end PySem
namespace Kx
open PySem PySem.Spec PyProof.Rows L2
open PySem.HandSPX (ieT)
/-- a class over IndexError with an own __init__ -/
structure OexI (K : PySem.W.Frag) (C : Addr) : Prop where
  cls : ∃ nm q N bs sn sub ab col dd k0 k1 k2 k3 k5, K.lookup C = some (excClassObj nm q C N bs ieT true sn sub ab col dd k0 k1 k2 k3 k5 "IndexError.__new__")
  sa : PySem.W.findIn K (.ref C) "__setattr__" = some (some (.builtin "object.__setattr__"))
  exC : PySem.W.subIn K (.ref C) (.type "BaseException") = some true
  tyC : PySem.W.typeIn K (.ref C) = some (.type "type")
  kC : PySem.W.keepIn K (.ref C) = true
section
variable {X : Cx} {pins : List (Addr × Obj)} {σ : L2.St} {H : Hp} {s : Shared} {a C : Addr} {f : Str} {y : V} {u : Value} {Q : Unit → Shared → Prop} {E : Value → Shared → Prop} {A : Around}
theorem ostI_new (T : OexI X.K C) (I : Inv X pins σ H s) (e : H a = some (exo a C none)) (no : PySem.W.findIn X.K (.ref C) f = some none) (ry : RelV y u)
    (k : ∀ dx s', H dx = none → dx ≠ a → Inv X pins σ (upd (upd H dx (exd dx [(f, y)])) a (exo a C (some dx))) s' → Q () s') : wpAny (model X.prog X.w) A (setAttr (.ref a) f u) Q E s := by
  obtain ⟨nm, q, N, bs, sn, sub, ab, col, dd, k0, k1, k2, k3, k5, look⟩ := T.cls
  have cdC : PySem.W.clsIn X.K C = some { name := nm, bases := bs, mro := .ref C :: ieT, ns := N, qualname := q, hasDict := true, slotNames := sn, subclasses := sub, abstract := ab, collection := col, hasDel := false } := by
    unfold PySem.W.clsIn
    rw [look] <;> rfl
  obtain ⟨t1, at0⟩ := exo_at I.hok e
  obtain ⟨h0, g, d, t, os⟩ := s
  refine PySem.W.set_plain I.kIn (od := none) (ox := { cls := .ref C, dict := none, data := .fields #[.ref t1, .none, .none, .none, .bool false, .none] }) ⟨at0, rfl, rfl, trivial⟩ T.sa ?_
  refine PySem.HandSPX.setI I.kIn at0 cdC rfl rfl no fun h' tk' dx kp le ne at1 ns => ?_
  have dn : H dx = none := I.hok.fresh le
  have lt : ∀ {b : Addr} {o : Obj}, h0.get? b = some o → b ≠ dx := fun hb => Nat.ne_of_lt (Nat.lt_of_lt_of_le (Heap.lt_size hb) le)
  have nea : ∀ {b : Addr}, H b = none → b ≠ a := fun hb z => by
    subst z
    rw [e] at hb
    cases hb
  have UN : Un X.fs [] H (upd (upd H dx (exd dx [(f, y)])) a (exo a C (some dx))) h0 h' :=
    { keep := fun b o hb n _ _ => kp b o (nea n) hb
      slot := fun b o hb n _ _ => ⟨o.slots, kp b o (nea n) hb⟩
      free := fun b o hb n _ => (upd_ne (nea n)).trans ((upd_ne (lt hb)).trans n)
      there := fun b o hb _ => by
        rcases Classical.em (b = a) with z | z
        · subst z
          exact ⟨_, at1⟩
        · exact ⟨o, kp b o z hb⟩
      tups := fun b xs hb => (upd_ne (at_ne e hb exo_tup)).trans ((upd_ne (ne_of_none hb dn)).trans hb)
      frzs := fun b o v hb => (upd_ne (at_ne e hb exo_frz)).trans ((upd_ne (ne_of_none hb dn)).trans hb)
      tbls := fun b ps hb => ⟨#[], by rw [upd_ne (at_ne e hb exo_tbl), upd_ne (ne_of_none hb dn), hb, Array.append_empty]⟩ }
  refine k dx _ dn ne (I.un (t' := tk') UN fun b o hb => ?_)
  by_cases ba : b = a
  · rw [ba, upd_same] at hb
    cases hb
    rw [ba]
    exact exo_ok at1
  · rw [upd_ne ba] at hb
    by_cases bd : b = dx
    · rw [bd, upd_same] at hb
      cases hb
      rw [bd]
      exact exd_ok ns (relO_put (fs := []) ry fun _ => True.intro)
    · rw [upd_ne bd] at hb
      refine (I.hok b o hb).stay (fun c v hc z => kp c v ?_ z) (fun c hc => (upd_ne (at_ne e hc exo_own)).trans ((upd_ne (ne_of_none hc dn)).trans hc)) (fun c xs hc => (upd_ne (at_ne e hc exo_tup)).trans ((upd_ne (ne_of_none hc dn)).trans hc))
      rcases hc with hc | hc
      · exact fun z => ba (hc.symm.trans z)
      · exact at_ne e hc exo_own
end
/-- self.f = e, the first field of an exception over IndexError -/
def tOstI (K : PySem.W.Frag) (f : Str) (to te : TE) : TS := fun D σ H => te σ H fun y H1 => to σ H1 fun x H2 => ∃ a C : Addr, x = .ref a ∧ OexI K C ∧ PySem.W.findIn K (.ref C) f = some none ∧ H2 a = some (exo a C none) ∧
  ∀ dx, H2 dx = none → dx ≠ a → D.nx σ (upd (upd H2 dx (exd dx [(f, y)])) a (exo a C (some dx)))
section
variable {X : Cx} {o e : Expr} {es : List Expr} {to te : TE} {ta : TA} {f : Str} {p p' pos : Pos}
theorem ps_ostI (po : PE X o to) (pe : PE X e te) (sw : swapsWith e (some (.Attribute o f p')) pos.line X.env = pure false := by rfl) : PS X (.Assign [.Attribute o f p'] e pos) (tOstI X.K f to te) := by
  refine ⟨fun pins s σ H D I h => plainObj_wpAny_Assign_Attribute (thn (pe.run pins s σ H _ I h) fun v s1 h1 => ?_) sw⟩
  obtain ⟨y, H1, I1, ry, h1⟩ := h1
  refine thn (po.run pins s1 σ H1 _ I1 h1) fun v2 s2 h2 => ?_
  obtain ⟨x, H2, I2, rx, a, C, rfl, T, no, ea, k⟩ := h2
  cases rx
  exact ostI_new T I2 ea no ry fun dx s' n ne J => ⟨σ, _, J, k dx n ne⟩
/-- C(e, ..), C over IndexError, its own __init__ keeps sp -/
theorem pmk_oexI {CX : CXT} {x : Str} {C fI : Addr} {k : Nat} {fd : FuncData} {ps : List Str} {sp : Sp} (T : OexI X.K C) (iC : PySem.W.findIn X.K (.ref C) "__init__" = some (some (.ref fI)))
    (tI : PySem.W.typeIn X.K (.ref fI) = some (.type "function")) (F1 : FnOk X.prog X.w X.K X.mg X.base CX k fI fd ps sp) (hr : Room (k + 1) X.A) (hb : Binds X.K fd ps []) (hx : Passes CX X (fun _ _ _ => False)) (hg : Gl X x) (hm : X.mg x = some (.ref C)) (ha : PA X (e :: es) ta)
    (nd : (x == ("__debug__" : Str)) = false := by decide) (st : starEach (e :: es) X.env = (false, eval e X.env) :: starEach es X.env := by rfl) (pl : (backTo pos (starEach es X.env)).any (·.1) = false := by rfl) :
    PMk X (.Call (.Name x p) (e :: es) [] pos) (tMkO C sp [] ta) := by
  intro pins s σ H Q I h
  obtain ⟨nm, q, N, bs, sn, sub, ab, col, dd, k0, k1, k2, k3, k5, look⟩ := T.cls
  refine wpAny_Call_Name_kw (ld_glob I hg hm (PySem.W.callWith_K (h₀ := X.base) I.ok.mod.kin T.kC (thn (ha.run pos pins s σ H _ I h) fun us s1 h1 => ?_) st pl) nd)
  obtain ⟨vs, H1, I1, r1, small, h1⟩ := h1
  refine ⟨I1.kIn, show wpAny _ _ (call (.ref C) us) _ _ _ from ?_⟩
  obtain ⟨g0, gn, dr, tk, os⟩ := s1
  have le : g0.objs.size ≤ g0.objs.size + 1 := Nat.le_succ _
  have hq := h1 (g0.objs.size + 1) (I1.hok.fresh le)
  rw [List.append_nil] at hq
  have kept : ∀ b o, g0.get? b = some o → ((g0.push (PySem.W.kdv_tup us)).push (PySem.HandSPX.excO C g0.objs.size)).get? b = some o :=
    fun b o hb => Heap.get?_push_of_some _ (Heap.get?_push_of_some _ hb)
  have at1 : ((g0.push (PySem.W.kdv_tup us)).push (PySem.HandSPX.excO C g0.objs.size)).get? (g0.objs.size + 1) = some (PySem.HandSPX.excO C g0.objs.size) := by heap_get
  have J : Inv X pins σ (upd H1 (g0.objs.size + 1) (exo (g0.objs.size + 1) C none)) ⟨(g0.push (PySem.W.kdv_tup us)).push (PySem.HandSPX.excO C g0.objs.size), gn, dr, tk, os⟩ :=
    I1.laid (a := g0.objs.size + 1) (o := exo (g0.objs.size + 1) C none) (t' := tk) (h' := (g0.push (PySem.W.kdv_tup us)).push (PySem.HandSPX.excO C g0.objs.size)) kept le (exo_ok at1)
  have r2 : Vals (V.ref (g0.objs.size + 1) :: vs) (Value.ref (g0.objs.size + 1) :: us) := .cons rfl r1
  have lens : (Value.ref (g0.objs.size + 1) :: us).length = ps.length := r2.length.symm.trans (F1.len _ _ _ _ hq)
  have fits : us.length ≤ sizeLine := by
    rw [← Paired.length r1, sizeLine_eq]
    exact Nat.le_trans small (by decide)
  refine wpAny_call (PySem.HandSPX.call_own F.excBase_IndexError (fun _ => rfl) (I1.kIn _ _ look) (PySem.W.looks_findIn I1.kIn iC) (fun self => PySem.W.bind_fn I1.kIn self tI) fits ?_)
  refine codeAny_mono (F1.run _ X.stack _ _ ⟨Value.ref (g0.objs.size + 1) :: us, []⟩ (Value.ref (g0.objs.size + 1) :: us) _ _ (fun _ _ _ => False) (hr.make C us []) (J.env0.make C us []) ?_ r2 hq) fun r s' back => ?_
  · have z := hb _ (Value.ref (g0.objs.size + 1) :: us) J.kIn (by rw [List.append_nil]; exact lens)
    rw [List.append_nil] at z
    exact z
  match r, back with
  | .error er, back => exact hx pins σ _ _ er s' J back
  | .ok (.ret v), ⟨v', H2, os2, bare2, un2, hok2, rv, ev, d, fs, ea, ed, hd1, q2⟩ =>
    subst ev
    obtain ⟨h2, g2, d2, t2, os'⟩ := s'
    exact ⟨rv, mk_end (raises_own T.exC T.tyC) I1 le kept un2 hok2 os2 bare2 ea ed hd1 q2⟩
end
end Kx
namespace Kx
open PySem PySem.Spec PyProof.Rows L2
def isListD : PyData → Bool
  | .list _ => true
  | _ => false
def isDictD : PyData → Bool
  | .dict _ => true
  | _ => false
theorem kitLi {K : PySem.W.Frag} (d : PyData) : PySem.W.kitOne K (.type (tyD d)) (.type "list") = some (isListD d) := by
  cases d with
  | none => exact kit_ty (show kitB "NoneType" "list" = some false by decide +kernel)
  | bool _ => exact kit_ty (show kitB "bool" "list" = some false by decide +kernel)
  | int _ => exact kit_ty (show kitB "int" "list" = some false by decide +kernel)
  | str _ => exact kit_ty (show kitB "str" "list" = some false by decide +kernel)
  | list _ => exact kit_ty (show kitB "list" "list" = some true by decide +kernel)
  | tuple _ => exact kit_ty (show kitB "tuple" "list" = some false by decide +kernel)
  | dict _ => exact kit_ty (show kitB "dict" "list" = some false by decide +kernel)
theorem kitDi {K : PySem.W.Frag} (d : PyData) : PySem.W.kitOne K (.type (tyD d)) (.type "dict") = some (isDictD d) := by
  cases d with
  | none => exact kit_ty (show kitB "NoneType" "dict" = some false by decide +kernel)
  | bool _ => exact kit_ty (show kitB "bool" "dict" = some false by decide +kernel)
  | int _ => exact kit_ty (show kitB "int" "dict" = some false by decide +kernel)
  | str _ => exact kit_ty (show kitB "str" "dict" = some false by decide +kernel)
  | list _ => exact kit_ty (show kitB "list" "dict" = some false by decide +kernel)
  | tuple _ => exact kit_ty (show kitB "tuple" "dict" = some false by decide +kernel)
  | dict _ => exact kit_ty (show kitB "dict" "dict" = some true by decide +kernel)
/-- no list, tuple or dict -/
def flatD (d : PyData) : Prop := isListD d = false ∧ isTupD d = false ∧ isDictD d = false
/-- what is copied: 0 nothing, 1 what is flat, 2 tuples of it, too -/
def cpOk : Nat → PyData → Prop
  | 0, _ => False
  | 1, d => flatD d
  | _, d => flatD d ∨ ∃ ds, d = .tuple ds ∧ ds.length ≤ 100 ∧ ∀ x ∈ ds, flatD x
theorem flat_eq {ex ey : Addr → Prop} {H H' : Hp} {v v' : V} {d : PyData} (f : flatD d) (a : Dv ex H v d) (b : Dv ey H' v' d) : v' = v := by
  cases a with
  | non => cases b; rfl
  | bl _ => cases b; rfl
  | int _ => cases b; rfl
  | str _ => cases b; rfl
  | lst _ _ _ => exact absurd f.1 (by simp [isListD])
  | tup _ _ _ => exact absurd f.2.1 (by simp [isTupD])
  | dic _ _ _ => exact absurd f.2.2 (by simp [isDictD])
section
variable {P : Program} {w : World} {K : PySem.W.Frag} {mg : Str → Option Value} {base : Heap}
abbrev N_copied : List Str := ["value", "part", "key"]
abbrev P_copied : List Str := ["value"]
theorem sc_copied : FnScope N_copied P_copied (defScope s_copied) := ⟨rfl, rfl, rfl, by decide +kernel, rfl, by decide +kernel, by decide +kernel⟩
def spCp (n : Nat) : Sp := fun vs H Q _ => ∃ (ex : Addr → Prop) (v : V) (d : PyData), vs = [v] ∧ Dv ex H v d ∧ cpOk n d ∧ ∀ v' H', Same H H' → Dv ex H' v' d → Q v' H'
theorem ok_cp0 (T : Bt mg) (h : Has K mg "copied" s_copied) : Ca P w K mg base 1 "copied" P_copied (spCp 0) := by
  refine cal_of h sc_copied (fun _ _ _ _ _ _ us hl => match us, hl with | [_], _ => rfl) (fun vs H Q E h => ?_) (fun f cdv A outer s H vs Q E hr h => ?_)
  · obtain ⟨_, _, _, _, _, z, _⟩ := h
    exact z.elim
  · obtain ⟨_, _, _, _, _, z, _⟩ := h
    exact z.elim
theorem ok_cp1 (T : Bt mg) (h : Has K mg "copied" s_copied) (C1 : Ca P w K mg base 1 "copied" P_copied (spCp 0)) : Ca P w K mg base 2 "copied" P_copied (spCp 1) := by
  obtain ⟨_, _, c_copied⟩ := C1
  refine cal_of h sc_copied (fun _ _ _ _ _ _ us hl => match us, hl with | [_], _ => rfl) (fun vs H Q E h => ?_) (fun f cdv A outer s H vs Q E hr h => ?_)
  · obtain ⟨ex, v, d, rfl, _⟩ := h
    rfl
  · obtain ⟨ex, v, d, rfl, dv, ok, q⟩ := h
    refine ⟨_, (pss_cons (ps_if (pt_val (pe_callB call_isi (by rfl) T.isinstance (by decide +kernel) (pa_cons (pv 0) (pa_cons (pe_bltn (v := .ty "list") (by rfl) T.list (by decide +kernel) rfl) pa_nil)))) (pss_one (ps_ret (pe_lc (own := [("part", 1)]) (g := (gName 1)) (tt := tYes) (by rfl) sc_copied.nd (pi_tup (pv 0)) (blkOk_by (own := [("part", 1)]) (N := ["value", "part", "key"]) (sc := defScope s_copied) (by decide +kernel)) (fun _ _ _ _ _ => pg_name (i := 1) sc_copied.nd rfl (Or.inl rfl)) (fun _ _ _ _ _ => pts_nil) (fun _ _ _ _ _ => (pe_call c_copied.1 (hr.mono (by decide)) rfl c_copied.2.1 c_copied.2.2.1 c_copied.2.2.2 .nil pass0 (pa_cons (pv 1) pa_nil)))))) pss_nil)
      (pss_cons (ps_if (pt_val (pe_callB call_isi (by rfl) T.isinstance (by decide +kernel) (pa_cons (pv 0) (pa_cons (pe_bltn (v := .ty "tuple") (by rfl) T.tuple (by decide +kernel) rfl) pa_nil)))) (pss_one (ps_ret (pe_callTy call_tupF (by rfl) T.tuple (by decide +kernel) (pa_cons (pe_lc (own := [("part", 1)]) (g := (gName 1)) (tt := tYes) (by rfl) sc_copied.nd (pi_tup (pv 0)) (blkOk_by (own := [("part", 1)]) (N := ["value", "part", "key"]) (sc := defScope s_copied) (by decide +kernel)) (fun _ _ _ _ _ => pg_name (i := 1) sc_copied.nd rfl (Or.inl rfl)) (fun _ _ _ _ _ => pts_nil) (fun _ _ _ _ _ => (pe_call c_copied.1 (hr.mono (by decide)) rfl c_copied.2.1 c_copied.2.2.1 c_copied.2.2.2 .nil pass0 (pa_cons (pv 1) pa_nil)))) pa_nil)))) pss_nil)
      (pss_cons (ps_if (pt_val (pe_callB call_isi (by rfl) T.isinstance (by decide +kernel) (pa_cons (pv 0) (pa_cons (pe_bltn (v := .ty "dict") (by rfl) T.dict (by decide +kernel) rfl) pa_nil)))) (pss_one (ps_ret (pe_lock (pe_dc (own := [("key", 2)]) (g := (gName 2)) (tt := tYes) (by rfl) sc_copied.nd (pi_tup (pv 0)) (blkOk_by (own := [("key", 2)]) (N := ["value", "part", "key"]) (sc := defScope s_copied) (by decide +kernel)) (fun _ _ _ _ _ => pg_name (i := 2) sc_copied.nd rfl (Or.inl rfl)) (fun _ _ _ _ _ => pts_nil) (fun _ _ _ _ _ => (pv 2)) (fun _ _ _ _ _ => (pe_call c_copied.1 (hr.mono (by decide)) rfl c_copied.2.1 c_copied.2.2.1 c_copied.2.2.2 .nil pass0 (pa_cons (pe_dget (hu_of hr) (pv 0) (pv 2) (fun _ _ => rfl)) pa_nil))))))) pss_nil)
      (pss_one (ps_ret (pv 0)))))), ?_⟩
    obtain ⟨f1, f2, f3⟩ : flatD d := ok
    exact ⟨_, rfl, _, _, _, _, _, rfl, .ty _, dv.ty, kitLi d, _, rfl, by
      rw [f1]
      exact iteF ⟨_, rfl, _, _, _, _, _, rfl, .ty _, dv.ty, kitT d, _, rfl, by
        rw [f2]
        exact iteF ⟨_, rfl, _, _, _, _, _, rfl, .ty _, dv.ty, kitDi d, _, rfl, by
          rw [f3]
          exact iteF ⟨_, rfl, q v H Same.refl dv⟩⟩⟩⟩
theorem ok_cp2 (T : Bt mg) (h : Has K mg "copied" s_copied) (C1 : Ca P w K mg base 2 "copied" P_copied (spCp 1)) : Ca P w K mg base 3 "copied" P_copied (spCp 2) := by
  obtain ⟨_, _, c_copied⟩ := C1
  refine cal_of h sc_copied (fun _ _ _ _ _ _ us hl => match us, hl with | [_], _ => rfl) (fun vs H Q E h => ?_) (fun f cdv A outer s H vs Q E hr h => ?_)
  · obtain ⟨ex, v, d, rfl, _⟩ := h
    rfl
  · obtain ⟨ex, v, d, rfl, dv, ok, q⟩ := h
    refine ⟨_, (pss_cons (ps_if (pt_val (pe_callB call_isi (by rfl) T.isinstance (by decide +kernel) (pa_cons (pv 0) (pa_cons (pe_bltn (v := .ty "list") (by rfl) T.list (by decide +kernel) rfl) pa_nil)))) (pss_one (ps_ret (pe_lc (own := [("part", 1)]) (g := (gName 1)) (tt := tYes) (by rfl) sc_copied.nd (pi_tup (pv 0)) (blkOk_by (own := [("part", 1)]) (N := ["value", "part", "key"]) (sc := defScope s_copied) (by decide +kernel)) (fun _ _ _ _ _ => pg_name (i := 1) sc_copied.nd rfl (Or.inl rfl)) (fun _ _ _ _ _ => pts_nil) (fun _ _ _ _ _ => (pe_call c_copied.1 (hr.mono (by decide)) rfl c_copied.2.1 c_copied.2.2.1 c_copied.2.2.2 .nil pass0 (pa_cons (pv 1) pa_nil)))))) pss_nil)
      (pss_cons (ps_if (pt_val (pe_callB call_isi (by rfl) T.isinstance (by decide +kernel) (pa_cons (pv 0) (pa_cons (pe_bltn (v := .ty "tuple") (by rfl) T.tuple (by decide +kernel) rfl) pa_nil)))) (pss_one (ps_ret (pe_callTy call_tupF (by rfl) T.tuple (by decide +kernel) (pa_cons (pe_lc (own := [("part", 1)]) (g := (gName 1)) (tt := tYes) (by rfl) sc_copied.nd (pi_tup (pv 0)) (blkOk_by (own := [("part", 1)]) (N := ["value", "part", "key"]) (sc := defScope s_copied) (by decide +kernel)) (fun _ _ _ _ _ => pg_name (i := 1) sc_copied.nd rfl (Or.inl rfl)) (fun _ _ _ _ _ => pts_nil) (fun _ _ _ _ _ => (pe_call c_copied.1 (hr.mono (by decide)) rfl c_copied.2.1 c_copied.2.2.1 c_copied.2.2.2 .nil pass0 (pa_cons (pv 1) pa_nil)))) pa_nil)))) pss_nil)
      (pss_cons (ps_if (pt_val (pe_callB call_isi (by rfl) T.isinstance (by decide +kernel) (pa_cons (pv 0) (pa_cons (pe_bltn (v := .ty "dict") (by rfl) T.dict (by decide +kernel) rfl) pa_nil)))) (pss_one (ps_ret (pe_lock (pe_dc (own := [("key", 2)]) (g := (gName 2)) (tt := tYes) (by rfl) sc_copied.nd (pi_tup (pv 0)) (blkOk_by (own := [("key", 2)]) (N := ["value", "part", "key"]) (sc := defScope s_copied) (by decide +kernel)) (fun _ _ _ _ _ => pg_name (i := 2) sc_copied.nd rfl (Or.inl rfl)) (fun _ _ _ _ _ => pts_nil) (fun _ _ _ _ _ => (pv 2)) (fun _ _ _ _ _ => (pe_call c_copied.1 (hr.mono (by decide)) rfl c_copied.2.1 c_copied.2.2.1 c_copied.2.2.2 .nil pass0 (pa_cons (pe_dget (hu_of hr) (pv 0) (pv 2) (fun _ _ => rfl)) pa_nil))))))) pss_nil)
      (pss_one (ps_ret (pv 0)))))), ?_⟩
    rcases (show flatD d ∨ ∃ ds, d = .tuple ds ∧ ds.length ≤ 100 ∧ ∀ x ∈ ds, flatD x from ok) with ⟨f1, f2, f3⟩ | ⟨ds, rfl, hl, hf⟩
    · exact ⟨_, rfl, _, _, _, _, _, rfl, .ty _, dv.ty, kitLi d, _, rfl, by
        rw [f1]
        exact iteF ⟨_, rfl, _, _, _, _, _, rfl, .ty _, dv.ty, kitT d, _, rfl, by
          rw [f2]
          exact iteF ⟨_, rfl, _, _, _, _, _, rfl, .ty _, dv.ty, kitDi d, _, rfl, by
            rw [f3]
            exact iteF ⟨_, rfl, q v H Same.refl dv⟩⟩⟩⟩
    · obtain ⟨a, xs, rfl, ht, dl⟩ := dv.tupI
      have n1 := dl.len
      have hL := sizeLine_eq
      refine ⟨_, rfl, _, _, _, _, _, rfl, .ty _, dv.ty, kitLi _, _, rfl, iteF ⟨_, rfl, _, _, _, _, _, rfl, .ty _, dv.ty, kitT _, _, rfl, iteT ⟨_, rfl, a, rfl, ⟨_, ht.sq⟩, fun D hD => ?_⟩⟩⟩
      refine lc_o (walk_tup (K := K) (a := a) (xs := xs)) (fun i => xs[i]?.map id) (by omega) hD (fun Hx sm => ((Kp.same (ex := ex) sm).tup ht).sq) ?_ ?_
      · rintro i y Hx H' Nx hi sm hDx ⟨rfl, hy⟩ hno hyes
        obtain ⟨e, he, dve⟩ := dl.get hy
        have fe := hf e (List.mem_of_getElem? he)
        refine ⟨rfl, yes ⟨_, rfl, ex, y, e, rfl, dve.kp (Kp.same sm), fe, fun v' H2 m2 d2 => ?_⟩⟩
        rw [flat_eq fe dve d2]
        exact hyes _ (by rw [hy]; rfl) H2 m2
      · intro H1 m1 hD1
        rw [range_list, List.map_id] at hD1
        exact ⟨D, xs, rfl, SqL.of hD1, fun p H2 m2 hp => q _ _ (m1.trans m2) (.tupM hp (dl.kp (Kp.same (m1.trans m2))))⟩
theorem dv_flat {ex ey : Addr → Prop} {H H' : Hp} {v : V} {d : PyData} (f : flatD d) (h : Dv ex H v d) : Dv ey H' v d := by
  cases h with
  | non => exact .non
  | bl _ => exact .bl _
  | int _ => exact .int _
  | str _ => exact .str _
  | lst _ _ _ => exact absurd f.1 (by simp [isListD])
  | tup _ _ _ => exact absurd f.2.1 (by simp [isTupD])
  | dic _ _ _ => exact absurd f.2.2 (by simp [isDictD])
theorem dvl_flat {ex ey : Addr → Prop} {H H' : Hp} : ∀ {vs : List V} {ds : List PyData}, (∀ x ∈ ds, flatD x) → DvL ex H vs ds → DvL ey H' vs ds
  | _, _, _, .nil => .nil
  | _, _, f, .cons a b => .cons (dv_flat (f _ List.mem_cons_self) a) (dvl_flat (fun x hx => f x (List.mem_cons_of_mem _ hx)) b)
/-- what is copied hangs on frozen places alone -/
theorem cp_any {ex ey : Addr → Prop} {H H' : Hp} {v : V} {d : PyData} (ok : cpOk 2 d) (h : Dv ex H v d) (k : ∀ a o u, H a = some (.frz o u) → H' a = some (.frz o u)) : Dv ey H' v d := by
  rcases (show flatD d ∨ ∃ ds, d = .tuple ds ∧ ds.length ≤ 100 ∧ ∀ x ∈ ds, flatD x from ok) with f | ⟨ds, rfl, _, hf⟩
  · exact dv_flat f h
  · obtain ⟨a, xs, rfl, ⟨o, ho, ha⟩, dl⟩ := h.tupI
    exact .tup ho (k _ _ _ ha) (dvl_flat hf dl)
abbrev N_InvalidNumber_init : List Str := ["self", "given"]
abbrev P_InvalidNumber_init : List Str := ["self", "given"]
theorem sc_InvalidNumber_init : FnScope N_InvalidNumber_init P_InvalidNumber_init (defScope s_InvalidNumber_init) := ⟨rfl, rfl, rfl, by decide +kernel, rfl, by decide +kernel, by decide +kernel⟩
def spIN (C : Addr) : Sp := fun vs H Q _ => ∃ (ex : Addr → Prop) (x : Addr) (v : V) (d : PyData), vs = [.ref x, v] ∧ H x = some (exo x C none) ∧ Dv ex H v d ∧ cpOk 2 d ∧
  ∀ dx v' H', Same (del H x) H' → Dv ex H' v' d → H' x = some (exo x C (some dx)) → H' dx = some (exd dx [("given", v')]) → H dx = none → Q .non H'
theorem ok_IN (T : Bt mg) {C f : Addr} {fd : FuncData} (F : FunD K "__init__" "InvalidNumber.__init__" (defArgs s_InvalidNumber_init) (defBody s_InvalidNumber_init) (defScope s_InvalidNumber_init) [] [] f fd) (O : OexI K C) (no : PySem.W.findIn K (.ref C) "given" = some none)
    (C1 : Ca P w K mg base 3 "copied" P_copied (spCp 2)) : FnOk P w K mg base CX0 4 f fd P_InvalidNumber_init (spIN C) := by
  obtain ⟨_, _, c_copied⟩ := C1
  refine F.ok sc_InvalidNumber_init (fun vs H Q E h => ?_) (fun cdv A outer s H vs Q E hr h => ?_)
  · obtain ⟨ex, x, v, d, rfl, _⟩ := h
    rfl
  · obtain ⟨ex, x, v, d, rfl, hx, dv, ok, q⟩ := h
    refine ⟨_, (pss_one (ps_ostI (pv 0) (pe_call c_copied.1 (hr.mono (by decide)) rfl c_copied.2.1 c_copied.2.2.1 c_copied.2.2.2 .nil pass0 (pa_cons (pv 1) pa_nil)))), ?_⟩
    refine ⟨_, rfl, ex, v, d, rfl, dv, ok, fun v' H1 m1 d1 => ⟨_, rfl, x, C, rfl, O, no, m1 _ _ hx, fun dx hdx ne => ?_⟩⟩
    refine q dx v' _ (fun b o hb => ?_) (cp_any ok d1 fun b o u hb => ?_) upd_same (by rw [upd_ne ne]; exact upd_same) ?_
    · by_cases hbx : b = x
      · subst hbx
        rw [del_same] at hb
        cases hb
      · rw [del_ne hbx] at hb
        have := m1 _ _ hb
        rw [upd_ne hbx, upd_ne (ne_of_none this hdx)]
        exact this
    · have nx : b ≠ x := fun z => by
        rw [z, m1 _ _ hx] at hb
        exact exo_frz (Option.some.inj hb)
      rw [upd_ne nx, upd_ne (ne_of_none hb hdx)]
      exact hb
    · cases e : H dx with
      | none => rfl
      | some o =>
        rw [m1 _ _ e] at hdx
        cases hdx
end
end Kx
namespace Kx
open PySem PySem.Spec PyProof.Rows L2
/-- an own class over ValueError, made with a text -/
structure ExN (x : Str) (K : PySem.W.Frag) (mg : Str → Option Value) (I : Addr) : Prop where
  gP : mg x = some (.ref I)
  xP : PySem.W.excIn K I [.type "ValueError", .type "Exception", .type "BaseException", .type "object"] "ValueError.__new__" = true
  kP : PySem.W.keepIn K (.ref I) = true
  bP : PySem.W.subIn K (.ref I) (.type "BaseException") = some true
  tP : PySem.W.typeIn K (.ref I) = some (.type "type")
/-- what shifted comes to -/
inductive ShD
  | term
  | number
  | sum (d : PyData)
def sumD (e : PyData) : PyData → ShD
  | .tuple ds => match ds.getLast?, e with
    | some (.int m), .int n => if intD (.int (m + n)) then .sum (.tuple (ds.dropLast ++ [.int (m + n)])) else .term
    | _, _ => .term
  | _ => .term
/-- what shifted does with data of a term and a number -/
def shD (ps : List (Str × Str)) (ns us : List Str) (d e : PyData) : ShD := if termD ps ns us d then (if intD e then sumD e d else .number) else .term
/-- the last item of a term is an integer -/
theorem term_last {ps : List (Str × Str)} {ns us : List Str} {d : PyData} (h : termD ps ns us d = true) : ∃ (cs : List PyData) (m : Int), d = .tuple (cs ++ [.int m]) ∧ cs.length ≤ 3 := by
  have isI : ∀ {x : PyData}, intD x = true → ∃ m : Int, x = .int m := fun {x} h => by cases x <;> first | exact ⟨_, rfl⟩ | (cases h; done)
  rcases (Bool.or_eq_true _ _).mp h with h | h
  · obtain ⟨a, b, rfl⟩ : ∃ a b, d = .tuple [a, b] := by
      cases d with
      | tuple ds => match ds, h with
        | [a, b], _ => exact ⟨a, b, rfl⟩
        | [], h => cases h
        | [_], h => cases h
        | _ :: _ :: _ :: _, h => cases h
      | _ => cases h
    obtain ⟨m, rfl⟩ := isI ((Bool.and_eq_true _ _).mp h).1
    exact ⟨[a], m, rfl, by simp⟩
  · cases d with
    | tuple ds => match ds, h with
      | [a, b], h =>
        obtain ⟨m, rfl⟩ := isI ((Bool.and_eq_true _ _).mp h).2
        exact ⟨[a], m, rfl, by simp⟩
      | [a, b, c, e], h =>
        obtain ⟨m, rfl⟩ := isI ((Bool.and_eq_true _ _).mp ((Bool.and_eq_true _ _).mp h).2).2
        exact ⟨[a, b, c], m, rfl, by simp⟩
      | [], h => cases h
      | [_], h => cases h
      | [_, _, _], h => cases h
      | _ :: _ :: _ :: _ :: _ :: _, h => cases h
    | _ => cases h
theorem sum_of (cs : List PyData) (m n : Int) : sumD (.int n) (.tuple (cs ++ [.int m])) = if intD (.int (m + n)) then .sum (.tuple (cs ++ [.int (m + n)])) else .term := by
  have h1 : (cs ++ [PyData.int m]).getLast? = some (.int m) := by simp
  have h2 : (cs ++ [PyData.int m]).dropLast = cs := by simp
  unfold sumD
  dsimp only
  rw [h1, h2]
section
variable {P : Program} {w : World} {K : PySem.W.Frag} {mg : Str → Option Value} {base : Heap}
def spShR (C To Tv IT IN : Addr) : Sp := fun vs H Q E => ∃ (ex : Addr → Prop) (x : Addr) (v u va vp vv : V) (d e : PyData) (ps : List (Str × Str)) (ns us : List Str), vs = [.ref x, v, u] ∧ FrameAt C H x va vp vv ps ns us ∧ Dv ex H v d ∧ shp d ∧ Dv ex H u e ∧ cpOk 2 e ∧ cost e ≤ 8000000 ∧ TupF H To [] ∧ TupF H Tv [] ∧
  (shD ps ns us d e = .term → ∀ H', Same H H' → E (.ref IT) none H') ∧
  (shD ps ns us d e = .number → ∀ dd v' H', Same H H' → H' dd = some (.xd [("given", v')]) → Dv ex H' v' e → E (.ref IN) (some dd) H') ∧
  (∀ z, shD ps ns us d e = .sum z → ∀ (t : Addr) (H' : Hp), Same H H' → Dv ex H' (.ref t) z → Q (.ref t) H')
theorem ok_shR (T : Bt mg) {C To Tv IT IN fI : Addr} {fdI : FuncData} (X : Fx K mg C) (h : HasM K C "shifted" "Frame.shifted" s_Frame_shifted) (C1 : Ca P w K mg base 1 "is_integer" P_is_integer (spJudge intD))
    (MP : Mo P w K mg base C To 5 "is_position_term" P_Frame_is_position_term (spIsP C placeD)) (MV : Mo P w K mg base C Tv 5 "is_value_term" P_Frame_is_value_term (spIsP C amountD)) (XT : ExN "InvalidTerm" K mg IT)
    (TN : OexI K IN) (gN : mg "InvalidNumber" = some (.ref IN)) (iN : PySem.W.findIn K (.ref IN) "__init__" = some (some (.ref fI))) (tN : PySem.W.typeIn K (.ref fI) = some (.type "function")) (FN : FnOk P w K mg base CX0 4 fI fdI P_InvalidNumber_init (spIN IN)) (bN : Binds K fdI P_InvalidNumber_init []) :
    ∃ f fd, FnOk P w K mg base (L2.CX P w) 6 f fd P_Frame_shifted (spShR C To Tv IT IN) ∧ Meth K C "shifted" f ∧ Binds K fd P_Frame_shifted [] := by
  obtain ⟨_, _, c_is_integer⟩ := C1
  obtain ⟨_, _, FP, mP, ⟨_, dP, bP⟩, _, kP⟩ := MP
  obtain ⟨_, _, FV, mV, ⟨_, dV, bV⟩, _, kV⟩ := MV
  obtain ⟨f, fd, F, g⟩ := h
  refine ⟨f, fd, ?_, g, F.bindsN (fun _ _ _ _ _ _ us hl => match us, hl with | [_, _, _], _ => rfl)⟩
  refine F.ok sc_Frame_shifted (fun vs H Q E h => ?_) (fun cdv A outer s H vs Q E hr h => ?_)
  · obtain ⟨ex, x, v, u, va, vp, vv, d, e, ps, ns, us, rfl, _⟩ := h
    rfl
  · obtain ⟨ex, x, v, u, va, vp, vv, d, e, ps, ns, us, rfl, fr, dv, sh, de, ce, he, tP, tV, kT, kN, kS⟩ := h
    refine ⟨_, (pss_cons (ps_if (PW.pt (pw_and (pt_not (pt_val (pe_meth (pv 0) X.cl mP FP (hr.mono (by decide)) bP dP pass0 (pa_cons (pv 1) pa_nil)))) (pw_and1 (pt_not (pt_val (pe_meth (pv 0) X.cl mV FV (hr.mono (by decide)) bV dV pass0 (pa_cons (pv 1) pa_nil))))))) (pss_one (L2.ps_raise rfl (L2.takes_of rfl rfl rfl rfl) (L2.pmk_own PySem.F.excBase_ValueError XT.xP XT.gP XT.kP (raises_own XT.bP XT.tP) rfl))) pss_nil)
      (pss_cons (ps_if (pt_not (pt_val (pe_call c_is_integer.1 (hr.mono (by decide)) rfl c_is_integer.2.1 c_is_integer.2.2.1 c_is_integer.2.2.2 .nil pass0 (pa_cons (pv 2) pa_nil)))) (pss_one (L2.ps_raise rfl (L2.takes_of rfl rfl rfl rfl) (pmk_oexI TN iN tN FN (hr.mono (by decide)) bN pass0 rfl gN (pa_cons (pv 2) pa_nil)))) pss_nil)
      (pss_cons (ps_set (i := 3) sc_Frame_shifted.nd rfl (.inl rfl) (pe_op op_add (pe_ix ix_tup (pv 1) (pe_un un_neg pe_int) (fun _ _ => rfl)) (pv 2)))
      (pss_cons (ps_if (pt_not (pt_val (pe_call c_is_integer.1 (hr.mono (by decide)) rfl c_is_integer.2.1 c_is_integer.2.2.1 c_is_integer.2.2.2 .nil pass0 (pa_cons (pv 3) pa_nil)))) (pss_one (L2.ps_raise rfl (L2.takes_of rfl rfl rfl rfl) (L2.pmk_own PySem.F.excBase_ValueError XT.xP XT.gP XT.kP (raises_own XT.bP XT.tP) rfl))) pss_nil)
      (pss_one (ps_ret (pe_tupF (StX.pa_star (pe_slice sl_tupF (pv 1) po_none (po_some (pe_un un_neg pe_int))) (pa_cons (pv 3) pa_nil))))))))), ?_⟩
    obtain ⟨dx, LB, LT, KD, hx, _⟩ := fr.ob
    refine ⟨_, rfl, x, dx, _, rfl, hx, rfl, _, rfl, ex, x, To, va, vp, vv, _, _, ps, ns, us, [], rfl, fr, dv, sh, tP, own0, fun H1 s1 => ?_⟩
    cases e1 : placeD ps ns us [] d
    case' true =>
      have ht : termD ps ns us d = true := by rw [termD, e1, Bool.true_or]
      refine ⟨_, rfl, iteF (iteF ?_)⟩
    case' false =>
      refine ⟨_, rfl, iteT ⟨_, rfl, x, dx, _, rfl, s1 _ _ hx, rfl, _, rfl, ex, x, Tv, va, vp, vv, _, _, ps, ns, us, [], rfl, fr.same s1, dv.kp (Kp.same s1), sh, (Kp.same (ex := ex) s1).tup tV, own0, fun H2 s2 => ⟨_, rfl, ?_⟩⟩⟩
      replace s1 := s1.trans s2
      clear s2
      have ht : termD ps ns us d = amountD ps ns us [] d := by rw [termD, e1, Bool.false_or]
      cases e2 : amountD ps ns us [] d
      case' false =>
        rw [e2] at ht
        exact iteT (kT (by rw [shD, ht]; rfl) _ s1)
      case' true =>
        rw [e2] at ht
        refine iteF ?_
    all_goals
      obtain ⟨cs, m, rfl, hcs⟩ := term_last ht
      refine ⟨_, rfl, ex, _, e, rfl, de.kp (Kp.same s1), he, fun H3 s3 => ⟨_, rfl, ?_⟩⟩
      replace s1 := s1.trans s3
      clear s3
      cases en : intD e with
      | false =>
        refine iteT ⟨_, rfl, by show 1 ≤ 1000; decide, fun a ha => ⟨ex, a, u, e, rfl, upd_same, (de.kp (Kp.same s1)).kp (Kp.new ha), ce, fun d2 v' H4 s4 d4 e4 ed hd1 => ?_⟩⟩
        have nda : d2 ≠ a := fun z => by
          rw [z, upd_same] at hd1
          cases hd1
        have hd : H3 d2 = none := by
          rw [upd_ne nda] at hd1
          exact hd1
        have m4 : ∀ b o, H3 b = some o → H4 b = some o ∧ b ≠ a ∧ b ≠ d2 := fun b o hb => by
          have nb : b ≠ a := ne_of_none hb ha
          exact ⟨s4 _ _ (by rw [del_ne nb, upd_ne nb]; exact hb), nb, ne_of_none hb hd⟩
        refine ⟨rfl, d2, _, e4, ed, hd, kN (by rw [shD, ht, en]; rfl) d2 v' _ (fun b o hb => ?_) upd_same (cp_any ce d4 fun b o w hb => ?_)⟩
        · obtain ⟨h1, h2, h3⟩ := m4 b o (s1 _ _ hb)
          rw [upd_ne h3, del_ne h2]
          exact h1
        · have n1 : b ≠ a := fun z => by
            rw [z, e4] at hb
            exact exo_frz (Option.some.inj hb)
          have n2 : b ≠ d2 := fun z => by
            rw [z, ed] at hb
            exact HO.noConfusion (Option.some.inj hb)
          rw [upd_ne n2, del_ne n1]
          exact hb
      | true =>
        obtain ⟨n, rfl⟩ : ∃ n, e = .int n := by cases e <;> first | exact ⟨_, rfl⟩ | (cases en; done)
        cases de.intI
        have eS : shD ps ns us (.tuple (cs ++ [.int m])) (.int n) = if intD (.int (m + n)) then .sum (.tuple (cs ++ [.int (m + n)])) else .term := by
          rw [shD, ht, en, ← sum_of]
          rfl
        obtain ⟨a, xs0, rfl, tx, dl⟩ := dv.tupI
        obtain ⟨xs, zs, rfl, dx', h2⟩ := dl.appI
        obtain rfl : zs = [.int m] := by
          cases h2 with
          | cons q r =>
            cases r
            cases q.intI
            rfl
        have lx := dx'.len
        have t1 := (Kp.same (ex := ex) s1).tup tx
        refine iteF ⟨_, rfl, _, rfl, _, _, _, _, rfl, rfl, t1.sq, atI_last _ _, _, rfl, _, _, rfl, rfl, ?_⟩
        refine ⟨_, rfl, ex, _, .int (m + n), rfl, .int _, by simp only [cost]; omega, fun H4 s4 => ⟨_, rfl, ?_⟩⟩
        replace s1 := s1.trans s4
        cases hmn : intD (.int (m + n)) with
        | false =>
          refine iteT (kT ?_ _ s1)
          rw [eS, hmn]
          rfl
        | true =>
          have t1 := (Kp.same (ex := ex) s1).tup tx
          refine iteF ⟨_, rfl, _, rfl, _, rfl, _, _, rfl, t1, fun p H5 s5 h5 => ?_⟩
          rw [cutV_last] at h5
          replace s1 := s1.trans s5
          refine ⟨_, _, rfl, .inl h5.sq, _, rfl, by rw [List.length_append, sizeLine_eq]; simp only [List.length_cons, List.length_nil]; omega, fun q H6 s6 h6 => ?_⟩
          have s16 := s1.trans s6
          exact kS _ (by rw [eS, hmn]; rfl) q H6 s16 (.tupM h6 ((dx'.kp (Kp.same s16)).app (.cons (.int _) .nil)))
end
end Kx
namespace Kx
open PySem PySem.Spec PyProof.Rows L2
/-- slot i is empty again behind the clause -/
def wiped (i : Nat) (D : Ends) : Ends := { nx := fun σ H => D.nx (σ.set i none) H, rt := D.rt, bk := fun σ H => D.bk (σ.set i none) H, ct := fun σ H => D.ct (σ.set i none) H }
abbrev Hnd := Value × Option Nat × (Addr → Value → Option Addr → TS)
/-- what several clauses wish of an exception, some of which give it a name -/
def wClauses (K : PySem.W.Frag) (n : Nat) (Wout : WX) (D : Ends) : List Hnd → WX
  | [] => Wout
  | (c, none, ts) :: r => fun cls d σ H => ∃ b, PySem.W.exmOne K cls c = some b ∧ (b = true → ∀ a, H a = none → ts a cls d D σ H) ∧ (b = false → wClauses K n Wout D r cls d σ H)
  | (c, some i, ts) :: r => fun cls d σ H => ∃ b, PySem.W.exmOne K cls c = some b ∧ (b = true → ∀ a, H a = none → σ.length = n → ts a cls d (wiped i D) (σ.set i (some (.ref a))) H) ∧ (b = false → wClauses K n Wout D r cls d σ H)
inductive Clauses (X : Cx) : List ExceptHandler → List Hnd → Prop
  | nil : Clauses X [] []
  | plain {x : Str} {c : Value} {ts : Addr → Value → Option Addr → TS} {b₀ : Stmt} {suite : List Stmt} {np q : Pos} {hds : List ExceptHandler} {l : List Hnd} (nm : L2.Names X x c)
      (su : ∀ (a : Addr) (oe : Obj) (cls : Value) (d : Option Addr) (pn : List (Addr × Obj)), Zc cls d oe → (∃ vs, oe.data = .fields vs) → PSs (X.suite a ((a, oe) :: pn)) (b₀ :: suite) (ts a cls d)) (r : Clauses X hds l) :
      Clauses X (.ExceptHandler (some (.Name x np)) none (b₀ :: suite) q :: hds) ((c, none, ts) :: l)
  | named {x n : Str} {i : Nat} {c : Value} {ts : Addr → Value → Option Addr → TS} {b₀ : Stmt} {suite : List Stmt} {np q : Pos} {hds : List ExceptHandler} {l : List Hnd} (hi : X.N[i]? = some n) (loc : X.env.kindOf n = some .local) (nm : L2.Names X x c)
      (su : ∀ (a : Addr) (oe : Obj) (cls : Value) (d : Option Addr) (pn : List (Addr × Obj)), Zc cls d oe → (∃ vs, oe.data = .fields vs) → PSs (X.suite a ((a, oe) :: pn)) (b₀ :: suite) (ts a cls d)) (r : Clauses X hds l) :
      Clauses X (.ExceptHandler (some (.Name x np)) (some n) (b₀ :: suite) q :: hds) ((c, some i, ts) :: l)
section
variable {X : Cx} {body : List Stmt} {c₀ : ExceptHandler} {cl : List ExceptHandler} {l : List Hnd} {pos : Pos} {tb : WX → TS} {Wout : WX}
theorem ps_try_clauses (st : X.stack = X.env :: X.outer) (fr : X.env.frame = some X.env.locals) (nd : X.N.Nodup) (tk : Takes X Wout)
    (pb : ∀ (W : WX) (pn : List (Addr × Obj)) (xe : Value → Shared → Prop), Takes (X.tr pn xe) W → PassesOwn (model X.prog X.w) X.A X.env xe → PSs (X.tr pn xe) body (tb W))
    (pc : Clauses X (c₀ :: cl) l) : PS X (.Try body (c₀ :: cl) [] [] pos) (fun D σ H => tb (wClauses X.K X.N.length Wout D l) D σ H) := by
  refine ⟨fun pins s σ H D I h => wpAny_Try_except ?_⟩
  have ok := I.ok
  have frames : X.A.frames = some (X.env :: X.outer) := ok.frames.trans (congrArg some st)
  have run := (pb (wClauses X.K X.N.length Wout D l) (X.pn ++ pins) (fun e t1 => wpAny (model X.prog X.w) X.A (noteFrame e X.env) (fun _ t2 => wpAny (model X.prog X.w) X.A (setFlight e none) (fun _ t3 =>
    wpAny (model X.prog X.w) X.A (handleBy e X.env (c₀ :: cl)) (SP X pins D) X.xe t3) X.xe t2) X.xe t1) (fun u t xx => ?_) PassesOwn.looking).run [] s σ H D (I.toTry _) h
  · refine wpAny_mono run (fun f t1 sp => ?_) (fun _ _ z => z)
    cases f with
    | next =>
      obtain ⟨σ1, H1, I1, z⟩ := sp
      exact wpAny_execs_nil ⟨σ1, H1, I1.ofTry ok, z⟩
    | brk =>
      obtain ⟨σ1, H1, I1, z⟩ := sp
      exact ⟨σ1, H1, I1.ofTry ok, z⟩
    | cont =>
      obtain ⟨σ1, H1, I1, z⟩ := sp
      exact ⟨σ1, H1, I1.ofTry ok, z⟩
    | ret u =>
      obtain ⟨v, σ1, H1, I1, rv, z⟩ := sp
      exact ⟨v, σ1, H1, I1.ofTry ok, rv, z⟩
  · obtain ⟨a, B, t0, pins1, σ1, H1, cls, d, rfl, J0, nb, up, sky, na, os, ag, wish⟩ := xx
    have J : Inv X pins σ1 H1 t0 := J0.ofTry ok
    have sky1 : Sky B (X.env :: X.outer) a (Zc cls d) X.env.locals t.heap := st ▸ sky
    show wpAny (model X.prog X.w) X.A (noteFrame (.ref a) X.env) _ _ _
    refine Sky.land Zc.steady frames fr sky1 fun g fly upg => ?_
    have Jg : Inv X pins σ1 H1 { t with heap := g } := J.landed nb fly.1 (up.trans upg) os ag
    obtain ⟨og, fg, atg, zg, dg⟩ := fly.there
    have off : a ∉ frs (X.env :: X.outer) := fun m => by
      obtain ⟨_, o', e', no⟩ := fly.2.2.1.mem m
      have z := atg.symm.trans e'
      cases z
      exact no _ dg
    have offL : a ≠ X.env.locals := fun z => off (List.mem_filterMap.mpr ⟨X.env, List.mem_cons_self, fr.trans (congrArg some z.symm)⟩)
    have offF : a ∉ X.fs := fun m => by
      obtain ⟨e, he, q⟩ := List.mem_filterMap.mp m
      exact off (List.mem_filterMap.mpr ⟨e, List.mem_cons_of_mem _ he, q⟩)
    have Sg := Jg.suite atg dg na offL offF
    -- the class that a clause names
    have ask : ∀ {x : Str} {c : Value} {np : Pos} {Q E : Value → Shared → Prop}, L2.Names X x c → Q c { t with heap := g } → wpAny (model X.prog X.w) (X.A.mark (some (.ref a))) (eval (.Name x np) X.env) Q E { t with heap := g } :=
      fun {x c np Q E} ⟨gl, nb, hm⟩ q => by
        rcases hm with m | ⟨m, v, ne⟩
        · exact ld_glob (X := X.suite a ((a, og) :: (X.pn ++ pins))) Sg gl m q nb
        · exact ld_blt (X := X.suite a ((a, og) :: (X.pn ++ pins))) Sg gl m v q ne nb
    have cl0 : PySem.W.Looks (model X.prog X.w) g (typeOf (.ref a)) cls := fun A Q E t k q => wpAny_typeOf_ref (k _ _ atg) (zg.1 ▸ q)
    have all : ∀ {hs : List ExceptHandler} {ks : List Hnd}, Clauses X hs ks → wClauses X.K X.N.length Wout D ks cls d σ1 H1 → wpAny (model X.prog X.w) X.A (handleBy (.ref a) X.env hs) (SP X pins D) X.xe { t with heap := g } := by
      intro hs ks pk
      induction pk with
      | nil =>
        intro wish
        refine wpAny_handleBy_nil ?_
        obtain ⟨_, _, _, oe, vs, T, _, _, at2, _, d2, h1, _⟩ := id fly
        have over : wpAny (model X.prog X.w) X.A (setFlight (.ref a) X.env.frame) (fun _ t4 => wpAny (model X.prog X.w) X.A (throw (.ref a) : Sem Flow) (SP X pins D) X.xe t4) X.xe { t with heap := g } := by
          rw [fr]
          refine HandSPX.setFlight_upZ fly fun g4 held up4 => wpAny_throw (tk _ _ ?_)
          exact ⟨a, B, t0, pins, σ1, H1, cls, d, rfl, J, nb, (up.trans upg).trans up4, .inr (.inr (st ▸ held)), na, os, ag, wish⟩
        unfold PySem.passOn
        refine wpAny_bind (wpAny_field at2 d2 h1 ?_)
        rw [if_neg (show ¬ ((Value.ref T == Value.none) = true) from fun z => by simp at z)]
        first
          | exact wpAny_bind over
          | exact wpAny_bind (wpAny_pure (wpAny_bind over))
      | @plain x c ts b₀ suite np q hds2 l2 nm su r ih =>
        intro wish
        obtain ⟨b, eb, yes, no⟩ := wish
        refine wpAny_handleBy_cons (codeAny_handlers_test (ask nm ((PySem.W.exm_one (M := model X.prog X.w) Jg.kIn cl0 eb).here ?_))) (fun q => by cases q)
        cases b with
        | false => exact ih (no rfl)
        | true =>
          refine codeAny_handlers_suite (HandSPX.lands_againZ fly fun g4 fly4 up4 => ?_)
          have J4 : Inv X pins σ1 H1 { t with heap := g4 } := J.landed nb fly4.1 ((up.trans upg).trans up4) os ag
          obtain ⟨o4, f4, at4, z4, d4⟩ := fly4.there
          refine wpAny_mono ((su a o4 cls d (X.pn ++ pins) z4 ⟨_, d4⟩).run [] _ _ H1 _ (J4.suite at4 d4 na offL offF) (yes rfl a na)) (fun f t6 sp => ?_) (fun _ _ z => z.elim)
          cases f with
          | next =>
            obtain ⟨σ6, H6, S6, z⟩ := sp
            exact ⟨σ6, H6, S6.unsuite ok, z⟩
          | brk =>
            obtain ⟨σ6, H6, S6, z⟩ := sp
            exact ⟨σ6, H6, S6.unsuite ok, z⟩
          | cont =>
            obtain ⟨σ6, H6, S6, z⟩ := sp
            exact ⟨σ6, H6, S6.unsuite ok, z⟩
          | ret u =>
            obtain ⟨v6, σ6, H6, S6, r6, z⟩ := sp
            exact ⟨v6, σ6, H6, S6.unsuite ok, r6, z⟩
      | @named x n i c ts b₀ suite np q hds2 l2 hi loc nm su r ih =>
        intro wish
        obtain ⟨b, eb, yes, no⟩ := wish
        refine wpAny_handleBy_cons (codeAny_handlers_test (ask nm ((PySem.W.exm_one (M := model X.prog X.w) Jg.kIn cl0 eb).here ?_))) (fun q => by cases q)
        cases b with
        | false => exact ih (no rfl)
        | true =>
          refine codeAny_handlers_suite_as (HandSPX.lands_againZ fly fun g4 fly4 up4 => ?_)
          have J4 : Inv X pins σ1 H1 { t with heap := g4 } := J.landed nb fly4.1 ((up.trans upg).trans up4) os ag
          obtain ⟨o4, f4, at4, z4, d4⟩ := fly4.there
          refine store_ok (X := X.suite a ((a, o4) :: (X.pn ++ pins))) (v := .ref a) (J4.suite at4 d4 na offL offF) nd hi (.inl loc) rfl (fun t5 S5 => ?_) (.inr loc)
          refine wpAny_mono ((su a o4 cls d (X.pn ++ pins) z4 ⟨_, d4⟩).run [] t5 _ H1 _ S5 (yes rfl a na J.len)) (fun f t6 sp => ?_) (fun _ _ z => z.elim)
          have wipe : ∀ {σ6 : L2.St} {H6 : Hp} {Q : Shared → Prop}, Inv (X.suite a ((a, o4) :: (X.pn ++ pins))) [] σ6 H6 t6 → (∀ t7, Inv X pins (σ6.set i none) H6 t7 → Q t7) →
              wpAny (model X.prog X.w) X.A (do bindName X.env n .none; unbindBehindTheSuite X.env n q) (fun _ t7 => Q t7) X.xe t6 := fun S6 k => gone_ok (S6.unsuite ok) nd hi loc k
          cases f with
          | next =>
            obtain ⟨σ6, H6, S6, z⟩ := sp
            exact wipe S6 fun t7 J7 => ⟨_, _, J7, z⟩
          | brk =>
            obtain ⟨σ6, H6, S6, z⟩ := sp
            exact wipe S6 fun t7 J7 => ⟨_, _, J7, z⟩
          | cont =>
            obtain ⟨σ6, H6, S6, z⟩ := sp
            exact wipe S6 fun t7 J7 => ⟨_, _, J7, z⟩
          | ret u =>
            obtain ⟨v6, σ6, H6, S6, r6, z⟩ := sp
            exact wipe S6 fun t7 J7 => ⟨_, _, _, J7, r6, z⟩
    exact all pc wish
end
end Kx
namespace Kx
open PySem PySem.Spec PyProof.Rows L2
section
variable {X : Cx}
/-- repr of any datum -/
def rRepr3 : List V → Hp → VK → Prop := fun xs H Q => ∃ v d, xs = [v] ∧ Dv (fun _ => False) H v d ∧ okD d ∧ d.depth ≤ 60 ∧ cost d ≤ sizeLine ∧ Q (.str d.shown) H
theorem call_repr3 {om : Obj} (hK : X.K.lookup sysModules = some om) (hg : X.A.guards = some []) (hu : X.A.units + 64 < cLine) : CallR X (.builtin "repr") rRepr3 := by
  intro pins s σ H xs us Q I r h
  obtain ⟨v, d, rfl, dv, ok, hd, hc, q⟩ := h
  have hsm : H sysModules = none := (I.bs _ _ (I.ok.mod.kin _ _ hK)).2
  obtain ⟨u, rfl, rx⟩ := vals1 r
  have sh := okD_showable d ok
  have fit := Nat.le_trans (shown_le d ok) hc
  have text : ∀ (z : Str) (t : Tok), z = d.shown → ∃ v1 H1, Inv X pins σ H1 { s with toks := s.toks + 1 } ∧ RelV v1 (Value.str z t) ∧ Q v1 H1 := fun z t e => ⟨.str z, H, I.tok _, ⟨t, rfl⟩, e ▸ q⟩
  cases dv with
  | non =>
    cases rx
    exact PySem.P.repr_of_none (text _ _ (by simp only [PyData.shown]))
  | bl b =>
    cases rx
    exact PySem.P.repr_of_bool (text _ _ (by simp only [PyData.shown]))
  | int i =>
    obtain ⟨t, rfl⟩ := rx
    exact PySem.P.repr_of_int (by simpa [PyData.showable] using sh) (text _ _ (by simp only [PyData.shown]))
  | str x =>
    obtain ⟨t, rfl⟩ := rx
    exact PySem.P.repr_of_str (text _ _ (by simp only [PyData.shown])) (by simpa only [PyData.shown] using fit)
  | lst a b c =>
    obtain ⟨as, hr, hs⟩ := Dv.reads I hsm _ _ _ (Dv.lst a b c) rx
    cases rx
    exact repr_of_reads' hr sh (fun _ => hs) hg (by omega) (fun _ _ e => e) (fun h' u tk hk => ⟨.str _, H, I.kept hk, ⟨u, rfl⟩, q⟩) fit
  | tup a b c =>
    obtain ⟨as, hr, hs⟩ := Dv.reads I hsm _ _ _ (Dv.tup a b c) rx
    cases rx
    exact repr_of_reads' hr sh (fun _ => hs) hg (by omega) (fun _ _ e => e) (fun h' u tk hk => ⟨.str _, H, I.kept hk, ⟨u, rfl⟩, q⟩) fit
  | dic a b c =>
    obtain ⟨as, hr, hs⟩ := Dv.reads I hsm _ _ _ (Dv.dic a b c) rx
    cases rx
    exact repr_of_reads' hr sh (fun _ => hs) hg (by omega) (fun _ _ e => e) (fun h' u tk hk => ⟨.str _, H, I.kept hk, ⟨u, rfl⟩, q⟩) fit
end
abbrev N_law_met : List Str := ["call", "error"]
abbrev P_law_met : List Str := ["call"]
theorem sc_law_met : FnScope N_law_met P_law_met (defScope s_law_met) := ⟨rfl, rfl, rfl, by decide +kernel, rfl, by decide +kernel, by decide +kernel⟩
/-- what _law_met makes of what it is handed -/
def TTmet (IT IN : Addr) : (XK → Hp → VK → Prop) → Hp → VK → Prop := fun tl H Q => tl (fun cls d H' => (cls = .ref IT ∧ Q (.str "term") H') ∨
  (cls = .ref IN ∧ ∃ dd v e, d = some dd ∧ H' dd = some (.xd [("given", v)]) ∧ Dv (fun _ => False) H' v e ∧ okD e ∧ e.depth ≤ 60 ∧ cost e ≤ 10000000 ∧ Q (.str ("number " ++ e.shown)) H')) H Q
theorem met_gives {X : Cx} {q : Str} {g IT IN : Addr} {cdg : Value} {om : Obj} (hK : X.K.lookup sysModules = some om) (hgd : X.A.guards = some []) (hu : X.A.units + 70 < cLine) (gT : X.mg "InvalidTerm" = some (.ref IT)) (gN : X.mg "InvalidNumber" = some (.ref IN)) (hR : X.mg "repr" = none)
    (m1 : PySem.W.exmOne X.K (.ref IT) (.ref IT) = some true) (m2 : PySem.W.exmOne X.K (.ref IN) (.ref IT) = some false) (m3 : PySem.W.exmOne X.K (.ref IN) (.ref IN) = some true) (xN : XfC X.K IN) (no : PySem.W.findIn X.K (.ref IN) "given" = some none) :
    LamX.GivesTo X N_law_met "_law_met" (defScope s_law_met) g cdg (defBody s_law_met) "call" q (TTmet IT IN) := by
  intro f c' s H Q tl act hc h
  refine ⟨_, pss_one (ps_try_clauses (Wout := fun _ _ _ _ => False) (l := [(.ref IT, none, fun a cls d => tRet (tC (.str "term"))), (.ref IN, some 1, _)])
      (tb := fun W D σ H => ∃ Ech : XK, (∀ cls d σ' H', Ech cls d H' → W cls d σ' H') ∧ σ[0]? = some (some (.ref f)) ∧ H c' = some (LamX.CodeO c' q) ∧ tl Ech H D.rt)
      rfl rfl sc_law_met.nd LamX.takes0 (fun W pn xe tk _ => ?_) (.plain ⟨rfl, rfl, .inl gT⟩ (fun a oe cls d pn _ _ => pss_one (ps_ret pe_str)) (.named rfl rfl ⟨rfl, rfl, .inl gN⟩
        (fun a oe cls d pn hz hf => pss_one (ps_ret (pe_op op_add_str pe_str (pe_callB (call_repr3 hK hgd (by show X.A.units + 3 + 64 < cLine; omega)) (by rfl) hR (by decide +kernel) (pa_cons (pe_xf xN no hz hf (pv 1)) pa_nil))))) .nil))), ?_⟩
  · refine ⟨fun pins t σ1 H1 D I hh => ?_⟩
    obtain ⟨Ech, hW, h1, h2, h3⟩ := hh
    exact (pss_one (ps_ret (act W pn xe Ech _ _ tk hW))).run pins t σ1 H1 D I ⟨h1, h2, h3⟩
  · refine ⟨_, fun cls d σ' H' hE => ?_, rfl, hc, h⟩
    rcases hE with ⟨rfl, hq⟩ | ⟨rfl, dd, v, e, rfl, hdd, dv, oke, dpe, ce, hq⟩
    · exact ⟨true, m1, fun _ a _ => hq, fun z => (by cases z)⟩
    · refine ⟨false, m2, fun z => (by cases z), fun _ => ⟨true, m3, fun _ a ha hl => ?_, fun z => (by cases z)⟩⟩
      have hL := sizeLine_eq
      have hsh := shown_le e oke
      have h7 : ("number " : Str).length = 7 := by decide +kernel
      have hget : (σ'.set 1 (some (V.ref a)))[1]? = some (some (V.ref a)) := List.getElem?_set_self (by rw [hl]; show 1 < N_law_met.length; decide)
      exact ⟨_, hget, rfl, rfl, dd, _, v, rfl, hdd, rfl, v, e, rfl, dv, oke, dpe, by omega, _, _, rfl, rfl, by rw [h7]; omega, hq⟩
end Kx
namespace Kx
open PySem PySem.Spec PyProof.Rows L2
section
variable {ex : Addr → Prop} {H H' : Hp}
mutual
theorem Dv.extN (k : LamX.ExtN H H') : ∀ {v : V} {d : PyData}, Dv ex H v d → Dv ex H' v d
  | _, _, .non => .non
  | _, _, .bl b => .bl b
  | _, _, .int i => .int i
  | _, _, .str x => .str x
  | _, _, .lst n e l => .lst n (k _ _ e fun _ z => by cases z) (DvL.extN k l)
  | _, _, .tup d e l => .tup d (k _ _ e fun _ z => by cases z) (DvL.extN k l)
  | _, _, .dic n e l => .dic n (k _ _ e fun _ z => by cases z) (DvK.extN k l)
theorem DvL.extN (k : LamX.ExtN H H') : ∀ {vs : List V} {ds : List PyData}, DvL ex H vs ds → DvL ex H' vs ds
  | _, _, .nil => .nil
  | _, _, .cons a b => .cons (Dv.extN k a) (DvL.extN k b)
theorem DvK.extN (k : LamX.ExtN H H') : ∀ {vs : List (Key × V)} {ds : List (PyData × PyData)}, DvK ex H vs ds → DvK ex H' vs ds
  | _, _, .nil => .nil
  | _, _, .cons a b => .cons (Dv.extN k a) (DvK.extN k b)
end
end
theorem FrameAt.ext {C x : Addr} {H H' : Hp} {va vp vv : V} {ps : List (Str × Str)} {ns us : List Str} (h : FrameAt C H x va vp vv ps ns us) (k : LamX.ExtN H H') : FrameAt C H' x va vp vv ps ns us := by
  have kA : Kp All H H' := fun a o ha z => by
    obtain ⟨ob, u, rfl⟩ := z trivial
    exact k a _ ha fun ps q => (by cases q)
  obtain ⟨⟨dx, LB, LT, KD, h1, h2, h3, h4⟩, da, dp, dv, r1, r2, r3, r4, r5⟩ := h
  exact ⟨⟨dx, LB, LT, KD, k _ _ h1 (fun ps q => by cases q), k _ _ h2 (fun ps q => by cases q), kA.tup h3, k _ _ h4 (fun ps q => by cases q)⟩, da.kp kA, dp.kp kA, dv.kp kA, r1, r2, r3, r4, r5⟩
theorem dupW {S T : Hp → V → Prop} {goal : Prop} (main : (∀ G w, S G w → T G w) → goal) (body : ∀ G w, S G w → T G w) : goal := main body
theorem flat_str {d : PyData} (h : isStrD d = true) : flatD d := by cases d <;> first | exact ⟨rfl, rfl, rfl⟩ | (cases h; done)
theorem flat_int {d : PyData} (h : intD d = true) : flatD d := by cases d <;> first | exact ⟨rfl, rfl, rfl⟩ | (cases h; done)
theorem str_kind {ps : List (Str × Str)} {ns us : List Str} {k : Str} {d : PyData} (h : kindD ps ns us k d = true) : isStrD d = true := by cases d <;> first | rfl | (cases h; done)
theorem str_name {ps : List (Str × Str)} {ns us ow : List Str} {d : PyData} (h : nameAtD ps ns us ow d = true) : isStrD d = true := by
  cases e : isStrD d with
  | true => rfl
  | false =>
    rw [nameAt_no e] at h
    cases h
theorem str_empty {d : PyData} (h : PyData.eqv d (.str "") = true) : isStrD d = true := by cases d <;> first | rfl | (cases h; done)
theorem and_l {a b : Bool} (h : (a && b) = true) : a = true := ((Bool.and_eq_true _ _).mp h).1
theorem and_r {a b : Bool} (h : (a && b) = true) : b = true := ((Bool.and_eq_true _ _).mp h).2
/-- the items of a term are flat -/
theorem term_flat {ps : List (Str × Str)} {ns us : List Str} : ∀ {ds : List PyData}, termD ps ns us (.tuple ds) = true → ∀ c ∈ ds, flatD c
  | [a, b], h => by
    have z : flatD a ∧ flatD b := by
      rcases (Bool.or_eq_true _ _).mp h with h | h
      · exact ⟨flat_str (str_name (and_r h)), flat_int (and_l h)⟩
      · refine ⟨?_, flat_int (and_r h)⟩
        rcases (Bool.or_eq_true _ _).mp (and_l h) with h | h
        · exact flat_str (str_empty h)
        · exact flat_str (str_kind h)
    intro c hc
    simp only [List.mem_cons, List.not_mem_nil, or_false] at hc
    rcases hc with rfl | rfl
    · exact z.1
    · exact z.2
  | [a, b, c, e], h => by
    have h : amountD ps ns us [] (.tuple [a, b, c, e]) = true := h
    have h1 := and_l h
    have h2 : placeD ps ns us [] (.tuple [b, c]) = true := and_l (and_r h)
    intro x hx
    simp only [List.mem_cons, List.not_mem_nil, or_false] at hx
    rcases hx with rfl | rfl | rfl | rfl
    · exact flat_str (str_kind h1)
    · exact flat_str (str_name (and_r h2))
    · exact flat_int (and_l h2)
    · exact flat_int (and_r (and_r h))
  | [], h => by cases h
  | [_], h => by cases h
  | [_, _, _], h => by cases h
  | _ :: _ :: _ :: _ :: _ :: _, h => by cases h
theorem flat_dep : ∀ {ds : List PyData}, (∀ d ∈ ds, flatD d) → PyData.depthAll ds = 0
  | [], _ => by simp [PyData.depthAll]
  | x :: r, h => by
    have h1 := flat_dep fun d hd => h d (List.mem_cons_of_mem _ hd)
    have h2 : x.depth = 0 := by
      obtain ⟨a, b, c⟩ := h x List.mem_cons_self
      cases x with
      | list _ => cases a
      | tuple _ => cases b
      | dict _ => cases c
      | _ => simp [PyData.depth]
    simp only [PyData.depthAll, h1, h2]; rfl
/-- what is due, by what shifted comes to -/
def RelD (e : PyData) (r : ShD) (z : PyData) : Prop := (r = .term → z = .str "term") ∧ (r = .number → z = .str ("number " ++ e.shown)) ∧ ∀ y, r = .sum y → z = y
section
variable {P : Program} {w : World} {K : PySem.W.Frag} {mg : Str → Option Value} {base : Heap}
abbrev N_law_shifted_right : List Str := ["frame", "parts", "value", "number", "due"]
abbrev P_law_shifted_right : List Str := ["frame", "parts", "value", "number"]
theorem sc_law_shifted_right : FnScope N_law_shifted_right P_law_shifted_right (defScope s_law_shifted_right) := ⟨rfl, rfl, rfl, by decide +kernel, rfl, by decide +kernel, by decide +kernel⟩
def spSR (C To Tv : Addr) (Tt : List (Addr × Str)) : Sp := fun vs H Q _ => ∃ (ex : Addr → Prop) (x R : Addr) (v u va vp vv va2 vp2 vv2 : V) (d e : PyData) (ps : List (Str × Str)) (ns us : List Str), vs = [.ref x, .ref R, v, u] ∧ FrameAt C H x va vp vv ps ns us ∧ RecAt H R va2 vp2 vv2 ps ns us ∧ Dv ex H v d ∧ NrOk d ∧ Dv ex H u e ∧
  cpOk 2 e ∧ okD e ∧ e.depth ≤ 10 ∧ cost e ≤ 1000 ∧ (intD e = false → okS e.shown) ∧ TupF H To [] ∧ TupF H Tv [] ∧ LamX.Tabs Tt H ∧ ∀ H', LamX.ExtN H H' → LamX.Tabs Tt H' → Q (.bl true) H'
theorem ok_sr {om : Obj} (hK : K.lookup sysModules = some om) (T : Bt mg) {C To Tv IT IN fS f c Pt : Addr} {fdS : FuncData} {oc : Value} {od : Option Addr} {dV kV doc pm ct : Value} {an : Option Addr} {osl : Array (Option Value)} {Tt : List (Addr × Str)} (X : Fx K mg C)
    (lk : K.lookup f = some ⟨oc, od, .func (PySem.W.fnOf "_law_shifted_right" "_law_shifted_right" (defArgs s_law_shifted_right) (defBody s_law_shifted_right) (defScope s_law_shifted_right) dV kV doc pm an (.ref c) ct), osl⟩) (hcd : PySem.W.codeIn K (.ref c) "_law_shifted_right" = true)
    (hM : Has K mg "_law_met" s_law_met) (TB : LamX.TabB base mg c Pt) (hmT : ∀ n, (Pt, (envOfC "_law_shifted_right" (defScope s_law_shifted_right) n f (.ref c)).qual ++ "<lambda>") ∈ Tt) (huT : ∀ n, ∀ p ∈ Tt, p.1 = Pt → p.2 = (envOfC "_law_shifted_right" (defScope s_law_shifted_right) n f (.ref c)).qual ++ "<lambda>")
    (gIT : mg "InvalidTerm" = some (.ref IT)) (gIN : mg "InvalidNumber" = some (.ref IN)) (hRp : mg "repr" = none) (m1 : PySem.W.exmOne K (.ref IT) (.ref IT) = some true) (m2 : PySem.W.exmOne K (.ref IN) (.ref IT) = some false) (m3 : PySem.W.exmOne K (.ref IN) (.ref IN) = some true)
    (xN : XfC K IN) (noG : PySem.W.findIn K (.ref IN) "given" = some none) (FS : FnOk P w K mg base (L2.CX P w) 6 fS fdS P_Frame_shifted (spShR C To Tv IT IN)) (mS : Meth K C "shifted" fS) (bS : Binds K fdS P_Frame_shifted [])
    (C1 : Ca P w K mg base 1 "_law_is_number" P_law_is_number (spJudge intD)) (C2 : Ca P w K mg base 2 "_law_is_position" P_law_is_position (spLPos placeD)) (C3 : Ca P w K mg base 3 "_law_is_value" P_law_is_value (spLPos amountD)) :
    FnOkG P w K mg base CX0 9 f (PySem.W.fnOf "_law_shifted_right" "_law_shifted_right" (defArgs s_law_shifted_right) (defBody s_law_shifted_right) (defScope s_law_shifted_right) dV kV doc pm an (.ref c) ct) P_law_shifted_right (spSR C To Tv Tt) := by
  obtain ⟨_, _, c__law_is_number⟩ := C1
  obtain ⟨_, _, c__law_is_position⟩ := C2
  obtain ⟨_, _, c__law_is_value⟩ := C3
  obtain ⟨g, fdM, FM, gM⟩ := hM
  have bM := FM.bindsN (ps := ["call"]) (fun _ _ _ _ _ _ us hl => match us, hl with | [_], _ => rfl)
  obtain ⟨oc2, od2, dV2, kV2, doc2, pm2, an2, cdv2, ct2, osl2, rfl, lkM, hcM, _, _⟩ := FM.ex
  have len : ∀ vs H Q E, spSR C To Tv Tt vs H Q E → vs.length = P_law_shifted_right.length := fun vs H Q E h => by
    obtain ⟨ex, x, R, v, u, va, vp, vv, va2, vp2, vv2, d, e, ps, ns, us, rfl, _⟩ := h
    rfl
  refine ⟨len, fun A outer s H args us0 vs Q E hgd hr e0 bd r h => LamX.run_ofS lk hcd sc_law_shifted_right hr e0 bd r (len _ _ _ _ h) fun hr => ?_⟩
  obtain ⟨ex, x, R, v, u, va, vp, vv, va2, vp2, vv2, d, e, ps, ns, us, rfl, fr, re, dv, nr, de, ce, oke, dpe, cte, okw, tP, tV, tabs, k⟩ := h
  have hun : (A.deeper (envOfC "_law_shifted_right" (defScope s_law_shifted_right) s.heap.objs.size f (.ref c))).units + 70 < cLine := by
    have := hr.un
    omega
  have vM : Vis (defScope s_law_met) "call" := by first | exact .inl rfl | exact .inr (.inl rfl)
  refine ⟨_, (pss_cons (ps_set (i := 4) sc_law_shifted_right.nd rfl (.inl rfl) (pe_op op_add_str pe_str (pe_callB (call_repr3 hK hgd hr.units) (by rfl) T.repr (by decide +kernel) (pa_cons (pv 3) pa_nil))))
    (pss_cons (ps_if (PW.pt (pw_and (pt_not (pt_val (pe_call c__law_is_position.1 (hr.mono (by decide)) rfl c__law_is_position.2.1 c__law_is_position.2.2.1 c__law_is_position.2.2.2 .nil pass0 (pa_cons (pv 1) (pa_cons (pv 2) (pa_cons (pe_tupF pa_nil) pa_nil)))))) (pw_and1 (pt_not (pt_val (pe_call c__law_is_value.1 (hr.mono (by decide)) rfl c__law_is_value.2.1 c__law_is_value.2.2.1 c__law_is_value.2.2.2 .nil pass0 (pa_cons (pv 1) (pa_cons (pv 2) (pa_cons (pe_tupF pa_nil) pa_nil))))))))) (pss_one (ps_set (i := 4) sc_law_shifted_right.nd rfl (.inl rfl) pe_str)) (pss_one (ps_if (pt_val (pe_call c__law_is_number.1 (hr.mono (by decide)) rfl c__law_is_number.2.1 c__law_is_number.2.2.1 c__law_is_number.2.2.2 .nil pass0 (pa_cons (pv 3) pa_nil))) (pss_one (ps_set (i := 4) sc_law_shifted_right.nd rfl (.inl rfl) (pe_ifExp (pt_val (pe_call c__law_is_number.1 (hr.mono (by decide)) rfl c__law_is_number.2.1 c__law_is_number.2.2.1 c__law_is_number.2.2.2 .nil pass0 (pa_cons (pe_op op_add (pe_ix ix_tup (pv 2) (pe_un un_neg pe_int) (fun _ _ => rfl)) (pv 3)) pa_nil))) (pe_op op_catF (pe_slice sl_tupF (pv 2) po_none (po_some (pe_un un_neg pe_int))) (pe_tupF (pa_cons (pe_op op_add (pe_ix ix_tup (pv 2) (pe_un un_neg pe_int) (fun _ _ => rfl)) (pv 3)) pa_nil))) pe_str))) pss_nil)))
    (pss_one (ps_ret (pe_cmpR op_eq (pe_callB (call_repr3 hK hgd hr.units) (by rfl) T.repr (by decide +kernel) (pa_cons (LamX.pe_lamcall (T := Tt) (k := 6) rfl gM FM.kp lkM hcM bM sc_law_met rfl vM (met_gives hK hgd hun gIT gIN hRp m1 m2 m3 xN noG) TB rfl (hmT _) (huT _) (hr.mono (by decide)) (LamX.lamS_by (by show LamX.lamSB (defScope s_law_shifted_right) _ = true; decide +kernel)) rfl (fun _ _ _ _ _ => rfl) (fun A2 outer2 s2 H2 E2 f2 c2 hr2 => pe_meth (pv 0) X.cl mS FS (hr2.mono (by decide)) bS .nil (L2.passes_call (L2.takes_of rfl rfl rfl rfl) (fun cls d σ H h => h)) (pa_cons (pv 2) (pa_cons (pv 3) pa_nil)))) pa_nil)) (pe_callB (call_repr3 hK hgd hr.units) (by rfl) T.repr (by decide +kernel) (pa_cons (pv 4) pa_nil)) (nomark _)))))), ?_⟩
  obtain ⟨sh, cd, okd, dpd⟩ := nr
  have nd := fr.nd
  have hL := sizeLine_eq
  have hsh := shown_le e oke
  have h7 : ("number " : Str).length = 7 := by decide +kernel
  have deF : Dv (fun _ => False) H u e := de.mono Kp.refl fun _ z => z.elim
  apply dupW (S := fun G z => ∃ q, Same H G ∧ Dv (fun _ => False) G z q ∧ cpOk 2 q ∧ okD q ∧ q.depth ≤ 60 ∧ cost q ≤ 10000000 ∧ RelD e (shD ps ns us d e) q)
  · intro rest
    refine ⟨_, rfl, u, e, rfl, deF, oke, by omega, by omega, _, _, rfl, rfl, by rw [h7]; omega, ?_⟩
    refine ⟨_, rfl, _, rfl, Nat.zero_le _, fun e0 H1 s1 h0 => ⟨ex, R, e0, v, _, _, _, d, ps, ns, us, [], rfl, re.same s1, dv.kp (Kp.same s1), sh, h0, by simp, nd, fun H2 s2 => ⟨_, rfl, ?_⟩⟩⟩
    replace s1 := s1.trans s2
    clear s2 h0
    cases e1 : placeD ps ns us [] d
    case' true =>
      have ht : termD ps ns us d = true := by rw [termD, e1, Bool.true_or]
      refine iteF (iteF ?_)
    case' false =>
      refine iteT ⟨_, rfl, _, rfl, Nat.zero_le _, fun e0 H3 s3 h0 => ⟨ex, R, e0, v, _, _, _, d, ps, ns, us, [], rfl, re.same (s1.trans s3), dv.kp (Kp.same (s1.trans s3)), sh, h0, by simp, nd, fun H4 s4 => ⟨_, rfl, ?_⟩⟩⟩
      replace s1 := (s1.trans s3).trans s4
      clear s3 s4 h0
      have ht : termD ps ns us d = amountD ps ns us [] d := by rw [termD, e1, Bool.false_or]
      cases e2 : amountD ps ns us [] d
      case' true =>
        rw [e2] at ht
        refine iteF ?_
      case false =>
        rw [e2] at ht
        have hR : RelD e (shD ps ns us d e) (.str "term") := by
          rw [shD, ht]
          exact ⟨fun _ => rfl, fun z => (by cases z), fun y z => (by cases z)⟩
        refine iteT ?_
        clear e1 e2 ht
        dsimp only [tAsg, tC, gName]
        change tRet _ _ [some (V.ref x), some (V.ref R), some v, some u, some (V.str "term")] H4
        have hS : ∃ q, Same H H4 ∧ Dv (fun _ => False) H4 (V.str "term") q ∧ cpOk 2 q ∧ okD q ∧ q.depth ≤ 60 ∧ cost q ≤ 10000000 ∧ RelD e (shD ps ns us d e) q :=
          ⟨.str "term", s1, .str _, .inl ⟨rfl, rfl, rfl⟩, show okS "term" by unfold okS; decide +kernel, by simp only [PyData.depth]; omega, by decide +kernel, hR⟩
        generalize V.str "term" = w0 at hS ⊢
        exact rest H4 w0 hS
    all_goals
      obtain ⟨cs, m, rfl, hcs⟩ := term_last ht
      refine ⟨_, rfl, ex, _, e, rfl, de.kp (Kp.same s1), by omega, fun H3 s3 => ⟨_, rfl, ?_⟩⟩
      replace s1 := s1.trans s3
      clear s3
      cases en : intD e with
      | false =>
        have hS : ∃ q, Same H H3 ∧ Dv (fun _ => False) H3 (V.str ("number " ++ e.shown)) q ∧ cpOk 2 q ∧ okD q ∧ q.depth ≤ 60 ∧ cost q ≤ 10000000 ∧ RelD e (shD ps ns us (.tuple (cs ++ [.int m])) e) q := by
          refine ⟨.str ("number " ++ e.shown), s1, .str _, .inl ⟨rfl, rfl, rfl⟩, ?_, by simp only [PyData.depth]; omega, ?_, ?_⟩
          · exact okS_app (by unfold okS; decide +kernel) (okw en)
          · simp only [cost]
            rw [strLen_append, h7]
            omega
          · rw [shD, ht, en]
            exact ⟨fun z => (by cases z), fun _ => rfl, fun y z => (by cases z)⟩
        exact iteF (rest H3 _ hS)
      | true =>
        obtain ⟨n, rfl⟩ : ∃ n, e = .int n := by cases e <;> first | exact ⟨_, rfl⟩ | (cases en; done)
        cases de.intI
        have eS : shD ps ns us (.tuple (cs ++ [.int m])) (.int n) = if intD (.int (m + n)) then .sum (.tuple (cs ++ [.int (m + n)])) else .term := by
          rw [shD, ht, en, ← sum_of]
          rfl
        obtain ⟨a, xs0, rfl, tx, dl⟩ := dv.tupI
        obtain ⟨xs, zs, rfl, dx', h2⟩ := dl.appI
        obtain rfl : zs = [.int m] := by
          cases h2 with
          | cons q r =>
            cases r
            cases q.intI
            rfl
        have lx := dx'.len
        have t1 := (Kp.same (ex := ex) s1).tup tx
        refine iteT ⟨_, rfl, _, rfl, _, _, _, _, rfl, rfl, t1.sq, atI_last _ _, _, rfl, _, _, rfl, rfl, ex, _, .int (m + n), rfl, .int _, by simp only [cost]; omega, fun H5 s5 => ⟨_, rfl, ?_⟩⟩
        replace s1 := s1.trans s5
        clear s5 t1
        have t1 := (Kp.same (ex := ex) s1).tup tx
        cases hmn : intD (.int (m + n)) with
        | false =>
          have hS : ∃ q, Same H H5 ∧ Dv (fun _ => False) H5 (V.str "term") q ∧ cpOk 2 q ∧ okD q ∧ q.depth ≤ 60 ∧ cost q ≤ 10000000 ∧ RelD (.int n) (shD ps ns us (.tuple (cs ++ [.int m])) (.int n)) q := by
            rw [eS, hmn]
            exact ⟨.str "term", s1, .str _, .inl ⟨rfl, rfl, rfl⟩, show okS "term" by unfold okS; decide +kernel, by simp only [PyData.depth]; omega, by decide +kernel, fun _ => rfl, fun z => (by cases z), fun y z => (by cases z)⟩
          exact iteF (rest H5 _ hS)
        | true =>
          refine iteT ⟨_, rfl, _, rfl, _, rfl, _, _, rfl, t1, fun p H6 s6 h6 => ?_⟩
          rw [cutV_last] at h6
          have s16 := s1.trans s6
          have t6 := (Kp.same (ex := ex) s16).tup tx
          refine ⟨_, rfl, _, rfl, _, _, _, _, rfl, rfl, t6.sq, atI_last _ _, _, rfl, _, _, rfl, rfl, by show 1 ≤ sizeLine; decide, fun p2 H7 s7 h8 => ?_⟩
          refine ⟨p, p2, _, _, rfl, rfl, (Kp.same (ex := ex) s7).tup h6, h8, by simp only [List.length_cons, List.length_nil]; omega, fun t H8 s8 h9 => ?_⟩
          have s18 := (s16.trans s7).trans s8
          have hfl : ∀ c ∈ cs ++ [PyData.int (m + n)], flatD c := fun c hc => by
            rcases List.mem_append.mp hc with hc | hc
            · exact term_flat ht c (List.mem_append.mpr (.inl hc))
            · rw [List.mem_singleton.mp hc]
              exact ⟨rfl, rfl, rfl⟩
          have hS : ∃ q, Same H H8 ∧ Dv (fun _ => False) H8 (V.ref t) q ∧ cpOk 2 q ∧ okD q ∧ q.depth ≤ 60 ∧ cost q ≤ 10000000 ∧ RelD (.int n) (shD ps ns us (.tuple (cs ++ [.int m])) (.int n)) q := by
            rw [eS, hmn]
            refine ⟨.tuple (cs ++ [.int (m + n)]), s18, .tupM h9 (((dx'.mono Kp.refl fun _ z => z.elim : DvL (fun _ => False) H xs cs).kp (Kp.same s18)).app (.cons (.int _) .nil)), ?_, ?_, ?_, ?_, fun z => (by cases z), fun z => (by cases z), fun y z => (by cases z; rfl)⟩
            · exact .inr ⟨_, rfl, by rw [List.length_append]; simp only [List.length_cons, List.length_nil]; omega, hfl⟩
            · simp only [okD]
              refine okL_mem.mpr fun c hc => ?_
              rcases List.mem_append.mp hc with hc | hc
              · exact okL_mem.mp (by simpa only [okD] using okd) c (List.mem_append.mpr (.inl hc))
              · rw [List.mem_singleton.mp hc]
                have := of_decide_eq_true hmn
                unfold lim at this
                show (m + n).natAbs < 10 ^ 100
                omega
            · simp only [PyData.depth]
              rw [flat_dep hfl]
              omega
            · simp only [cost] at cd ⊢
              rw [costL_app] at cd ⊢
              simp only [costL, cost] at cd ⊢
              omega
          exact rest H8 _ hS
  · intro G z hS
    obtain ⟨q, sG, dz, cpz, okz, dpz, cz, rel⟩ := hS
    refine ⟨fun p hp => (tabs p hp).ext sG, fun H1 eN tabs1 => ?_⟩
    have eH : LamX.ExtN H H1 := (LamX.ExtN.of sG).trans eN
    have kA : Kp All H H1 := fun a o h z => eH a o h fun ps q => by
      subst q
      obtain ⟨ob, u, e⟩ := z trivial
      cases e
    have fr1 := fr.ext eH
    obtain ⟨dx, LB, LT, KD, hx, _⟩ := fr1.ob
    have fz : ∀ {H2 : Hp}, Same H1 H2 → ∀ a o u, G a = some (.frz o u) → H2 a = some (.frz o u) := fun s2 a o u h => s2 _ _ (eN _ _ h fun ps q => (by cases q))
    have fin : ∀ {H2 : Hp}, Same H1 H2 → Q (.bl true) H2 := fun s2 => k _ (eH.trans (LamX.ExtN.of s2)) (tabs1.ext s2)
    refine ⟨_, rfl, x, dx, _, rfl, hx, rfl, _, rfl, _, rfl, ex, x, v, u, _, _, _, d, e, ps, ns, us, rfl, fr1, dv.extN eH, sh, de.extN eH, ce, by omega, kA.tup tP, kA.tup tV, fun hs H2 s2 => .inl ⟨rfl, ?_⟩, fun hs dd v' H2 s2 hd dv2 => .inr ⟨rfl, dd, v', e, rfl, hd, dv2.mono Kp.refl (fun _ z => z.elim), oke, by omega, by omega, ?_⟩, fun y hs t H2 s2 dz2 => ?_⟩
    · obtain rfl := rel.1 hs
      exact ⟨_, .str "term", rfl, .str _, okz, dpz, by omega, _, rfl, z, _, rfl, cp_any cpz dz (fz s2), okz, dpz, by omega, rfl, by rw [decide_eq_true rfl]; exact fin s2⟩
    · obtain rfl := rel.2.1 hs
      exact ⟨_, _, rfl, .str _, okz, dpz, by omega, _, rfl, z, _, rfl, cp_any cpz dz (fz s2), okz, dpz, by omega, rfl, by rw [decide_eq_true rfl]; exact fin s2⟩
    · obtain rfl := rel.2.2 y hs
      exact ⟨_, _, rfl, dz2.mono Kp.refl (fun _ z => z.elim), okz, dpz, by omega, _, rfl, z, _, rfl, cp_any cpz dz (fz s2), okz, dpz, by omega, rfl, by rw [decide_eq_true rfl]; exact fin s2⟩
end
end Kx
namespace Kx
open PySem PySem.Spec PyProof.Rows L2
theorem letB_eq {ps : List (Str × Str)} {ns us : List Str} (h : Names ps ns us) : letB ps ns us = decide ((allN ps ns us).Nodup ∧ ps.length ≤ 12 ∧ ns.length ≤ 6 ∧ us.length ≤ 6) := by
  by_cases q : (allN ps ns us).Nodup ∧ ps.length ≤ 12 ∧ ns.length ≤ 6 ∧ us.length ≤ 6
  · rw [decide_eq_true q]
    obtain ⟨q1, q2, q3, q4⟩ := q
    refine frameD_good ⟨q2, q3, q4, fun z hz => ?_, q1⟩
    rcases List.mem_append.mp hz with hz | hz
    · obtain ⟨p, hp, rfl⟩ := List.mem_map.mp hz
      exact (h.1 p hp).1
    · rcases List.mem_append.mp hz with hz | hz
      · obtain ⟨p, hp, rfl⟩ := List.mem_map.mp hz
        exact (h.1 p hp).2
      · rcases List.mem_append.mp hz with hz | hz
        · exact h.2.1 z hz
        · exact h.2.2 z hz
  · rw [decide_eq_false q]
    cases e : letB ps ns us with
    | false => rfl
    | true =>
      exfalso
      apply q
      have e' : ((arrsD (.tuple (ps.map pairD)) && (namesD 6 (.tuple (ns.map .str)) && namesD 6 (.tuple (us.map .str)))) && decide (allN (psOf (.tuple (ps.map pairD))) (nsOf (.tuple (ns.map .str))) (nsOf (.tuple (us.map .str)))).Nodup) = true := e
      rw [Bool.and_eq_true, Bool.and_eq_true, Bool.and_eq_true] at e'
      obtain ⟨⟨e1, e2, e3⟩, e4⟩ := e'
      have a1 := (arrs_true e1).2.1
      have a2 := (names_true e2).2.1
      have a3 := (names_true e3).2.1
      rw [ps_map] at a1
      rw [ns_map] at a2 a3
      rw [ps_map, ns_map, ns_map] at e4
      exact ⟨of_decide_eq_true e4, a1, a2, a3⟩
theorem make_specA {C I : Addr} {H : Hp} {wa wp wv : V} {qs : List (Str × Str)} {ms ts : List Str} {Qa : Addr → Hp → Prop} {E : XK} (h : Prt H wa wp wv qs ms ts)
    (kg : letB qs ms ts = true → ∀ y H', FrameAt C H' y wa wp wv qs ms ts → Same H H' → Qa y H') (kb : letB qs ms ts = false → ∀ H', Same H H' → E (.ref I) none H') :
    ∀ x dx, H x = none → H dx = none → dx ≠ x → spInit C I [.ref x, wa, wp, wv] (upd (upd H dx (.own x)) x (.ins C dx [])) (fun v H2 => v = .non ∧ Qa x H2) E :=
  make_spec (Q := fun v H => match v with | .ref a => Qa a H | _ => False) h kg kb
/-- all but the pot and tables stays -/
def KpT (p : Addr) (H H' : Hp) : Prop := ∀ b o, H b = some o → b ≠ p → (∀ ps, o ≠ .tbl ps) → H' b = some o
theorem KpT.refl {p : Addr} {H : Hp} : KpT p H H := fun _ _ h _ _ => h
theorem KpT.trans {p : Addr} {H H1 H2 : Hp} (a : KpT p H H1) (b : KpT p H1 H2) : KpT p H H2 := fun c o h n t => b c o (a c o h n t) n t
theorem KpT.ofP {p : Addr} {H H' : Hp} (k : KpP p H H') : KpT p H H' := fun b o h n _ => k b o h fun z => absurd z n
theorem KpT.ofN {p : Addr} {H H' : Hp} (k : LamX.ExtN H H') : KpT p H H' := fun b o h _ t => k b o h t
theorem KpT.all {p : Addr} {n : Nat} {H H' : Hp} (k : KpT p H H') (hp : PotAt H p n) : Kp All H H' := fun a o h z => by
  obtain ⟨ob, u, rfl⟩ := z trivial
  refine k a _ h (fun e => ?_) fun ps q => by cases q
  obtain ⟨x, y, w, e1, _⟩ := hp
  rw [e, e1] at h
  cases h
theorem FrameAt.kpT {C x p : Addr} {n : Nat} {H H' : Hp} {va vp vv : V} {ps : List (Str × Str)} {ns us : List Str} (h : FrameAt C H x va vp vv ps ns us) (k : KpT p H H') (hp : PotAt H p n) : FrameAt C H' x va vp vv ps ns us := by
  have kA := k.all hp
  have np : ∀ {b : Addr} {o : HO}, H b = some o → (∀ xs, o ≠ .lst xs) → b ≠ p := fun hb ne z => by
    obtain ⟨_, _, _, e1, _⟩ := hp
    rw [z, e1] at hb
    exact ne _ (Option.some.inj hb).symm
  obtain ⟨⟨dx, LB, LT, KD, h1, h2, h3, h4⟩, da, dp, dv, r1, r2, r3, r4, r5⟩ := h
  exact ⟨⟨dx, LB, LT, KD, k _ _ h1 (np h1 fun xs q => by cases q) (fun ps q => by cases q), k _ _ h2 (np h2 fun xs q => by cases q) (fun ps q => by cases q), kA.tup h3, k _ _ h4 (np h4 fun xs q => by cases q) (fun ps q => by cases q)⟩, da.kp kA, dp.kp kA, dv.kp kA, r1, r2, r3, r4, r5⟩
theorem RecAt.kpT {p R : Addr} {n : Nat} {H H' : Hp} {va vp vv : V} {ps : List (Str × Str)} {ns us : List Str} (h : RecAt H R va vp vv ps ns us) (k : KpT p H H') (hp : PotAt H p n) (ne : R ≠ p) : RecAt H' R va vp vv ps ns us :=
  ⟨k _ _ h.l ne (fun ps q => by cases q), h.pt.kp (k.all hp), h.b1, h.b2, h.b3⟩
theorem tabs_kpP {p : Addr} {n : Nat} {H H' : Hp} {T : List (Addr × Str)} (t : LamX.Tabs T H) (k : KpP p H H') (hp : PotAt H p n) : LamX.Tabs T H' := fun x hx => by
  obtain ⟨ps, h1, h2, h3⟩ := t x hx
  obtain ⟨_, _, _, e1, _⟩ := hp
  have np : ∀ {b : Addr} {o : HO}, H b = some o → (∀ xs, o ≠ .lst xs) → b ≠ p := fun hb ne z => by
    rw [z, e1] at hb
    exact ne _ (Option.some.inj hb).symm
  refine ⟨ps, k.get h1 (np h1 fun xs q => by cases q), h2, fun pos cv hc => ?_⟩
  obtain ⟨c, a1, a2⟩ := h3 pos cv hc
  exact ⟨c, a1, k.get a2 (np a2 fun xs q => by unfold LamX.CodeO at q; cases q)⟩
/-- what may stand for a number -/
def NumOk (p : Addr) (G : Hp) (u : V) : Prop := ∃ e, Dv (fun a => a = p) G u e ∧ cpOk 2 e ∧ okD e ∧ e.depth ≤ 10 ∧ cost e ≤ 1000 ∧ (intD e = false → okS e.shown)
theorem flt_out (zs l : List Str) : (l.filterMap fun y => if y ∈ zs then none else some (V.str y)) = (l.filter fun y => !decide (y ∈ zs)).map V.str := by
  induction l with
  | nil => rfl
  | cons x r ih =>
    by_cases h : x ∈ zs
    · simp [h, ih]
    · simp [h, ih]
section
variable {P : Program} {w : World} {K : PySem.W.Frag} {mg : Str → Option Value} {base : Heap}
abbrev N_law_right : List Str := ["pot", "parts", "frame", "names", "mine", "turn", "value", "text", "due", "again", "told", "some", "number", "name"]
abbrev P_law_right : List Str := ["pot"]
theorem sc_law_right : FnScope N_law_right P_law_right (defScope s_law_right) := ⟨rfl, rfl, rfl, by decide +kernel, rfl, by decide +kernel, by decide +kernel⟩
def spRight (To Tv : Addr) (Tt : List (Addr × Str)) : Sp := fun vs H Q _ => ∃ (p : Addr) (n : Nat), vs = [.ref p] ∧ PotAt H p n ∧ n ≤ 400000 ∧ TupF H To [] ∧ TupF H Tv [] ∧ LamX.Tabs Tt H ∧
  ∀ (H' : Hp), PotAt H' p (n + 3000) → KpT p H H' → LamX.Tabs Tt H' → Q (.bl true) H'
theorem ok_right {om : Obj} (hK : K.lookup sysModules = some om) (T : Bt mg) {C I f0 To Tv : Addr} {fd0 : FuncData} {Tt : List (Addr × Str)} (X : Fx K mg C) (h : Has K mg "_law_right" s_law_right) (M : Mk K C f0) (F0 : FnOk P w K mg base (L2N.CX P w) 5 f0 fd0 P_Frame_init (spInit C I)) (b0 : Binds K fd0 P_Frame_init [])
    (C1 : Ca P w K mg base 1 "_law_dip" P_law_dip spDip) (C2 : Ca P w K mg base 2 "_law_choose" P_law_choose spChoose) (C3 : Ca P w K mg base 5 "_law_parts" P_law_parts spParts) (C4 : Ca P w K mg base 2 "_law_shuffled" P_law_shuffled spShuf)
    (C5 : Ca P w K mg base 6 "_law_near" P_law_near spNear) (C6 : Ca P w K mg base 2 "_law_is_position" P_law_is_position (spLPos placeD)) (C7 : Ca P w K mg base 3 "_law_is_value" P_law_is_value (spLPos amountD)) (C8 : Ca P w K mg base 3 "_law_number" P_law_number spNumber)
    (C9 : CaG P w K mg base 9 "_law_shifted_right" P_law_shifted_right (spSR C To Tv Tt)) (D1 : Me P w K mg base C 1 "__contains__" P_Frame_contains (spHas C))
    (MP : Mo P w K mg base C To 5 "is_position_term" P_Frame_is_position_term (spIsP C placeD)) (MV : Mo P w K mg base C Tv 5 "is_value_term" P_Frame_is_value_term (spIsP C amountD)) :
    CaG P w K mg base 10 "_law_right" P_law_right (spRight To Tv Tt) := by
  obtain ⟨_, _, c__law_dip⟩ := C1
  obtain ⟨_, _, c__law_choose⟩ := C2
  obtain ⟨_, _, c__law_parts⟩ := C3
  obtain ⟨_, _, c__law_shuffled⟩ := C4
  obtain ⟨_, _, c__law_near⟩ := C5
  obtain ⟨_, _, c__law_is_position⟩ := C6
  obtain ⟨_, _, c__law_is_value⟩ := C7
  obtain ⟨_, _, c__law_number⟩ := C8
  obtain ⟨_, _, c__law_shifted_right⟩ := C9
  obtain ⟨_, _, c_contains⟩ := D1
  obtain ⟨_, _, FP, mP, ⟨_, dP, bP⟩, _, kP⟩ := MP
  obtain ⟨_, _, FV, mV, ⟨_, dV, bV⟩, _, kV⟩ := MV
  refine calG_of h sc_law_right (fun _ _ _ _ _ _ us hl => match us, hl with | [_], _ => rfl) (fun vs H Q E h => ?_) (fun f cdv A outer s H vs Q E hgd hr h => ?_)
  · obtain ⟨p, n, rfl, _⟩ := h
    rfl
  · obtain ⟨p, n, rfl, hp, hn, tP, tV, tabs, k⟩ := h
    refine ⟨_, (pss_cons (ps_set (i := 1) sc_law_right.nd rfl (.inl rfl) (pe_call c__law_parts.1 (hr.mono (by decide)) rfl c__law_parts.2.1 c__law_parts.2.2.1 c__law_parts.2.2.2 .nil pass0 (pa_cons (pv 0) (pa_cons (pe_call c__law_choose.1 (hr.mono (by decide)) rfl c__law_choose.2.1 c__law_choose.2.2.1 c__law_choose.2.2.2 .nil pass0 (pa_cons (pv 0) (pa_cons (pe_lst (pa_cons pe_int (pa_cons pe_int (pa_cons pe_int pa_nil)))) pa_nil))) (pa_cons (pe_call c__law_choose.1 (hr.mono (by decide)) rfl c__law_choose.2.1 c__law_choose.2.2.1 c__law_choose.2.2.2 .nil pass0 (pa_cons (pv 0) (pa_cons (pe_lst (pa_cons pe_int (pa_cons pe_int (pa_cons pe_int pa_nil)))) pa_nil))) pa_nil)))))
      (pss_cons (ps_set (i := 2) sc_law_right.nd rfl (.inr rfl) (pe_make M F0 (hr.mono (by decide)) rfl X.mgC b0 .nil (L2N.passes_call takesF (fun cls d σ H h => h)) (pa_cons (pe_ix ix_list (pv 1) pe_int (fun _ _ => rfl)) (pa_cons (pe_ix ix_list (pv 1) pe_int (fun _ _ => rfl)) (pa_cons (pe_ix ix_list (pv 1) pe_int (fun _ _ => rfl)) pa_nil)))))
      (pss_cons (ps_setLc (i := 3) (own := [("name", 13)]) (g := (gName 13)) (by rfl) sc_law_right.nd rfl rfl (sw_true rfl rfl rfl (by decide +kernel)) (pi_tup (pe_tupF (pa_cons pe_str (pa_cons pe_str (pa_cons pe_str (pa_cons pe_str (pa_cons pe_str pa_nil))))))) (blkOk_by (own := [("name", 13)]) (N := ["pot", "parts", "frame", "names", "mine", "turn", "value", "text", "due", "again", "told", "some", "number", "name"]) (sc := defScope s_law_right) (by decide +kernel)) (fun _ _ _ _ _ => pg_name (i := 13) sc_law_right.nd rfl (Or.inl rfl)) (fun _ _ _ _ _ => pts_one (pt_cmpR (op_notInO X.cl c_contains.2.1.at_ c_contains.2.1.fn c_contains.1 (hr.mono (by decide)) c_contains.2.2 pass0) (pv 13) (pv 2) rfl)) (fun _ _ _ _ _ => (pv 13)))
      (pss_cons (ps_set (i := 4) sc_law_right.nd rfl (.inl rfl) (pe_callTy call_tupF (by rfl) T.tuple (by decide +kernel) (pa_cons (pe_slice sl_list (pe_call c__law_shuffled.1 (hr.mono (by decide)) rfl c__law_shuffled.2.1 c__law_shuffled.2.2.1 c__law_shuffled.2.2.2 .nil pass0 (pa_cons (pv 0) (pa_cons (pv 3) pa_nil))) po_none (po_some (pe_call c__law_dip.1 (hr.mono (by decide)) rfl c__law_dip.2.1 c__law_dip.2.2.1 c__law_dip.2.2.2 .nil pass0 (pa_cons (pv 0) (pa_cons pe_int pa_nil))))) pa_nil)))
      (pss_cons (ps_for PassesOwn.never rfl (pi_range1 rfl T.range (pa_cons pe_int pa_nil)) (pg_name (i := 5) sc_law_right.nd rfl (.inl rfl))
        (pss_cons (ps_set (i := 6) sc_law_right.nd rfl (.inl rfl) (pe_call c__law_near.1 (hr.mono (by decide)) rfl c__law_near.2.1 c__law_near.2.2.1 c__law_near.2.2.2 .nil pass0 (pa_cons (pv 0) (pa_cons (pv 1) (pa_cons (pv 4) pa_nil)))))
        (pss_cons (ps_set (i := 7) sc_law_right.nd rfl (.inl rfl) (pe_callB (call_repr3 hK hgd hr.units) (by rfl) T.repr (by decide +kernel) (pa_cons (pv 6) pa_nil)))
        (pss_cons (ps_set (i := 8) sc_law_right.nd rfl (.inl rfl) (pe_lst (pa_cons (pe_call c__law_is_position.1 (hr.mono (by decide)) rfl c__law_is_position.2.1 c__law_is_position.2.2.1 c__law_is_position.2.2.2 .nil pass0 (pa_cons (pv 1) (pa_cons (pv 6) (pa_cons (pe_tupF pa_nil) pa_nil)))) (pa_cons (pe_call c__law_is_value.1 (hr.mono (by decide)) rfl c__law_is_value.2.1 c__law_is_value.2.2.1 c__law_is_value.2.2.2 .nil pass0 (pa_cons (pv 1) (pa_cons (pv 6) (pa_cons (pe_tupF pa_nil) pa_nil)))) pa_nil))))
        (pss_cons (ps_set (i := 8) sc_law_right.nd rfl (.inl rfl) (pe_op op_cat (pv 8) (pe_lst (pa_cons (pe_call c__law_is_position.1 (hr.mono (by decide)) rfl c__law_is_position.2.1 c__law_is_position.2.2.1 c__law_is_position.2.2.2 .nil pass0 (pa_cons (pv 1) (pa_cons (pv 6) (pa_cons (pv 4) pa_nil)))) (pa_cons (pe_call c__law_is_value.1 (hr.mono (by decide)) rfl c__law_is_value.2.1 c__law_is_value.2.2.1 c__law_is_value.2.2.2 .nil pass0 (pa_cons (pv 1) (pa_cons (pv 6) (pa_cons (pv 4) pa_nil)))) pa_nil)))))
        (pss_cons (ps_for PassesOwn.never rfl (pi_range1 rfl T.range (pa_cons pe_int pa_nil)) (pg_name (i := 9) sc_law_right.nd rfl (.inl rfl))
          (pss_cons (ps_set (i := 10) sc_law_right.nd rfl (.inl rfl) (pe_lst (pa_cons (pe_meth (pv 2) X.cl mP FP (hr.mono (by decide)) bP dP pass0 (pa_cons (pv 6) pa_nil)) (pa_cons (pe_meth (pv 2) X.cl mV FV (hr.mono (by decide)) bV dV pass0 (pa_cons (pv 6) pa_nil)) pa_nil))))
          (pss_cons (ps_set (i := 10) sc_law_right.nd rfl (.inl rfl) (pe_op op_cat (pv 10) (pe_lst (pa_cons (pe_methPK (pv 2) X.cl mP FP (hr.mono (by decide)) kP pass0 (pa_cons (pv 6) pa_nil) (pk_cons (pv 4) pk_nil)) (pa_cons (pe_methPK (pv 2) X.cl mV FV (hr.mono (by decide)) kV pass0 (pa_cons (pv 6) pa_nil) (pk_cons (pv 4) pk_nil)) pa_nil)))))
          (pss_one (ps_if (PW.pt (pw_or (pt_cmpR op_ne (pe_callB (call_repr3 hK hgd hr.units) (by rfl) T.repr (by decide +kernel) (pa_cons (pv 10) pa_nil)) (pe_callB (call_repr3 hK hgd hr.units) (by rfl) T.repr (by decide +kernel) (pa_cons (pv 8) pa_nil)) (nomark _)) (pw_or1 (pt_cmpR op_ne (pe_callB (call_repr3 hK hgd hr.units) (by rfl) T.repr (by decide +kernel) (pa_cons (pv 6) pa_nil)) (pv 7) (nomark _))))) (pss_one (ps_ret pe_bl)) pss_nil)))))
        (pss_cons (ps_set (i := 11) sc_law_right.nd rfl (.inl rfl) (pe_lst (pa_cons pe_int (pa_cons pe_int (pa_cons (pe_un un_neg pe_int) (pa_cons pe_int (pa_cons (pe_op op_pow pe_int pe_int) (pa_cons (pe_un un_neg (pe_op op_pow pe_int pe_int)) (pa_cons (pe_op op_pow pe_int pe_int) (pa_cons pe_non (pa_cons pe_bl (pa_cons pe_str (pa_cons (pe_tupF (pa_cons pe_int pa_nil)) (pa_cons (pe_call c__law_number.1 (hr.mono (by decide)) rfl c__law_number.2.1 c__law_number.2.2.1 c__law_number.2.2.2 .nil pass0 (pa_cons (pv 0) pa_nil)) pa_nil))))))))))))))
        (pss_cons (ps_set (i := 12) sc_law_right.nd rfl (.inl rfl) (pe_call c__law_choose.1 (hr.mono (by decide)) rfl c__law_choose.2.1 c__law_choose.2.2.1 c__law_choose.2.2.2 .nil pass0 (pa_cons (pv 0) (pa_cons (pv 11) pa_nil))))
        (pss_one (ps_if (PW.pt (pw_or (pt_not (pt_val (pe_callG c__law_shifted_right.1 hgd (hr.mono (by decide)) rfl c__law_shifted_right.2.1 c__law_shifted_right.2.2.1 c__law_shifted_right.2.2.2 pass0 (pa_cons (pv 2) (pa_cons (pv 1) (pa_cons (pv 6) (pa_cons (pv 12) pa_nil))))))) (pw_or1 (pt_cmpR op_ne (pe_callB (call_repr3 hK hgd hr.units) (by rfl) T.repr (by decide +kernel) (pa_cons (pv 6) pa_nil)) (pv 7) (nomark _))))) (pss_one (ps_ret pe_bl)) pss_nil))))))))))
      (pss_one (ps_ret pe_bl))))))), ?_⟩
    have room : ∀ m : Nat, m ≤ 10000 → m ≤ sizeLine := fun m h => by rw [sizeLine_eq]; omega
    have any : ∀ {X Y : Hp}, Same X Y → Kp All X Y := fun h => Kp.same h
    refine ⟨_, rfl, _, rfl, room 3 (by decide), fun l1 hl1 => ⟨p, n, _, _, rfl, hp.same (Same.upd hl1), by omega, .inl ⟨l1, rfl, hp.ne hl1, upd_same⟩, by show 1 ≤ 3; decide, by show 3 ≤ 1000; decide, fun i v H1 hv hp1 hk1 => ?_⟩⟩
    obtain ⟨t, rfl, ht0, ht1⟩ : ∃ t : Int, v = .int t ∧ 0 ≤ t ∧ t ≤ 12 := by
      have all : ∀ v ∈ ([.int 1, .int 2, .int 12] : List V), ∃ m : Int, v = .int m ∧ 0 ≤ m ∧ m ≤ 12 := (by repeat (first | exact List.forall_mem_nil _ | refine List.forall_mem_cons.mpr ⟨⟨_, rfl, by decide, by decide⟩, ?_⟩))
      exact all v (List.mem_of_getElem? hv)
    clear hv
    have hk1 : KpP p H H1 := (Kp.new hl1).trans hk1
    refine ⟨_, rfl, room 3 (by decide), fun l2 hl2 => ⟨p, n + 1, _, _, rfl, hp1.same (Same.upd hl2), by omega, .inl ⟨l2, rfl, hp1.ne hl2, upd_same⟩, by show 1 ≤ 3; decide, by show 3 ≤ 1000; decide, fun i v H2 hv hp2 hk2 => ?_⟩⟩
    obtain ⟨m, rfl, hm0, hm1⟩ : ∃ t : Int, v = .int t ∧ 0 ≤ t ∧ t ≤ 6 := by
      have all : ∀ v ∈ ([.int 1, .int 2, .int 6] : List V), ∃ m : Int, v = .int m ∧ 0 ≤ m ∧ m ≤ 6 := (by repeat (first | exact List.forall_mem_nil _ | refine List.forall_mem_cons.mpr ⟨⟨_, rfl, by decide, by decide⟩, ?_⟩))
      exact all v (List.mem_of_getElem? hv)
    clear hv
    have hk2 : KpP p H H2 := hk1.trans ((Kp.new hl2).trans hk2)
    refine ⟨p, n + 2, t, m, rfl, hp2, by omega, ht0, ht1, hm0, hm1, fun R x0 y0 z0 ps ns us H3 hR0 eR0 good d0 d1 d2 hp3 hk3 => ?_⟩
    have nRp : R ≠ p := hp2.ne hR0
    have hk3 : KpP p H H3 := hk2.trans hk3
    obtain ⟨g1, g2, g3', gok, gnd⟩ := id good
    have fnm : Names ps ns us := ⟨fun q hq => ⟨gok q.1 (List.mem_append.mpr (.inl (List.mem_map.mpr ⟨q, hq, rfl⟩))), gok q.2 (List.mem_append.mpr (.inr (List.mem_append.mpr (.inl (List.mem_map.mpr ⟨q, hq, rfl⟩)))))⟩, fun z hz => gok z (List.mem_append.mpr (.inr (List.mem_append.mpr (.inr (List.mem_append.mpr (.inl hz)))))), fun z hz => gok z (List.mem_append.mpr (.inr (List.mem_append.mpr (.inr (List.mem_append.mpr (.inr hz))))))⟩
    have rec3 : RecAt H3 R x0 y0 z0 ps ns us := ⟨eR0, ⟨d0 All, d1 All, d2 All, by omega, by omega, by omega, fnm⟩, by omega, by omega, by omega⟩
    have lb : letB ps ns us = true := by
      rw [letB_eq fnm]
      exact decide_eq_true ⟨gnd, g1, g2, g3'⟩
    refine ⟨_, rfl, R, _, 0, _, rfl, rfl, SqL.of eR0, rfl, _, rfl, R, _, 1, _, rfl, rfl, SqL.of eR0, rfl, _, rfl, R, _, 2, _, rfl, rfl, SqL.of eR0, rfl, ?_⟩
    refine make_specA rec3.pt (fun _ x H4 fx s4 => ?_) (fun e => absurd (lb.symm.trans e) (by decide))
    obtain ⟨dx, _, _, _, hx, _⟩ := id fx.ob
    have hp4 := hp3.same s4
    have hk4 : KpP p H H4 := hk3.trans (Kp.same s4)
    have rec4 := rec3.same s4
    have kT4 : KpP p H H4 := hk4
    clear rec3 hk3 hk2 hk1 hp3 hp2 hp1 s4 hl1 hl2 eR0 d0 d1 d2
    -- names
    obtain ⟨W4, hW4⟩ : ∃ W : List Str, W = (["k", "kk", "j", "own", "all"] : List Str) := ⟨_, rfl⟩
    have w4n : ∀ z ∈ W4, NameS z := by
      rw [hW4]
      intro z hz
      simp only [List.mem_cons, List.not_mem_nil, or_false] at hz
      rcases hz with rfl | rfl | rfl | rfl | rfl <;> decide +kernel
    have w4d : W4.Nodup := by rw [hW4]; decide +kernel
    have w4l : W4.length = 5 := by rw [hW4]; rfl
    have w4e : ([V.str "k", V.str "kk", V.str "j", V.str "own", V.str "all"] : List V) = W4.map V.str := by rw [hW4]; rfl
    refine ⟨by show 5 ≤ sizeLine; decide, fun t0 H5 s5 h0 => ?_⟩
    rw [w4e] at h0
    refine ⟨t0, rfl, ⟨_, h0.sq⟩, fun D hD => ?_⟩
    refine lc_o (walk_tup (K := K) (a := t0) (xs := W4.map V.str)) (fun j => W4[j]?.bind fun y => if y ∈ allN ps ns us then none else some (V.str y)) (by rw [List.length_map, w4l, sizeLine_eq]; decide) hD (fun G sm => ((any sm).tup h0).sq) ?_ ?_
    · rintro j v G G' Nx hj sm hDx ⟨rfl, hv⟩ hno hyes
      rw [List.getElem?_map] at hv
      cases ey : W4[j]? with
      | none => rw [ey] at hv; cases hv
      | some y =>
        rw [ey] at hv
        cases hv
        have sG := s5.trans sm
        refine ⟨rfl, _, rfl, _, rfl, x, dx, _, rfl, sG _ _ hx, fun _ => True, x, _, _, _, ps, ns, us, _, .str y, rfl, fx.same sG, .str y, _, rfl, _, rfl, ?_⟩
        by_cases hy : y ∈ allN ps ns us
        · rw [show hasD ps ns us (.str y) = true from decide_eq_true hy]
          refine iteF (hno ?_ _ Same.refl)
          rw [ey]
          simp only [Option.bind_some, if_pos hy]
        · rw [show hasD ps ns us (.str y) = false from decide_eq_false hy]
          refine iteT ⟨_, rfl, hyes _ ?_ _ Same.refl⟩
          rw [ey]
          simp only [Option.bind_some, if_neg hy]
    intro H6 s6 eD
    rw [List.length_map, range_bind, flt_out] at eD
    have s46 := s5.trans s6
    have hp6 := hp4.same s46
    have nDp : D ≠ p := (hp4.same s5).ne hD
    have fl5 : (W4.filter fun y => !decide (y ∈ allN ps ns us)).length ≤ 5 := by rw [← w4l]; exact List.length_filter_le _ _
    -- mine
    refine ⟨_, rfl, _, rfl, p, D, n + 402, _, rfl, hp6.mono (by omega), by omega, eD, nDp, by omega, fun D2 ws H7 hD2 perm eD2 hp7 hk7 => ?_⟩
    refine ⟨_, rfl, p, n + 410, _, rfl, hp7.mono (by omega), by omega, by decide, by decide, fun d H8 e0 e1 hp8 hk8 => ?_⟩
    have h30 : ∃ m : Nat, d = m ∧ m ≤ 2 := ⟨d.toNat, by omega, by omega⟩
    obtain ⟨dm, rfl, hdm⟩ := h30
    have nD2p : D2 ≠ p := hp6.ne hD2
    have eD28 := hk8.get eD2 nD2p
    refine ⟨_, rfl, D2, _, rfl, SqL.of eD28, fun N hN => ?_⟩
    rw [cut_take _ _ (by omega : (0 : Int) ≤ (dm : Int)), Int.toNat_natCast, ← List.map_take]
    obtain ⟨ow, how⟩ : ∃ ow, ow = ws.take dm := ⟨_, rfl⟩
    rw [← how]
    have wsd : ws.Nodup := perm.nodup_iff.mpr (w4d.sublist List.filter_sublist)
    have own : OwnOk ps ns us ow := by
      refine ⟨by rw [how, List.length_take]; omega, by rw [how]; exact wsd.sublist (List.take_sublist _ _), fun z hz => ?_⟩
      rw [how] at hz
      have := List.mem_filter.mp (perm.mem_iff.mp (List.mem_of_mem_take hz))
      exact ⟨w4n z this.1, by simpa using this.2⟩
    have on : ∀ z ∈ ow, NameS z := fun z hz => by
      rw [how] at hz
      exact w4n z (List.mem_filter.mp (perm.mem_iff.mp (List.mem_of_mem_take hz))).1
    have ol : ow.length ≤ 5 := by rw [how, List.length_take]; omega
    have s9 : Same H8 (upd H8 N (.lst (ow.map V.str))) := Same.upd hN
    have eN : (upd H8 N (.lst (ow.map V.str))) N = some (.lst (ow.map V.str)) := upd_same
    generalize upd H8 N (.lst (ow.map V.str)) = H9 at s9 eN ⊢
    refine ⟨N, _, rfl, SqL.of eN, fun mt H10 s10 hmt => ?_⟩
    have s810 := s9.trans s10
    have hp10 := hp8.same s810
    have k410 : KpP p H4 H10 := (((Kp.same s46).trans hk7).trans hk8).trans (Kp.same s810)
    have rec10 := rec4.kp k410 nRp
    have k10 : KpP p H H10 := kT4.trans k410
    have fx10 := fx.kpT (KpT.ofP k410) hp4
    have tP10 := (k10.weak (ey := All) fun _ _ => trivial).tup tP
    have tV10 := (k10.weak (ey := All) fun _ _ => trivial).tup tV
    have tabs10 := tabs_kpP tabs k10 hp
    clear hp8 hk8 hk7 hp7 hp6 eN eD28 eD2 hN hD hD2 s9 s10 eD s5 s6 s46 s810 rec4 fx hx h0
    have nd := fx10.nd
    refine ⟨10, rfl, by decide, by decide, for_range (n := 10) (fun i σ Hx => ∃ v5 v6 v7 v8 v9 v10 v11 v12 v13 : Option V, σ = [some (.ref p), some (.ref R), some (.ref x), some (.ref D), some (.ref mt), v5, v6, v7, v8, v9, v10, v11, v12, v13] ∧ KpT p H10 Hx ∧ PotAt Hx p (n + 450 + 60 * i) ∧ LamX.Tabs Tt Hx)
      ⟨none, none, none, none, none, none, none, none, none, rfl, .refl, hp10.mono (by omega), tabs10⟩ ?_ ?_⟩
    · rintro i σ Hx hi ⟨v5, v6, v7, v8, v9, v10, v11, v12, v13, rfl, kx, hpx, tabsx⟩
      have recx := rec10.kpT kx hp10 nRp
      have fxx := fx10.kpT kx hp10
      have kA := kx.all hp10
      have mtx := kA.tup hmt
      have tPx := kA.tup tP10
      have tVx := kA.tup tV10
      refine ⟨_, rfl, _, rfl, _, rfl, (fun a => a = p), p, R, mt, n + 450 + 60 * i, _, _, _, ps, ns, us, ow, rfl, rfl, (fun a e => by rw [e]; exact hpx.old), hpx, by omega, recx, nRp, mtx, ol, on, fun v H11 hv hp11 hk11 => ?_⟩
      obtain ⟨d, dv, sh, cd, okd, dpd⟩ := hv
      have rec11 := recx.kp hk11 nRp
      have mt11 := hk11.tup mtx
      refine ⟨_, rfl, v, d, rfl, dv.mono Kp.refl (fun _ z => z.elim), okd, by omega, by rw [sizeLine_eq]; omega, ?_⟩
      refine ⟨_, rfl, _, rfl, Nat.zero_le _, fun e0 H12 s12 h0 => ⟨_, R, e0, v, _, _, _, d, ps, ns, us, [], rfl, rec11.same s12, dv.kp (Kp.same s12), sh, h0, by simp, nd, fun H13 s13 => ?_⟩⟩
      have m13 := s12.trans s13
      refine ⟨_, rfl, _, rfl, Nat.zero_le _, fun e1 H14 s14 h1 => ⟨_, R, e1, v, _, _, _, d, ps, ns, us, [], rfl, rec11.same (m13.trans s14), dv.kp (Kp.same (m13.trans s14)), sh, h1, by simp, nd, fun H15 s15 => ?_⟩⟩
      have m15 := (m13.trans s14).trans s15
      refine ⟨by show 2 ≤ sizeLine; decide, fun l hl => ?_⟩
      have m16 := m15.trans (Same.upd (o := .lst [.bl (placeD ps ns us [] d), .bl (amountD ps ns us [] d)]) hl)
      have e16 : (upd H15 l (.lst [.bl (placeD ps ns us [] d), .bl (amountD ps ns us [] d)])) l = some (.lst [.bl (placeD ps ns us [] d), .bl (amountD ps ns us [] d)]) := upd_same
      generalize upd H15 l (.lst [.bl (placeD ps ns us [] d), .bl (amountD ps ns us [] d)]) = H16 at m16 e16 ⊢
      refine ⟨_, rfl, _, rfl, _, rfl, _, rfl, _, R, mt, v, _, _, _, d, ps, ns, us, ow, rfl, rec11.same m16, dv.kp (Kp.same m16), sh, (any m16).tup mt11, ol, nd, fun H17 s17 => ?_⟩
      have m17 := m16.trans s17
      refine ⟨_, rfl, _, rfl, _, rfl, _, R, mt, v, _, _, _, d, ps, ns, us, ow, rfl, rec11.same m17, dv.kp (Kp.same m17), sh, (any m17).tup mt11, ol, nd, fun H18 s18 => ?_⟩
      refine ⟨by show 2 ≤ sizeLine; decide, fun l2 hl2 => ?_⟩
      have s19 : Same H18 (upd H18 l2 (.lst [.bl (placeD ps ns us ow d), .bl (amountD ps ns us ow d)])) := Same.upd hl2
      have e19 : (upd H18 l2 (.lst [.bl (placeD ps ns us ow d), .bl (amountD ps ns us ow d)])) l2 = some (.lst [.bl (placeD ps ns us ow d), .bl (amountD ps ns us ow d)]) := upd_same
      generalize upd H18 l2 (.lst [.bl (placeD ps ns us ow d), .bl (amountD ps ns us ow d)]) = H19 at s19 e19 ⊢
      have s1619 := (s17.trans s18).trans s19
      refine ⟨l, l2, _, _, rfl, rfl, s1619 _ _ e16, e19, by show 4 ≤ sizeLine; decide, fun L hL => ?_⟩
      obtain ⟨dl, hdl⟩ : ∃ dl : List V, dl = [.bl (placeD ps ns us [] d), .bl (amountD ps ns us [] d)] ++ [.bl (placeD ps ns us ow d), .bl (amountD ps ns us ow d)] := ⟨_, rfl⟩
      rw [← hdl]
      have m20 := (m16.trans s1619).trans (Same.upd (o := .lst dl) hL)
      have e20 : (upd H19 L (.lst dl)) L = some (.lst dl) := upd_same
      generalize upd H19 L (.lst dl) = H20 at m20 e20 ⊢
      have fx20 := (fxx.kpT (KpT.ofP hk11) hpx).same m20
      obtain ⟨dx, _, _, _, hx, _⟩ := id fx20.ob
      have dv20 := dv.kp (Kp.same m20 : Kp (fun a => a = p) H11 H20)
      have tP20 := (any m20).tup (hk11.tup tPx)
      have tV20 := (any m20).tup (hk11.tup tVx)
      have mt20 := (any m20).tup mt11
      have dlD : ∀ {G : Hp}, DvL (fun _ => False) G dl [.bool (placeD ps ns us [] d), .bool (amountD ps ns us [] d), .bool (placeD ps ns us ow d), .bool (amountD ps ns us ow d)] := fun {G} => by
        rw [hdl]
        exact .cons (.bl _) (.cons (.bl _) (.cons (.bl _) (.cons (.bl _) .nil)))
      obtain ⟨dd, hdd⟩ : ∃ dd : PyData, dd = .list [.bool (placeD ps ns us [] d), .bool (amountD ps ns us [] d), .bool (placeD ps ns us ow d), .bool (amountD ps ns us ow d)] := ⟨_, rfl⟩
      have ddv : ∀ {G : Hp} {a : Addr}, G a = some (.lst dl) → Dv (fun _ => False) G (.ref a) dd := fun h => by rw [hdd]; exact .lst (fun z => z) h dlD
      have ddo : okD dd := by rw [hdd]; simp only [okD, okL, and_self]
      have ddd : dd.depth ≤ 60 := by rw [hdd]; simp only [PyData.depth, PyData.depthAll]; omega
      have ddc : cost dd ≤ 1000 := by rw [hdd]; simp only [cost, costL]; omega
      have hSz := sizeLine_eq
      refine ⟨2, rfl, by decide, by decide, for_range (n := 2) (fun j σ G => ∃ w9 w10 : Option V, σ = [some (.ref p), some (.ref R), some (.ref x), some (.ref D), some (.ref mt), some (.int (0 + (i : Int))), some v, some (.str d.shown), some (.ref L), w9, w10, v11, v12, v13] ∧ Same H20 G) ⟨_, _, rfl, Same.refl⟩ ?_ ?_⟩
      · rintro j σ G hj ⟨w9, w10, rfl, sG⟩
        refine ⟨_, rfl, x, dx, _, rfl, sG _ _ hx, rfl, _, rfl, _, x, To, _, _, _, v, d, ps, ns, us, [], rfl, fx20.same sG, dv20.kp (Kp.same sG), sh, (any sG).tup tP20, own0, fun G1 t1 => ?_⟩
        have u1 := sG.trans t1
        refine ⟨_, rfl, x, dx, _, rfl, u1 _ _ hx, rfl, _, rfl, _, x, Tv, _, _, _, v, d, ps, ns, us, [], rfl, fx20.same u1, dv20.kp (Kp.same u1), sh, (any u1).tup tV20, own0, fun G2 t2 => ?_⟩
        have u2 := u1.trans t2
        refine ⟨by show 2 ≤ sizeLine; decide, fun la hla => ?_⟩
        have u3 := u2.trans (Same.upd (o := .lst [.bl (placeD ps ns us [] d), .bl (amountD ps ns us [] d)]) hla)
        have ea : (upd G2 la (.lst [.bl (placeD ps ns us [] d), .bl (amountD ps ns us [] d)])) la = some (.lst [.bl (placeD ps ns us [] d), .bl (amountD ps ns us [] d)]) := upd_same
        generalize upd G2 la (.lst [.bl (placeD ps ns us [] d), .bl (amountD ps ns us [] d)]) = G3 at u3 ea ⊢
        refine ⟨_, rfl, _, rfl, x, dx, _, rfl, u3 _ _ hx, rfl, _, rfl, _, rfl, rfl, rfl, _, x, mt, _, _, _, v, d, ps, ns, us, ow, rfl, fx20.same u3, dv20.kp (Kp.same u3), sh, (any u3).tup mt20, own, fun G4 t4 => ?_⟩
        have u4 := u3.trans t4
        refine ⟨_, rfl, x, dx, _, rfl, u4 _ _ hx, rfl, _, rfl, _, rfl, rfl, rfl, _, x, mt, _, _, _, v, d, ps, ns, us, ow, rfl, fx20.same u4, dv20.kp (Kp.same u4), sh, (any u4).tup mt20, own, fun G5 t5 => ?_⟩
        refine ⟨by show 2 ≤ sizeLine; decide, fun lb hlb => ?_⟩
        have t6 : Same G5 (upd G5 lb (.lst [.bl (placeD ps ns us ow d), .bl (amountD ps ns us ow d)])) := Same.upd hlb
        have eb : (upd G5 lb (.lst [.bl (placeD ps ns us ow d), .bl (amountD ps ns us ow d)])) lb = some (.lst [.bl (placeD ps ns us ow d), .bl (amountD ps ns us ow d)]) := upd_same
        generalize upd G5 lb (.lst [.bl (placeD ps ns us ow d), .bl (amountD ps ns us ow d)]) = G6 at t6 eb ⊢
        have t36 := (t4.trans t5).trans t6
        refine ⟨la, lb, _, _, rfl, rfl, t36 _ _ ea, eb, by show 4 ≤ sizeLine; decide, fun T4 hT4 => ?_⟩
        rw [← hdl]
        have u7 := (u3.trans t36).trans (Same.upd (o := .lst dl) hT4)
        have e7 : (upd G6 T4 (.lst dl)) T4 = some (.lst dl) := upd_same
        generalize upd G6 T4 (.lst dl) = G7 at u7 e7 ⊢
        refine ⟨_, rfl, .ref T4, dd, rfl, ddv e7, ddo, ddd, by omega, _, rfl, .ref L, dd, rfl, ddv (u7 _ _ e20), ddo, ddd, by omega, rfl, _, rfl, ?_⟩
        rw [show (!decide (V.str dd.shown = V.str dd.shown)) = false by simp]
        refine iteF ⟨_, rfl, v, d, rfl, (dv20.kp (Kp.same u7)).mono Kp.refl (fun _ z => z.elim), okd, by omega, by omega, _, rfl, rfl, _, rfl, ?_⟩
        rw [show (!decide (V.str d.shown = V.str d.shown)) = false by simp]
        exact iteF ⟨_, _, rfl, u7⟩
      · rintro σ G ⟨w9, w10, rfl, sG⟩
        have hp20 := hp11.same m20
        have tabs20 := (tabs_kpP tabsx hk11 hpx).ext m20
        refine ⟨_, rfl, _, _, rfl, rfl, ⟨by decide, by decide, by decide⟩, _, _, rfl, rfl, ⟨by decide, by decide, by decide⟩, _, rfl, _, _, rfl, rfl, ⟨by decide, by decide, by decide⟩, by show 1 ≤ sizeLine; decide, fun t1 G1 s1 h1 => ?_⟩
        refine ⟨_, rfl, p, n + 450 + 60 * i + 30, rfl, (hp20.same sG).same s1, by omega, fun mm G2 hmm hpG2 hkG2 => ?_⟩
        refine ⟨by show 12 ≤ sizeLine; decide, fun ls hls => ?_⟩
        have nls : ls ≠ p := hpG2.ne hls
        have s3 : Same G2 (upd G2 ls (.lst [.int 0, .int 1, .int (-1), .int 5, .int (10 ^ (59 : Int).toNat), .int (-(10 ^ (59 : Int).toNat)), .int (10 ^ (60 : Int).toNat), .non, .bl true, .str "1", .ref t1, .int mm])) := Same.upd hls
        have e3 : (upd G2 ls (.lst [.int 0, .int 1, .int (-1), .int 5, .int (10 ^ (59 : Int).toNat), .int (-(10 ^ (59 : Int).toNat)), .int (10 ^ (60 : Int).toNat), .non, .bl true, .str "1", .ref t1, .int mm])) ls = some (.lst [.int 0, .int 1, .int (-1), .int 5, .int (10 ^ (59 : Int).toNat), .int (-(10 ^ (59 : Int).toNat)), .int (10 ^ (60 : Int).toNat), .non, .bl true, .str "1", .ref t1, .int mm]) := upd_same
        generalize upd G2 ls (.lst [.int 0, .int 1, .int (-1), .int 5, .int (10 ^ (59 : Int).toNat), .int (-(10 ^ (59 : Int).toNat)), .int (10 ^ (60 : Int).toNat), .non, .bl true, .str "1", .ref t1, .int mm]) = G3 at s3 e3 ⊢
        have t13 := (any s1)
        refine ⟨_, rfl, _, rfl, p, n + 450 + 60 * i + 31, _, _, rfl, hpG2.same s3, by omega, .inl ⟨ls, rfl, nls, e3⟩, by show 1 ≤ 12; decide, by show 12 ≤ 1000; decide, fun i2 u G4 hu hpG4 hkG4 => ?_⟩
        have all : ∀ u ∈ ([.int 0, .int 1, .int (-1), .int 5, .int (10 ^ (59 : Int).toNat), .int (-(10 ^ (59 : Int).toNat)), .int (10 ^ (60 : Int).toNat), .non, .bl true, .str "1", .ref t1, .int mm] : List V), NumOk p G3 u := by
          have iN : ∀ {j : Int}, intD (.int j) = true → NumOk p G3 (.int j) := fun {j} hj => ⟨.int j, .int j, .inl ⟨rfl, rfl, rfl⟩, by
            have := of_decide_eq_true hj
            unfold lim at this
            show j.natAbs < 10 ^ 100
            omega, by simp only [PyData.depth]; omega, by simp only [cost]; omega, fun z => by rw [hj] at z; cases z⟩
          refine List.forall_mem_cons.mpr ⟨iN (by decide +kernel), ?_⟩
          refine List.forall_mem_cons.mpr ⟨iN (by decide +kernel), ?_⟩
          refine List.forall_mem_cons.mpr ⟨iN (by decide +kernel), ?_⟩
          refine List.forall_mem_cons.mpr ⟨iN (by decide +kernel), ?_⟩
          refine List.forall_mem_cons.mpr ⟨iN (by decide +kernel), ?_⟩
          refine List.forall_mem_cons.mpr ⟨iN (by decide +kernel), ?_⟩
          refine List.forall_mem_cons.mpr ⟨⟨_, .int _, .inl ⟨rfl, rfl, rfl⟩, show (10 ^ (60 : Int).toNat : Int).natAbs < 10 ^ 100 by decide +kernel, by simp only [PyData.depth]; omega, by simp only [cost]; omega, fun _ => by simp only [PyData.shown]; unfold okS; decide +kernel⟩, ?_⟩
          refine List.forall_mem_cons.mpr ⟨⟨_, .non, .inl ⟨rfl, rfl, rfl⟩, by simp only [okD], by simp only [PyData.depth]; omega, by simp only [cost]; omega, fun _ => by simp only [PyData.shown]; unfold okS; decide +kernel⟩, ?_⟩
          refine List.forall_mem_cons.mpr ⟨⟨_, .bl _, .inl ⟨rfl, rfl, rfl⟩, by simp only [okD], by simp only [PyData.depth]; omega, by simp only [cost]; omega, fun _ => by simp only [PyData.shown]; unfold okS; decide +kernel⟩, ?_⟩
          refine List.forall_mem_cons.mpr ⟨⟨_, .str _, .inl ⟨rfl, rfl, rfl⟩, show okS "1" by unfold okS; decide +kernel, by simp only [PyData.depth]; omega, by decide +kernel, fun _ => by simp only [PyData.shown]; unfold okS; decide +kernel⟩, ?_⟩
          refine List.forall_mem_cons.mpr ⟨⟨.tuple [.int 1], .tupM ((any s3).tup ((hkG2.weak fun _ _ => trivial).tup h1)) (.cons (.int _) .nil), .inr ⟨_, rfl, by decide, fun x hx => by rw [List.mem_singleton.mp hx]; exact ⟨rfl, rfl, rfl⟩⟩, ⟨show (1 : Int).natAbs < 10 ^ 100 by decide +kernel, trivial⟩, by simp only [PyData.depth, PyData.depthAll]; omega, by decide +kernel, fun _ => ?_⟩, ?_⟩
          · unfold okS
            decide +kernel
          exact List.forall_mem_cons.mpr ⟨iN hmm, List.forall_mem_nil _⟩
        obtain ⟨e, de, ce, oke, dpe, cte, okw⟩ := all u (List.mem_of_getElem? hu)
        have kq : KpP p H20 G4 := (((Kp.same (sG.trans s1)).trans hkG2).trans (Kp.same s3)).trans hkG4
        have fxq := fx20.kpT (KpT.ofP kq) hp20
        have dvq : Dv (fun a => a = p) G4 v d := dv20.kp kq
        refine ⟨_, rfl, _, rfl, _, rfl, _, rfl, _, x, R, v, u, _, _, _, _, _, _, d, e, ps, ns, us, rfl, fxq, (rec11.same m20).kp kq nRp, dvq, ⟨sh, cd, okd, dpd⟩, de.kp hkG4, ce, oke, dpe, cte, okw, kq.tup tP20, kq.tup tV20, tabs_kpP tabs20 kq hp20, fun G5 eN5 tabs5 => ⟨_, rfl, ?_⟩⟩
        refine iteF ⟨_, rfl, v, d, rfl, (dvq.extN eN5).mono Kp.refl (fun _ z => z.elim), okd, by omega, by omega, _, rfl, rfl, _, rfl, ?_⟩
        rw [show (!decide (V.str d.shown = V.str d.shown)) = false by simp]
        have hpG5 : PotAt G5 p (n + 450 + 60 * i + 32) := by
          obtain ⟨a, b, c, q1, q2⟩ := hpG4
          exact ⟨a, b, c, eN5 _ _ q1 (fun ps z => by cases z), q2⟩
        exact iteF ⟨_, _, _, _, _, _, _, _, _, rfl, (((kx.trans (KpT.ofP hk11)).trans (KpT.ofP (Kp.same m20))).trans (KpT.ofP kq)).trans (KpT.ofN eN5), hpG5.mono (by omega), tabs5⟩
    · rintro σ Hx ⟨v5, v6, v7, v8, v9, v10, v11, v12, v13, rfl, kx, hpx, tabsx⟩
      exact k Hx (hpx.mono (by omega)) ((KpT.ofP k10).trans kx) tabsx
end
end Kx
namespace Kx
open PySem PySem.Spec PyProof.Rows L2
section
variable {P : Program} {w : World} {K : PySem.W.Frag} {mg : Str → Option Value} {base : Heap}
theorem calG_at {x : Str} {st : Stmt} {N ps : List Str} {k : Nat} {sp : Sp} {f : Addr} {fd : FuncData} (F : FunD K x x (defArgs st) (defBody st) (defScope st) [] [] f fd) (S : FnScope N ps (defScope st)) (len : ∀ vs H Q E, sp vs H Q E → vs.length = ps.length)
    (body : ∀ (f : Addr) (cdv : Value) (A : Around) (outer : List Env) (s : Shared) (H : Hp) (vs : List V) (Q : VK) (E : XK), (A.deeper (envOfC x (defScope st) s.heap.objs.size f cdv)).guards = some [] → Room k (A.deeper (envOfC x (defScope st) s.heap.objs.size f cdv)) → sp vs H Q E →
      ∃ t, PSs (cxOf CX0 P w K mg base N x (defScope st) f cdv A outer s H E).nox (defBody st) t ∧ t { nx := fun _ H' => Q .non H', rt := Q } (start N vs) H) : FnOkG P w K mg base CX0 (k + 1) f fd ps sp :=
  okG F S len (fun cdv A outer s H vs Q E hgd hr h => let ⟨t, ht, q⟩ := body f cdv A outer s H vs Q E hgd hr h; ⟨t, PSs.nox ht, q⟩)
abbrev N_law : List Str := ["script", "at", "pot", "turn", "frame", "told"]
abbrev P_law : List Str := ["script"]
theorem sc_law : FnScope N_law P_law (defScope s_law) := ⟨rfl, rfl, rfl, by decide +kernel, rfl, by decide +kernel, by decide +kernel⟩
def spLaw (K : PySem.W.Frag) (To Tv : Addr) (Tt : List (Addr × Str)) : Sp := fun vs H Q _ => ∃ (a : Addr) (ns : List Int), vs = [.ref a] ∧ SqL K H a (ns.map V.int) ∧ ns.length ≤ 63 ∧ TupF H To [] ∧ TupF H Tv [] ∧ LamX.Tabs Tt H ∧ ∀ H', Q (.bl true) H'
theorem ok_law {om : Obj} (hK : K.lookup sysModules = some om) (T : Bt mg) {C I f0 fL To Tv IT IN fS : Addr} {fd0 fdL fdS : FuncData} {Tt : List (Addr × Str)} (X : Fx K mg C) (FL : FunD K "law" "law" (defArgs s_law) (defBody s_law) (defScope s_law) [] [] fL fdL) (M : Mk K C f0) (F0 : FnOk P w K mg base (L2N.CX P w) 5 f0 fd0 P_Frame_init (spInit C I)) (b0 : Binds K fd0 P_Frame_init [])
    (C1 : Ca P w K mg base 1 "_law_filled" P_law_filled (spFilled K)) (C2 : CaG P w K mg base 10 "_law_right" P_law_right (spRight To Tv Tt)) (FS : FnOk P w K mg base (L2.CX P w) 6 fS fdS P_Frame_shifted (spShR C To Tv IT IN)) (mS : Meth K C "shifted" fS) (bS : Binds K fdS P_Frame_shifted [])
    (MP : Mo P w K mg base C To 5 "is_position_term" P_Frame_is_position_term (spIsP C placeD)) (MV : Mo P w K mg base C Tv 5 "is_value_term" P_Frame_is_value_term (spIsP C amountD)) :
    FnOkG P w K mg base CX0 11 fL fdL P_law (spLaw K To Tv Tt) := by
  obtain ⟨_, _, c__law_filled⟩ := C1
  obtain ⟨_, _, c__law_right⟩ := C2
  obtain ⟨_, _, FP, mP, ⟨_, dP, bP⟩, _, kP⟩ := MP
  obtain ⟨_, _, FV, mV, ⟨_, dV, bV⟩, _, kV⟩ := MV
  refine calG_at FL sc_law (fun vs H Q E h => ?_) (fun f cdv A outer s H vs Q E hgd hr h => ?_)
  · obtain ⟨a, ns, rfl, _⟩ := h
    rfl
  · obtain ⟨a, ns, rfl, hS, hl, tP, tV, tabs, kq⟩ := h
    refine ⟨_, (pss_cons (ps_for PassesOwn.never rfl (pi_range1 rfl T.range (pa_cons (pe_callB (call_max2 rfl) (by rfl) T.max (by decide +kernel) (pa_cons pe_int (pa_cons (pe_callB (call_min2 rfl) (by rfl) T.min (by decide +kernel) (pa_cons pe_int (pa_cons (pe_callB call_len (by rfl) T.len (by decide +kernel) (pa_cons (pv 0) pa_nil)) pa_nil))) pa_nil))) pa_nil)) (pg_name (i := 1) sc_law.nd rfl (.inl rfl))
        (pss_cons (ps_set (i := 2) sc_law.nd rfl (.inl rfl) (pe_call c__law_filled.1 (hr.mono (by decide)) rfl c__law_filled.2.1 c__law_filled.2.2.1 c__law_filled.2.2.2 .nil pass0 (pa_cons (pv 0) (pa_cons (pv 1) pa_nil))))
        (pss_one (ps_for PassesOwn.never rfl (pi_range1 rfl T.range (pa_cons pe_int pa_nil)) (pg_name (i := 3) sc_law.nd rfl (.inl rfl))
          (pss_one (ps_if (pt_not (pt_val (pe_callG c__law_right.1 hgd (hr.mono (by decide)) rfl c__law_right.2.1 c__law_right.2.2.1 c__law_right.2.2.2 pass0 (pa_cons (pv 2) pa_nil)))) (pss_one (ps_ret pe_bl)) pss_nil))))))
      (pss_cons (ps_set (i := 4) sc_law.nd rfl (.inl rfl) (pe_make M F0 (hr.mono (by decide)) rfl X.mgC b0 .nil (L2N.passes_call takesF (fun cls d σ H h => h)) (pa_cons (pe_tupF (pa_cons (pe_tupF (pa_cons pe_str (pa_cons pe_str pa_nil))) pa_nil)) (pa_cons (pe_tupF (pa_cons pe_str (pa_cons pe_str pa_nil))) (pa_cons (pe_tupF (pa_cons pe_str pa_nil)) pa_nil)))))
      (pss_cons (ps_set (i := 5) sc_law.nd rfl (.inl rfl) (pe_lst (pa_cons (pe_meth (pv 4) X.cl mP FP (hr.mono (by decide)) bP dP pass0 (pa_cons (pe_tupF (pa_cons pe_str (pa_cons pe_int pa_nil))) pa_nil)) (pa_cons (pe_meth (pv 4) X.cl mV FV (hr.mono (by decide)) bV dV pass0 (pa_cons (pe_tupF (pa_cons pe_str (pa_cons pe_int pa_nil))) pa_nil)) (pa_cons (pe_meth (pv 4) X.cl mP FP (hr.mono (by decide)) bP dP pass0 (pa_cons (pe_tupF (pa_cons pe_str (pa_cons pe_int pa_nil))) pa_nil)) pa_nil)))))
      (pss_cons (ps_set (i := 5) sc_law.nd rfl (.inl rfl) (pe_op op_cat (pv 5) (pe_lst (pa_cons (pe_meth (pv 4) X.cl mV FV (hr.mono (by decide)) bV dV pass0 (pa_cons (pe_tupF (pa_cons pe_str (pa_cons pe_int pa_nil))) pa_nil)) (pa_cons (pe_meth (pv 4) X.cl mV FV (hr.mono (by decide)) bV dV pass0 (pa_cons (pe_tupF (pa_cons pe_str (pa_cons pe_str (pa_cons (pe_un un_neg pe_int) (pa_cons pe_int pa_nil))))) pa_nil)) (pa_cons (pe_meth (pv 4) X.cl mV FV (hr.mono (by decide)) bV dV pass0 (pa_cons (pe_tupF (pa_cons pe_str (pa_cons pe_int pa_nil))) pa_nil)) pa_nil))))))
      (pss_cons (ps_set (i := 5) sc_law.nd rfl (.inl rfl) (pe_op op_cat (pv 5) (pe_lst (pa_cons (pe_methPK (pv 4) X.cl mV FV (hr.mono (by decide)) kV pass0 (pa_cons (pe_tupF (pa_cons pe_str (pa_cons pe_str (pa_cons pe_int (pa_cons pe_int pa_nil))))) pa_nil) (pk_cons (pe_tupF (pa_cons pe_str pa_nil)) pk_nil)) (pa_cons (pe_meth (pv 4) X.cl mV FV (hr.mono (by decide)) bV dV pass0 (pa_cons (pe_tupF (pa_cons pe_str (pa_cons pe_str (pa_cons pe_int (pa_cons pe_int pa_nil))))) pa_nil)) pa_nil)))))
      (pss_one (ps_ret (pe_and (pe_cmpR (op_eqDv hK hr.units) (pv 5) (pe_lst (pa_cons pe_bl (pa_cons pe_bl (pa_cons pe_bl (pa_cons pe_bl (pa_cons pe_bl (pa_cons pe_bl (pa_cons pe_bl (pa_cons pe_bl pa_nil))))))))) (nomark _)) (pe_one (pe_cmpR (op_eqDv hK hr.units) (pe_meth (pv 4) X.cl mS FS (hr.mono (by decide)) bS .nil (L2.passes_call LamX.takes0 (fun cls d σ H h => h)) (pa_cons (pe_tupF (pa_cons pe_str (pa_cons pe_int pa_nil))) (pa_cons (pe_un un_neg pe_int) pa_nil))) (pe_tupF (pa_cons pe_str (pa_cons (pe_un un_neg pe_int) pa_nil))) (nomark _))))))))))), ?_⟩
    have any : ∀ {X Y : Hp}, Same X Y → Kp All X Y := fun h => Kp.same h
    have sqN : ∀ {G : Hp}, LamX.ExtN H G → SqL K G a (ns.map V.int) := fun e => hS.elim (fun h => .inl (h.elim (fun h => .inl (e _ _ h (fun ps z => by cases z))) fun ⟨o, h⟩ => .inr ⟨o, e _ _ h (fun ps z => by cases z)⟩)) fun h => .inr h
    have kN : ∀ {G : Hp}, LamX.ExtN H G → Kp All H G := fun e b o h z => by
      obtain ⟨ob, u, rfl⟩ := z trivial
      exact e _ _ h fun ps q => (by cases q)
    refine ⟨_, rfl, _, _, rfl, .inl ⟨_, hS, rfl⟩, 6, _, rfl, 1, _, rfl, ?_⟩
    rw [List.length_map]
    generalize hM : (if (if (ns.length : Int) < 6 then (ns.length : Int) else 6) > 1 then (if (ns.length : Int) < 6 then (ns.length : Int) else 6) else 1) = M1
    have hM0 : 1 ≤ M1 ∧ M1 ≤ 6 := by
      rw [← hM]
      split <;> (try split) <;> (constructor <;> (try split) <;> omega)
    clear hM
    refine ⟨M1, rfl, by omega, by omega, for_it (walk_range (lo := 0) (n := M1.toNat)) (fun i σ G => ∃ v1 v2 v3 : Option V, σ = [some (.ref a), v1, v2, v3, none, none] ∧ LamX.ExtN H G ∧ LamX.Tabs Tt G)
      ⟨none, none, none, rfl, .refl _, tabs⟩ (fun _ _ _ _ _ => trivial) ?_ ?_⟩
    · rintro i v σ G G' hi ⟨v1, v2, v3, rfl, sm, tabG⟩ ⟨rfl, rfl⟩
      refine ⟨_, rfl, _, rfl, a, ns, _, rfl, sqN sm, hl, by omega, by omega, fun p H1 hpn s1 hp1 => ?_⟩
      have sH1 := sm.trans (.of s1)
      refine ⟨3, rfl, by decide, by decide, for_range (n := 3) (fun j σ Y => ∃ v3 : Option V, σ = [some (.ref a), some (.int (0 + (i : Int))), some (.ref p), v3, none, none] ∧ PotAt Y p (3000 * j) ∧ KpT p H1 Y ∧ LamX.Tabs Tt Y) ⟨v3, rfl, hp1, .refl, tabG.ext s1⟩ ?_ ?_⟩
      · rintro j σ Y hj ⟨w3, rfl, hpY, kY, tabY⟩
        have kAll := (kN sH1).trans (kY.all hp1)
        exact ⟨_, rfl, p, 3000 * j, rfl, hpY, by omega, kAll.tup tP, kAll.tup tV, tabY, fun H' hp' hk' tab' => ⟨_, rfl, iteF ⟨_, rfl, hp'.mono (by omega), kY.trans hk', tab'⟩⟩⟩
      · rintro σ Y ⟨w3, rfl, hpY, kY, tabY⟩
        exact ⟨_, _, _, rfl, fun b o h t => kY b o (sH1 b o h t) (fun z => ne_of_none (sm b o h t) hpn z) t, tabY⟩
    · rintro σ G ⟨v1, v2, v3, rfl, sm, tabG⟩
      have tPG := (kN sm).tup tP
      have tVG := (kN sm).tup tV
      obtain ⟨ps, hps⟩ : ∃ ps : List (Str × Str), ps = [(("a" : Str), ("n" : Str))] := ⟨_, rfl⟩
      obtain ⟨ms, hms⟩ : ∃ ms : List Str, ms = [("i" : Str), ("j" : Str)] := ⟨_, rfl⟩
      obtain ⟨us, hus⟩ : ∃ us : List Str, us = [("x" : Str)] := ⟨_, rfl⟩
      refine ⟨by show 2 ≤ sizeLine; decide, fun ta Ha sa hta => ⟨by show 1 ≤ sizeLine; decide, fun tb Hb sb htb => ⟨by show 2 ≤ sizeLine; decide, fun tc Hc sc htc => ⟨by show 1 ≤ sizeLine; decide, fun td Hd sd htd => ?_⟩⟩⟩⟩
      have fnm : Names ps ms us := by
        rw [hps, hms, hus]
        exact ⟨by decide +kernel, by decide +kernel, by decide +kernel⟩
      have prt : Prt Hd (.ref tb) (.ref tc) (.ref td) ps ms us := ⟨by
          rw [hps]
          exact .tupM ((any (sc.trans sd)).tup htb) (.cons (.tupM ((any ((sb.trans sc).trans sd)).tup hta) (.cons (.str _) (.cons (.str _) .nil))) .nil), by
          rw [hms]
          exact .tupM ((any sd).tup htc) (.cons (.str _) (.cons (.str _) .nil)), by
          rw [hus]
          exact .tupM htd (.cons (.str _) .nil), by rw [hps]; decide, by rw [hms]; decide, by rw [hus]; decide, fnm⟩
      have lb : letB ps ms us = true := by
        rw [letB_eq fnm, hps, hms, hus]
        decide +kernel
      refine make_specA prt (fun _ x G0 fx s4 => ?_) (fun e => absurd (lb.symm.trans e) (by decide))
      obtain ⟨dx, _, _, _, hx, _⟩ := id fx.ob
      have s04 := (((sa.trans sb).trans sc).trans sd).trans s4
      have tP0 := (any s04).tup tPG
      have tV0 := (any s04).tup tVG
      clear sa sb sc sd s4 s04 hta htb htc htd prt tPG tVG
      refine ⟨_, rfl, x, dx, _, rfl, hx, rfl, by show 2 ≤ sizeLine; decide, fun t1 J1 q1 h1 => ?_⟩
      have u1 : Same G0 J1 := q1
      have all1 : ∀ e ∈ ([.str "", .int (3)] : List PyData), SeqAt.shaped e = true ∧ cost e ≤ 8000000 := by decide +kernel
      refine ⟨All, x, To, _, _, _, .ref t1, .tuple [.str "", .int (3)], ps, ms, us, [], rfl, fx.same u1, .tupM h1 (.cons (.str _) (.cons (.int _) .nil)), fun e he => ⟨.inl (all1 e he).1, (all1 e he).2⟩, (any u1).tup tP0, own0, fun R1 r1 => ?_⟩
      have w1 := u1.trans r1
      refine ⟨_, rfl, x, dx, _, rfl, (w1 _ _ hx), rfl, by show 2 ≤ sizeLine; decide, fun t2 J2 q2 h2 => ?_⟩
      have u2 : Same G0 J2 := w1.trans q2
      have all2 : ∀ e ∈ ([.str "", .int (3)] : List PyData), SeqAt.shaped e = true ∧ cost e ≤ 8000000 := by decide +kernel
      refine ⟨All, x, Tv, _, _, _, .ref t2, .tuple [.str "", .int (3)], ps, ms, us, [], rfl, fx.same u2, .tupM h2 (.cons (.str _) (.cons (.int _) .nil)), fun e he => ⟨.inl (all2 e he).1, (all2 e he).2⟩, (any u2).tup tV0, own0, fun R2 r2 => ?_⟩
      have w2 := u2.trans r2
      refine ⟨_, rfl, x, dx, _, rfl, (w2 _ _ hx), rfl, by show 2 ≤ sizeLine; decide, fun t3 J3 q3 h3 => ?_⟩
      have u3 : Same G0 J3 := w2.trans q3
      have all3 : ∀ e ∈ ([.str "n", .int (0)] : List PyData), SeqAt.shaped e = true ∧ cost e ≤ 8000000 := by decide +kernel
      refine ⟨All, x, To, _, _, _, .ref t3, .tuple [.str "n", .int (0)], ps, ms, us, [], rfl, fx.same u3, .tupM h3 (.cons (.str _) (.cons (.int _) .nil)), fun e he => ⟨.inl (all3 e he).1, (all3 e he).2⟩, (any u3).tup tP0, own0, fun R3 r3 => ?_⟩
      have w3 := u3.trans r3
      refine ⟨by show 3 ≤ sizeLine; decide, fun LA hLA => ?_⟩
      have sA : Same G0 (upd R3 LA (.lst [.bl (placeD ps ms us [] (.tuple [.str "", .int (3)])), .bl (amountD ps ms us [] (.tuple [.str "", .int (3)])), .bl (placeD ps ms us [] (.tuple [.str "n", .int (0)]))])) := w3.trans (Same.upd hLA)
      have eA : (upd R3 LA (.lst [.bl (placeD ps ms us [] (.tuple [.str "", .int (3)])), .bl (amountD ps ms us [] (.tuple [.str "", .int (3)])), .bl (placeD ps ms us [] (.tuple [.str "n", .int (0)]))])) LA = some (.lst [.bl (placeD ps ms us [] (.tuple [.str "", .int (3)])), .bl (amountD ps ms us [] (.tuple [.str "", .int (3)])), .bl (placeD ps ms us [] (.tuple [.str "n", .int (0)]))]) := upd_same
      generalize upd R3 LA (.lst [.bl (placeD ps ms us [] (.tuple [.str "", .int (3)])), .bl (amountD ps ms us [] (.tuple [.str "", .int (3)])), .bl (placeD ps ms us [] (.tuple [.str "n", .int (0)]))]) = MA at sA eA ⊢
      refine ⟨_, rfl, _, rfl, x, dx, _, rfl, (sA _ _ hx), rfl, by show 2 ≤ sizeLine; decide, fun t4 J4 q4 h4 => ?_⟩
      have u4 : Same G0 J4 := sA.trans q4
      have all4 : ∀ e ∈ ([.str "n", .int (0)] : List PyData), SeqAt.shaped e = true ∧ cost e ≤ 8000000 := by decide +kernel
      refine ⟨All, x, Tv, _, _, _, .ref t4, .tuple [.str "n", .int (0)], ps, ms, us, [], rfl, fx.same u4, .tupM h4 (.cons (.str _) (.cons (.int _) .nil)), fun e he => ⟨.inl (all4 e he).1, (all4 e he).2⟩, (any u4).tup tV0, own0, fun R4 r4 => ?_⟩
      have w4 := u4.trans r4
      refine ⟨_, rfl, x, dx, _, rfl, (w4 _ _ hx), rfl, _, rfl, by show 4 ≤ sizeLine; decide, fun t5 J5 q5 h5 => ?_⟩
      have u5 : Same G0 J5 := w4.trans q5
      have all5 : ∀ e ∈ ([.str "a", .str "n", .int (-1), .int (0)] : List PyData), SeqAt.shaped e = true ∧ cost e ≤ 8000000 := by decide +kernel
      refine ⟨All, x, Tv, _, _, _, .ref t5, .tuple [.str "a", .str "n", .int (-1), .int (0)], ps, ms, us, [], rfl, fx.same u5, .tupM h5 (.cons (.str _) (.cons (.str _) (.cons (.int _) (.cons (.int _) .nil)))), fun e he => ⟨.inl (all5 e he).1, (all5 e he).2⟩, (any u5).tup tV0, own0, fun R5 r5 => ?_⟩
      have w5 := u5.trans r5
      refine ⟨_, rfl, x, dx, _, rfl, (w5 _ _ hx), rfl, by show 2 ≤ sizeLine; decide, fun t6 J6 q6 h6 => ?_⟩
      have u6 : Same G0 J6 := w5.trans q6
      have all6 : ∀ e ∈ ([.str "a", .int (0)] : List PyData), SeqAt.shaped e = true ∧ cost e ≤ 8000000 := by decide +kernel
      refine ⟨All, x, Tv, _, _, _, .ref t6, .tuple [.str "a", .int (0)], ps, ms, us, [], rfl, fx.same u6, .tupM h6 (.cons (.str _) (.cons (.int _) .nil)), fun e he => ⟨.inl (all6 e he).1, (all6 e he).2⟩, (any u6).tup tV0, own0, fun R6 r6 => ?_⟩
      have w6 := u6.trans r6
      refine ⟨by show 3 ≤ sizeLine; decide, fun LB hLB => ?_⟩
      have sB : Same G0 (upd R6 LB (.lst [.bl (amountD ps ms us [] (.tuple [.str "n", .int (0)])), .bl (amountD ps ms us [] (.tuple [.str "a", .str "n", .int (-1), .int (0)])), .bl (amountD ps ms us [] (.tuple [.str "a", .int (0)]))])) := w6.trans (Same.upd hLB)
      have fB : Same R6 (upd R6 LB (.lst [.bl (amountD ps ms us [] (.tuple [.str "n", .int (0)])), .bl (amountD ps ms us [] (.tuple [.str "a", .str "n", .int (-1), .int (0)])), .bl (amountD ps ms us [] (.tuple [.str "a", .int (0)]))])) := Same.upd hLB
      have eB : (upd R6 LB (.lst [.bl (amountD ps ms us [] (.tuple [.str "n", .int (0)])), .bl (amountD ps ms us [] (.tuple [.str "a", .str "n", .int (-1), .int (0)])), .bl (amountD ps ms us [] (.tuple [.str "a", .int (0)]))])) LB = some (.lst [.bl (amountD ps ms us [] (.tuple [.str "n", .int (0)])), .bl (amountD ps ms us [] (.tuple [.str "a", .str "n", .int (-1), .int (0)])), .bl (amountD ps ms us [] (.tuple [.str "a", .int (0)]))]) := upd_same
      generalize upd R6 LB (.lst [.bl (amountD ps ms us [] (.tuple [.str "n", .int (0)])), .bl (amountD ps ms us [] (.tuple [.str "a", .str "n", .int (-1), .int (0)])), .bl (amountD ps ms us [] (.tuple [.str "a", .int (0)]))]) = MB at sB fB eB ⊢
      have gA : MB LA = some (.lst [.bl (placeD ps ms us [] (.tuple [.str "", .int (3)])), .bl (amountD ps ms us [] (.tuple [.str "", .int (3)])), .bl (placeD ps ms us [] (.tuple [.str "n", .int (0)]))]) := fB _ _ ((((((q4.trans r4).trans q5).trans r5).trans q6).trans r6) _ _ eA)
      refine ⟨LA, LB, _, _, rfl, rfl, gA, eB, by show 6 ≤ sizeLine; decide, fun LC hLC => ?_⟩
      obtain ⟨lC, hlC⟩ : ∃ lC : List V, lC = [.bl (placeD ps ms us [] (.tuple [.str "", .int (3)])), .bl (amountD ps ms us [] (.tuple [.str "", .int (3)])), .bl (placeD ps ms us [] (.tuple [.str "n", .int (0)]))] ++ [.bl (amountD ps ms us [] (.tuple [.str "n", .int (0)])), .bl (amountD ps ms us [] (.tuple [.str "a", .str "n", .int (-1), .int (0)])), .bl (amountD ps ms us [] (.tuple [.str "a", .int (0)]))] := ⟨_, rfl⟩
      rw [← hlC]
      have sC : Same G0 (upd MB LC (.lst lC)) := sB.trans (Same.upd hLC)
      have eC : (upd MB LC (.lst lC)) LC = some (.lst lC) := upd_same
      generalize upd MB LC (.lst lC) = MC at sC eC ⊢
      refine ⟨_, rfl, _, rfl, x, dx, _, rfl, sC _ _ hx, rfl, by show 4 ≤ sizeLine; decide, fun t7 J7 q7 h7 => ?_⟩
      refine ⟨by show 1 ≤ sizeLine; decide, fun o7 O7 oq7 oh7 => ?_⟩
      have uo7 := (sC.trans q7).trans oq7
      have all7 : ∀ e ∈ ([.str "a", .str "k", .int (7), .int (0)] : List PyData), SeqAt.shaped e = true ∧ cost e ≤ 8000000 := by decide +kernel
      have ownk : OwnOk ps ms us [("k" : Str)] := by
        rw [hps, hms, hus]
        exact ⟨by decide, by decide +kernel, by decide +kernel⟩
      refine ⟨rfl, rfl, All, x, o7, _, _, _, .ref t7, .tuple [.str "a", .str "k", .int (7), .int (0)], ps, ms, us, [("k" : Str)], rfl, fx.same uo7, .tupM ((any oq7).tup h7) (.cons (.str _) (.cons (.str _) (.cons (.int _) (.cons (.int _) .nil)))), fun e he => ⟨.inl (all7 e he).1, (all7 e he).2⟩, oh7, ownk, fun R7 r7 => ?_⟩
      have w7 := uo7.trans r7
      refine ⟨_, rfl, x, dx, _, rfl, w7 _ _ hx, rfl, by show 4 ≤ sizeLine; decide, fun t8 J8 q8 h8 => ?_⟩
      have u8 := w7.trans q8
      have all8 : ∀ e ∈ ([.str "a", .str "x", .int (0), .int (0)] : List PyData), SeqAt.shaped e = true ∧ cost e ≤ 8000000 := by decide +kernel
      refine ⟨All, x, Tv, _, _, _, .ref t8, .tuple [.str "a", .str "x", .int (0), .int (0)], ps, ms, us, [], rfl, fx.same u8, .tupM h8 (.cons (.str _) (.cons (.str _) (.cons (.int _) (.cons (.int _) .nil)))), fun e he => ⟨.inl (all8 e he).1, (all8 e he).2⟩, (any u8).tup tV0, own0, fun R8 r8 => ?_⟩
      have w8 := u8.trans r8
      refine ⟨by show 2 ≤ sizeLine; decide, fun LD hLD => ?_⟩
      have sD : Same G0 (upd R8 LD (.lst [.bl (amountD ps ms us [("k" : Str)] (.tuple [.str "a", .str "k", .int (7), .int (0)])), .bl (amountD ps ms us [] (.tuple [.str "a", .str "x", .int (0), .int (0)]))])) := w8.trans (Same.upd hLD)
      have fD : Same R8 (upd R8 LD (.lst [.bl (amountD ps ms us [("k" : Str)] (.tuple [.str "a", .str "k", .int (7), .int (0)])), .bl (amountD ps ms us [] (.tuple [.str "a", .str "x", .int (0), .int (0)]))])) := Same.upd hLD
      have eD : (upd R8 LD (.lst [.bl (amountD ps ms us [("k" : Str)] (.tuple [.str "a", .str "k", .int (7), .int (0)])), .bl (amountD ps ms us [] (.tuple [.str "a", .str "x", .int (0), .int (0)]))])) LD = some (.lst [.bl (amountD ps ms us [("k" : Str)] (.tuple [.str "a", .str "k", .int (7), .int (0)])), .bl (amountD ps ms us [] (.tuple [.str "a", .str "x", .int (0), .int (0)]))]) := upd_same
      generalize upd R8 LD (.lst [.bl (amountD ps ms us [("k" : Str)] (.tuple [.str "a", .str "k", .int (7), .int (0)])), .bl (amountD ps ms us [] (.tuple [.str "a", .str "x", .int (0), .int (0)]))]) = MD at sD fD eD ⊢
      have gC : MD LC = some (.lst lC) := fD _ _ ((((q7.trans oq7).trans r7).trans (q8.trans r8)) _ _ eC)
      refine ⟨LC, LD, _, _, rfl, rfl, gC, eD, by rw [hlC]; show 8 ≤ sizeLine; decide, fun LE hLE => ?_⟩
      have hE : lC ++ [.bl (amountD ps ms us [("k" : Str)] (.tuple [.str "a", .str "k", .int (7), .int (0)])), .bl (amountD ps ms us [] (.tuple [.str "a", .str "x", .int (0), .int (0)]))] = [.bl true, .bl true, .bl true, .bl false, .bl true, .bl false, .bl true, .bl false] := by
        rw [hlC, hps, hms, hus]
        decide +kernel
      rw [hE]
      have sE : Same G0 (upd MD LE (.lst [.bl true, .bl true, .bl true, .bl false, .bl true, .bl false, .bl true, .bl false])) := sD.trans (Same.upd hLE)
      have eE : (upd MD LE (.lst [.bl true, .bl true, .bl true, .bl false, .bl true, .bl false, .bl true, .bl false])) LE = some (.lst [.bl true, .bl true, .bl true, .bl false, .bl true, .bl false, .bl true, .bl false]) := upd_same
      generalize upd MD LE (.lst [.bl true, .bl true, .bl true, .bl false, .bl true, .bl false, .bl true, .bl false]) = ME at sE eE ⊢
      have dl8 : ∀ {Y : Hp}, DvL (fun _ => False) Y [.bl true, .bl true, .bl true, .bl false, .bl true, .bl false, .bl true, .bl false] [.bool true, .bool true, .bool true, .bool false, .bool true, .bool false, .bool true, .bool false] := fun {Y} => .cons (.bl _) (.cons (.bl _) (.cons (.bl _) (.cons (.bl _) (.cons (.bl _) (.cons (.bl _) (.cons (.bl _) (.cons (.bl _) .nil)))))))
      refine ⟨_, rfl, by show 8 ≤ sizeLine; decide, fun l9 hl9 => ?_⟩
      have f9 : Same ME (upd ME l9 (.lst [.bl true, .bl true, .bl true, .bl false, .bl true, .bl false, .bl true, .bl false])) := Same.upd hl9
      have e9 : (upd ME l9 (.lst [.bl true, .bl true, .bl true, .bl false, .bl true, .bl false, .bl true, .bl false])) l9 = some (.lst [.bl true, .bl true, .bl true, .bl false, .bl true, .bl false, .bl true, .bl false]) := upd_same
      generalize upd ME l9 (.lst [.bl true, .bl true, .bl true, .bl false, .bl true, .bl false, .bl true, .bl false]) = M9 at f9 e9 ⊢
      have s9 := sE.trans f9
      refine ⟨fun _ => False, fun _ => False, .list [.bool true, .bool true, .bool true, .bool false, .bool true, .bool false, .bool true, .bool false], .list [.bool true, .bool true, .bool true, .bool false, .bool true, .bool false, .bool true, .bool false], .lst (fun z => z) (f9 _ _ eE) dl8, .lst (fun z => z) e9 dl8, by decide +kernel, by decide +kernel, _, rfl, ?_⟩
      rw [show PyData.eqv (.list [.bool true, .bool true, .bool true, .bool false, .bool true, .bool false, .bool true, .bool false]) (.list [.bool true, .bool true, .bool true, .bool false, .bool true, .bool false, .bool true, .bool false]) = true by decide +kernel]
      have h1 : termD ps ms us (.tuple ([.str ""] ++ [.int 3])) = true := by
        rw [hps, hms, hus]
        decide +kernel
      have h2 : intD (.int (-5)) = true := by decide +kernel
      have h3 : intD (.int (3 + -5)) = true := by decide +kernel
      have eS : shD ps ms us (.tuple [.str "", .int 3]) (.int (-5)) = .sum (.tuple [.str "", .int (3 + -5)]) := by
        show shD ps ms us (.tuple ([.str ""] ++ [.int 3])) (.int (-5)) = _
        rw [shD, if_pos h1, if_pos h2, sum_of, if_pos h3]
        rfl
      have allS : ∀ e ∈ ([.str "", .int 3] : List PyData), SeqAt.shaped e = true ∧ cost e ≤ 8000000 := by decide +kernel
      refine iteT ⟨_, rfl, x, dx, _, rfl, s9 _ _ hx, rfl, by show 2 ≤ sizeLine; decide, fun t9 J9 q9 h9 => ⟨_, rfl, ?_⟩⟩
      have u9 := s9.trans q9
      refine ⟨All, x, .ref t9, .int (-5), _, _, _, .tuple [.str "", .int 3], .int (-5), ps, ms, us, rfl, fx.same u9, .tupM h9 (.cons (.str _) (.cons (.int _) .nil)), fun e he => ⟨.inl (allS e he).1, (allS e he).2⟩, .int _, .inl ⟨rfl, rfl, rfl⟩, by decide +kernel, (any u9).tup tP0, (any u9).tup tV0,
        fun z => ?_, fun z => ?_, fun z hz t Y9 y9 dz => ?_⟩
      · rw [eS] at z
        cases z
      · rw [eS] at z
        cases z
      · rw [eS] at hz
        cases hz
        refine ⟨_, rfl, by show 2 ≤ sizeLine; decide, fun t10 J10 q10 h10 => ?_⟩
        refine ⟨All, All, .tuple [.str "", .int (3 + -5)], .tuple [.str "", .int (-2)], dz.kp (any q10), .tupM h10 (.cons (.str _) (.cons (.int _) .nil)), by decide +kernel, by decide +kernel, ?_⟩
        rw [show PyData.eqv (.tuple [.str "", .int (3 + -5)]) (.tuple [.str "", .int (-2)]) = true by decide +kernel]
        exact kq _
end
end Kx
namespace Kx
open PySem PySem.Spec PyProof.Rows L2
section
variable {P : Program} {w : World} {K : PySem.W.Frag} {mg mb : Str → Option Value} {k : Nat} {fa a : Addr} {fd : FuncData} {x : Str} {sp : Sp} {s₁ : Shared} {vs : List Value} {ns : List Int}
/-- the call of the law over one abstract heap of unchanging lists and tuples -/
theorem law_coreT {H : Hp} (hok : HOk P w H s₁.heap) (hfrz : ∀ b u, H b = some u → K.lookup b = none ∧ ∃ o v its n, u = .frz o v ∧ o.data = .seq its n)
    (KX : K.In s₁.heap) (hns : s₁.heap.Ns mainGlobals mg) (hb : s₁.heap.Ns builtinsNs mb) (hbb : ∀ x : Str, x ≠ "__name__" → mb x = bootBuiltins x) (hlim : s₁.heap.NoLimit) (hg : s₁.gens = #[]) (hr : Room k callerA)
    (F : ∀ base : Heap, K.In base → base.Ns mainGlobals mg → FnOkG P w K mg base CX0 k fa fd [x] sp) (hbind : ∀ (s : Shared) (u : Value), BindsTo s fd ⟨[u], []⟩ [(x, u)])
    (hsp : sp [.ref a] H (fun v _ => v = .bl true) fun _ _ _ => False) :
    codeAny (model P w) callerA (.call (.ref fa) ⟨[.ref a], []⟩) (fun r s' => r = .ok (.ret (.bool true)) ∧ OldK s₁.heap s'.heap ∧ s'.os = s₁.os ∧ AllBare s'.gens) s₁ := by
  have inB : ∀ {b : Addr} {o : Obj}, s₁.heap.get? b = some o → H b = none → (hidT s₁.heap H).get? b = some o := fun e n => hidT_get e n
  have dictFree : ∀ {b : Addr} {o : Obj} {es : Array DictEntry} {ep : Nat}, s₁.heap.get? b = some o → o.data = .dict es ep → H b = none := fun {b o es ep} e d => by
    cases q : H b with
    | none => rfl
    | some u =>
      obtain ⟨_, ob, v, its, n, rfl, hd⟩ := hfrz b u q
      obtain ⟨e1, _⟩ := hok b _ q
      rw [e] at e1
      cases e1
      rw [hd] at d
      cases d
  have nsB : ∀ {b : Addr} {m : Str → Option Value}, s₁.heap.Ns b m → (hidT s₁.heap H).Ns b m := fun {b m} h => by
    obtain ⟨o, es, ep, e, d, r⟩ := h
    exact ⟨o, es, ep, inB e (dictFree e d), d, r⟩
  have inKB : K.In (hidT s₁.heap H) := by
    intro b o e
    refine inB (KX b o e) ?_
    cases q : H b with
    | none => rfl
    | some u =>
      rw [(hfrz b u q).1] at e
      cases e
  have md : Mod K mg (hidT s₁.heap H) := by
    obtain ⟨mc, h1, h2⟩ := hlim
    exact ⟨inKB, nsB hns, ⟨mb, nsB hb, hbb⟩, mc, nsB h1, h2⟩
  have none_in : ∀ b : Addr, ¬ b ∈ ([] : List Addr) := fun b => List.not_mem_nil
  have e0 : Env0 P w K mg (hidT s₁.heap H) callerA [] s₁ H := ⟨rfl, md, fun b o e => of_hidT e, Nat.le_of_eq (hidT_size _ _), trivial, fun b hb => absurd (show b ∈ ([] : List Addr) from hb) (none_in b), hok, .of_eq hg⟩
  refine codeAny_mono ((F _ inKB (nsB hns)).run callerA [] s₁ H ⟨[.ref a], []⟩ [.ref a] [.ref a] _ _ rfl hr e0 (hbind s₁ (.ref a)) (.cons rfl .nil) hsp) ?_
  intro r s' h
  cases r with
  | error e => exact absurd h (by intro z; exact z.elim)
  | ok fl =>
    cases fl with
    | next => exact h.elim
    | brk => exact h.elim
    | cont => exact h.elim
    | ret u =>
      obtain ⟨v, H', os, bare, un, hok', r', q⟩ := h
      obtain rfl : v = .bl true := q
      obtain rfl : u = Value.bool true := r'
      refine ⟨rfl, OldK.of_keep fun b o e => ?_, os, bare⟩
      cases q : H b with
      | none => exact un.keep b o e q (none_in b) (by simp)
      | some u =>
        obtain ⟨_, ob, xs, _, _, rfl, _⟩ := hfrz b u q
        obtain ⟨e1, _⟩ := hok b _ q
        obtain ⟨e2, _⟩ := hok' b _ (un.frzs b ob _ q)
        rw [e] at e1
        cases e1
        exact e2
/-- an empty tuple stands at t, out of K -/
def Emp (K : PySem.W.Frag) (h : Heap) (t : Addr) : Prop := K.lookup t = none ∧ ∃ (o : Obj) (n : Nat), h.get? t = some o ∧ o.cls = .type "tuple" ∧ o.dict = none ∧ o.data = .seq #[] n
theorem law_callT {ts : List Addr} (hts : ∀ t ∈ ts, Emp K s₁.heap t) (KX : K.In s₁.heap) (hns : s₁.heap.Ns mainGlobals mg) (hb : s₁.heap.Ns builtinsNs mb) (hbb : ∀ x : Str, x ≠ "__name__" → mb x = bootBuiltins x) (hlim : s₁.heap.NoLimit) (hg : s₁.gens = #[])
    (ha : s₁.heap.get? a = some { cls := .type "list", data := .seq vs.toArray }) (hi : IntsAre vs ns) (hl : ns.length ≤ sizeLine) (hr : Room k callerA)
    (F : ∀ base : Heap, K.In base → base.Ns mainGlobals mg → FnOkG P w K mg base CX0 k fa fd [x] sp) (hbind : ∀ (s : Shared) (u : Value), BindsTo s fd ⟨[u], []⟩ [(x, u)])
    (hsp : ∀ H : Hp, SqL K H a (ns.map V.int) → (∀ t ∈ ts, TupF H t []) → sp [.ref a] H (fun v _ => v = .bl true) fun _ _ _ => False) :
    codeAny (model P w) callerA (.call (.ref fa) ⟨[.ref a], []⟩) (fun r s' => r = .ok (.ret (.bool true)) ∧ OldK s₁.heap s'.heap ∧ s'.os = s₁.os ∧ AllBare s'.gens) s₁ := by
  have rv := vals_ints hi
  have hlv : vs.length ≤ sizeLine := by rw [hi.length]; exact hl
  let H0 : Hp := fun b => if b ∈ ts then (match s₁.heap.get? b with | some o => some (.frz o (.tup [])) | none => none) else none
  have H0_of : ∀ b u, H0 b = some u → b ∈ ts ∧ ∃ o, s₁.heap.get? b = some o ∧ u = .frz o (.tup []) := fun b u e => by
    by_cases hb : b ∈ ts
    · have e' : (match s₁.heap.get? b with | some o => some (HO.frz o (.tup [])) | none => none) = some u := by rw [← e]; exact (if_pos hb).symm
      cases q : s₁.heap.get? b with
      | none => rw [q] at e'; cases e'
      | some o => rw [q] at e'; cases e'; exact ⟨hb, o, rfl, rfl⟩
    · have e' : (none : Option HO) = some u := by rw [← e]; exact (if_neg hb).symm
      cases e'
  have H0_at : ∀ t ∈ ts, ∃ o, o.dict = none ∧ H0 t = some (.frz o (.tup [])) := fun t ht => by
    obtain ⟨_, o, n, e, _, hd, _⟩ := hts t ht
    refine ⟨o, hd, ?_⟩
    show (if t ∈ ts then (match s₁.heap.get? t with | some o => some (HO.frz o (.tup [])) | none => none) else none) = _
    rw [if_pos ht, e]
  have okT : ∀ (H : Hp) (b : Addr) (u : HO), H0 b = some u → ObjOk P w H s₁.heap b u := fun H b u e => by
    obtain ⟨hb, o, ho, rfl⟩ := H0_of b u e
    obtain ⟨_, o', n, e', hc, _, hdt⟩ := hts b hb
    rw [ho] at e'
    cases e'
    exact ⟨ho, Nat.zero_le _, [], .nil, ⟨o, ho, hc, n, hdt⟩⟩
  have fz : ∀ b u, H0 b = some u → K.lookup b = none ∧ ∃ o v its n, u = .frz o v ∧ o.data = .seq its n := fun b u e => by
    obtain ⟨hb, o, ho, rfl⟩ := H0_of b u e
    obtain ⟨hk, o', n, e', _, _, hdt⟩ := hts b hb
    rw [ho] at e'
    cases e'
    exact ⟨hk, o, _, _, n, rfl, hdt⟩
  have nat : a ∉ ts := fun h => by
    obtain ⟨_, o, n, e, hc, _⟩ := hts a h
    rw [ha] at e
    cases e
    have hc' : Value.type "list" = Value.type "tuple" := hc
    exact absurd (Value.type.inj hc') (by decide)
  cases hk : K.lookup a with
  | some o =>
    have e := KX a o hk
    rw [ha] at e
    cases e
    have hS : SqL K H0 a (ns.map V.int) := .inr ⟨_, vs.toArray, _, hk, rfl, rfl, rfl, by rw [List.size_toArray]; exact hlv, by simpa using rv⟩
    exact law_coreT (H := H0) (fun b u e => okT _ b u e) fz KX hns hb hbb hlim hg hr F hbind (hsp _ hS fun t ht => let ⟨o, d, e⟩ := H0_at t ht; ⟨o, d, e⟩)
  | none =>
    let ob : Obj := { cls := .type "list", data := .seq vs.toArray }
    let H : Hp := upd H0 a (.frz ob (.lst (ns.map V.int)))
    have H_at : H a = some (.frz ob (.lst (ns.map V.int))) := upd_same
    have hS : SqL K H a (ns.map V.int) := .inl (.inr ⟨ob, H_at⟩)
    refine law_coreT (H := H) (fun b u e => ?_) (fun b u e => ?_) KX hns hb hbb hlim hg hr F hbind (hsp _ hS fun t ht => ?_)
    · by_cases h : b = a
      · subst h
        rw [H_at] at e
        cases e
        exact ⟨ha, by rw [List.length_map]; exact hl, vs, _, rv, ha⟩
      · have e' : H0 b = some u := (upd_ne h).symm.trans e
        exact okT _ b u e'
    · by_cases h : b = a
      · subst h
        rw [H_at] at e
        cases e
        exact ⟨hk, ob, _, _, _, rfl, rfl⟩
      · exact fz b u ((upd_ne h).symm.trans e)
    · obtain ⟨o, d, e⟩ := H0_at t ht
      exact ⟨o, d, (upd_ne (fun z => nat (by rw [← z]; exact ht))).trans e⟩
end
/-- the end of a law whose def is told by FnOkG, with empty tuples -/
theorem walk_ofT {l : PySem.W.OpenLaw} {n k : Nat} {q : Program} {loose : List Str} {XP : (Str → Option Value) → Heap → Prop} {YP : World → Heap → Prop} {d : DefRec} {x : Str}
    (hn : l.most = some n) (hn2 : n ≤ sizeLine) (hdf : d.params.defaults = []) (hr : Room k callerA)
    (F : ∀ (w : World) (mg : Str → Option Value) (fa : Addr) (h : Heap), YP w h → h.Ns mainGlobals mg → mg d.name = some (.ref fa) →
      ∃ (K : PySem.W.Frag) (fd : FuncData) (sp : Sp) (ts : List Addr), K.In h ∧ (∀ t ∈ ts, Emp K h t) ∧ (∀ (s : Shared) (u : Value), BindsTo s fd ⟨[u], []⟩ [(x, u)]) ∧
        (∀ (H : Hp) (a : Addr) (ns : List Int), ns.length ≤ n → SqL K H a (ns.map V.int) → (∀ t ∈ ts, TupF H t []) → sp [.ref a] H (fun v _ => v = .bl true) fun _ _ _ => False) ∧
        ∀ base : Heap, K.In base → base.Ns mainGlobals mg → FnOkG l.prog w K mg base CX0 k fa fd [x] sp) :
    PySem.W.WalkO q loose XP YP l.row.toRowW d [] (fun f vs => PySem.call f vs) := by
  refine Att.attach_call hn hdf ?_
  intro w s₀ s₁ mg mb fa o pm cd doc a vs ns G Y ho hd hcd hmg hobj hints hlen hg
  obtain ⟨K, fd, sp, ts, inK, emp, bd, hs, hF⟩ := F w mg fa _ Y G.T.g hmg
  exact law_callT emp inK G.T.g G.T.b G.T.builtins G.T.nolimit hg hobj hints (Nat.le_trans hlen hn2) hr hF bd fun H hS ht => hs H a ns hlen hS ht
end Kx
namespace Kx
open PySem PySem.Spec PyProof.Rows L2
/-- what is told of a heap at a law's beginning: unchanging sequences, and the empty table at t -/
def Beg (K : PySem.W.Frag) (t : Addr) (H : Hp) : Prop := ∀ b u, H b = some u → K.lookup b = none ∧ ((∃ o v its n, u = .frz o v ∧ o.data = .seq its n) ∨ (b = t ∧ u = .tbl #[]))
/-- where the module's builtins stand -/
def BuM (mg : Str → Option Value) (h : Heap) : Prop := ∃ (bm : Addr) (ob : Obj), mg "__builtins__" = some (.ref bm) ∧ bm ≠ builtinsNs ∧ h.get? bm = some ob ∧ ob.cls = .type "module" ∧ ob.dict = some builtinsNs ∧ ob.data = .plain
section
variable {P : Program} {w : World} {K : PySem.W.Frag} {mg mb : Str → Option Value} {k : Nat} {fa a c t : Addr} {fd : FuncData} {x : Str} {sp : Sp} {s₁ : Shared} {vs : List Value} {ns : List Int}
theorem law_coreU {H : Hp} (hok : HOk P w H s₁.heap) (hB : Beg K t H) (hHt : H t = some (.tbl #[])) (hC : PySem.W.CodeHd s₁.heap c t) (hbm : BuM mg s₁.heap)
    (KX : K.In s₁.heap) (hns : s₁.heap.Ns mainGlobals mg) (hb : s₁.heap.Ns builtinsNs mb) (hbb : ∀ x : Str, x ≠ "__name__" → mb x = bootBuiltins x) (hlim : s₁.heap.NoLimit) (hg : s₁.gens = #[]) (hr : Room k callerA)
    (F : ∀ base : Heap, K.In base → base.Ns mainGlobals mg → LamX.TabB base mg c t → FnOkG P w K mg base CX0 k fa fd [x] sp) (hbind : ∀ (s : Shared) (u : Value), BindsTo s fd ⟨[u], []⟩ [(x, u)])
    (hsp : sp [.ref a] H (fun v _ => v = .bl true) fun _ _ _ => False) :
    codeAny (model P w) callerA (.call (.ref fa) ⟨[.ref a], []⟩) (fun r s' => r = .ok (.ret (.bool true)) ∧ OldK s₁.heap s'.heap ∧ s'.os = s₁.os ∧ AllBare s'.gens) s₁ := by
  have et : s₁.heap.get? t = some { cls := .none, data := .fields #[] } := hok t _ hHt
  have inB : ∀ {b : Addr} {o : Obj}, s₁.heap.get? b = some o → H b = none → (hidT s₁.heap H).get? b = some o := fun e n => hidT_get e n
  have out : ∀ {b : Addr} {o : Obj}, s₁.heap.get? b = some o → (∀ its n, o.data = .seq its n → False) → (b = t → False) → H b = none := fun {b o} e h1 h2 => by
    cases q : H b with
    | none => rfl
    | some u =>
      rcases (hB b u q).2 with ⟨ob, v, its, n, rfl, hd⟩ | ⟨z, _⟩
      · obtain ⟨e1, _⟩ := hok b _ q
        rw [e] at e1
        cases e1
        exact (h1 _ _ hd).elim
      · exact (h2 z).elim
  have notT : ∀ {b : Addr} {o : Obj}, s₁.heap.get? b = some o → o.data ≠ .fields #[] → b = t → False := fun {b o} e h1 z => by
    rw [z, et] at e
    cases e
    exact h1 rfl
  have dictFree : ∀ {b : Addr} {o : Obj} {es : Array DictEntry} {ep : Nat}, s₁.heap.get? b = some o → o.data = .dict es ep → H b = none := fun {b o es ep} e d => by
    refine out e (fun its n z => ?_) (notT e fun z => ?_)
    · rw [d] at z
      cases z
    · rw [d] at z
      cases z
  have nsB : ∀ {b : Addr} {m : Str → Option Value}, s₁.heap.Ns b m → (hidT s₁.heap H).Ns b m := fun {b m} h => by
    obtain ⟨o, es, ep, e, d, r⟩ := h
    exact ⟨o, es, ep, inB e (dictFree e d), d, r⟩
  have inKB : K.In (hidT s₁.heap H) := by
    intro b o e
    refine inB (KX b o e) ?_
    cases q : H b with
    | none => rfl
    | some u =>
      rw [(hB b u q).1] at e
      cases e
  have md : Mod K mg (hidT s₁.heap H) := by
    obtain ⟨mc, h1, h2⟩ := hlim
    exact ⟨inKB, nsB hns, ⟨mb, nsB hb, hbb⟩, mc, nsB h1, h2⟩
  have tb : LamX.TabB (hidT s₁.heap H) mg c t := by
    constructor
    · obtain ⟨o, us, file, tf, flags, tg, inF, text, tt, e1, r1, r2, r3, r4⟩ := hC
      refine ⟨o, us, file, tf, flags, tg, inF, text, tt, inB e1 (out e1 (fun its n z => ?_) (notT e1 fun z => ?_)), r1, r2, r3, r4⟩
      · rw [r2] at z
        cases z
      · rw [r2] at z
        cases z
        cases r3
    · obtain ⟨bm, ob, b1, b2, b3, b4, b5, b6⟩ := hbm
      have ne1 : bm ≠ mainGlobals := fun z => by
        obtain ⟨o, es, ep, e, d, _⟩ := hns
        rw [z, e] at b3
        cases b3
        rw [d] at b6
        cases b6
      have ne2 : bm ≠ t := fun z => notT b3 (fun y => by rw [b6] at y; cases y) z
      exact ⟨bm, ob, b1, b2, ne1, ne2, inB b3 (out b3 (fun its n z => by rw [b6] at z; cases z) ne2), b4, b5, b6⟩
    · intro z
      obtain ⟨o, es, ep, e, d, _⟩ := hns
      exact notT e (fun y => by rw [d] at y; cases y) z
  have none_in : ∀ b : Addr, ¬ b ∈ ([] : List Addr) := fun b => List.not_mem_nil
  have e0 : Env0 P w K mg (hidT s₁.heap H) callerA [] s₁ H := ⟨rfl, md, fun b o e => of_hidT e, Nat.le_of_eq (hidT_size _ _), trivial, fun b hb => absurd (show b ∈ ([] : List Addr) from hb) (none_in b), hok, .of_eq hg⟩
  refine codeAny_mono ((F _ inKB (nsB hns) tb).run callerA [] s₁ H ⟨[.ref a], []⟩ [.ref a] [.ref a] _ _ rfl hr e0 (hbind s₁ (.ref a)) (.cons rfl .nil) hsp) ?_
  intro r s' h
  cases r with
  | error e => exact absurd h (by intro z; exact z.elim)
  | ok fl =>
    cases fl with
    | next => exact h.elim
    | brk => exact h.elim
    | cont => exact h.elim
    | ret u =>
      obtain ⟨v, H', os, bare, un, hok', r', q⟩ := h
      obtain rfl : v = .bl true := q
      obtain rfl : u = Value.bool true := r'
      have same : ∀ b o, (b = t → False) → s₁.heap.get? b = some o → s'.heap.get? b = some o := fun b o nb e => by
        cases q : H b with
        | none => exact un.keep b o e q (none_in b) (by simp)
        | some u =>
          rcases (hB b u q).2 with ⟨ob, xs, _, _, rfl, _⟩ | ⟨z, _⟩
          · obtain ⟨e1, _⟩ := hok b _ q
            obtain ⟨e2, _⟩ := hok' b _ (un.frzs b ob _ q)
            rw [e] at e1
            cases e1
            exact e2
          · exact (nb z).elim
      obtain ⟨more, hm⟩ : ∃ more : Array Value, s'.heap.get? t = some { cls := .none, data := .fields more } := by
        obtain ⟨more, z⟩ := un.tbls t #[] hHt
        exact ⟨_, hok' t _ z⟩
      refine ⟨rfl, ⟨fun b o e => ?_, fun b o e => ?_⟩, os, bare⟩
      · by_cases z : b = t
        · subst z
          rw [et] at e
          cases e
          exact .inr (.inl ⟨(hC.tab et).isCodeTable, rfl, #[], more, rfl, by rw [Array.empty_append]; exact hm⟩)
        · exact .inl (same b o z e)
      · by_cases z : b = t
        · subst z
          exact ⟨_, hm⟩
        · exact ⟨o, same b o z e⟩
theorem law_callU {ts : List Addr} (hts : ∀ y ∈ ts, Emp K s₁.heap y) (et : s₁.heap.get? t = some { cls := .none, data := .fields #[] }) (nt : K.lookup t = none) (hC : PySem.W.CodeHd s₁.heap c t) (hbm : BuM mg s₁.heap)
    (KX : K.In s₁.heap) (hns : s₁.heap.Ns mainGlobals mg) (hb : s₁.heap.Ns builtinsNs mb) (hbb : ∀ x : Str, x ≠ "__name__" → mb x = bootBuiltins x) (hlim : s₁.heap.NoLimit) (hg : s₁.gens = #[])
    (ha : s₁.heap.get? a = some { cls := .type "list", data := .seq vs.toArray }) (hi : IntsAre vs ns) (hl : ns.length ≤ sizeLine) (hr : Room k callerA)
    (F : ∀ base : Heap, K.In base → base.Ns mainGlobals mg → LamX.TabB base mg c t → FnOkG P w K mg base CX0 k fa fd [x] sp) (hbind : ∀ (s : Shared) (u : Value), BindsTo s fd ⟨[u], []⟩ [(x, u)])
    (hsp : ∀ H : Hp, SqL K H a (ns.map V.int) → (∀ y ∈ ts, TupF H y []) → H t = some (.tbl #[]) → sp [.ref a] H (fun v _ => v = .bl true) fun _ _ _ => False) :
    codeAny (model P w) callerA (.call (.ref fa) ⟨[.ref a], []⟩) (fun r s' => r = .ok (.ret (.bool true)) ∧ OldK s₁.heap s'.heap ∧ s'.os = s₁.os ∧ AllBare s'.gens) s₁ := by
  have rv := vals_ints hi
  have hlv : vs.length ≤ sizeLine := by rw [hi.length]; exact hl
  have clsT : ∀ y ∈ ts, y ≠ t := fun y hy z => by
    obtain ⟨_, o, n, e, hc, _⟩ := hts y hy
    rw [z, et] at e
    cases e
    cases hc
  have clsA : a ≠ t := fun z => by
    rw [z, et] at ha
    cases ha
  let H0 : Hp := fun b => if b = t then some (.tbl #[]) else if b ∈ ts then (match s₁.heap.get? b with | some o => some (.frz o (.tup [])) | none => none) else none
  have H0_t : H0 t = some (.tbl #[]) := if_pos rfl
  have H0_of : ∀ b u, H0 b = some u → (b = t ∧ u = .tbl #[]) ∨ (b ∈ ts ∧ ∃ o, s₁.heap.get? b = some o ∧ u = .frz o (.tup [])) := fun b u e => by
    by_cases ht : b = t
    · rw [ht, H0_t] at e
      cases e
      exact .inl ⟨ht, rfl⟩
    · by_cases hb : b ∈ ts
      · have e' : (match s₁.heap.get? b with | some o => some (HO.frz o (.tup [])) | none => none) = some u := by rw [← e]; exact ((if_neg ht).trans (if_pos hb)).symm
        cases q : s₁.heap.get? b with
        | none => rw [q] at e'; cases e'
        | some o => rw [q] at e'; cases e'; exact .inr ⟨hb, o, rfl, rfl⟩
      · have e' : (none : Option HO) = some u := by rw [← e]; exact ((if_neg ht).trans (if_neg hb)).symm
        cases e'
  have H0_at : ∀ y ∈ ts, ∃ o, o.dict = none ∧ H0 y = some (.frz o (.tup [])) := fun y hy => by
    obtain ⟨_, o, n, e, _, hd, _⟩ := hts y hy
    refine ⟨o, hd, ?_⟩
    show (if y = t then some (HO.tbl #[]) else if y ∈ ts then (match s₁.heap.get? y with | some o => some (HO.frz o (.tup [])) | none => none) else none) = _
    rw [if_neg (clsT y hy), if_pos hy, e]
  have okT : ∀ (H : Hp) (b : Addr) (u : HO), H0 b = some u → ObjOk P w H s₁.heap b u := fun H b u e => by
    rcases H0_of b u e with ⟨rfl, rfl⟩ | ⟨hb, o, ho, rfl⟩
    · exact et
    · obtain ⟨_, o', n, e', hc, _, hdt⟩ := hts b hb
      rw [ho] at e'
      cases e'
      exact ⟨ho, Nat.zero_le _, [], .nil, ⟨o, ho, hc, n, hdt⟩⟩
  have fz : Beg K t H0 := fun b u e => by
    rcases H0_of b u e with ⟨rfl, rfl⟩ | ⟨hb, o, ho, rfl⟩
    · exact ⟨nt, .inr ⟨rfl, rfl⟩⟩
    · obtain ⟨hk, o', n, e', _, _, hdt⟩ := hts b hb
      rw [ho] at e'
      cases e'
      exact ⟨hk, .inl ⟨o, _, _, n, rfl, hdt⟩⟩
  have nat : a ∉ ts := fun h => by
    obtain ⟨_, o, n, e, hc, _⟩ := hts a h
    rw [ha] at e
    cases e
    have hc' : Value.type "list" = Value.type "tuple" := hc
    exact absurd (Value.type.inj hc') (by decide)
  cases hk : K.lookup a with
  | some o =>
    have e := KX a o hk
    rw [ha] at e
    cases e
    have hS : SqL K H0 a (ns.map V.int) := .inr ⟨_, vs.toArray, _, hk, rfl, rfl, rfl, by rw [List.size_toArray]; exact hlv, by simpa using rv⟩
    exact law_coreU (H := H0) (fun b u e => okT _ b u e) fz H0_t hC hbm KX hns hb hbb hlim hg hr F hbind (hsp _ hS (fun y hy => let ⟨o, d, e⟩ := H0_at y hy; ⟨o, d, e⟩) H0_t)
  | none =>
    let ob : Obj := { cls := .type "list", data := .seq vs.toArray }
    let H : Hp := upd H0 a (.frz ob (.lst (ns.map V.int)))
    have H_at : H a = some (.frz ob (.lst (ns.map V.int))) := upd_same
    have H_t : H t = some (.tbl #[]) := (upd_ne clsA.symm).trans H0_t
    have hS : SqL K H a (ns.map V.int) := .inl (.inr ⟨ob, H_at⟩)
    refine law_coreU (H := H) (fun b u e => ?_) (fun b u e => ?_) H_t hC hbm KX hns hb hbb hlim hg hr F hbind (hsp _ hS (fun y hy => ?_) H_t)
    · by_cases h : b = a
      · subst h
        rw [H_at] at e
        cases e
        exact ⟨ha, by rw [List.length_map]; exact hl, vs, _, rv, ha⟩
      · exact okT _ b u ((upd_ne h).symm.trans e)
    · by_cases h : b = a
      · subst h
        rw [H_at] at e
        cases e
        exact ⟨hk, .inl ⟨ob, _, _, _, rfl, rfl⟩⟩
      · exact fz b u ((upd_ne h).symm.trans e)
    · obtain ⟨o, d, e⟩ := H0_at y hy
      exact ⟨o, d, (upd_ne (fun z => nat (by rw [← z]; exact hy))).trans e⟩
end
/-- the end of a law with empty tuples and one def's table, its def told by FnOkG -/
theorem walk_ofU {l : PySem.W.OpenLaw} {n k : Nat} {q : Program} {loose : List Str} {XP : (Str → Option Value) → Heap → Prop} {YP : World → Heap → Prop} {d : DefRec} {x : Str}
    (hn : l.most = some n) (hn2 : n ≤ sizeLine) (hdf : d.params.defaults = []) (hr : Room k callerA)
    (F : ∀ (w : World) (mg : Str → Option Value) (fa : Addr) (h : Heap), YP w h → h.Ns mainGlobals mg → mg d.name = some (.ref fa) →
      ∃ (K : PySem.W.Frag) (fd : FuncData) (sp : Sp) (ts : List Addr) (c t : Addr), K.In h ∧ (∀ y ∈ ts, Emp K h y) ∧ h.get? t = some { cls := .none, data := .fields #[] } ∧ K.lookup t = none ∧ PySem.W.CodeHd h c t ∧ (∀ (s : Shared) (u : Value), BindsTo s fd ⟨[u], []⟩ [(x, u)]) ∧
        (∀ (H : Hp) (a : Addr) (ns : List Int), ns.length ≤ n → (∀ z ∈ ns, Builtin.Int.intBits z ≤ 1048576) → SqL K H a (ns.map V.int) → (∀ y ∈ ts, TupF H y []) → H t = some (.tbl #[]) → sp [.ref a] H (fun v _ => v = .bl true) fun _ _ _ => False) ∧
        ∀ base : Heap, K.In base → base.Ns mainGlobals mg → LamX.TabB base mg c t → FnOkG l.prog w K mg base CX0 k fa fd [x] sp) :
    PySem.W.WalkO q loose XP YP l.row.toRowW d [] (fun f vs => PySem.call f vs) := by
  refine Att.attach_callB hn hdf ?_
  intro w s₀ s₁ mg mb fa o pm cd doc a vs ns G Y ho hd hcd hmg hobj hints hlen hbits hg
  obtain ⟨K, fd, sp, ts, c, t, inK, emp, et, nt, hC, bd, hs, hF⟩ := F w mg fa _ Y G.T.g hmg
  exact law_callU emp et nt hC G.T.bmain inK G.T.g G.T.b G.T.builtins G.T.nolimit hg hobj hints (Nat.le_trans hlen hn2) hr hF bd fun H hS ht hT => hs H a ns hlen hbits hS ht hT
end Kx
namespace Kx
open PySem PySem.Spec PyProof.Rows L2
/-- a keyword default that is an object -/
def kwAt (m x : Str) (K : PySem.W.Frag) : Addr := match K.lookup (He.fAd K ("Frame", some m)) with
  | some ⟨_, _, .func fd, _⟩ => (match fd.kwdefaults with
    | .ref D => (match PySem.W.nsIn K D x with
      | some (some (.ref t)) => t
      | _ => 0)
    | _ => 0)
  | _ => 0
def tsOf (K : PySem.W.Frag) : List Addr := [kwAt "is_position_term" "own" K, kwAt "is_value_term" "own" K]
/-- the code object of the def that makes a lambda -/
def cdOf (K : PySem.W.Frag) : Addr := match K.lookup (He.ga K "_law_shifted_right") with
  | some ⟨_, _, .func fd, _⟩ => (match fd.code with
    | .ref c => c
    | _ => 0)
  | _ => 0
/-- its table -/
def tbOf (K : PySem.W.Frag) : Addr := match K.lookup (cdOf K) with
  | some ⟨_, _, .fields vs, _⟩ => (match vs.getD 11 .none with
    | .ref p => p
    | _ => 0)
  | _ => 0
def noneB (K : PySem.W.Frag) (t : Addr) : Bool := match K.lookup t with
  | some ⟨.none, none, .fields vs, sl⟩ => decide (vs = #[]) && decide (sl = #[])
  | _ => false
theorem noneB_ok {K : PySem.W.Frag} {h : Heap} {t : Addr} (X : K.In h) (c : noneB K t = true) : h.get? t = some { cls := .none, data := .fields #[] } := by
  unfold noneB at c
  cases q : K.lookup t with
  | none => rw [q] at c; cases c
  | some o =>
    obtain ⟨oc, od, dt, sl⟩ := o
    rw [q] at c
    cases oc with
    | none =>
      cases od with
      | some _ => cases dt <;> cases c
      | none =>
        cases dt with
        | fields vs =>
          obtain ⟨c1, c2⟩ := He.ba (show (decide (vs = #[]) && decide (sl = #[])) = true from c)
          have e1 : vs = #[] := of_decide_eq_true c1
          have e2 : sl = #[] := of_decide_eq_true c2
          subst e1 e2
          exact X t _ q
        | _ => cases c
    | _ => cases od <;> cases dt <;> cases c
def cutT (K : PySem.W.Frag) (ts : List Addr) : PySem.W.Frag := List.filter (fun q => !ts.contains q.1) K
theorem cutT_none {ts : List Addr} {t : Addr} (h : t ∈ ts) : ∀ K : PySem.W.Frag, (cutT K ts).lookup t = none
  | [] => rfl
  | (b, o) :: r => by
    unfold cutT
    rw [List.filter_cons]
    split
    · next c =>
      have nb : ¬ t = b := fun e => by
        subst e
        have c2 : (!ts.contains t) = true := c
        rw [List.contains_iff_mem.mpr h] at c2
        cases c2
      rw [List.lookup_cons, show (t == b) = false from beq_eq_false_iff_ne.mpr nb]
      exact cutT_none h r
    · exact cutT_none h r
theorem cutT_some {ts : List Addr} {t : Addr} (h : ¬ t ∈ ts) : ∀ K : PySem.W.Frag, (cutT K ts).lookup t = K.lookup t
  | [] => rfl
  | (b, o) :: r => by
    unfold cutT
    rw [List.filter_cons]
    by_cases e : t = b
    · subst e
      have c : (!ts.contains t) = true := by
        cases q : ts.contains t with
        | false => rfl
        | true => exact absurd (List.contains_iff_mem.mp q) h
      rw [if_pos c, List.lookup_cons, List.lookup_cons, show (t == t) = true from beq_self_eq_true t]
    · have e1 : (t == b) = false := beq_eq_false_iff_ne.mpr e
      split
      · rw [List.lookup_cons, List.lookup_cons, e1]
        exact cutT_some h r
      · rw [List.lookup_cons, e1]
        exact cutT_some h r
theorem cutT_in {ts : List Addr} {K : PySem.W.Frag} {h : Heap} (X : K.In h) : (cutT K ts).In h := fun a o e => by
  by_cases m : a ∈ ts
  · rw [cutT_none m] at e
    cases e
  · rw [cutT_some m] at e
    exact X a o e
def empB (K : PySem.W.Frag) (t : Addr) : Bool := match K.lookup t with
  | some ⟨.type c, none, .seq its _, _⟩ => decide (c = "tuple") && decide (its = #[])
  | _ => false
theorem empB_ok {K : PySem.W.Frag} {ts : List Addr} {h : Heap} {t : Addr} (X : K.In h) (m : t ∈ ts) (c : empB K t = true) : Emp (cutT K ts) h t := by
  refine ⟨cutT_none m K, ?_⟩
  unfold empB at c
  cases q : K.lookup t with
  | none => rw [q] at c; cases c
  | some o =>
    obtain ⟨oc, od, dt, osl⟩ := o
    rw [q] at c
    cases oc with
    | type n =>
      cases od with
      | some _ => cases dt <;> cases c
      | none =>
        cases dt with
        | seq its k =>
          obtain ⟨c1, c2⟩ := He.ba (show (decide (n = "tuple") && decide (its = #[])) = true from c)
          have e1 : n = "tuple" := of_decide_eq_true c1
          have e2 : its = #[] := of_decide_eq_true c2
          subst e1 e2
          exact ⟨_, k, X t _ q, rfl, rfl, rfl⟩
        | _ => cases c
    | _ => cases od <;> cases dt <;> cases c
def dd (x : Str) (st : Stmt) : He.DefD := ⟨(x, none), x, x, defArgs st, defBody st, defScope st, [], []⟩
def dm (m q : Str) (st : Stmt) : He.DefD := ⟨("Frame", some m), m, q, defArgs st, defBody st, defScope st, [], []⟩
def dmo (m q : Str) (st : Stmt) : He.DefD := ⟨("Frame", some m), m, q, defArgs st, defBody st, defScope st, [], [("own", .adr (kwAt m "own"))]⟩
def dIN : He.DefD := ⟨("InvalidNumber", some "__init__"), "__init__", "InvalidNumber.__init__", defArgs s_InvalidNumber_init, defBody s_InvalidNumber_init, defScope s_InvalidNumber_init, [], []⟩
def fn : List He.DefD := [dd "is_integer" s_is_integer, dd "copied" s_copied, dd "is_name" s_is_name, dd "are_own_names" s_are_own_names, dd "_check_own" s_check_own, dd "_are_names" s_are_names, dd "_is_array" s_is_array, dd "_are_arrays" s_are_arrays, dd "_kinds_of" s_kinds_of, dd "_law_filled" s_law_filled, dd "_law_dip" s_law_dip, dd "_law_choose" s_law_choose, dd "_law_shuffled" s_law_shuffled, dd "_law_name" s_law_name, dd "_law_names" s_law_names, dd "_law_parts" s_law_parts, dd "_law_lengths" s_law_lengths, dd "_law_used" s_law_used, dd "_law_number" s_law_number, dd "_law_position" s_law_position, dd "_law_value" s_law_value, dd "_law_is_number" s_law_is_number, dd "_law_is_position" s_law_is_position, dd "_law_is_value" s_law_is_value, dd "_law_near" s_law_near, dd "_law_met" s_law_met, dd "_law_shifted_right" s_law_shifted_right, dd "_law_right" s_law_right, dd "law" s_law, dm "__init__" "Frame.__init__" s_Frame_init, dm "is_fresh" "Frame.is_fresh" s_Frame_is_fresh, dm "_is_of_kind" "Frame._is_of_kind" s_Frame_is_of_kind, dm "__contains__" "Frame.__contains__" s_Frame_contains, dmo "is_position_term" "Frame.is_position_term" s_Frame_is_position_term, dmo "is_value_term" "Frame.is_value_term" s_Frame_is_value_term, dm "shifted" "Frame.shifted" s_Frame_shifted, dm "has_place" "Frame.has_place" s_Frame_has_place, dm "has_amount" "Frame.has_amount" s_Frame_has_amount, dIN]
def fa : List He.Fa := [.glo "is_integer", .glo "copied", .glo "is_name", .glo "are_own_names", .glo "_check_own", .glo "_are_names", .glo "_is_array", .glo "_are_arrays", .glo "_kinds_of", .glo "_law_filled", .glo "_law_dip", .glo "_law_choose", .glo "_law_shuffled", .glo "_law_name", .glo "_law_names", .glo "_law_parts", .glo "_law_lengths", .glo "_law_used", .glo "_law_number", .glo "_law_position", .glo "_law_value", .glo "_law_is_number", .glo "_law_is_position", .glo "_law_is_value", .glo "_law_near", .glo "_law_met", .glo "_law_shifted_right", .glo "_law_right", .glo "law", .glo "InvalidFrame", .glo "InvalidTerm", .glo "InvalidNumber", .glo "Frame", .free "abs", .free "all", .free "dict", .free "enumerate", .free "int", .free "isinstance", .free "len", .free "list", .free "max", .free "min", .free "range", .free "repr", .free "set", .free "str", .free "sum", .free "tuple", .free "bool", .int "LONGEST_NAME" 8, .int "MAX_ARRAYS" 12, .int "MAX_POSITIONS" 6, .int "MAX_VALUES" 6, .int "MAX_OWN" 2, .int "LIMIT" 1000000000000000000000000000000000000000000000000000000000000, .cls "Frame", .noat "Frame" "_arrays", .noat "Frame" "_positions", .noat "Frame" "_amounts", .noat "Frame" "_length_by_array", .noat "Frame" "_lengths", .noat "Frame" "_kinds", .meth "Frame" "is_fresh", .meth "Frame" "_is_of_kind", .meth "Frame" "__contains__", .meth "Frame" "is_position_term", .meth "Frame" "is_value_term", .meth "Frame" "shifted", .meth "Frame" "has_place", .meth "Frame" "has_amount", .mkr "Frame", .exc "InvalidFrame", .exc "InvalidTerm", .exm "InvalidTerm" "InvalidTerm" true, .exm "InvalidNumber" "InvalidTerm" false, .exm "InvalidNumber" "InvalidNumber" true, .noat "InvalidNumber" "given", .meth "InvalidNumber" "__init__"]
def names1 : List Str := ["_wall", "LIMIT", "is_integer", "copied", "ClaimError", "InvalidFrame", "InvalidTerm", "InvalidNumber", "LONGEST_NAME", "MAX_ARRAYS", "MAX_POSITIONS", "MAX_VALUES", "MAX_OWN", "is_name", "are_own_names", "_check_own", "_are_names", "_is_array", "_are_arrays", "_kinds_of"]
def names2 : List Str := ["_with_blanks", "Frame", "_law_filled", "_law_dip", "_law_choose", "_law_shuffled", "_law_name", "_law_names", "_law_parts", "_law_lengths", "_law_used", "_law_number", "_law_position", "_law_value", "_law_is_number", "_law_is_position", "_law_is_value", "_law_near", "_law_met", "_law_shifted_right", "_law_right"]
/-! ### the class over IndexError -/
def exIB (K : PySem.W.Frag) (C : Addr) : Bool := match K.lookup C with
  | some ⟨oc, _, .cls cd, sl⟩ => decide (oc = .type "type") && (decide (cd.mro = .ref C :: PySem.HandSPX.ieT) && (cd.hasDict && (!cd.hasDel && (match sl.toList with
    | [_, _, _, _, some (.builtin n), _] => decide (n = "IndexError.__new__")
    | _ => false))))
  | _ => false
def moreB (K : PySem.W.Frag) : Bool := (K.lookup sysModules).isSome && (exIB K (He.ga K "InvalidNumber") && (He.eqO (PySem.W.findIn K (.ref (He.ga K "InvalidNumber")) "__setattr__") (some (some (.builtin "object.__setattr__"))) && (decide (PySem.W.typeIn K (.ref (He.ga K "InvalidNumber")) = some (.type "type")) &&
  (PySem.W.keepIn K (.ref (He.ga K "InvalidNumber")) && (xfB K (He.ga K "InvalidNumber") && (decide (PySem.W.typeIn K (.ref (He.ma K (He.ga K "InvalidNumber") "__init__")) = some (.type "function")) && PySem.W.codeHdIn K (cdOf K) (tbOf K)))))))
theorem exIB_ok {K : PySem.W.Frag} {C : Addr} (c : exIB K C = true) : ∃ nm q N bs sn sub ab col dd k0 k1 k2 k3 k5, K.lookup C = some (excClassObj nm q C N bs PySem.HandSPX.ieT true sn sub ab col dd k0 k1 k2 k3 k5 "IndexError.__new__") := by
  unfold exIB at c
  cases q : K.lookup C with
  | none => rw [q] at c; cases c
  | some o =>
    obtain ⟨oc, od, dt, sl⟩ := o
    rw [q] at c
    cases dt with
    | cls cd =>
      obtain ⟨c1, cX⟩ := He.ba (show (decide (oc = .type "type") && (decide (cd.mro = .ref C :: PySem.HandSPX.ieT) && (cd.hasDict && (!cd.hasDel && (match sl.toList with
        | [_, _, _, _, some (.builtin n), _] => decide (n = "IndexError.__new__")
        | _ => false))))) = true from c)
      clear c q
      obtain ⟨c2, cX⟩ := He.ba cX
      obtain ⟨c3, cX⟩ := He.ba cX
      obtain ⟨c4, cX⟩ := He.ba cX
      have e1 : oc = .type "type" := of_decide_eq_true c1
      have e2 : cd.mro = .ref C :: PySem.HandSPX.ieT := of_decide_eq_true c2
      subst e1
      obtain ⟨d1, d2, d3, d4, d5, d6, d7, d8, d9, d10, d11⟩ := cd
      dsimp only at c3 c4 e2
      subst c3 e2
      have e4 : d11 = false := by simpa using c4
      subst e4
      obtain ⟨l⟩ := sl
      match l, cX with
      | [k0, k1, k2, k3, some (.builtin n), k5], cX =>
        have e5 : n = "IndexError.__new__" := of_decide_eq_true cX
        subst e5
        exact ⟨_, _, _, _, _, _, _, _, _, _, _, _, _, _, rfl⟩
    | _ => cases c
abbrev AlX : Type := He.AlD × Bool
def obsX (K : PySem.W.Frag) : AlX := (He.obsD fa fn K, moreB K)
def valX : AlX := (He.valD fn, true)
abbrev AlY : Type := AlX × Bool
def cutX (K : PySem.W.Frag) : PySem.W.Frag := cutT K (tbOf K :: tsOf K)
def obsY (K : PySem.W.Frag) : AlY := (obsX (cutX K), (decide (tsOf (cutX K) = tsOf K) && decide (tbOf (cutX K) = tbOf K)) && ((tsOf K).all (empB K) && noneB K (tbOf K)))
def valY : AlY := (valX, true)
def obsYG (g : Addr → Option Obj) : AlY := obsY (He.frG g (sysModules :: (He.asD g 6 ++ tsOf (He.frG g (He.asD g 6)))))
def hkX : PySem.W.Hook where
  α := AlY
  obs := fun s => obsYG s.heap.get?
  val := fun _ => valY
  says := fun _ h => ∃ K : PySem.W.Frag, K.In h ∧ obsY K = valY
  of := fun _ _ e => ⟨_, He.frG_in, e⟩
  keeps := fun _ _ _ ⟨K, hK, c⟩ k => ⟨K, PySem.W.Frag.In.keeps hK k, c⟩
abbrev RR : PySem.W.OpenRow := PySem.W.OpenLaw.row PySem.Challenge.rw_cellsenough_k02_terms_told_and_shifted
def obX (s : PySem.W.SharedT) : AlY := obsYG (HandSHeadRun.getT s)
theorem obX_eq (s : PySem.W.SharedT) : obX s = hkX.obs s.abs := by
  have e : HandSHeadRun.getT s = s.abs.heap.get? := funext (HandSHeadRun.getT_eq s)
  show obsYG (HandSHeadRun.getT s) = obsYG s.abs.heap.get?
  rw [e]
theorem runX (w : World) : HandSHeadRun.RunEq RR (PySem.W.view RR.prog [45]) hkX obX 4000 (names1 ++ names2) w := by
  intro os
  kernel_rfl
/-- the table, and the name of the code objects in it -/
def TtK (K : PySem.W.Frag) : List (Addr × Str) := [(tbOf K, (envOfC "_law_shifted_right" (defScope s_law_shifted_right) 0 (He.ga K "_law_shifted_right") (.ref (cdOf K))).qual ++ "<lambda>")]
theorem facts {P : Program} {w : World} {K : PySem.W.Frag} {h : Heap} {mg : Str → Option Value} {f : Addr} (X : K.In h) (G : h.Ns mainGlobals mg) (hfa : mg ("law" : Str) = some (.ref f)) (c : obsX K = valX) :
    PySem.W.CodeHd h (cdOf K) (tbOf K) ∧ ∃ fd : FuncData, (∀ (s : Shared) (v : Value), BindsTo s fd ⟨[v], []⟩ [("script", v)]) ∧ ∀ base : Heap, K.In base → base.Ns mainGlobals mg → LamX.TabB base mg (cdOf K) (tbOf K) → FnOkG P w K mg base CX0 11 f fd ["script"] (spLaw K (kwAt "is_position_term" "own" K) (kwAt "is_value_term" "own" K) (TtK K)) := by
  have cD : He.SaysD fa fn K := congrArg (fun z : AlX => z.1) c
  have c3 : moreB K = true := congrArg (fun z : AlX => z.2) c
  unfold moreB at c3
  obtain ⟨d1, c3⟩ := He.ba c3
  obtain ⟨d2, c3⟩ := He.ba c3
  obtain ⟨d3, c3⟩ := He.ba c3
  obtain ⟨d4, c3⟩ := He.ba c3
  obtain ⟨d5, c3⟩ := He.ba c3
  obtain ⟨d6, c3⟩ := He.ba c3
  obtain ⟨d7, d8⟩ := He.ba c3
  obtain ⟨om, hK⟩ := Option.isSome_iff_exists.mp d1
  have T : Bt mg := ⟨He.free_ok X G (cD.fact 33 (f := .free "abs") rfl), He.free_ok X G (cD.fact 34 (f := .free "all") rfl), He.free_ok X G (cD.fact 35 (f := .free "dict") rfl), He.free_ok X G (cD.fact 36 (f := .free "enumerate") rfl), He.free_ok X G (cD.fact 37 (f := .free "int") rfl), He.free_ok X G (cD.fact 38 (f := .free "isinstance") rfl), He.free_ok X G (cD.fact 39 (f := .free "len") rfl), He.free_ok X G (cD.fact 40 (f := .free "list") rfl), He.free_ok X G (cD.fact 41 (f := .free "max") rfl), He.free_ok X G (cD.fact 42 (f := .free "min") rfl), He.free_ok X G (cD.fact 43 (f := .free "range") rfl), He.free_ok X G (cD.fact 44 (f := .free "repr") rfl), He.free_ok X G (cD.fact 45 (f := .free "set") rfl), He.free_ok X G (cD.fact 46 (f := .free "str") rfl), He.free_ok X G (cD.fact 47 (f := .free "sum") rfl), He.free_ok X G (cD.fact 48 (f := .free "tuple") rfl)⟩
  have Tb : mg "bool" = none := He.free_ok X G (cD.fact 49 (f := .free "bool") rfl)
  have hRp : mg "repr" = none := He.free_ok X G (cD.fact 44 (f := .free "repr") rfl)
  have gO : ∃ t, mg "MAX_OWN" = some (.int 2 t) := He.int_ok X G (cD.fact 54 (f := .int "MAX_OWN" 2) rfl)
  have gL : ∃ t, mg "LIMIT" = some (.int lim t) := by
    have q : ∃ t, mg "LIMIT" = some (.int 1000000000000000000000000000000000000000000000000000000000000 t) := He.int_ok X G (cD.fact 55 (f := .int "LIMIT" 1000000000000000000000000000000000000000000000000000000000000) rfl)
    rw [show (1000000000000000000000000000000000000000000000000000000000000 : Int) = lim from by decide +kernel] at q
    exact q
  have Co_ : Co mg := ⟨He.int_ok X G (cD.fact 50 (f := .int "LONGEST_NAME" 8) rfl), He.int_ok X G (cD.fact 51 (f := .int "MAX_ARRAYS" 12) rfl), He.int_ok X G (cD.fact 52 (f := .int "MAX_POSITIONS" 6) rfl), He.int_ok X G (cD.fact 53 (f := .int "MAX_VALUES" 6) rfl)⟩
  have X0 : Fx K mg (He.ga K "Frame") := ⟨He.cls_ok (cD.fact 56 (f := .cls "Frame") rfl), He.noat_ok (cD.fact 57 (f := .noat "Frame" "_arrays") rfl), He.noat_ok (cD.fact 58 (f := .noat "Frame" "_positions") rfl), He.noat_ok (cD.fact 59 (f := .noat "Frame" "_amounts") rfl), He.noat_ok (cD.fact 60 (f := .noat "Frame" "_length_by_array") rfl), He.noat_ok (cD.fact 61 (f := .noat "Frame" "_lengths") rfl), He.noat_ok (cD.fact 62 (f := .noat "Frame" "_kinds") rfl), He.glo_ok X G (cD.fact 32 (f := .glo "Frame") rfl)⟩
  obtain ⟨xI1, xI2, xI3, xI4⟩ := He.exc_ok (cD.fact 72 (f := .exc "InvalidFrame") rfl)
  have XI : Ex K mg (He.ga K "InvalidFrame") := ⟨He.glo_ok X G (cD.fact 29 (f := .glo "InvalidFrame") rfl), xI1, xI2, xI3, xI4⟩
  obtain ⟨xT1, xT2, xT3, xT4⟩ := He.exc_ok (cD.fact 73 (f := .exc "InvalidTerm") rfl)
  have XT : ExN "InvalidTerm" K mg (He.ga K "InvalidTerm") := ⟨He.glo_ok X G (cD.fact 30 (f := .glo "InvalidTerm") rfl), xT1, xT2, xT3, xT4⟩
  have xN := xfB_ok d6
  have TN : OexI K (He.ga K "InvalidNumber") := ⟨exIB_ok d2, He.eqO_ok d3, xN.exC, of_decide_eq_true d4, d5⟩
  have noG : PySem.W.findIn K (.ref (He.ga K "InvalidNumber")) "given" = some none := He.noat_ok (cD.fact 77 (f := .noat "InvalidNumber" "given") rfl)
  have gIN := He.glo_ok X G (cD.fact 31 (f := .glo "InvalidNumber") rfl)
  have gIT := He.glo_ok X G (cD.fact 30 (f := .glo "InvalidTerm") rfl)
  have mIN := He.meth_ok (cD.fact 78 (f := .meth "InvalidNumber" "__init__") rfl)
  have tN : PySem.W.typeIn K (.ref (He.ma K (He.ga K "InvalidNumber") "__init__")) = some (.type "function") := of_decide_eq_true d7
  have m1 := He.exm_ok (cD.fact 74 (f := .exm "InvalidTerm" "InvalidTerm" true) rfl)
  have m2 := He.exm_ok (cD.fact 75 (f := .exm "InvalidNumber" "InvalidTerm" false) rfl)
  have m3 := He.exm_ok (cD.fact 76 (f := .exm "InvalidNumber" "InvalidNumber" true) rfl)
  have M := He.mkr_ok (cD.fact 71 (f := .mkr "Frame") rfl)
  obtain ⟨fd0, F0⟩ := cD.def_ 29 (d := dm "__init__" "Frame.__init__" s_Frame_init) rfl
  obtain ⟨fdN, FN⟩ := cD.def_ 38 (d := dIN) rfl
  have FN' : FunD K "__init__" "InvalidNumber.__init__" (defArgs s_InvalidNumber_init) (defBody s_InvalidNumber_init) (defScope s_InvalidNumber_init) [] [] (He.ma K (He.ga K "InvalidNumber") "__init__") fdN := FN
  obtain ⟨fdL, FL⟩ := cD.def_ 28 (d := dd "law" s_law) rfl
  obtain ⟨fdS, FS0⟩ := cD.def_ 26 (d := dd "_law_shifted_right" s_law_shifted_right) rfl
  have FS' : FunD K "_law_shifted_right" "_law_shifted_right" (defArgs s_law_shifted_right) (defBody s_law_shifted_right) (defScope s_law_shifted_right) [] [] (He.ga K "_law_shifted_right") fdS := FS0
  have eL := hfa.symm.trans (He.glo_ok X G (cD.fact 28 (f := .glo "law") rfl))
  cases eL
  have b0 : Binds K fd0 P_Frame_init [] := FunD.bindsN F0 fun _ _ _ _ _ _ us hl => match us, hl with | [_, _, _, _], _ => rfl
  have bN : Binds K fdN P_InvalidNumber_init [] := FunD.bindsN FN' fun _ _ _ _ _ _ us hl => match us, hl with | [_, _], _ => rfl
  have bL := FunD.bindsA (ps := ["script"]) FL fun _ _ _ _ _ _ us hl => match us, hl with | [_], _ => rfl
  have bSR : Binds K fdS P_law_shifted_right [] := FunD.bindsN FS' fun _ _ _ _ _ _ us hl => match us, hl with | [_, _, _, _], _ => rfl
  have kSR : PySem.W.keepIn K (.ref (He.ga K "_law_shifted_right")) = true := FS'.kp
  obtain ⟨ocS, odS, dVS, kVS, docS, pmS, anS, cdvS, ctS, oslS, rfl, lkS, hcS, _, _⟩ := FS'.ex
  obtain ⟨cS, rfl⟩ : ∃ y, cdvS = .ref y := by
    cases cdvS with
    | ref y => exact ⟨y, rfl⟩
    | _ => cases hcS
  have ecS : cdOf K = cS := by
    unfold cdOf
    rw [lkS]
  subst ecS
  have oP : HasMo K (He.ga K "Frame") (kwAt "is_position_term" "own" K) "is_position_term" "Frame.is_position_term" s_Frame_is_position_term := ⟨_, _, (cD.def_ 33 (d := dmo "is_position_term" "Frame.is_position_term" s_Frame_is_position_term) rfl).choose_spec, He.meth_ok (cD.fact 66 (f := .meth "Frame" "is_position_term") rfl)⟩
  have oV : HasMo K (He.ga K "Frame") (kwAt "is_value_term" "own" K) "is_value_term" "Frame.is_value_term" s_Frame_is_value_term := ⟨_, _, (cD.def_ 34 (d := dmo "is_value_term" "Frame.is_value_term" s_Frame_is_value_term) rfl).choose_spec, He.meth_ok (cD.fact 67 (f := .meth "Frame" "is_value_term") rfl)⟩
  refine ⟨PySem.W.codeHd_of_K X d8, fdL, fun s v => bL s [v] rfl, fun base kb nb tb => ?_⟩
  have hDip := ok_dip (P := P) (w := w) (K := K) (mg := mg) (base := base) T ⟨_, _, (cD.def_ 10 (d := dd "_law_dip" s_law_dip) rfl).choose_spec, He.glo_ok X G (cD.fact 10 (f := .glo "_law_dip") rfl)⟩
  have hFil := ok_filled (P := P) (w := w) (K := K) (mg := mg) (base := base) T ⟨_, _, (cD.def_ 9 (d := dd "_law_filled" s_law_filled) rfl).choose_spec, He.glo_ok X G (cD.fact 9 (f := .glo "_law_filled") rfl)⟩
  have hCho := ok_choose T ⟨_, _, (cD.def_ 11 (d := dd "_law_choose" s_law_choose) rfl).choose_spec, He.glo_ok X G (cD.fact 11 (f := .glo "_law_choose") rfl)⟩ hDip
  have hShu := ok_shuf T ⟨_, _, (cD.def_ 12 (d := dd "_law_shuffled" s_law_shuffled) rfl).choose_spec, He.glo_ok X G (cD.fact 12 (f := .glo "_law_shuffled") rfl)⟩ hDip
  have hNam := ok_name T ⟨_, _, (cD.def_ 13 (d := dd "_law_name" s_law_name) rfl).choose_spec, He.glo_ok X G (cD.fact 13 (f := .glo "_law_name") rfl)⟩ hDip hCho
  have hNms := ok_names T ⟨_, _, (cD.def_ 14 (d := dd "_law_names" s_law_names) rfl).choose_spec, He.glo_ok X G (cD.fact 14 (f := .glo "_law_names") rfl)⟩ hNam
  have hLen := ok_lengths (P := P) (w := w) (K := K) (mg := mg) (base := base) T ⟨_, _, (cD.def_ 16 (d := dd "_law_lengths" s_law_lengths) rfl).choose_spec, He.glo_ok X G (cD.fact 16 (f := .glo "_law_lengths") rfl)⟩
  have hPar := ok_parts T ⟨_, _, (cD.def_ 15 (d := dd "_law_parts" s_law_parts) rfl).choose_spec, He.glo_ok X G (cD.fact 15 (f := .glo "_law_parts") rfl)⟩ hDip hNms
  have hIsn := ok_is_name (P := P) (w := w) (K := K) (mg := mg) (base := base) T Co_ ⟨_, _, (cD.def_ 2 (d := dd "is_name" s_is_name) rfl).choose_spec, He.glo_ok X G (cD.fact 2 (f := .glo "is_name") rfl)⟩
  have hAre := ok_are_names T ⟨_, _, (cD.def_ 5 (d := dd "_are_names" s_are_names) rfl).choose_spec, He.glo_ok X G (cD.fact 5 (f := .glo "_are_names") rfl)⟩ hIsn
  have hArr := ok_is_array T ⟨_, _, (cD.def_ 6 (d := dd "_is_array" s_is_array) rfl).choose_spec, He.glo_ok X G (cD.fact 6 (f := .glo "_is_array") rfl)⟩ hAre
  have hArs := ok_are_arrays T Co_ ⟨_, _, (cD.def_ 7 (d := dd "_are_arrays" s_are_arrays) rfl).choose_spec, He.glo_ok X G (cD.fact 7 (f := .glo "_are_arrays") rfl)⟩ hArr
  have hKin := ok_kinds (P := P) (w := w) (K := K) (mg := mg) (base := base) T ⟨_, _, (cD.def_ 8 (d := dd "_kinds_of" s_kinds_of) rfl).choose_spec, He.glo_ok X G (cD.fact 8 (f := .glo "_kinds_of") rfl)⟩
  have hIni := ok_init T Co_ F0 X0 XI hArs hAre hKin
  have mKind := ok_kindD (P := P) (w := w) (K := K) (mg := mg) (base := base) T X0 ⟨_, _, (cD.def_ 31 (d := dm "_is_of_kind" "Frame._is_of_kind" s_Frame_is_of_kind) rfl).choose_spec, He.meth_ok (cD.fact 64 (f := .meth "Frame" "_is_of_kind") rfl)⟩
  have mHas := ok_contains (P := P) (w := w) (K := K) (mg := mg) (base := base) T X0 ⟨_, _, (cD.def_ 32 (d := dm "__contains__" "Frame.__contains__" s_Frame_contains) rfl).choose_spec, He.meth_ok (cD.fact 65 (f := .meth "Frame" "__contains__") rfl)⟩
  have mFre := ok_fresh T X0 ⟨_, _, (cD.def_ 30 (d := dm "is_fresh" "Frame.is_fresh" s_Frame_is_fresh) rfl).choose_spec, He.meth_ok (cD.fact 63 (f := .meth "Frame" "is_fresh") rfl)⟩ hIsn
  have hInt := ok_is_integer (P := P) (w := w) (K := K) (mg := mg) (base := base) T Tb gL ⟨_, _, (cD.def_ 0 (d := dd "is_integer" s_is_integer) rfl).choose_spec, He.glo_ok X G (cD.fact 0 (f := .glo "is_integer") rfl)⟩
  have mPla := ok_place hK T X0 ⟨_, _, (cD.def_ 36 (d := dm "has_place" "Frame.has_place" s_Frame_has_place) rfl).choose_spec, He.meth_ok (cD.fact 69 (f := .meth "Frame" "has_place") rfl)⟩ hInt mKind
  have mAmo := ok_amount hK T X0 ⟨_, _, (cD.def_ 37 (d := dm "has_amount" "Frame.has_amount" s_Frame_has_amount) rfl).choose_spec, He.meth_ok (cD.fact 70 (f := .meth "Frame" "has_amount") rfl)⟩ hInt mKind mPla
  have hOwn := ok_own T gO X0 ⟨_, _, (cD.def_ 3 (d := dd "are_own_names" s_are_own_names) rfl).choose_spec, He.glo_ok X G (cD.fact 3 (f := .glo "are_own_names") rfl)⟩ mFre
  have hChk := ok_chk T ⟨_, _, (cD.def_ 4 (d := dd "_check_own" s_check_own) rfl).choose_spec, He.glo_ok X G (cD.fact 4 (f := .glo "_check_own") rfl)⟩ hOwn
  have mIsP := ok_isP T X0 oP hChk mPla
  have mIsV := ok_isV T X0 oV hChk mAmo
  have hCp0 := ok_cp0 (P := P) (w := w) (K := K) (mg := mg) (base := base) T ⟨_, _, (cD.def_ 1 (d := dd "copied" s_copied) rfl).choose_spec, He.glo_ok X G (cD.fact 1 (f := .glo "copied") rfl)⟩
  have hCp1 := ok_cp1 T ⟨_, _, (cD.def_ 1 (d := dd "copied" s_copied) rfl).choose_spec, He.glo_ok X G (cD.fact 1 (f := .glo "copied") rfl)⟩ hCp0
  have hCp2 := ok_cp2 T ⟨_, _, (cD.def_ 1 (d := dd "copied" s_copied) rfl).choose_spec, He.glo_ok X G (cD.fact 1 (f := .glo "copied") rfl)⟩ hCp1
  have hIN := ok_IN T FN' TN noG hCp2
  obtain ⟨fS, fdS2, FS, mS, bS⟩ := ok_shR T X0 ⟨_, _, (cD.def_ 35 (d := dm "shifted" "Frame.shifted" s_Frame_shifted) rfl).choose_spec, He.meth_ok (cD.fact 68 (f := .meth "Frame" "shifted") rfl)⟩ hInt mIsP mIsV XT TN gIN mIN.1 tN hIN bN
  have hUse := ok_used T ⟨_, _, (cD.def_ 17 (d := dd "_law_used" s_law_used) rfl).choose_spec, He.glo_ok X G (cD.fact 17 (f := .glo "_law_used") rfl)⟩ hLen
  have hNum := ok_number T ⟨_, _, (cD.def_ 18 (d := dd "_law_number" s_law_number) rfl).choose_spec, He.glo_ok X G (cD.fact 18 (f := .glo "_law_number") rfl)⟩ hCho
  have hPos := ok_posn T ⟨_, _, (cD.def_ 19 (d := dd "_law_position" s_law_position) rfl).choose_spec, He.glo_ok X G (cD.fact 19 (f := .glo "_law_position") rfl)⟩ hLen hCho hNum
  have hVal := ok_value T ⟨_, _, (cD.def_ 20 (d := dd "_law_value" s_law_value) rfl).choose_spec, He.glo_ok X G (cD.fact 20 (f := .glo "_law_value") rfl)⟩ hDip hCho hNum hPos
  have hLnu := ok_lnum (P := P) (w := w) (K := K) (mg := mg) (base := base) T Tb ⟨_, _, (cD.def_ 21 (d := dd "_law_is_number" s_law_is_number) rfl).choose_spec, He.glo_ok X G (cD.fact 21 (f := .glo "_law_is_number") rfl)⟩
  have hLpo := ok_lpos T ⟨_, _, (cD.def_ 22 (d := dd "_law_is_position" s_law_is_position) rfl).choose_spec, He.glo_ok X G (cD.fact 22 (f := .glo "_law_is_position") rfl)⟩ hLnu hLen
  have hLva := ok_lval T ⟨_, _, (cD.def_ 23 (d := dd "_law_is_value" s_law_is_value) rfl).choose_spec, He.glo_ok X G (cD.fact 23 (f := .glo "_law_is_value") rfl)⟩ hLnu hLpo
  have hNea := ok_near T ⟨_, _, (cD.def_ 24 (d := dd "_law_near" s_law_near) rfl).choose_spec, He.glo_ok X G (cD.fact 24 (f := .glo "_law_near") rfl)⟩ hDip hCho hUse hPos hVal
  have hSR := ok_sr (Tt := TtK K) hK T X0 lkS hcS ⟨_, _, (cD.def_ 25 (d := dd "_law_met" s_law_met) rfl).choose_spec, He.glo_ok X G (cD.fact 25 (f := .glo "_law_met") rfl)⟩ tb (fun n => List.mem_singleton.mpr rfl) (fun n p hp _ => by rw [List.mem_singleton.mp hp] <;> rfl) gIT gIN hRp m1 m2 m3 xN noG FS mS bS hLnu hLpo hLva
  have hRig := ok_right hK T X0 ⟨_, _, (cD.def_ 27 (d := dd "_law_right" s_law_right) rfl).choose_spec, He.glo_ok X G (cD.fact 27 (f := .glo "_law_right") rfl)⟩ M hIni b0 hDip hCho hPar hShu hNea hLpo hLva hNum ⟨_, _, hSR, He.glo_ok X G (cD.fact 26 (f := .glo "_law_shifted_right") rfl), kSR, bSR⟩ mHas mIsP mIsV
  exact ok_law hK T X0 FL M hIni b0 hFil hRig FS mS bS mIsP mIsV
end Kx
open PySem PySem.W PySem.Calls PyProof.Rows
theorem PySem.Challenge.cw_cellsenough_k02_terms_told_and_shifted_holds : PySem.Challenge.rw_cellsenough_k02_terms_told_and_shifted.Holds := by
  w_on; o_law
  refine HandSHeadRun.head_any (r := OpenLaw.row PySem.Challenge.rw_cellsenough_k02_terms_told_and_shifted) (q := view (OpenLaw.row PySem.Challenge.rw_cellsenough_k02_terms_told_and_shifted).prog [45]) (H := Kx.hkX) (ob := Kx.obX) (M := 4000) (loose := Kx.names1 ++ Kx.names2) (d := HandSHeadRun.topDef (OpenLaw.row PySem.Challenge.rw_cellsenough_k02_terms_told_and_shifted).prog 45) (kwd := []) Kx.obX_eq
    (by kernel_rfl) (fun s => by kernel_rfl) Kx.runX (by kernel_rfl) (by kernel_rfl) (by kernel_rfl) (by rfl) (by first | assumption | decide +kernel) (by decide +kernel) ⟨rfl, rfl, rfl, rfl, rfl, by decide +kernel⟩ ?hw ?hc
  case hw => w_witness2
  case hc =>
    refine Kx.walk_ofU (l := PySem.Challenge.rw_cellsenough_k02_terms_told_and_shifted) (n := 63) (k := 11) (x := "script") rfl (by decide) (by kernel_rfl) ⟨rfl, by decide, by decide⟩ ?F
    intro w mg fa h Y G hmg0
    obtain ⟨K, KX, c⟩ := Y
    have hmg : mg ("law" : PySem.Str) = some (.ref fa) := by
      have e : (HandSHeadRun.topDef (OpenLaw.row PySem.Challenge.rw_cellsenough_k02_terms_told_and_shifted).prog 45).name = ("law" : PySem.Str) := by kernel_rfl
      rw [← e]
      exact hmg0
    have c1 : Kx.obsX (Kx.cutX K) = Kx.valX := congrArg (fun z : Kx.AlY => z.1) c
    have c2 : ((decide (Kx.tsOf (Kx.cutX K) = Kx.tsOf K) && decide (Kx.tbOf (Kx.cutX K) = Kx.tbOf K)) && ((Kx.tsOf K).all (Kx.empB K) && Kx.noneB K (Kx.tbOf K))) = true := congrArg (fun z : Kx.AlY => z.2) c
    obtain ⟨c3, c4⟩ := He.ba c2
    obtain ⟨c5, c6⟩ := He.ba c3
    obtain ⟨c7, c8⟩ := He.ba c4
    have e5 : Kx.tsOf (Kx.cutX K) = Kx.tsOf K := of_decide_eq_true c5
    have e6 : Kx.tbOf (Kx.cutX K) = Kx.tbOf K := of_decide_eq_true c6
    have emp : ∀ t ∈ Kx.tsOf (Kx.cutX K), Kx.Emp (Kx.cutX K) h t := fun t ht => by
      rw [e5] at ht
      exact Kx.empB_ok KX (List.mem_cons_of_mem _ ht) (List.all_eq_true.mp c7 t ht)
    have et : h.get? (Kx.tbOf (Kx.cutX K)) = some { cls := .none, data := .fields #[] } := by
      rw [e6]
      exact Kx.noneB_ok KX c8
    have nt : (Kx.cutX K).lookup (Kx.tbOf (Kx.cutX K)) = none := by
      rw [e6]
      exact Kx.cutT_none List.mem_cons_self K
    obtain ⟨hC, fd, hb, hF⟩ := Kx.facts (P := (PySem.Challenge.rw_cellsenough_k02_terms_told_and_shifted).prog) (w := w) (Kx.cutT_in KX : (Kx.cutX K).In h) G hmg c1
    exact ⟨Kx.cutX K, fd, _, Kx.tsOf (Kx.cutX K), _, _, Kx.cutT_in KX, emp, et, nt, hC, hb, fun H a ns hl _ hS hT hE => ⟨a, ns, rfl, hS, hl, hT _ List.mem_cons_self, hT _ (List.mem_cons_of_mem _ List.mem_cons_self), fun p hp => by rw [List.mem_singleton.mp hp]; exact LamX.TabS.nil hE, fun _ => rfl⟩, hF⟩
