import PyProof.Rows.All
import Wide.All
import OpenK.AllK
import Wide.FinOn
import KE.KStateDown
import Lean
import HandS.ForMost
import HandS.Exc
import HandS.TryOnly
import HandS.ExcOwn
import HandS.WordsExc
import HandS.Defaults
import HandS.IsInst
import HandS.Wide
import HandS.Flow
import HandS.Style
import HandS.Property
import HandS.DictComp
import HandS.FStr
import HandS.Strs
import HandS.TupAny
import HandS.TupMul
import HandS.Conv
import HandS.More
import PyProof.StrLawsRepr
import PyProof.FitsInt
import KE.KFmtOwn
import PyProof.NeKinds
import PyProof.ListStr
import PyProof.StrOps2
import KE.KDictPairs
import KE.KDictSum
import HandS.HeadEnd
import PyProof.InstNe
import HandS.MakeKwOnly
import HandS.Iter
import HandS.OwnEq
import PySem.Challenge.RW_cellsenough_k05_claims_judged
import HandS.Walk
import HandS.StrMore
import HandS.DictSub
import HandS.ExcCtx
import HandS.SuiteRaise
import HandS.Deep
import HandS.DeepEq
import HandS.Zip
import HandS.ExcValue
import KE.KDictZip
import HandS.TupSets
import HandS.SetFor
import HandS.Ends
import HandS.Head0
import HandS.Head1
import HandS.Head2
import HandS.HeadHook1
import HandS.HeadHook2
set_option Elab.async false
set_option linter.all false
set_option maxRecDepth 100000
set_option maxHeartbeats 0
namespace Kx
open PySem PySem.Spec PyProof.Rows L2

/-! ### data that stand in the heap, apart from some addresses -/
def keyD : Key → PyData
  | .inl i => .int i
  | .inr x => .str x
mutual
inductive Dv (ex : Addr → Prop) (H : Hp) : V → PyData → Prop
  | non : Dv ex H .non .none
  | bl (b : Bool) : Dv ex H (.bl b) (.bool b)
  | int (i : Int) : Dv ex H (.int i) (.int i)
  | str (x : Str) : Dv ex H (.str x) (.str x)
  | lst {a : Addr} {xs : List V} {ds : List PyData} : ¬ ex a → H a = some (.lst xs) → DvL ex H xs ds → Dv ex H (.ref a) (.list ds)
  | tup {a : Addr} {o : Obj} {xs : List V} {ds : List PyData} : o.dict = none → H a = some (.frz o (.tup xs)) → DvL ex H xs ds → Dv ex H (.ref a) (.tuple ds)
  | dic {a : Addr} {kvs : List (Key × V)} {es : List (PyData × PyData)} : ¬ ex a → H a = some (.dK kvs) → DvK ex H kvs es → Dv ex H (.ref a) (.dict es)
inductive DvL (ex : Addr → Prop) (H : Hp) : List V → List PyData → Prop
  | nil : DvL ex H [] []
  | cons {v : V} {vs : List V} {d : PyData} {ds : List PyData} : Dv ex H v d → DvL ex H vs ds → DvL ex H (v :: vs) (d :: ds)
inductive DvK (ex : Addr → Prop) (H : Hp) : List (Key × V) → List (PyData × PyData) → Prop
  | nil : DvK ex H [] []
  | cons {k : Key} {v : V} {d : PyData} {kvs : List (Key × V)} {es : List (PyData × PyData)} : Dv ex H v d → DvK ex H kvs es → DvK ex H ((k, v) :: kvs) ((keyD k, d) :: es)
end
/-- a plain tuple that was made here -/
def TupF (H : Hp) (a : Addr) (xs : List V) : Prop := ∃ o : Obj, o.dict = none ∧ H a = some (.frz o (.tup xs))
theorem TupF.sq {K : PySem.W.Frag} {H : Hp} {a : Addr} {xs : List V} (h : TupF H a xs) : SqT K H a xs := let ⟨o, _, e⟩ := h; .inl (.inr ⟨o, e⟩)
/-- all but ex stays, and all that never changes -/
def Kp (ex : Addr → Prop) (H H' : Hp) : Prop := ∀ a o, H a = some o → (ex a → ∃ ob u, o = HO.frz ob u) → H' a = some o
theorem Kp.get {ex : Addr → Prop} {H H' : Hp} (k : Kp ex H H') {a : Addr} {o : HO} (e : H a = some o) (n : ¬ ex a) : H' a = some o := k a o e fun z => absurd z n
theorem Kp.tup {ex : Addr → Prop} {H H' : Hp} (k : Kp ex H H') {a : Addr} {xs : List V} (h : TupF H a xs) : TupF H' a xs := by
  obtain ⟨o, od, e⟩ := h
  exact ⟨o, od, k a _ e fun _ => ⟨_, _, rfl⟩⟩
theorem Kp.refl {ex : Addr → Prop} {H : Hp} : Kp ex H H := fun _ _ e _ => e
theorem Kp.trans {ex : Addr → Prop} {H H1 H2 : Hp} (a : Kp ex H H1) (b : Kp ex H1 H2) : Kp ex H H2 := fun c o e n => b c o (a c o e n) n
theorem Kp.weak {ex ey : Addr → Prop} {H H1 : Hp} (a : Kp ex H H1) (h : ∀ b, ex b → ey b) : Kp ey H H1 := fun c o e n => a c o e fun z => n (h c z)
theorem Kp.new {ex : Addr → Prop} {H : Hp} {p : Addr} {o : HO} (h : H p = none) : Kp ex H (upd H p o) := fun a u e _ => by rw [upd_ne (ne_of_none e h)]; exact e
theorem Kp.at {ex : Addr → Prop} {H : Hp} {p : Addr} {o : HO} {xs : List V} (h : ex p) (hl : H p = some (.lst xs)) : Kp ex H (upd H p o) := fun a u e n => by
  have : a ≠ p := fun z => by
    subst z
    obtain ⟨ob, w, rfl⟩ := n h
    rw [hl] at e
    cases e
  rw [upd_ne this]; exact e
theorem Kp.same {ex : Addr → Prop} {H H1 : Hp} (h : Same H H1) : Kp ex H H1 := fun c o e _ => h c o e
section
variable {ex ey : Addr → Prop} {H H' : Hp}
mutual
theorem Dv.mono (k : Kp ex H H') (hy : ∀ a, ey a → ex a) : ∀ {v : V} {d : PyData}, Dv ex H v d → Dv ey H' v d
  | _, _, .non => .non
  | _, _, .bl b => .bl b
  | _, _, .int i => .int i
  | _, _, .str x => .str x
  | _, _, .lst n e l => .lst (fun z => n (hy _ z)) (k.get e n) (DvL.mono k hy l)
  | _, _, .tup d e l => .tup d (k _ _ e fun _ => ⟨_, _, rfl⟩) (DvL.mono k hy l)
  | _, _, .dic n e l => .dic (fun z => n (hy _ z)) (k.get e n) (DvK.mono k hy l)
theorem DvL.mono (k : Kp ex H H') (hy : ∀ a, ey a → ex a) : ∀ {vs : List V} {ds : List PyData}, DvL ex H vs ds → DvL ey H' vs ds
  | _, _, .nil => .nil
  | _, _, .cons a b => .cons (Dv.mono k hy a) (DvL.mono k hy b)
theorem DvK.mono (k : Kp ex H H') (hy : ∀ a, ey a → ex a) : ∀ {vs : List (Key × V)} {ds : List (PyData × PyData)}, DvK ex H vs ds → DvK ey H' vs ds
  | _, _, .nil => .nil
  | _, _, .cons a b => .cons (Dv.mono k hy a) (DvK.mono k hy b)
end
theorem Dv.kp {v : V} {d : PyData} (h : Dv ex H v d) (k : Kp ex H H') : Dv ex H' v d := h.mono k fun _ z => z
theorem DvL.kp {v : List V} {d : List PyData} (h : DvL ex H v d) (k : Kp ex H H') : DvL ex H' v d := h.mono k fun _ z => z
mutual
theorem Dv.off {n : Addr} (hn : H n = none) : ∀ {v : V} {d : PyData}, Dv ex H v d → Dv (fun a => ex a ∨ a = n) H v d
  | _, _, .non => .non
  | _, _, .bl b => .bl b
  | _, _, .int i => .int i
  | _, _, .str x => .str x
  | _, _, .lst m e l => .lst (fun z => z.elim m (ne_of_none e hn)) e (DvL.off hn l)
  | _, _, .tup d e l => .tup d e (DvL.off hn l)
  | _, _, .dic m e l => .dic (fun z => z.elim m (ne_of_none e hn)) e (DvK.off hn l)
theorem DvL.off {n : Addr} (hn : H n = none) : ∀ {v : List V} {d : List PyData}, DvL ex H v d → DvL (fun a => ex a ∨ a = n) H v d
  | _, _, .nil => .nil
  | _, _, .cons a b => .cons (Dv.off hn a) (DvL.off hn b)
theorem DvK.off {n : Addr} (hn : H n = none) : ∀ {v : List (Key × V)} {d : List (PyData × PyData)}, DvK ex H v d → DvK (fun a => ex a ∨ a = n) H v d
  | _, _, .nil => .nil
  | _, _, .cons a b => .cons (Dv.off hn a) (DvK.off hn b)
end
theorem Dv.tupI {v : V} {ds : List PyData} (h : Dv ex H v (.tuple ds)) : ∃ a xs, v = .ref a ∧ TupF H a xs ∧ DvL ex H xs ds := by
  cases h with
  | tup d e l => exact ⟨_, _, rfl, ⟨_, d, e⟩, l⟩
theorem Dv.tupM {a : Addr} {xs : List V} {ds : List PyData} (h : TupF H a xs) (l : DvL ex H xs ds) : Dv ex H (.ref a) (.tuple ds) := by
  obtain ⟨o, d, e⟩ := h
  exact .tup d e l
theorem Dv.strI {v : V} {x : Str} (h : Dv ex H v (.str x)) : v = .str x := by
  cases h
  rfl
theorem DvL.len : ∀ {v : List V} {d : List PyData}, DvL ex H v d → v.length = d.length
  | _, _, .nil => rfl
  | _, _, .cons _ b => congrArg (· + 1) (DvL.len b)
theorem DvL.get : ∀ {v : List V} {d : List PyData} {i : Nat} {x : V}, DvL ex H v d → v[i]? = some x → ∃ e, d[i]? = some e ∧ Dv ex H x e
  | _, _, 0, _, .cons a _, h => ⟨_, rfl, by cases h; exact a⟩
  | _, _, i + 1, _, .cons _ b, h => DvL.get (i := i) b h
  | _, _, _, _, .nil, h => by simp at h
theorem DvL.getd : ∀ {v : List V} {d : List PyData} {i : Nat} {e : PyData}, DvL ex H v d → d[i]? = some e → ∃ x, v[i]? = some x ∧ Dv ex H x e
  | _, _, 0, _, .cons a _, h => ⟨_, rfl, by cases h; exact a⟩
  | _, _, i + 1, _, .cons _ b, h => DvL.getd (i := i) b h
  | _, _, _, _, .nil, h => by simp at h
theorem DvL.app : ∀ {v w : List V} {d e : List PyData}, DvL ex H v d → DvL ex H w e → DvL ex H (v ++ w) (d ++ e)
  | _, _, _, _, .nil, h => h
  | _, _, _, _, .cons a b, h => .cons a (DvL.app b h)
theorem DvL.take : ∀ (n : Nat) {v : List V} {d : List PyData}, DvL ex H v d → DvL ex H (v.take n) (d.take n)
  | 0, _, _, _ => .nil
  | _ + 1, _, _, .nil => .nil
  | n + 1, _, _, .cons a b => .cons a (DvL.take n b)
theorem DvL.drop : ∀ (n : Nat) {v : List V} {d : List PyData}, DvL ex H v d → DvL ex H (v.drop n) (d.drop n)
  | 0, _, _, h => h
  | _ + 1, _, _, .nil => .nil
  | n + 1, _, _, .cons _ b => DvL.drop n b
theorem DvL.rev : ∀ {v : List V} {d : List PyData}, DvL ex H v d → DvL ex H v.reverse d.reverse
  | _, _, .nil => .nil
  | _, _, .cons a b => by rw [List.reverse_cons, List.reverse_cons]; exact DvL.app (DvL.rev b) (.cons a .nil)
theorem DvL.strs : ∀ (ns : List Str), DvL ex H (ns.map V.str) (ns.map PyData.str)
  | [] => .nil
  | x :: r => .cons (.str x) (DvL.strs r)
end

/-! ### how long a shown datum may be -/
def okS (x : Str) : Prop := ∀ c ∈ x.cps.toList, c < 16 ^ 8
mutual
def cost : PyData → Nat
  | .none => 4
  | .bool _ => 5
  | .int _ => 120
  | .str x => 10 * x.length + 2
  | .list xs | .tuple xs => costL xs + 3
  | .dict es => costK es + 3
def costL : List PyData → Nat
  | [] => 0
  | x :: r => cost x + 2 + costL r
def costK : List (PyData × PyData) → Nat
  | [] => 0
  | (a, b) :: r => cost a + cost b + 4 + costK r
end
mutual
def okD : PyData → Prop
  | .none | .bool _ => True
  | .int i => i.natAbs < 10 ^ 100
  | .str x => okS x
  | .list xs | .tuple xs => okL xs
  | .dict es => okK es
def okL : List PyData → Prop
  | [] => True
  | x :: r => okD x ∧ okL r
def okK : List (PyData × PyData) → Prop
  | [] => True
  | (a, b) :: r => okD a ∧ okD b ∧ okK r
end
theorem none_len : ("None" : Str).length = 4 := by decide +kernel
theorem true_len : ("True" : Str).length ≤ 5 := by decide +kernel
theorem false_len : ("False" : Str).length ≤ 5 := by decide +kernel
theorem colon_len : (": " : Str).length = 2 := by decide +kernel
mutual
theorem shown_le : ∀ d : PyData, okD d → d.shown.length ≤ cost d
  | .none, _ => by simp only [PyData.shown, cost]; exact Nat.le_of_eq none_len
  | .bool true, _ => by simp only [PyData.shown, cost]; exact true_len
  | .bool false, _ => by simp only [PyData.shown, cost]; exact false_len
  | .int i, h => by
    have h' : i.natAbs < 10 ^ 100 := by simpa only [okD] using h
    have := int_text_length_le10 (a := i) (k := 100) (by decide) h'
    simp only [PyData.shown, cost]
    have e : (Str.ofString (toString i)).length = (toString i).length := PySem.ofString_length _
    show (Str.ofString (toString i)).length ≤ 120
    omega
  | .str x, h => by
    have h' : okS x := by simpa only [okD] using h
    simp only [PyData.shown, cost]
    exact StrLaws.reprText_len x h'
  | .list xs, h => by
    have h' : okL xs := by simpa only [okD] using h
    simp only [PyData.shown, cost]
    have := shownAll_le xs h'
    have := listText_len_le (PyData.shownAll xs)
    omega
  | .tuple xs, h => by
    have h' : okL xs := by simpa only [okD] using h
    simp only [PyData.shown, cost]
    have := shownAll_le xs h'
    have := tupleText_len_le (PyData.shownAll xs)
    omega
  | .dict es, h => by
    have h' : okK es := by simpa only [okD] using h
    simp only [PyData.shown, cost]
    have := shownKv_le es h'
    have := dictText_len_le (PyData.shownKv es)
    omega
theorem shownAll_le : ∀ xs : List PyData, okL xs → ((PyData.shownAll xs).map (·.length)).sum + 2 * (PyData.shownAll xs).length ≤ costL xs
  | [], _ => by simp [PyData.shownAll, costL]
  | x :: r, h => by
    have h' : okD x ∧ okL r := by simpa only [okL] using h
    have a := shown_le x h'.1
    have b := shownAll_le r h'.2
    simp only [PyData.shownAll, costL, List.map_cons, List.sum_cons, List.length_cons]
    omega
theorem shownKv_le : ∀ xs : List (PyData × PyData), okK xs → ((PyData.shownKv xs).map (·.length)).sum + 2 * (PyData.shownKv xs).length ≤ costK xs
  | [], _ => by simp [PyData.shownKv, costK]
  | (k, v) :: r, h => by
    have h' : okD k ∧ okD v ∧ okK r := by simpa only [okK] using h
    have a := shown_le k h'.1
    have a2 := shown_le v h'.2.1
    have b := shownKv_le r h'.2.2
    simp only [PyData.shownKv, costK, List.map_cons, List.sum_cons, List.length_cons, strLen_append, colon_len]
    omega
end
mutual
theorem okD_showable : ∀ d : PyData, okD d → d.showable = true
  | .none, _ => by simp only [PyData.showable]
  | .bool _, _ => by simp only [PyData.showable]
  | .str _, _ => by simp only [PyData.showable]
  | .int i, h => by
    have h' : i.natAbs < 10 ^ 100 := by simpa only [okD] using h
    simp only [PyData.showable, decide_eq_true_eq]
    exact Flt.log2_lt_of (by decide) (Nat.lt_trans h' (by decide +kernel))
  | .list xs, h => by simp only [PyData.showable]; exact okL_showable xs (by simpa only [okD] using h)
  | .tuple xs, h => by simp only [PyData.showable]; exact okL_showable xs (by simpa only [okD] using h)
  | .dict es, h => by simp only [PyData.showable]; exact okK_showable es (by simpa only [okD] using h)
theorem okL_showable : ∀ d : List PyData, okL d → PyData.showableAll d = true
  | [], _ => by simp only [PyData.showableAll]
  | x :: r, h => by
    have h' : okD x ∧ okL r := by simpa only [okL] using h
    simp only [PyData.showableAll, okD_showable x h'.1, okL_showable r h'.2, Bool.and_self]
theorem okK_showable : ∀ d : List (PyData × PyData), okK d → PyData.showableKv d = true
  | [], _ => by simp only [PyData.showableKv]
  | (k, v) :: r, h => by
    have h' : okD k ∧ okD v ∧ okK r := by simpa only [okK] using h
    simp only [PyData.showableKv, okD_showable k h'.1, okD_showable v h'.2.1, okK_showable r h'.2.2, Bool.and_self]
end

/-! ### such data are read -/
section
variable {X : Cx} {pins : List (Addr × Obj)} {σ : L2.St} {H : Hp} {s : Shared} {ex : Addr → Prop}
theorem rel_key {k : Key} {v : Value} (h : keyIs k v = true) : ∃ as, Reads s.heap v (keyD k) as ∧ sysModules ∉ as := by
  rcases keyIs_shape h with ⟨i, t, rfl, rfl⟩ | ⟨x, t, rfl, rfl⟩
  · exact ⟨[], Reads.int i t, by simp⟩
  · exact ⟨[], Reads.str x t, by simp⟩
mutual
theorem Dv.reads (I : Inv X pins σ H s) (hsm : H sysModules = none) : ∀ (d : PyData) (v : V) (u : Value), Dv ex H v d → RelV v u → ∃ as, Reads s.heap u d as ∧ sysModules ∉ as
  | .none, _, _, h, r => by cases h; cases r; exact ⟨[], Reads.none, by simp⟩
  | .bool b, _, _, h, r => by cases h; cases r; exact ⟨[], Reads.bool b, by simp⟩
  | .int i, _, _, h, r => by cases h; obtain ⟨t, rfl⟩ := r; exact ⟨[], Reads.int i t, by simp⟩
  | .str x, _, _, h, r => by cases h; obtain ⟨t, rfl⟩ := r; exact ⟨[], Reads.str x t, by simp⟩
  | .list ds, _, _, h, r => by
    cases h with
    | @lst a xs _ na e l =>
      cases r
      obtain ⟨_, its, n, rv, ho⟩ := (show ObjOk X.prog X.w H s.heap a (.lst xs) from I.hok a _ e)
      obtain ⟨as, hr, hs⟩ := Dv.readsAll I hsm ds _ its l rv
      exact ⟨_, Reads.list ho rfl rfl hr, fun z => by
        rcases List.mem_cons.mp z with z | z
        · rw [z] at hsm; rw [hsm] at e; cases e
        · exact hs z⟩
  | .tuple ds, _, _, h, r => by
    cases h with
    | @tup a ob xs _ od e l =>
      cases r
      obtain ⟨_, _, its, rv, o, ho, hc, n, hd⟩ := (show ObjOk X.prog X.w H s.heap a (.frz ob (.tup xs)) from I.hok a _ e)
      obtain ⟨as, hr, hs⟩ := Dv.readsAll I hsm ds _ its l rv
      exact ⟨_, Reads.tuple ho hc hd hr, hs⟩
  | .dict es, _, _, h, r => by
    cases h with
    | @dic a kvs _ na e l =>
      cases r
      obtain ⟨_, hne, vs, rv, o, es', ep, ho, hx, hd, hk, hp, _⟩ := (show ObjOk X.prog X.w H s.heap a (.dK kvs) from I.hok a _ e)
      obtain ⟨as, bs, h1, h2, h3, h4⟩ := Dv.readsKv I hsm es _ vs es'.toList l rv hp
      exact ⟨_, Reads.dict ho hx.1 hd h1 h2, fun z => by
        rcases List.mem_append.mp z with z | z
        · rcases List.mem_cons.mp z with z | z
          · rw [z] at hsm; rw [hsm] at e; cases e
          · exact h3 z
        · exact h4 z⟩
theorem Dv.readsAll (I : Inv X pins σ H s) (hsm : H sysModules = none) : ∀ (ds : List PyData) (vs : List V) (us : List Value), DvL ex H vs ds → Vals vs us → ∃ as, ReadsAll s.heap us ds as ∧ sysModules ∉ as
  | [], _, _, h, r => by cases h; cases r; exact ⟨[], ReadsAll.nil, by simp⟩
  | d :: ds, _, _, h, r => by
    cases h with
    | cons h1 h2 =>
      cases r with
      | cons r1 r2 =>
        obtain ⟨as, q1, n1⟩ := Dv.reads I hsm d _ _ h1 r1
        obtain ⟨bs, q2, n2⟩ := Dv.readsAll I hsm ds _ _ h2 r2
        exact ⟨_, ReadsAll.cons q1 q2, fun z => (List.mem_append.mp z).elim n1 n2⟩
theorem Dv.readsKv (I : Inv X pins σ H s) (hsm : H sysModules = none) : ∀ (es : List (PyData × PyData)) (kvs : List (Key × V)) (vs : List (Key × Value)) (des : List DictEntry), DvK ex H kvs es → KV kvs vs → Pairs (mixKind X.prog X.w) des vs →
    ∃ as bs, ReadsAll s.heap (des.map (·.key)) (es.map (·.1)) as ∧ ReadsAll s.heap (des.map (·.val)) (es.map (·.2)) bs ∧ sysModules ∉ as ∧ sysModules ∉ bs
  | [], _, _, _, h, r, p => by cases h; cases r; cases p; exact ⟨[], [], ReadsAll.nil, ReadsAll.nil, by simp, by simp⟩
  | (kd, d) :: es, _, _, _, h, r, p => by
    cases h with
    | @cons k v _ kvs _ h1 h2 =>
      cases r with
      | @cons _ q _ qs r1 r2 =>
        cases p with
        | @cons en _ ens _ p1 p2 p3 =>
          obtain ⟨as, bs, a1, a2, a3, a4⟩ := Dv.readsKv I hsm es _ _ _ h2 r2 p3
          obtain ⟨rk, rv⟩ := r1
          have pk : keyIs k en.key = true := by
            have : keyIs q.1 en.key = true := p1
            rw [← rk] at this
            exact this
          obtain ⟨cs, c1, c2⟩ := rel_key (s := s) pk
          obtain ⟨ds, d1, d2⟩ := Dv.reads I hsm d _ _ h1 rv
          rw [← p2] at d1
          exact ⟨_, _, ReadsAll.cons c1 a1, ReadsAll.cons d1 a2, fun z => (List.mem_append.mp z).elim c2 a3, fun z => (List.mem_append.mp z).elim d2 a4⟩
end
end
section
variable {X : Cx}
/-- repr of a list of data -/
def rRepr : List V → Hp → VK → Prop := fun xs H Q => ∃ a d, xs = [.ref a] ∧ Dv (fun _ => False) H (.ref a) d ∧ okD d ∧ d.depth ≤ 20 ∧ cost d ≤ sizeLine ∧ Q (.str d.shown) H
theorem call_repr {om : Obj} (hK : X.K.lookup sysModules = some om) (hg : X.A.guards = some []) (hu : X.A.units + 64 < cLine) : CallR X (.builtin "repr") rRepr := by
  intro pins s σ H xs us Q I r h
  obtain ⟨a, d, rfl, dv, ok, hd, hc, q⟩ := h
  have hsm : H sysModules = none := (I.bs _ _ (I.ok.mod.kin _ _ hK)).2
  obtain ⟨u, rfl, rx⟩ := vals1 r
  obtain ⟨as, hr, hs⟩ := Dv.reads I hsm d _ _ dv rx
  cases rx
  refine repr_of_reads' hr (okD_showable d ok) (fun _ => hs) hg (by omega) (fun _ _ e => e) (fun h' u tk hk => ?_) (Nat.le_trans (shown_le d ok) hc)
  exact ⟨.str d.shown, H, I.kept hk, ⟨u, rfl⟩, q⟩
end
end Kx
namespace Kx
open PySem PySem.Spec PyProof.Rows L2

section
variable {X : Cx}
/-! ### numbers -/
theorem big10 : Builtin.Int.intTooBig (((Builtin.Int.intBits (10 ^ 60) : Nat) : Int) * 10) = false := by decide +kernel
/-- (10 ** 60) ** 10 -/
theorem op_powBig : OpR X (binaryOp .Pow) (fun x y H Q => x = .int (10 ^ 60) ∧ y = .int 10 ∧ Q (.int (10 ^ 600)) H) := by
  intro pins s σ H x y v u Q I rx ry h
  obtain ⟨rfl, rfl, q⟩ := h
  obtain ⟨t, rfl⟩ := rx
  obtain ⟨t2, rfl⟩ := ry
  refine PySem.AutoIntOps.pow_4 (by decide) (by decide) (by decide +kernel) (by decide +kernel) (by rw [big10]; decide) ?_
  have e : ((10 : Int) ^ 60) ^ (Int.toNat 10) = 10 ^ 600 := by decide +kernel
  rw [e]
  exact ⟨.int (10 ^ 600), H, I.tok _, ⟨_, rfl⟩, q⟩
/-! ### s * n for texts -/
def repS (x : Str) (n : Nat) : Str := ⟨(List.replicate n x.cps).foldl (· ++ ·) #[]⟩
theorem rep_foldl (c : Array Nat) : ∀ (n : Nat) (acc : Array Nat), ((List.replicate n c).foldl (· ++ ·) acc).size = acc.size + n * c.size
  | 0, acc => by simp
  | n + 1, acc => by
    rw [List.replicate_succ, List.foldl_cons, rep_foldl c n, Array.size_append, Nat.succ_mul]; omega
theorem repS_len (x : Str) (n : Nat) : (repS x n).length = n * x.length := by
  show ((List.replicate n x.cps).foldl (· ++ ·) #[]).size = n * x.cps.size
  rw [rep_foldl]; simp
theorem rep_mem (c : Array Nat) (k : Nat) : ∀ (n : Nat) (acc : Array Nat), k ∈ (List.replicate n c).foldl (· ++ ·) acc → k ∈ acc ∨ k ∈ c
  | 0, acc, h => .inl (by simpa using h)
  | n + 1, acc, h => by
    rw [List.replicate_succ, List.foldl_cons] at h
    rcases rep_mem c k n _ h with h | h
    · rcases Array.mem_append.mp h with h | h
      · exact .inl h
      · exact .inr h
    · exact .inr h
theorem repS_ok {x : Str} {n : Nat} (h : okS x) : okS (repS x n) := fun c hc => by
  have hc' : c ∈ (List.replicate n x.cps).foldl (· ++ ·) #[] := by simpa [repS] using hc
  rcases rep_mem _ _ _ _ hc' with z | z
  · simp at z
  · exact h c (by simpa using z)
theorem op_mulS : OpR X (binaryOp .Mult) (fun x y H Q => ∃ (z : Str) (n : Int), x = .str z ∧ y = .int n ∧ 2 ≤ n ∧ n ≤ 10000 ∧ z.length ≤ 1000 ∧ 1 ≤ z.length ∧ Q (.str (repS z n.toNat)) H) := by
  intro pins s σ H x y v u Q I rx ry h
  obtain ⟨z, n, rfl, rfl, h1, h2, h3, h4, q⟩ := h
  obtain ⟨t, rfl⟩ := rx
  obtain ⟨t2, rfl⟩ := ry
  have hb : z.length * n.toNat ≤ 1000 * 10000 := Nat.mul_le_mul h3 (by omega)
  refine PySem.P.mul_str (by rw [decide_eq_false (by omega), decide_eq_false (by omega)]; rfl) (fun _ _ => ?_) (fun _ _ => ?_) ?_
  · have : (10000 : Int) ≤ (2 ^ 63 - 1) / n := by
      refine Int.le_ediv_of_mul_le (by omega) ?_
      omega
    omega
  · unfold Builtin.Str.tooLong
    exact decide_eq_false (by rw [sizeLine_eq]; omega)
  · rw [if_neg (by omega)]
    have e : (n == 1 || z.length == 0) = false := by
      rw [beq_eq_false_iff_ne.mpr (by omega), beq_eq_false_iff_ne.mpr (by omega)]; rfl
    rw [if_neg (by rw [e]; exact Bool.false_ne_true)]
    refine ⟨?_, ⟨.str (repS z n.toNat), H, I.tok _, ⟨_, rfl⟩, q⟩⟩
    have := repS_len z n.toNat
    show (repS z n.toNat).length ≤ sizeLine
    rw [this, sizeLine_eq, Nat.mul_comm]; omega
/-! ### == () and != [] whatever the items are -/
def rEqT0 (K : PySem.W.Frag) : R2 := fun x y H Q => ∃ a b xs, x = .ref a ∧ y = .ref b ∧ SqT K H a xs ∧ SqT K H b [] ∧ Q (.bl xs.isEmpty) H
theorem op_eqT0 (hu : X.A.units < cLine) : OpR X (compareOp .Eq) (rEqT0 X.K) := by
  intro pins s σ H x y v u Q I rx ry h
  obtain ⟨a, b, xs, rfl, rfl, h1, h2, q⟩ := h
  cases rx
  cases ry
  obtain ⟨its, r, p1, _⟩ := I.tuple h1
  obtain ⟨its2, r2, p2, _⟩ := I.tuple h2
  cases r2
  have e : ((List.range (min its.toArray.size 0)).all (fun _ => true) && its.toArray.size == 0) = xs.isEmpty := by
    have := r.length
    cases xs with
    | nil => cases r; rfl
    | cons y ys => cases r; rfl
  refine SeqAt.eq_tupleAt (e := fun _ => true) p1 p2 hu (fun j hj h2 => absurd h2 (by simp)) ?_
  refine ⟨.bl xs.isEmpty, H, I, ?_, q⟩
  rw [← e]
  rfl
def rNeL0 (K : PySem.W.Frag) : R2 := fun x y H Q => ∃ a b xs, x = .ref a ∧ y = .ref b ∧ SqL K H a xs ∧ SqL K H b [] ∧ Q (.bl (!xs.isEmpty)) H
theorem op_neL0 (hu : X.A.units < cLine) : OpR X (compareOp .NotEq) (rNeL0 X.K) := by
  intro pins s σ H x y v u Q I rx ry h
  obtain ⟨a, b, xs, rfl, rfl, h1, h2, q⟩ := h
  cases rx
  cases ry
  obtain ⟨its, r, p1, _⟩ := I.list h1
  obtain ⟨its2, r2, p2, _⟩ := I.list h2
  cases r2
  cases r with
  | nil => exact PySem.EqBoolInt.of_rcne (SeqAt.RcNeAt.lists (e := fun _ => true) p1.isList p2.isList rfl hu (fun j hj _ => absurd hj (by simp))) ⟨.bl false, H, I, rfl, q⟩
  | cons r0 r1 => exact PySem.EqBoolInt.of_rcne (SeqAt.RcNeAt.lists_lengths p1.isList p2.isList (by simp) hu) ⟨.bl true, H, I, rfl, q⟩
end

/-! ### an own class's in, len, str -/
section
variable {X : Cx} {CX : CXT} {k : Nat} {C f a dx : Addr} {fd : FuncData} {ps : List Str} {sp : Sp} {E : XK}
/-- x not in o, by the own __contains__'s promise -/
def rNotInO (C : Addr) (sp : Sp) (E : XK) : R2 := fun x y H Q => ∃ a dx fs, y = .ref a ∧ H a = some (.ins C dx fs) ∧ sp [.ref a, x] H (fun v H' => ∃ b, v = .bl b ∧ Q (.bl (!b)) H') E
theorem op_notInO (c : Cls X.K C) (hs : PySem.W.findIn X.K (.ref C) "__contains__" = some (some (.ref f))) (hf : PySem.W.isFn X.K (.ref f) = true) (F : FnOk X.prog X.w X.K X.mg X.base CX k f fd ps sp) (hr : Room k X.A) (hb : Binds X.K fd ps [])
    (hx : Passes CX X E) : OpR X (compareOp .NotIn) (rNotInO C sp E) := by
  intro pins s σ H x y v u Q I rx ry h
  obtain ⟨a, dx, fs, rfl, ha, q⟩ := h
  cases ry
  obtain ⟨mA, O, _⟩ := ins_get I.hok ha
  obtain ⟨od, J, _⟩ := O.look
  obtain ⟨m, fr⟩ := I.fr
  refine PySem.W.notIn_K fr I.ok.mod.kin J hs hf ?_
  refine wpAny_mono (run_fn (us := [.ref a, v]) (vs := [.ref a, x]) (ds := []) (dvs := []) F hr hb .nil hx I (.cons rfl (.cons rx .nil)) q) (fun r s' z => ?_) fun _ _ z => z
  obtain ⟨v', H', I', rv, b, rfl, qq⟩ := z
  cases (show r = Value.bool b from rv)
  exact wpAny_truthy_bool ⟨.bl (!b), H', I', rfl, qq⟩
/-- len(o) -/
def rLenO (C : Addr) (sp : Sp) (E : XK) : List V → Hp → VK → Prop := fun xs H Q => ∃ a dx fs, xs = [.ref a] ∧ H a = some (.ins C dx fs) ∧ sp [.ref a] H (fun v H' => ∃ n : Int, v = .int n ∧ 0 ≤ n ∧ n < 2 ^ 63 ∧ Q (.int n) H') E
theorem call_lenO (hs : PySem.W.findIn X.K (.ref C) "__len__" = some (some (.ref f))) (hf : PySem.W.isFn X.K (.ref f) = true) (F : FnOk X.prog X.w X.K X.mg X.base CX k f fd ps sp) (hr : Room (k + 1) X.A) (hb : Binds X.K fd ps [])
    (hx : Passes CX X.nox E) : CallR X (.builtin "len") (rLenO C sp E) := by
  intro pins s σ H xs us Q I r h
  obtain ⟨a, dx, fs, rfl, ha, q⟩ := h
  obtain ⟨u, rfl, rx⟩ := vals1 r
  cases rx
  obtain ⟨mA, O, _⟩ := ins_get I.hok ha
  obtain ⟨od, J, _⟩ := O.look
  obtain ⟨m, fr⟩ := I.fr
  refine PySem.W.len_K fr I.ok.mod.kin J hs hf ?_
  refine wpAny_call (codeAny_mono (F.run X.A.in1 X.stack s H ⟨[.ref a], []⟩ [.ref a] [.ref a] _ E hr.in1 I.env0.in1 (hb s [.ref a] I.kIn ?_) (.cons rfl .nil) q) fun r s' z => ?_)
  · rw [← F.len _ _ _ _ q]; rfl
  · cases r with
    | error e => exact (hx pins σ H s e s' (I.wish _) z).elim
    | ok fl =>
      cases fl with
      | ret u =>
        obtain ⟨v, H', I3, rv, n, rfl, h0, h1, qq⟩ := I.after z
        obtain ⟨t, rfl⟩ := rv
        exact ⟨⟨h0, h1⟩, .int n, H', I3.tok _, ⟨_, rfl⟩, qq⟩
      | next => exact False.elim z
      | brk => exact False.elim z
      | cont => exact False.elim z
/-- str(o) -/
def rStrO (C : Addr) (sp : Sp) (E : XK) : List V → Hp → VK → Prop := fun xs H Q => ∃ a dx fs, xs = [.ref a] ∧ H a = some (.ins C dx fs) ∧ sp [.ref a] H (fun v H' => ∃ z : Str, v = .str z ∧ Q (.str z) H') E
theorem str_own {prog : Program} {w : World} {A : Around} {E : Value → Shared → Prop} {s : Shared} {K : PySem.W.Frag} {x C f : Addr} {ox : Obj} {od : Option Obj} {Q : Value → Shared → Prop}
    (room : A.in1.in1.units < cLine) (X : K.In s.heap) (I : PySem.W.InstAt s.heap x ox C od) (hs : PySem.W.findIn K (.ref C) "__str__" = some (some (.ref f))) (hf : PySem.W.isFn K (.ref f) = true)
    (h : wpAny (model prog w) A.in1.in1 (call (.ref f) [.ref x]) (PySem.W.StrBack Q) E s) : wpAny (model prog w) A (call (.type "str") [.ref x]) Q E s := by
  have made : wpAny (model prog w) A.in1.in1 (PySem.Builtin.Str.strOf (.ref x)) (fun r t => ∃ y u, r = .str y u ∧ Q r t) E s := by
    unfold PySem.Builtin.Str.strOf
    rw [show PySem.Builtin.Str.isExactStr (.ref x) = false from rfl]
    refine wpAny_bind (m := cRoomFor _ _) (wpAny_cRoomFor room ?_)
    refine wpAny_bind (m := callSpecial? (.ref x) (Str.ofString "__str__")) (PySem.W.special_fn X I hs (beq_iff_eq.mp hf) ?_)
    refine wpAny_mono h (fun r s' z => ?_) fun _ _ y => y
    cases r with
    | str y u => exact wpAny_pure ⟨y, u, rfl, z⟩
    | _ => exact z.elim
  refine callType_codes (T := "str") (Bi := Builtin.«object.__init__») (Q₁ := fun r t => ∃ y u, r = .str y u ∧ Q r t) PySem.F.called_str (PySem.F.typeCall_str_1 _) PySem.F.entry_object_init (codeAny_of_tree ?_) ?_
  · show wpAny _ A.in1.in1 (checkBuiltinCall "str.__new__" ⟨[.type "str", .ref x], []⟩ >>= fun _ => again (.builtin "str.__new__" ⟨[.type "str", .ref x], []⟩)) _ _ s
    refine wpAny_bind (wpAny_of_eq (PySem.F.newCall_str_1 _) (wpAny_pure ⟨plainId_quiet (by decide +kernel) _, codeAny_builtin PySem.F.entry_str_new ?_⟩))
    rw [Around.under_plainId (by decide +kernel) _, str_new_tree]
    refine wpAny_bind (wpAny_pure (wpAny_bind (wpAny_of_eq isSubtype_str_str ?_)))
    exact wpAny_bind (wpAny_mono made (fun _ _ z => wpAny_pure z) fun _ _ z => z)
  · rintro obj t ⟨y, u, rfl, z⟩
    exact ⟨typeIs_str _ _ _, PySem.F.args_object_init_2 _ _, object_init_meets PySem.F.called_str.init.lookup PySem.F.called_str.made (by decide) prog w A.in1 _ t ⟨typeIs_str _ _ _, rfl, z⟩⟩
theorem call_strO (hs : PySem.W.findIn X.K (.ref C) "__str__" = some (some (.ref f))) (hf : PySem.W.isFn X.K (.ref f) = true) (F : FnOk X.prog X.w X.K X.mg X.base CX k f fd ps sp) (hr : Room (k + 2) X.A) (hb : Binds X.K fd ps [])
    (hx : Passes CX X.nox E) : CallR X (.type "str") (rStrO C sp E) := by
  intro pins s σ H xs us Q I r h
  obtain ⟨a, dx, fs, rfl, ha, q⟩ := h
  obtain ⟨u, rfl, rx⟩ := vals1 r
  cases rx
  obtain ⟨mA, O, _⟩ := ins_get I.hok ha
  obtain ⟨od, J, _⟩ := O.look
  refine str_own (by have := hr.un; show X.A.units + 1 + 1 < cLine; omega) I.kIn J hs hf ?_
  refine wpAny_call (codeAny_mono (F.run X.A.in1.in1 X.stack s H ⟨[.ref a], []⟩ [.ref a] [.ref a] _ E hr.in1.in1 I.env0.in1.in1 (hb s [.ref a] I.kIn ?_) (.cons rfl .nil) q) fun r s' z => ?_)
  · rw [← F.len _ _ _ _ q]; rfl
  · cases r with
    | error e => exact (hx pins σ H s e s' (I.wish _) z).elim
    | ok fl =>
      cases fl with
      | ret u =>
        obtain ⟨v, H', I3, rv, n, rfl, qq⟩ := I.after z
        obtain ⟨t, rfl⟩ := rv
        exact ⟨.str n, H', I3, ⟨_, rfl⟩, qq⟩
      | next => exact False.elim z
      | brk => exact False.elim z
      | cont => exact False.elim z
end
end Kx
namespace Kx
open PySem PySem.Spec PyProof.Rows L2
theorem vals_at : ∀ {us : List Value} {vs : List V}, us.length = vs.length → (∀ (j : Nat) (u : Value), us[j]? = some u → ∃ v, vs[j]? = some v ∧ RelV v u) → Vals vs us
  | [], [], _, _ => .nil
  | [], _ :: _, hl, _ => by simp at hl
  | _ :: _, [], hl, _ => by simp at hl
  | u :: us, v :: vs, hl, h => by
    obtain ⟨w, e, r⟩ := h 0 u rfl
    cases e
    exact .cons r (vals_at (by simpa using hl) fun j x e => h (j + 1) x e)
section
variable {X : Cx}
/-! ### list(text) -/
def signsV (x : Str) : List V := x.cps.toList.map fun c => V.str ⟨#[c]⟩
theorem call_listS (hcalm : X.calm = true) : CallR X (.type "list") (fun xs H Q => ∃ z : Str, xs = [.str z] ∧ z.length ≤ sizeLine ∧ ∀ p, H p = none → Q (.ref p) (upd H p (.lst (signsV z)))) := by
  intro pins s σ H xs us Q I r h
  obtain ⟨z, rfl, hz, q⟩ := h
  obtain ⟨u, rfl, rx⟩ := vals1 r
  obtain ⟨t, rfl⟩ := rx
  refine call_list_str (I.ok.hd hcalm) z t (fun h' tk acc c' hk hS hacc => ?_) hz
  refine ⟨.ref s.heap.objs.size, _, I.laid (t' := tk) (o := .lst (signsV z)) hk (Nat.le_refl _) ?_, rfl, q _ (I.hok.fresh (Nat.le_refl _))⟩
  refine ⟨by unfold signsV; rw [List.length_map, Array.length_toList]; exact hz, acc.toList, c', vals_at ?_ (fun j v e => ?_), by rw [Array.toArray_toList]; exact hS⟩
  · unfold signsV; rw [List.length_map, Array.length_toList, Array.length_toList]; exact hacc.1
  · obtain ⟨c, w, e1, e2⟩ := hacc.2 j v (by rw [← Array.getElem?_toList]; exact e)
    refine ⟨.str ⟨#[c]⟩, ?_, w, e2⟩
    unfold signsV
    rw [List.getElem?_map, Array.getElem?_toList, e1]
    rfl
/-! ### tuple(dict) -/
theorem call_tupleD (hcalm : X.calm = true) : CallR X (.type "tuple") (fun xs H Q => ∃ (a : Addr) (kvs : List (Key × V)), xs = [.ref a] ∧ Rd H a (.dK kvs) ∧ ∀ p, H p = none → Q (.ref p) (upd H p (.tup (kvs.map fun kv => kV kv.1)))) := by
  intro pins s σ H xs us Q I r h
  obtain ⟨a, kvs, rfl, hd, q⟩ := h
  obtain ⟨u, rfl, rx⟩ := vals1 r
  cases rx
  obtain ⟨z, lo, vs, rel, dd⟩ := dk_rd I.hok hd
  obtain ⟨ep, hat⟩ := dd.dictAt
  have ek : (kvs.map fun kv => kV kv.1) = vs.map fun p => kV p.1 := by
    have e := congrArg (List.map kV) rel.keys
    rw [List.map_map, List.map_map] at e
    exact e
  have lenv : vs.length ≤ sizeLine := by rw [← rel.length]; exact z
  have made : codeAny (model X.prog X.w) X.A.in1 (.call (.builtin "tuple.__new__") ⟨[.type "tuple", .ref a], []⟩) (wants (fun obj s₁ => s₁.TypeIs obj "tuple" ∧ EP X pins σ Q obj s₁) X.xe) s := by
    refine codeAny_of_tree ?_
    show wpAny _ X.A.in1.in1 (checkBuiltinCall "tuple.__new__" ⟨[.type "tuple", .ref a], []⟩ >>= fun _ => again (.builtin "tuple.__new__" ⟨[.type "tuple", .ref a], []⟩)) _ _ s
    refine wpAny_bind (wpAny_of_eq (PySem.F.newCall_tuple_1 _) (wpAny_pure ⟨plainId_quiet PySem.F.plain_tuple_new _, codeAny_builtin PySem.F.entry_tuple_new ?_⟩))
    rw [Around.under_plainId PySem.F.plain_tuple_new _]
    have g1 := sub_tuple_self
    have g2 := init_tuple_lookup
    have g3 := madeHere_tuple
    have g4 : s.TypeIs (.ref a) "dict" := dd.typeIs
    have gh : X.A.in1.in1.handled = none := I.ok.hd hcalm
    wp_walk using wpAny_typeOf g4, PySem.W.kdu_collect (PySem.W.kdl_dict (knd := mixKind X.prog X.w) (kvs := vs) (ep := ep) lo) gh hat lenv
    intro h' tk acc hk hacc
    have hv : Vals (vs.map fun p => kV p.1) acc.toList := keys_at (by rw [Array.length_toList]; exact hacc.1) fun j v e => hacc.2 j v (by rw [← Array.getElem?_toList]; exact e)
    show wpAny _ _ (Builtin.Tuple.tupleExact acc.toList.toArray >>= fun v => ret v) _ _ _
    unfold Builtin.Tuple.tupleExact
    refine wpAny_bind (wpAny_newObj_type ?_ (show acc.toList.toArray.size ≤ sizeLine by rw [Array.toArray_toList, hacc.1]; exact lenv))
    have I1 : Inv X pins σ H { s with heap := h', toks := tk } := I.kept (t' := tk) hk
    refine wpAny_pure ⟨⟨_, Heap.get?_push_size _ rfl, rfl⟩, ?_⟩
    refine ⟨.ref h'.objs.size, _, I1.laid (t' := tk) (o := .tup (kvs.map fun kv => kV kv.1)) (fun b ob e => Heap.get?_push_of_some _ e) (Nat.le_refl _) ?_, rfl, q _ (I1.hok.fresh (Nat.le_refl _))⟩
    exact ⟨by rw [List.length_map]; exact z, acc.toList, by rw [ek]; exact hv, IsTup.new _ _⟩
  refine callType_codes PySem.F.called_tuple (PySem.F.typeCall_tuple_1 _) PySem.F.entry_object_init made fun obj s₁ h₁ => ?_
  exact ⟨h₁.1, PySem.F.args_object_init_2 obj _, object_init_meets PySem.F.called_tuple.init.lookup PySem.F.called_tuple.made (by decide) X.prog X.w X.A.in1 _ s₁ ⟨h₁.1, rfl, h₁.2⟩⟩
end
end Kx
namespace Kx
open PySem PySem.Spec PyProof.Rows L2
/-- a plain tuple has been laid (or stood) -/
def kT (xs : List V) (H : Hp) (Q : VK) : Prop := ∀ p H', Same H H' → TupF H' p xs → Q (.ref p) H'
section
variable {X : Cx} {pins : List (Addr × Obj)} {σ : L2.St} {H : Hp} {s : Shared} {Q : VK}
theorem Same.refl {H : Hp} : Same H H := fun _ _ e => e
theorem Same.upd {H : Hp} {p : Addr} {o : HO} (h : H p = none) : Same H (upd H p o) := fun a u e => by rw [upd_ne (ne_of_none e h)]; exact e
theorem Same.trans {H H1 H2 : Hp} (a : Same H H1) (b : Same H1 H2) : Same H H2 := fun c o e => b c o (a c o e)
theorem laidT (I : Inv X pins σ H s) {xs : List V} {its : List Value} {h' : Heap} {t' n : Nat} (r : Vals xs its) (hz : xs.length ≤ sizeLine) (k : ∀ b o, s.heap.get? b = some o → h'.get? b = some o) {p : Addr} (hp : s.heap.objs.size ≤ p)
    (e : h'.get? p = some { cls := .type "tuple", data := .seq its.toArray n }) (q : kT xs H Q) : EP X pins σ Q (.ref p) { s with heap := h', toks := t' } := by
  have hn := I.hok.fresh hp
  refine ⟨.ref p, upd H p (.frz { cls := .type "tuple", data := .seq its.toArray n } (.tup xs)), I.laid (t' := t') k hp ⟨e, hz, its, r, _, e, rfl, _, rfl⟩, rfl, q _ _ (Same.upd hn) ⟨_, rfl, upd_same⟩⟩
theorem stayT (I : Inv X pins σ H s) {xs : List V} {p : Addr} (h : TupF H p xs) (q : kT xs H Q) : EP X pins σ Q (.ref p) s := ⟨.ref p, H, I, rfl, q _ _ Same.refl h⟩
end
section
variable {X : Cx}
/-- (a, b) -/
def tTupF (t : TA) : TE := fun σ H Q => t σ H fun xs H1 => xs.length ≤ sizeLine ∧ kT xs H1 Q
theorem pe_tupF {es : List Expr} {t : TA} {x1} {pos : Pos} (h : PA X es t) : PE X (.Tuple es x1 pos) (tTupF t) := by
  refine ⟨fun pins s σ H Q I hq => ?_⟩
  refine wpAny_Tuple_spliced (thn (h.run pos pins s σ H _ I hq) fun us s1 ⟨xs, H1, I1, r, z, q⟩ => ⟨by rw [← r.length]; exact z, ?_⟩)
  exact laidT (t' := s1.toks) I1 r z (fun b u e => Heap.get?_push_of_some _ e) (Nat.le_refl _) (Heap.get?_push_size _ rfl) q
/-- tuple(list) -/
theorem call_tupF : CallR X (.type "tuple") (fun xs H Q => ∃ a ys, xs = [.ref a] ∧ SqL X.K H a ys ∧ kT ys H Q) := by
  intro pins s σ H xs us Q I r h
  obtain ⟨a, ys, rfl, ha, q⟩ := h
  obtain ⟨u, rfl, rx⟩ := vals1 r
  cases rx
  obtain ⟨its, r', pl, hz⟩ := I.list ha
  have hlen := r'.length
  refine call_tuple_list pl.isList (fun h' kp => ?_) (by simp only [List.size_toArray] <;> omega)
  exact laidT (t' := s.toks) (I.kept (t' := s.toks) kp) r' hz (fun b o e => Heap.get?_push_of_some _ e) (Nat.le_refl _) (Heap.get?_push_size _ rfl) q
/-- t + u -/
def rCatF : R2 := fun x y H Q => ∃ a b xs ys, x = .ref a ∧ y = .ref b ∧ TupF H a xs ∧ TupF H b ys ∧ xs.length + ys.length ≤ sizeLine ∧ kT (xs ++ ys) H Q
theorem op_catF : OpR X (binaryOp .Add) rCatF := by
  intro pins s σ H x y v u Q I rx ry h
  obtain ⟨a, b, xs, ys, rfl, rfl, ha, hb, hz, q⟩ := h
  cases rx
  cases ry
  obtain ⟨its, r1, p1, _⟩ := I.tuple (ha.sq (K := X.K))
  obtain ⟨its2, r2, p2, _⟩ := I.tuple (hb.sq (K := X.K))
  by_cases hx : xs = []
  · subst hx
    cases r1
    exact L2.cat_tup0 p1 p2 (stayT I hb q)
  · refine HT.cat_tup p1 p2 (fun z => hx (r1.nil_iff.mp z)) (fun z => ?_) (fun z => ?_) (by rw [← r1.length, ← r2.length]; exact hz)
    · have e := r2.nil_iff.mp z
      subst e
      rw [List.append_nil] at q
      exact stayT I ha q
    · exact laidT (t' := s.toks) I (r1.append r2) (by rw [List.length_append]; exact hz) (fun b o e => Heap.get?_push_of_some _ e) (Nat.le_refl _) (Heap.get?_push_size _ rfl) q
/-- t[i:j] -/
def rSlF : V → Option Int → Option Int → Hp → VK → Prop := fun x lo hi H Q => ∃ a xs, x = .ref a ∧ TupF H a xs ∧ kT (cutV xs lo hi) H Q
theorem sl_tupF : SlR X rSlF := by
  intro pins s σ H x v vl vu lo hi sl Q I rx hs pl pu h
  obtain ⟨a, xs, rfl, hx, q⟩ := h
  cases rx
  obtain ⟨its, r, ht, hz⟩ := I.tuple (hx.sq (K := X.K))
  have hlen : its.toArray.size = xs.length := by rw [List.size_toArray]; exact r.length.symm
  refine ⟨"tuple", _, PyProof.Rows.slot_tuple_getitem.lookup, ht.typeIs, ?_⟩
  by_cases hw : HT.sIx xs.length 0 lo = 0 ∧ HT.sIx xs.length xs.length hi = xs.length
  · have e : cutV xs lo hi = xs := by
      unfold cutV
      rw [hw.1, hw.2]
      simp
    rw [e] at q
    exact L2.getItem_tuple_whole ht hs pl pu (by rw [hlen]; exact hw) (stayT I hx q)
  · refine HT.getItem_tuple_cut ht hs pl pu (by rw [hlen]; exact hw) ?_ (by rw [hlen]; exact hz)
    rw [hlen]
    exact laidT (t' := s.toks) I ((r.drop (HT.sIx xs.length 0 lo)).take (HT.sIx xs.length xs.length hi - HT.sIx xs.length 0 lo)) (Nat.le_trans (cutV_length xs lo hi) hz) (fun b o e => Heap.get?_push_of_some _ e) (Nat.le_refl _) (Heap.get?_push_size _ rfl) q
/-! ### tuple(dict) -/
theorem call_tupleDF (hcalm : X.calm = true) : CallR X (.type "tuple") (fun xs H Q => ∃ (a : Addr) (kvs : List (Key × V)), xs = [.ref a] ∧ Rd H a (.dK kvs) ∧ kT (kvs.map fun kv => kV kv.1) H Q) := by
  intro pins s σ H xs us Q I r h
  obtain ⟨a, kvs, rfl, hd, q⟩ := h
  obtain ⟨u, rfl, rx⟩ := vals1 r
  cases rx
  obtain ⟨z, lo, vs, rel, dd⟩ := dk_rd I.hok hd
  obtain ⟨ep, hat⟩ := dd.dictAt
  have ek : (kvs.map fun kv => kV kv.1) = vs.map fun p => kV p.1 := by
    have e := congrArg (List.map kV) rel.keys
    rw [List.map_map, List.map_map] at e
    exact e
  have lenv : vs.length ≤ sizeLine := by rw [← rel.length]; exact z
  have made : codeAny (model X.prog X.w) X.A.in1 (.call (.builtin "tuple.__new__") ⟨[.type "tuple", .ref a], []⟩) (wants (fun obj s₁ => s₁.TypeIs obj "tuple" ∧ EP X pins σ Q obj s₁) X.xe) s := by
    refine codeAny_of_tree ?_
    show wpAny _ X.A.in1.in1 (checkBuiltinCall "tuple.__new__" ⟨[.type "tuple", .ref a], []⟩ >>= fun _ => again (.builtin "tuple.__new__" ⟨[.type "tuple", .ref a], []⟩)) _ _ s
    refine wpAny_bind (wpAny_of_eq (PySem.F.newCall_tuple_1 _) (wpAny_pure ⟨plainId_quiet PySem.F.plain_tuple_new _, codeAny_builtin PySem.F.entry_tuple_new ?_⟩))
    rw [Around.under_plainId PySem.F.plain_tuple_new _]
    have g1 := sub_tuple_self
    have g2 := init_tuple_lookup
    have g3 := madeHere_tuple
    have g4 : s.TypeIs (.ref a) "dict" := dd.typeIs
    have gh : X.A.in1.in1.handled = none := I.ok.hd hcalm
    wp_walk using wpAny_typeOf g4, PySem.W.kdu_collect (PySem.W.kdl_dict (knd := mixKind X.prog X.w) (kvs := vs) (ep := ep) lo) gh hat lenv
    intro h' tk acc hk hacc
    have hv : Vals (vs.map fun p => kV p.1) acc.toList := keys_at (by rw [Array.length_toList]; exact hacc.1) fun j v e => hacc.2 j v (by rw [← Array.getElem?_toList]; exact e)
    show wpAny _ _ (Builtin.Tuple.tupleExact acc.toList.toArray >>= fun v => ret v) _ _ _
    unfold Builtin.Tuple.tupleExact
    refine wpAny_bind (wpAny_newObj_type ?_ (show acc.toList.toArray.size ≤ sizeLine by rw [Array.toArray_toList, hacc.1]; exact lenv))
    have I1 : Inv X pins σ H { s with heap := h', toks := tk } := I.kept (t' := tk) hk
    refine wpAny_pure ⟨⟨_, Heap.get?_push_size _ rfl, rfl⟩, ?_⟩
    have hv2 : Vals (kvs.map fun kv => kV kv.1) acc.toList := by rw [ek]; exact hv
    exact laidT (t' := tk) I1 hv2 (by rw [List.length_map]; exact z) (fun b ob e => Heap.get?_push_of_some _ e) (Nat.le_refl _) (Heap.get?_push_size _ rfl) q
  refine callType_codes PySem.F.called_tuple (PySem.F.typeCall_tuple_1 _) PySem.F.entry_object_init made fun obj s₁ h₁ => ?_
  exact ⟨h₁.1, PySem.F.args_object_init_2 obj _, object_init_meets PySem.F.called_tuple.init.lookup PySem.F.called_tuple.made (by decide) X.prog X.w X.A.in1 _ s₁ ⟨h₁.1, rfl, h₁.2⟩⟩
end
end Kx
namespace Kx
open PySem PySem.Spec PyProof.Rows L2
section
variable {prog : Program} {w : World} {A : Around} {E : Value → Shared → Prop} {s : Shared}
theorem adjust_back (n : Nat) : Builtin.Slice.sliceAdjust none none (-1) (n : Int) = ((n : Int) - 1, -1) := by
  unfold Builtin.Slice.sliceAdjust
  simp
theorem places_back (n : Nat) : Builtin.Slice.slicePlaces ((n : Int) - 1) (-1) (-1) = n := by
  unfold Builtin.Slice.slicePlaces
  simp
  omega
theorem applied_back {sl : Addr} {vl vu vs : Value} {n : Nat} {Q : Int × Int × Nat → Shared → Prop} (hs : s.heap.IsSliceOf sl vl vu vs) (pl : IsPart vl none) (pu : IsPart vu none) (pst : IsPart vs (some (-1)))
    (h : Q ((n : Int) - 1, -1, n) s) : wpAny (model prog w) A (Builtin.Slice.sliceApplied (.ref sl) (pure (n : Int))) Q E s := by
  obtain ⟨os, hos, hcs, hds⟩ := id hs
  unfold Builtin.Slice.sliceApplied Builtin.Slice.sliceFields
  refine wpAny_bind (wpAny_bind (wpAny_field hos hds (x := vl) rfl (wpAny_bind (wpAny_field hos hds (x := vu) rfl (wpAny_bind (wpAny_field hos hds (x := vs) rfl (wpAny_pure ?_)))))))
  refine wpAny_bind (HT.slicePart_ pst ?_)
  show wpAny _ _ (if ((-1 : Int) == 0) = true then _ else _) _ _ s
  rw [if_neg (by decide)]
  refine wpAny_bind (HT.slicePart_ pl (wpAny_bind (HT.slicePart_ pu (wpAny_bind (wpAny_pure ?_)))))
  show wpAny _ _ (match Builtin.Slice.sliceAdjust none none (-1) (n : Int) with | (lo, hi) => pure (lo, (-1 : Int), Builtin.Slice.slicePlaces lo hi (-1))) _ _ s
  rw [adjust_back]
  show wpAny _ _ (pure ((n : Int) - 1, (-1 : Int), Builtin.Slice.slicePlaces ((n : Int) - 1) (-1) (-1))) _ _ s
  rw [places_back]
  exact wpAny_pure h
theorem back_list {α : Type} (l : List α) : ∀ k, k ≤ l.length → (List.range k).filterMap (fun m => l[l.length - 1 - m]?) = l.reverse.take k
  | 0, _ => by simp
  | k + 1, h => by
    rw [List.range_succ, List.filterMap_append, back_list l k (by omega), List.take_succ]
    congr 1
    have e : l.reverse[k]? = l[l.length - 1 - k]? := List.getElem?_reverse (by omega)
    rw [e]
    cases q : l[l.length - 1 - k]? with
    | none => simp [q]
    | some a => simp [q]
theorem pick_back (xs : Array Value) : ((List.range xs.size).filterMap fun (m : Nat) => xs[((((xs.size : Nat) : Int) - 1) + (m : Int) * (-1)).toNat]?) = xs.toList.reverse := by
  have e : (fun (m : Nat) => xs[((((xs.size : Nat) : Int) - 1) + (m : Int) * (-1)).toNat]?) = fun m => xs.toList[xs.toList.length - 1 - m]? := by
    funext m
    have : ((((xs.size : Nat) : Int) - 1) + (m : Int) * (-1)).toNat = xs.toList.length - 1 - m := by
      rw [Array.length_toList]; omega
    rw [this, Array.getElem?_toList]
  rw [e]
  have := back_list xs.toList xs.toList.length (Nat.le_refl _)
  rw [← Array.length_toList, this, ← List.length_reverse, List.take_length]
theorem getItem_tuple_back {t sl : Addr} {items : Array Value} {vl vu vs : Value} {Q : Value → Shared → Prop} (ht : IsTup s.heap t items) (hs : s.heap.IsSliceOf sl vl vu vs) (pl : IsPart vl none) (pu : IsPart vu none) (pst : IsPart vs (some (-1)))
    (h : Q (.ref s.heap.objs.size) { s with heap := s.heap.push { cls := .type "tuple", data := .seq items.toList.reverse.toArray } }) (hsz : items.size ≤ sizeLine) : wpAny (model prog w) A (getItem (.ref t) (.ref sl)) Q E s := by
  have room : sizeOk (.seq items.toList.reverse.toArray) := by
    show items.toList.reverse.toArray.size ≤ sizeLine
    rw [List.size_toArray, List.length_reverse, Array.length_toList]
    exact hsz
  obtain ⟨os, hos, hcs, hds⟩ := id hs
  have hTs : s.TypeIs (.ref sl) "slice" := ⟨os, hos, hcs⟩
  unfold getItem
  try with_reducible refine wpAny_holding ?_
  first | refine wpAny_bind (wpAny_pure ?_) | skip
  refine wpAny_bind (wpAny_sequenceKey ht.typeIs (by decide) ?_)
  refine wpAny_bind (wpAny_callSpecial?_slot (name := Str.ofString "__getitem__") ht.typeIs PyProof.Rows.slot_tuple_getitem (wpAny_call_entry PyProof.Rows.slot_tuple_getitem ht.typeIs entry_tuple_getitem ?_ (args_tuple_getitem _ _)))
  show wpAny _ _ (Builtin.Tuple.tupleItemsOf (.ref t) >>= _) _ _ s
  refine wpAny_bind (tupleItemsOf_ ht (wpAny_bind (wpAny_typeOf hTs ?_)))
  rw [if_pos (by decide)]
  refine wpAny_bind (applied_back hs pl pu pst ?_)
  have off : ¬ ((((items.size : Nat) : Int) - 1 == 0 && (-1 : Int) == 1 && items.size == items.size) = true) := by
    rw [show ((-1 : Int) == 1) = false from rfl, Bool.and_false, Bool.false_and]
    exact Bool.false_ne_true
  show wpAny _ _ (if ((((items.size : Nat) : Int) - 1) == 0 && (-1 : Int) == 1 && items.size == items.size) = true then _ else _) _ _ s
  rw [if_neg off, pick_back]
  first
    | exact wpAny_bind (m := Builtin.Tuple.tupleExact _) (wpAny_newObj_type (wpAny_pure ⟨_, rfl, wpAny_pure h⟩) room)
    | exact wpAny_bind (m := Builtin.Tuple.tupleExact _) (wpAny_newObj_type (wpAny_bind (wpAny_pure (wpAny_pure ⟨_, rfl, wpAny_pure h⟩))) room)
    | exact wpAny_bind (wpAny_bind (m := Builtin.Tuple.tupleExact _) (wpAny_newObj_type (wpAny_pure (wpAny_pure ⟨_, rfl, wpAny_pure h⟩)) room))
    | exact wpAny_bind (wpAny_bind (m := Builtin.Tuple.tupleExact _) (wpAny_newObj_type (wpAny_pure ⟨_, rfl, wpAny_pure h⟩) room))
end
section
variable {X : Cx}
/-- t[::-1] -/
def tRevT (te : TE) : TE := fun σ H Q => te σ H fun x H1 => ∃ a xs, x = .ref a ∧ TupF H1 a xs ∧ kT xs.reverse H1 Q
theorem pe_revT {e : Expr} {te : TE} {k : Nat} {p1 p2 p3 pos : Pos} (he : PE X e te) : PE X (.Subscript e (.Slice none none (some (.UnaryOp .USub (.Constant (.int 1) k p1) p2)) p3) pos) (tRevT te) := by
  refine ⟨fun pins s σ H Q I h => Subscript_ (thn (he.run pins s σ H _ I h) fun v s1 ⟨x, H1, I1, r1, q1⟩ => ?_)⟩
  obtain ⟨a, xs, rfl, hx, q⟩ := q1
  cases r1
  have step : PO X (some (.UnaryOp .USub (.Constant (.int 1) k p1) p2)) (tPart (tUn (rU fun i => .int (-i)) (tC (.int 1)))) := po_some (pe_un un_neg pe_int)
  refine wpAny_Slice (thn (po_none.run pins s1 σ H1 (fun o H2 => o = none ∧ H2 = H1) I1 ⟨rfl, rfl⟩) fun vl s2 ⟨l, H2, I2, pl, el, e2⟩ => ?_)
  subst el e2
  refine thn (po_none.run pins s2 σ H2 (fun o H3 => o = none ∧ H3 = H2) I2 ⟨rfl, rfl⟩) fun vu s3 ⟨u, H3, I3, pu, eu, e3⟩ => ?_
  subst eu e3
  refine thn (step.run pins s3 σ H3 (fun o H4 => o = some (-1) ∧ H4 = H3) I3 ⟨1, rfl, -1, rfl, rfl, rfl⟩) fun vs s4 ⟨o, H4, I4, pst, eo, e4⟩ => ?_
  subst eo e4
  have I5 : Inv X pins σ H4 { s4 with heap := s4.heap.push { cls := .type "slice", data := .fields #[vl, vu, vs] } } := I4.kept (t' := s4.toks) fun b ob q => Heap.get?_push_of_some _ q
  obtain ⟨its, r, ht, hz⟩ := I5.tuple (hx.sq (K := X.K))
  have hlen := r.length
  show wpAny (model X.prog X.w) X.A (subscriptTail e (.Slice none none (some (.UnaryOp .USub (.Constant (.int 1) k p1) p2)) p3) (.ref a) (.ref s4.heap.objs.size)) (EP X pins σ Q) X.xe { s4 with heap := s4.heap.push { cls := .type "slice", data := .fields #[vl, vu, vs] } }
  refine tail_any (ops := [.ref a, .ref s4.heap.objs.size]) ht.typeIs (PyProof.Rows.slot_tuple_getitem.lookup) ?_ (by with_unfolding_all rfl)
  refine getItem_tuple_back ht (Heap.IsSliceOf.new _ vl vu vs) pl pu pst ?_ (by rw [List.size_toArray]; omega)
  exact laidT (t' := s4.toks) I5 r.reverse (by rw [List.length_reverse]; exact hz) (fun b ob q => Heap.get?_push_of_some _ q) (Nat.le_refl _) (Heap.get?_push_size _ rfl) q
end
end Kx
namespace Kx
open PySem PySem.Spec PyProof.Rows L2
section
variable {X : Cx}
theorem pairs_at {pins : List (Addr × Obj)} {σ : L2.St} {H : Hp} {s : Shared} (I : Inv X pins σ H s) : ∀ {ps : List Addr} {kvs : List (Key × V)}, Paired (fun p kv => SqT X.K H p [kV kv.1, kv.2]) ps kvs →
    ∃ (prs : List (Key × Value)) (vps : List (Value × Value)), KV kvs prs ∧ prs.length = ps.length ∧ vps.length = ps.length ∧
      ∀ (j : Nat) (k v : Value), vps[j]? = some (k, v) → ∃ (b : Addr) (kk : Key), ps[j]? = some b ∧ IsTup s.heap b #[k, v] ∧ prs[j]? = some (kk, v) ∧ keyIs kk k = true
  | _, _, .nil => ⟨[], [], .nil, rfl, rfl, fun j k v e => by simp at e⟩
  | _, _, .cons (a := p) (b := kv) h t => by
    obtain ⟨prs, vps, r, h1, h2, hp⟩ := pairs_at I t
    obtain ⟨its, rv, ht, _⟩ := I.tuple h
    obtain ⟨u, y, ei, ru, ry⟩ := vals2 rv
    subst ei
    have hk : keyIs kv.1 u = true := by
      cases e : kv.1 with
      | inl i => rw [e] at ru; obtain ⟨t, rfl⟩ := ru; exact keyIs_int i t
      | inr x => rw [e] at ru; obtain ⟨t, rfl⟩ := ru; exact keyIs_str x t
    refine ⟨(kv.1, y) :: prs, (u, y) :: vps, .cons ⟨rfl, ry⟩ r, by simp [h1], by simp [h2], fun j k v e => ?_⟩
    cases j with
    | zero =>
      cases e
      exact ⟨p, kv.1, rfl, ht, rfl, hk⟩
    | succ j => exact hp j k v e
/-- dict(tuple of pairs) -/
theorem call_dictT (hcalm : X.calm = true) : CallR X (.type "dict") (fun xs H Q => ∃ (a : Addr) (ps : List Addr) (kvs : List (Key × V)), xs = [.ref a] ∧ TupF H a (ps.map V.ref) ∧ Paired (fun p kv => SqT X.K H p [kV kv.1, kv.2]) ps kvs ∧
    ∀ p, H p = none → Q (.ref p) (upd H p (.dK (mergeK [] kvs)))) := by
  intro pins s σ H xs us Q I r q
  obtain ⟨a, ps, kvs, rfl, hq, hp, q⟩ := q
  obtain ⟨u, rfl, rx⟩ := vals1 r
  cases rx
  obtain ⟨ob, od, hob⟩ := hq
  obtain ⟨g1, hz, its, rv, o, g2, oc, n, odat⟩ := (show ObjOk X.prog X.w H s.heap a (.frz ob (.tup (ps.map V.ref))) from I.hok a _ hob)
  rw [g1] at g2
  cases g2
  have ei := refs_at rv
  rw [List.length_map] at hz
  obtain ⟨prs, vps, rel, hl, hl2, hpr⟩ := pairs_at I hp
  have ok : (fun h => PlainSeq "tuple" h a its.toArray ∧ PairItems h its.toArray (fun j => ps.getD j 0) vps) s.heap := by
    refine ⟨⟨ob, n, g1, oc, od, odat⟩, ?_, fun j k v e => ?_⟩
    · rw [List.size_toArray, ei, List.length_map, hl2]
    · obtain ⟨b, kk, e1, e2, _⟩ := hpr j k v e
      refine ⟨?_, ?_⟩
      · show its.toArray[j]? = _
        rw [List.getElem?_toArray, ei, List.getElem?_map, e1]
        simp [e1]
      · show PairAt s.heap (ps.getD j 0) k v
        rw [List.getD_eq_getElem?_getD, e1]
        exact .inl e2
  refine PySem.call_dict_pairs (knd := mixKind X.prog X.w) (kvs := prs) (PairArg.tuple a its.toArray (fun j => ps.getD j 0) vps) (I.ok.hd hcalm) ok ⟨by rw [hl, hl2], fun i k v e => ?_⟩ (by rw [hl2]; exact hz) fun h' tk hd' k => ?_
  · obtain ⟨b, kk, _, _, e3, e4⟩ := hpr i k v e
    exact ⟨kk, e3, e4⟩
  · have hm : (s.heap.objs.size == sysModules) = false := beq_eq_false_iff_ne.mpr (Nat.ne_of_gt I.big)
    have hlen : (mergeK [] kvs).length ≤ sizeLine := by
      refine Nat.le_trans (length_mergeK kvs []) ?_
      rw [List.length_nil, Nat.zero_add, rel.length, hl]
      exact hz
    exact ⟨.ref s.heap.objs.size, upd H s.heap.objs.size (.dK (mergeK [] kvs)), I.laid (t' := tk) (fun b o e => k b o (by simp) e) (Nat.le_refl _) (show ObjOk X.prog X.w _ _ _ (.dK (mergeK [] kvs)) from ⟨hlen, hm, merged [] prs, KV.merge rel .nil, hd'⟩), rfl, q _ (I.hok.fresh (Nat.le_refl _))⟩
/-! ### t * n, the empty one too -/
theorem tuple_mul0 (l : Addr) (n : Nat) (dd : Option Addr) (sl : Array (Option Value)) (x : Int) (u : Tok) (c0 : (decide (x < -(2 ^ 63)) || decide (x ≥ 2 ^ 63)) = false) :
    Meets (Builtin.«tuple.__mul__» ⟨[.ref l, .int x u], []⟩) (fun _ R s => s.heap.get? l = some { cls := .type "tuple", dict := dd, data := .seq #[] n, slots := sl } ∧ R (.ok (.ret (Value.ref l))) s) :=
  .of_wp fun prog w A R s h => by
    obtain ⟨hp, g, d, tk, os⟩ := s
    obtain ⟨hl, h⟩ := h
    have f1 := AutoSeq1.idx_int
    wp_walk using PySem.AutoSeq1.wpAny_loadPart' hl
    refine wpAny_ite_false (decide_eq_false (by rw [c0]; exact Bool.false_ne_true)) ?_
    wp_walk using PySem.AutoSeq1.wpAny_loadPart' hl
    exact ⟨_, rfl, h⟩
def rRepF : R2 := fun x y H Q => ∃ l k xs, x = .ref l ∧ y = .int k ∧ TupF H l xs ∧ 2 ≤ k ∧ k ≤ 1000 ∧ xs.length ≤ 1000 ∧ kT (List.replicate k.toNat xs).flatten H Q
theorem op_repF : OpR X (binaryOp .Mult) rRepF := by
  intro pins s σ H x y v u Q I rx ry h
  obtain ⟨l, k, xs, rfl, rfl, hT, h1, h2, hz, q⟩ := h
  have ryk := ry
  have rxl := rx
  cases rx
  obtain ⟨t, rfl⟩ := ry
  obtain ⟨its, r, ⟨⟨cls, dd, data, sl⟩, ho, hc, n, hd⟩, hs⟩ := I.tuple (hT.sq (K := X.K))
  simp only at hc hd
  subst hc hd
  have c0 : (decide (k < -(2 ^ 63)) || decide (k ≥ 2 ^ 63)) = false := by
    rw [decide_eq_false (by omega), decide_eq_false (by omega)] <;> rfl
  by_cases hne : xs = []
  · subst hne
    cases r
    have e : (List.replicate k.toNat ([] : List V)).flatten = [] := by simp
    rw [e] at q
    refine wpAny_binaryOp_repeat_ref (T := "tuple") (U := "int") (by decide) ⟨_, ho, rfl⟩ (fun s' => typeIs_int s' k t) noFill_tuple_mul PySem.F.fills_int_mul PySem.F.slot_int_rmul repeat_tuple PySem.F.slot_int_index.lookup
      (call_meets PySem.F.slot_int_rmul (typeIs_int s k t) PySem.F.entry_int_rmul (PySem.F.args_int_rmul_2 _ _) (int_rmul_tuple k t l #[] n dd sl)
        ⟨ho, rfl, ⟨_, ho, rfl⟩, call_meets PySem.F.slot_tuple_mul ⟨_, ho, rfl⟩ PySem.F.entry_tuple_mul (PySem.F.args_tuple_mul_2 _ _) (tuple_mul0 l n dd sl k t c0) ⟨ho, ?_⟩⟩)
    exact stayT I hT q
  · have hi : its ≠ [] := fun e => hne (by
      have := r.length
      rw [e] at this
      exact List.eq_nil_of_length_eq_zero this)
    have hie : its.toArray.isEmpty = false := by
      cases its with
      | nil => exact absurd rfl hi
      | cons a b => rfl
    have hl : its.toArray.size = xs.length := by rw [List.size_toArray]; exact r.length.symm
    have hm : ((its.toArray.size : Nat) : Int) * k ≤ 1000000 := by
      rw [hl]
      have a1 : ((xs.length : Nat) : Int) * k ≤ 1000 * k := Int.mul_le_mul_of_nonneg_right (by omega) (by omega)
      omega
    have flen : (List.replicate k.toNat xs).flatten.length ≤ sizeLine := by
      rw [PyProof.Rows.lm_len_rep_flat, sizeLine_eq]
      have a1 : k.toNat * xs.length ≤ 1000 * 1000 := Nat.mul_le_mul (by omega) hz
      omega
    have flen2 : (List.replicate k.toNat its).flatten.length ≤ sizeLine := by
      rw [PyProof.Rows.lm_len_rep_flat, ← r.length, ← PyProof.Rows.lm_len_rep_flat]
      exact flen
    have c1 : (its.toArray.isEmpty || k == 1) = false := by
      rw [hie, Bool.false_or]
      exact beq_eq_false_iff_ne.mpr (by omega)
    have c2 : (decide (k ≤ 0) || its.toArray.isEmpty) = false := by
      rw [hie, Bool.or_false]
      exact decide_eq_false (by omega)
    have c4 : Builtin.Tuple.tupleTooMany (((its.toArray.size : Nat) : Int) * k) = false := by
      unfold Builtin.Tuple.tupleTooMany
      rw [sizeLine_eq]
      exact decide_eq_false (by omega)
    refine wpAny_binaryOp_repeat_ref (T := "tuple") (U := "int") (by decide) ⟨_, ho, rfl⟩ (fun s' => typeIs_int s' k t) noFill_tuple_mul PySem.F.fills_int_mul PySem.F.slot_int_rmul repeat_tuple PySem.F.slot_int_index.lookup
      (call_meets PySem.F.slot_int_rmul (typeIs_int s k t) PySem.F.entry_int_rmul (PySem.F.args_int_rmul_2 _ _) (int_rmul_tuple k t l its.toArray n dd sl)
        ⟨ho, rfl, ⟨_, ho, rfl⟩, call_meets PySem.F.slot_tuple_mul ⟨_, ho, rfl⟩ PySem.F.entry_tuple_mul (PySem.F.args_tuple_mul_2 _ _) (tuple_mulW l its.toArray n dd sl k t c0 c1 c2 (by omega) c4 (by rw [size_rep, List.size_toArray]; exact flen2)) ⟨ho, ?_⟩⟩)
    rw [size_rep]
    exact laidT (t' := s.toks) I (r.rep k.toNat) flen (fun b o e => Heap.get?_push_of_some _ e) (Nat.le_refl _) (Heap.get?_push_size _ rfl) q
end
end Kx
namespace Kx
open PySem PySem.Spec PyProof.Rows L2
/-! ### defs that are called where nothing is being shown -/
structure FnOkG (P : Program) (w : World) (K : PySem.W.Frag) (mg : Str → Option Value) (base : Heap) (CX : CXT) (k : Nat) (f : Addr) (fd : FuncData) (ps : List Str) (sp : Sp) : Prop where
  len : ∀ vs H Q E, sp vs H Q E → vs.length = ps.length
  run : ∀ (A : Around) (outer : List Env) (s : Shared) (H : Hp) (args : Args) (us : List Value) (vs : List V) (Q : VK) (E : XK), A.guards = some [] → Room k A → Env0 P w K mg base A outer s H → BindsTo s fd args (ps.zip us) → Vals vs us → sp vs H Q E →
    codeAny (model P w) A (.call (.ref f) args) (CR CX outer P w H s Q E) s
section
variable {P : Program} {w : World} {K : PySem.W.Frag} {mg : Str → Option Value} {base : Heap} {x qual : Str} {params : Arguments} {body : List Stmt} {scope : Scope} {dvs : List V} {kws : List (Str × V)} {f : Addr} {fd : FuncData}
theorem okG {CX : CXT} {N ps : List Str} {k : Nat} {sp : Sp} (F : FunD K x qual params body scope dvs kws f fd) (S : FnScope N ps scope) (len : ∀ vs H Q E, sp vs H Q E → vs.length = ps.length)
    (hb : ∀ (cdv : Value) (A : Around) (outer : List Env) (s : Shared) (H : Hp) (vs : List V) (Q : VK) (E : XK), A.guards = some [] → Room k (A.deeper (envOfC qual scope s.heap.objs.size f cdv)) → sp vs H Q E →
      ∃ t, PSs (cxOf CX P w K mg base N qual scope f cdv A outer s H E) body t ∧ t { nx := fun _ H' => Q .non H', rt := Q } (start N vs) H) : FnOkG P w K mg base CX (k + 1) f fd ps sp := by
  obtain ⟨oc, od, dV, kV, doc, pm, an, cdv, ct, osl, rfl, lk, hcd, _, _⟩ := F.ex
  refine ⟨len, ?_⟩
  intro A outer s H args us vs Q E hg hr e0 hbd r hsp
  have keepB : ∀ b o, base.get? b = some o → s.heap.get? b = some o := fun b o e => (e0.bs b o e).1
  have inK := e0.mod.kin.keeps keepB
  have kinds : ∀ y ∈ ps.zip us, scope.names.lookup y.1 = some .local ∨ (scope.names.lookup y.1 = some .cell ∧ ((cellsFrom (s.heap.objs.size + 1) scope.names []).lookup y.1).isSome = true) := by
    intro y hy
    obtain ⟨n, v⟩ := y
    exact (S.par n (List.of_mem_zip hy).1).imp id fun q => ⟨q, PySem.W.cellsFrom_some _ _ _ (.inl q)⟩
  refine codeAny_call_function hr.depth (inK _ _ lk) rfl S.co S.gen rfl (PySem.W.codeRec_of inK hcd) (hbd _ _ _ _ (wpAny_newFunctionEnv_cells S.kind kinds ?_))
  intro env he s1 x1
  subst he
  refine ⟨(e0.mod.nolimit.keeps keepB).keeps x1.toInCall.keep, codeAny_func ?_⟩
  obtain ⟨t, ht, hq⟩ := hb cdv A outer s H vs Q E hg (hr.deeper _) hsp
  have I := inv_start (CX := CX) (E := E) S hr.hd e0 (len _ _ _ _ hsp) r x1
  refine wpAny_mono (ht.run [] s1 (start N vs) H _ I hq) (fun fl s' hs => ?_) fun _ _ hs => hs
  cases fl with
  | ret u => exact let ⟨v, _, H', J, rv, q⟩ := hs; ⟨v, H', J.os, J.bare, J.base, J.hok, rv, q⟩
  | next => exact let ⟨_, H', J, q⟩ := hs; ⟨V.non, H', J.os, J.bare, J.base, J.hok, rfl, q⟩
  | brk => exact let ⟨_, _, _, q⟩ := hs; q.elim
  | cont => exact let ⟨_, _, _, q⟩ := hs; q.elim
end
section
variable {X : Cx} {CX : CXT} {k : Nat} {f : Addr} {fd : FuncData} {ps : List Str} {sp : Sp} {E : XK} {x : Str} {p pos : Pos} {e : Expr} {es : List Expr} {t : TA}
theorem pe_callG (F : FnOkG X.prog X.w X.K X.mg X.base CX k f fd ps sp) (hgd : X.A.guards = some []) (hr : Room k X.A) (hg : Gl X x) (hm : X.mg x = some (.ref f)) (hk : PySem.W.keepIn X.K (.ref f) = true) (hb : Binds X.K fd ps []) (hx : Passes CX X E)
    (ha : PA X (e :: es) t) (hdb : (x == ("__debug__" : Str)) = false := by decide) (he : starEach (e :: es) X.env = (false, eval e X.env) :: starEach es X.env := by rfl) (hpl : (backTo pos (starEach es X.env)).any (·.1) = false := by rfl) :
    PE X (.Call (.Name x p) (e :: es) [] pos) (tCall sp [] E t) := by
  refine ⟨fun pins s σ H Q I h => wpAny_Call_Name_kw (ld_glob I hg hm ?_ hdb)⟩
  refine PySem.W.callWith_K (h₀ := X.base) I.ok.mod.kin hk (thn (ha.run pos pins s σ H _ I h) fun us s1 ⟨vs, H1, I1, r, q⟩ => ⟨I1.kIn, ?_⟩) he hpl
  have q' : sp vs H1 Q E := by simpa using q
  have hl : us.length = ps.length := by rw [← r.length]; exact F.len _ _ _ _ q'
  have bd : BindsTo s1 fd ⟨us, []⟩ (ps.zip us) := by simpa using hb s1 us I1.kIn (by simpa using hl)
  refine wpAny_call (codeAny_mono (F.run X.A X.stack s1 H1 ⟨us, []⟩ us vs Q E hgd hr I1.env0 bd r q') fun r s' hq => ?_)
  cases r with
  | error e => exact hx pins σ H1 s1 e s' I1 hq
  | ok fl =>
    cases fl with
    | ret u => exact I1.after hq
    | next => exact hq.elim
    | brk => exact hq.elim
    | cont => exact hq.elim
end
end Kx
namespace Kx
open PySem PySem.Spec PyProof.Rows L2
section
variable {P : Program} {w : World} {K : PySem.W.Frag} {mg mb : Str → Option Value} {k : Nat} {fa a : Addr} {fd : FuncData} {x : Str} {sp : Sp} {s₁ : Shared} {vs : List Value} {ns : List Int}
/-- the call of the law over one abstract heap -/
theorem law_coreG {H : Hp} (hO : Only H) (hS : SqL K H a (ns.map V.int)) (hok : HOk P w H s₁.heap) (hfrz : ∀ b u, H b = some u → ∃ o xs, u = .frz o (.lst xs)) (hA : ∀ b, H b ≠ none → b = a) (hK : H a ≠ none → K.lookup a = none)
    (KX : K.In s₁.heap) (hns : s₁.heap.Ns mainGlobals mg) (hb : s₁.heap.Ns builtinsNs mb) (hbb : ∀ x : Str, x ≠ "__name__" → mb x = bootBuiltins x) (hlim : s₁.heap.NoLimit) (hg : s₁.gens = #[])
    (ha : s₁.heap.get? a = some { cls := .type "list", data := .seq vs.toArray }) (hr : Room k callerA)
    (F : ∀ base : Heap, K.In base → base.Ns mainGlobals mg → FnOkG P w K mg base CX0 k fa fd [x] sp) (hbind : ∀ (s : Shared) (u : Value), BindsTo s fd ⟨[u], []⟩ [(x, u)])
    (hsp : sp [.ref a] H (fun v _ => v = .bl true) fun _ _ _ => False) :
    codeAny (model P w) callerA (.call (.ref fa) ⟨[.ref a], []⟩) (fun r s' => r = .ok (.ret (.bool true)) ∧ OldK s₁.heap s'.heap ∧ s'.os = s₁.os ∧ AllBare s'.gens) s₁ := by
  have inB : ∀ {b : Addr} {o : Obj}, s₁.heap.get? b = some o → H b = none → (hidT s₁.heap H).get? b = some o := fun e n => hidT_get e n
  have free : ∀ {b : Addr} {o : Obj}, s₁.heap.get? b = some o → (b = a → K.lookup a = none → False) → (b = a → H a = none) → H b = none := fun {b o} e _ h2 => by
    cases q : H b with
    | none => rfl
    | some u =>
      have e' := hA b (by rw [q]; simp)
      have := h2 e'
      rw [e', this] at q
      cases q
  have dictFree : ∀ {b : Addr} {o : Obj} {es : Array DictEntry} {ep : Nat}, s₁.heap.get? b = some o → o.data = .dict es ep → H b = none := fun {b o es ep} e d => by
    cases q : H b with
    | none => rfl
    | some u =>
      have e' := hA b (by rw [q]; simp)
      rw [e', ha] at e
      cases e
      cases (show Data.seq vs.toArray _ = Data.dict es ep from d)
  have nsB : ∀ {b : Addr} {m : Str → Option Value}, s₁.heap.Ns b m → (hidT s₁.heap H).Ns b m := fun {b m} h => by
    obtain ⟨o, es, ep, e, d, r⟩ := h
    exact ⟨o, es, ep, inB e (dictFree e d), d, r⟩
  have inKB : K.In (hidT s₁.heap H) := by
    intro b o e
    refine inB (KX b o e) ?_
    cases q : H b with
    | none => rfl
    | some u =>
      have e' := hA b (by rw [q]; simp)
      rw [e'] at e q
      rw [hK (by rw [q]; simp)] at e
      cases e
  have md : Mod K mg (hidT s₁.heap H) := by
    obtain ⟨mc, h1, h2⟩ := hlim
    exact ⟨inKB, nsB hns, ⟨mb, nsB hb, hbb⟩, mc, nsB h1, h2⟩
  have none_in : ∀ b : Addr, ¬ b ∈ ([] : List Addr) := fun b => List.not_mem_nil
  have e0 : Env0 P w K mg (hidT s₁.heap H) callerA [] s₁ H := ⟨rfl, md, fun b o e => of_hidT e, Nat.le_of_eq (hidT_size _ _), trivial, fun b hb => absurd (show b ∈ ([] : List Addr) from hb) (none_in b), hok, .of_eq hg⟩
  refine codeAny_mono ((F _ inKB (nsB hns)).run callerA [] s₁ H ⟨[.ref a], []⟩ [.ref a] [.ref a] _ _ rfl hr e0 (hbind s₁ (.ref a)) (.cons rfl .nil) hsp) ?_
  intro r s' h
  cases r with
  | error e => exact absurd h (by intro z; exact z.elim)
  | ok fl =>
    cases fl with
    | next => exact h.elim
    | brk => exact h.elim
    | cont => exact h.elim
    | ret u =>
      obtain ⟨v, H', os, bare, un, hok', r', q⟩ := h
      obtain rfl : v = .bl true := q
      obtain rfl : u = Value.bool true := r'
      refine ⟨rfl, OldK.of_keep fun b o e => ?_, os, bare⟩
      cases q : H b with
      | none => exact un.keep b o e q (none_in b) (by simp)
      | some u =>
        obtain ⟨ob, xs, rfl⟩ := hfrz b u q
        obtain ⟨e1, _⟩ := hok b _ q
        obtain ⟨e2, _⟩ := hok' b _ (un.frzs b ob _ q)
        rw [e] at e1
        cases e1
        exact e2
theorem law_callG (KX : K.In s₁.heap) (hns : s₁.heap.Ns mainGlobals mg) (hb : s₁.heap.Ns builtinsNs mb) (hbb : ∀ x : Str, x ≠ "__name__" → mb x = bootBuiltins x) (hlim : s₁.heap.NoLimit) (hg : s₁.gens = #[])
    (ha : s₁.heap.get? a = some { cls := .type "list", data := .seq vs.toArray }) (hi : IntsAre vs ns) (hl : ns.length ≤ sizeLine) (hr : Room k callerA)
    (F : ∀ base : Heap, K.In base → base.Ns mainGlobals mg → FnOkG P w K mg base CX0 k fa fd [x] sp) (hbind : ∀ (s : Shared) (u : Value), BindsTo s fd ⟨[u], []⟩ [(x, u)])
    (hsp : ∀ H : Hp, Only H → SqL K H a (ns.map V.int) → sp [.ref a] H (fun v _ => v = .bl true) fun _ _ _ => False) :
    codeAny (model P w) callerA (.call (.ref fa) ⟨[.ref a], []⟩) (fun r s' => r = .ok (.ret (.bool true)) ∧ OldK s₁.heap s'.heap ∧ s'.os = s₁.os ∧ AllBare s'.gens) s₁ := by
  have rv := vals_ints hi
  have hlv : vs.length ≤ sizeLine := by rw [hi.length]; exact hl
  cases hk : K.lookup a with
  | some o =>
    have e := KX a o hk
    rw [ha] at e
    cases e
    have hO : Only (fun _ => none : Hp) := fun _ => .inl rfl
    have hS : SqL K (fun _ => none : Hp) a (ns.map V.int) := .inr ⟨_, vs.toArray, _, hk, rfl, rfl, rfl, by rw [List.size_toArray]; exact hlv, by simpa using rv⟩
    refine law_coreG hO hS (fun b u z => ?_) (fun b u z => ?_) (fun b z => absurd rfl z) (fun z => absurd rfl z) KX hns hb hbb hlim hg ha hr F hbind (hsp _ hO hS)
    · cases (show (none : Option HO) = some u from z)
    · cases (show (none : Option HO) = some u from z)
  | none =>
    let ob : Obj := { cls := .type "list", data := .seq vs.toArray }
    let H : Hp := upd (fun _ => none) a (.frz ob (.lst (ns.map V.int)))
    have H_at : H a = some (.frz ob (.lst (ns.map V.int))) := upd_same
    have H_off : ∀ b, b ≠ a → H b = none := fun b h => upd_ne h
    have H_is : ∀ b u, H b = some u → b = a ∧ u = .frz ob (.lst (ns.map V.int)) := fun b u z => by
      by_cases h : b = a
      · subst h; rw [H_at] at z; cases z; exact ⟨rfl, rfl⟩
      · rw [H_off b h] at z; cases z
    have hO : Only H := fun b => by
      by_cases h : b = a
      · exact .inr ⟨ob, _, h ▸ H_at⟩
      · exact .inl (H_off b h)
    have hS : SqL K H a (ns.map V.int) := .inl (.inr ⟨ob, H_at⟩)
    refine law_coreG hO hS (fun b u z => ?_) (fun b u z => ?_) (fun b z => ?_) (fun _ => hk) KX hns hb hbb hlim hg ha hr F hbind (hsp _ hO hS)
    · obtain ⟨rfl, rfl⟩ := H_is b u z
      exact ⟨ha, by rw [List.length_map]; exact hl, vs, _, rv, ha⟩
    · obtain ⟨_, rfl⟩ := H_is b u z
      exact ⟨_, _, rfl⟩
    · by_cases h : b = a
      · exact h
      · exact absurd (H_off b h) z
end
/-- the end of a law whose def is told by FnOkG -/
theorem walk_ofG {l : PySem.W.OpenLaw} {n k : Nat} {q : Program} {loose : List Str} {XP : (Str → Option Value) → Heap → Prop} {YP : World → Heap → Prop} {d : DefRec} {x : Str}
    (hn : l.most = some n) (hn2 : n ≤ sizeLine) (hdf : d.params.defaults = []) (hr : Room k callerA)
    (F : ∀ (w : World) (mg : Str → Option Value) (fa : Addr) (h : Heap), YP w h → h.Ns mainGlobals mg → mg d.name = some (.ref fa) →
      ∃ (K : PySem.W.Frag) (fd : FuncData) (sp : Sp), K.In h ∧ (∀ (s : Shared) (u : Value), BindsTo s fd ⟨[u], []⟩ [(x, u)]) ∧
        (∀ (H : Hp) (a : Addr) (ns : List Int), ns.length ≤ n → Only H → SqL K H a (ns.map V.int) → sp [.ref a] H (fun v _ => v = .bl true) fun _ _ _ => False) ∧
        ∀ base : Heap, K.In base → base.Ns mainGlobals mg → FnOkG l.prog w K mg base CX0 k fa fd [x] sp) :
    PySem.W.WalkO q loose XP YP l.row.toRowW d [] (fun f vs => PySem.call f vs) := by
  refine Att.attach_call hn hdf ?_
  intro w s₀ s₁ mg mb fa o pm cd doc a vs ns G Y ho hd hcd hmg hobj hints hlen hg
  obtain ⟨K, fd, sp, inK, bd, hs, hF⟩ := F w mg fa _ Y G.T.g hmg
  exact law_callG inK G.T.g G.T.b G.T.builtins G.T.nolimit hg hobj hints (Nat.le_trans hlen hn2) hr hF bd fun H hO hS => hs H a ns hlen hO hS
end Kx
namespace Kx
open PySem PySem.Spec PyProof.Rows L2
/-! ### != by an own == -/
theorem ne_own {prog : Program} {w : World} {A : Around} {E : Value → Shared → Prop} {s : Shared} {K : PySem.W.Frag} {x C f : Addr} {ox : Obj} {od : Option Obj} {b : Value} {Q : Value → Shared → Prop}
    (hu : A.units + 1 < cLine) (X : K.In s.heap) (I : PySem.W.InstAt s.heap x ox C od) (hb : PySem.W.Looks (model prog w) s.heap (typeOf b) (.ref C))
    (hn : PySem.W.findIn K (.ref C) "__ne__" = some (some (.builtin "object.__ne__"))) (hs : PySem.W.findIn K (.ref C) "__eq__" = some (some (.ref f))) (hf : PySem.W.isFn K (.ref f) = true) (hm : PySem.W.mroIn K C (.type "object") = some true)
    (h : wpAny (model prog w) A.in1 (call (.ref f) [.ref x, b]) (fun v s' => ∃ c, v = .bool c ∧ Q (.bool (!c)) s') E s) : wpAny (model prog w) A (richCompare .NotEq (.ref x) b) Q E s := by
  have inner : wpAny (model prog w) A.in1 (Builtin.«object.__ne__» ⟨[.ref x, b], []⟩) (fun fin s' => ∃ c, fin = .done (.ret (.bool (!c))) ∧ Q (.bool (!c)) s') E s := by
    unfold Builtin.«object.__ne__»
    repeat (first
      | with_reducible refine wpAny_cRoomFor hu ?_
      | (refine wpAny_bind (m := callSpecialIfBound? (.ref x) (Str.ofString "__eq__") [b])
          (PySem.W.ifBound_K X I hs hf (wpAny_mono h (fun r s' hr => by
            obtain ⟨c, rfl, hq⟩ := hr
            repeat (first | exact ⟨c, rfl, hq⟩ | exact wpAny_pure ⟨c, rfl, hq⟩ | exact wpAny_truthy_bool ⟨c, rfl, hq⟩ | (refine wpAny_bind (m := truthy (.bool _)) (wpAny_truthy_bool ?_)) | wp_step)) fun _ _ e => e)))
      | wp_step)
  have one : wpAny (model prog w) A (tryCompare (.ref x) "__ne__" b) (fun r s' => ∃ v, r = some v ∧ Q v s') E s := by
    simp only [tryCompare, callSpecialIfBound?, bindSpecialIfBound?]
    have fin : wpAny (model prog w) A (call (.builtin "object.__ne__") [.ref x, b]) (fun v s' => ∃ c, v = .bool (!c) ∧ Q (.bool (!c)) s') E s := by
      refine wpAny_call (codeAny_call_builtin F.cmp_object.ne.plain F.cmpEntry_ne (PySem.W.check_slot (i := "object.__ne__") (owner := "object") (n := "__ne__") F.cmpKind_ne F.cmpSplit_ne (I.type.andThen (PySem.W.looks_mroIn X hm)) (F.cmpArgs_ne _ _) ?_))
      refine wpAny_mono inner (fun fin s' hq => ?_) fun _ _ e => e
      obtain ⟨c, rfl, q⟩ := hq
      exact ⟨c, rfl, q⟩
    refine wpAny_bind (wpAny_holding (wpAny_bind (wpAny_bind (wpAny_bind (I.type.here ((PySem.W.looks_findIn X hn).here ?_))))))
    simp only [F.cmp_object.ne.bind]
    refine wpAny_bind (wpAny_askSetting (wpAny_ite ?_))
    have fin2 : wpAny (model prog w) A (call (.builtin "object.__ne__") ([.ref x] ++ [b]) >>= fun v => pure (some v)) (fun r s' => ∃ c, r = some (.bool (!c)) ∧ Q (.bool (!c)) s') E s :=
      wpAny_bind (wpAny_mono fin (fun v s' h' => wpAny_pure (by obtain ⟨c, rfl, q⟩ := h'; exact ⟨c, rfl, q⟩)) fun _ _ h' => h')
    split
    · exact wpAny_bind (wpAny_pure (wpAny_pure (wpAny_mono fin2 (fun r s' hr => by obtain ⟨c, rfl, q⟩ := hr; exact wpAny_pure ⟨_, rfl, q⟩) fun _ _ e => e)))
    · exact wpAny_tryCatch (wpAny_bind (wpAny_pure (wpAny_pure (wpAny_mono fin2 (fun r s' hr => by obtain ⟨c, rfl, q⟩ := hr; exact wpAny_pure ⟨_, rfl, q⟩) fun _ _ e => e))))
  unfold richCompare
  simp only [oneThing_ref]
  refine wpAny_holding (wpAny_bind (wpAny_cRoomFor (Nat.lt_of_succ_lt hu) ?_))
  refine wpAny_bind (I.type.here (wpAny_bind (hb.here ?_)))
  rw [show (Value.ref C != Value.ref C) = false from by simp]
  simp only [Bool.false_eq_true, if_false]
  refine wpAny_bind (wpAny_pure ?_)
  simp only [Bool.false_eq_true, if_false]
  refine wpAny_bind (wpAny_mono one (fun r s' z => ?_) fun _ _ e => e)
  obtain ⟨v, rfl, hq⟩ := z
  exact wpAny_pure hq
section
variable {X : Cx} {CX : CXT} {k : Nat} {C f : Addr} {fd : FuncData} {ps : List Str} {sp : Sp} {E : XK}
/-- what stands beside an instance in a comparison: an instance of the class, or a list -/
def rEqO (C : Addr) (sp : Sp) (E : XK) : R2 := fun x y H Q => ∃ a dx fs b, x = .ref a ∧ y = .ref b ∧ H a = some (.ins C dx fs) ∧ ((∃ dy gs, H b = some (.ins C dy gs)) ∨ ∃ ys, H b = some (.lst ys)) ∧ sp [.ref a, .ref b] H (fun v H' => ∃ c, v = .bl c ∧ Q (.bl c) H') E
theorem op_eqO (hs : PySem.W.findIn X.K (.ref C) "__eq__" = some (some (.ref f))) (hf : PySem.W.isFn X.K (.ref f) = true) (hl : PySem.W.notFirst X.K C (.type "list") = true) (F : FnOk X.prog X.w X.K X.mg X.base CX k f fd ps sp) (hr : Room k X.A) (hb : Binds X.K fd ps [])
    (hx : Passes CX X E) : OpR X (compareOp .Eq) (rEqO C sp E) := by
  intro pins s σ H x y v u Q I rx ry h
  obtain ⟨a, dx, fs, b, rfl, rfl, ha, hy, q⟩ := h
  cases rx
  cases ry
  obtain ⟨mA, O, _⟩ := ins_get I.hok ha
  obtain ⟨od, J, _⟩ := O.look
  obtain ⟨m, fr⟩ := I.fr
  have go : wpAny (model X.prog X.w) X.A (call (.ref f) [.ref a, .ref b]) (PySem.W.CmpBack (EP X pins σ Q)) X.xe s := by
    refine wpAny_mono (run_fn (us := [.ref a, .ref b]) (vs := [.ref a, .ref b]) (ds := []) (dvs := []) F hr hb .nil hx I (.cons rfl (.cons rfl .nil)) q) (fun r s' z => ?_) fun _ _ z => z
    obtain ⟨v', H', I', rv, c, rfl, qq⟩ := z
    cases (show r = Value.bool c from rv)
    exact ⟨.bl c, H', I', rfl, qq⟩
  show wpAny (model X.prog X.w) X.A (richCompare .Eq (.ref a) (.ref b)) (EP X pins σ Q) X.xe s
  rcases hy with ⟨dy, gs, hb'⟩ | ⟨ys, hb'⟩
  · obtain ⟨mB, O', _⟩ := ins_get I.hok hb'
    obtain ⟨od', J', _⟩ := O'.look
    exact PySem.W.cmp_K (op := .Eq) (tb := .ref C) hr.units0 fr I.ok.mod.kin J J'.type (by simp [PySem.W.notFirst]) hs hf go
  · obtain ⟨_, its, n, _, e⟩ := (show ObjOk X.prog X.w H s.heap b (.lst ys) from I.hok b _ hb')
    exact PySem.W.cmp_K (op := .Eq) (tb := .type "list") hr.units0 fr I.ok.mod.kin J (fun A Q E s' kp q => wpAny_typeOf_ref (kp _ _ e) q) hl hs hf go
def rNeO (C : Addr) (sp : Sp) (E : XK) : R2 := fun x y H Q => ∃ a dx fs b dy gs, x = .ref a ∧ y = .ref b ∧ H a = some (.ins C dx fs) ∧ H b = some (.ins C dy gs) ∧ sp [.ref a, .ref b] H (fun v H' => ∃ c, v = .bl c ∧ Q (.bl (!c)) H') E
theorem op_neO (hs : PySem.W.findIn X.K (.ref C) "__eq__" = some (some (.ref f))) (hn : PySem.W.findIn X.K (.ref C) "__ne__" = some (some (.builtin "object.__ne__"))) (hm : PySem.W.mroIn X.K C (.type "object") = some true) (hf : PySem.W.isFn X.K (.ref f) = true) (F : FnOk X.prog X.w X.K X.mg X.base CX k f fd ps sp) (hr : Room (k + 1) X.A) (hb : Binds X.K fd ps [])
    (hx : Passes CX X.nox E) : OpR X (compareOp .NotEq) (rNeO C sp E) := by
  intro pins s σ H x y v u Q I rx ry h
  obtain ⟨a, dx, fs, b, dy, gs, rfl, rfl, ha, hb', q⟩ := h
  cases rx
  cases ry
  obtain ⟨mA, O, _⟩ := ins_get I.hok ha
  obtain ⟨od, J, _⟩ := O.look
  obtain ⟨mB, O', _⟩ := ins_get I.hok hb'
  obtain ⟨od', J', _⟩ := O'.look
  show wpAny (model X.prog X.w) X.A (richCompare .NotEq (.ref a) (.ref b)) (EP X pins σ Q) X.xe s
  refine ne_own (by have := hr.un; omega) I.kIn J J'.type hn hs hf hm ?_
  refine wpAny_call (codeAny_mono (F.run X.A.in1 X.stack s H ⟨[.ref a, .ref b], []⟩ [.ref a, .ref b] [.ref a, .ref b] _ E hr.in1 I.env0.in1 (hb s [.ref a, .ref b] I.kIn ?_) (.cons rfl (.cons rfl .nil)) q) fun r s' z => ?_)
  · rw [← F.len _ _ _ _ q]; rfl
  · cases r with
    | error e => exact (hx pins σ H s e s' (I.wish _) z).elim
    | ok fl =>
      cases fl with
      | ret u =>
        obtain ⟨v, H', I3, rv, c, rfl, qq⟩ := I.after z
        cases (show u = Value.bool c from rv)
        exact ⟨c, rfl, .bl (!c), H', I3, rfl, qq⟩
      | next => exact False.elim z
      | brk => exact False.elim z
      | cont => exact False.elim z
end
/-! ### a method called by keywords alone -/
def tMethK (C : Addr) (m : Str) (n : Nat) (sp : Sp) (gV : List V → List V → List V) (E : XK) (ta : TE) (tk : TA) : TE := fun σ H Q => ta σ H fun x H1 => ∃ a dx fs, x = .ref a ∧ H1 a = some (.ins C dx fs) ∧ fs.lookup m = none ∧ tk σ H1 fun zs H2 => zs.length = n ∧ sp (gV [.ref a] zs) H2 Q E
section
variable {X : Cx} {CX : CXT} {k : Nat} {f C : Addr} {fd : FuncData} {ps ks : List Str} {sp : Sp} {E : XK} {m : Str} {pos apos : Pos} {o : Expr} {kws : List Keyword} {ta : TE} {tk : TA} {g : List Value → List Value → List Value} {gV : List V → List V → List V}
theorem run_fnKn {pins : List (Addr × Obj)} {σ : L2.St} {H : Hp} {s : Shared} {Q : VK} {us ws : List Value} {vs zs : List V} {n : Nat} (F : FnOk X.prog X.w X.K X.mg X.base CX k f fd ps sp) (hr : Room k X.A) (hb : KBn X.K fd ps n ks g gV) (hx : Passes CX X E)
    (I : Inv X pins σ H s) (r : Vals vs us) (rz : Vals zs ws) (l1 : vs.length = n) (l2 : zs.length = ks.length) (h : sp (gV vs zs) H Q E) : wpAny (model X.prog X.w) X.A (call (.ref f) us (ks.zip ws)) (EP X pins σ Q) X.xe s := by
  have r2 := hb.rel r rz
  refine wpAny_call (codeAny_mono (F.run X.A X.stack s H ⟨us, ks.zip ws⟩ (g us ws) (gV vs zs) Q E hr I.env0 (hb.to s us ws I.kIn (r.length.symm.trans l1) (rz.length.symm.trans l2)) r2 h) fun r s' hq => ?_)
  cases r with
  | error e => exact hx pins σ H s e s' I hq
  | ok fl =>
    cases fl with
    | ret u => exact I.after hq
    | next => exact False.elim hq
    | brk => exact False.elim hq
    | cont => exact False.elim hq
theorem pe_methK {pl : Sem Bool} (he : PE X o ta) (c : Cls X.K C) (hm : Meth X.K C m f) (F : FnOk X.prog X.w X.K X.mg X.base CX k f fd ps sp) (hr : Room k X.A) (hb : KBn X.K fd ps 1 ks g gV) (hx : Passes CX X E) (hkw : PK X kws tk)
    (hall : (backToKw pos (keywordEach kws X.env)).all (·.1.isSome) = true := by rfl) (hks : (backToKw pos (keywordEach kws X.env)).filterMap (·.1) = ks := by rfl)
    (hpl : ((backTo pos (starEach [] X.env)).any (·.1) || (backToKw pos (keywordEach kws X.env)).any (·.1.isNone)) = false := by rfl)
    (ht : eval (.Call (.Attribute o m apos) [] kws pos) X.env = (do
      let ov ← eval o X.env
      standAt apos.atName
      let (f, first) ← holding [ov] (getMethod ov m pl)
      callWith pos f first (backTo pos (starEach [] X.env)) (backToKw pos (keywordEach kws X.env))) := by rfl) :
    PE X (.Call (.Attribute o m apos) [] kws pos) (tMethK C m ks.length sp gV E ta tk) := by
  refine ⟨fun pins s σ H Q I h => ?_⟩
  refine PySem.W.methodCall_KW (pl := pl) (thn (he.run pins s σ H _ I h) fun u s1 ⟨x, H1, I1, rx, a, dx, fs, ex, ea, l, q⟩ => ?_) ht
  subst ex
  obtain rfl : u = Value.ref a := rx
  refine getmeth_ok I1 ea c hm l ?_
  refine PySem.W.callWith_KW0 (first := [.ref a]) (h₀ := X.base) I.ok.mod.kin hm.kp hall ?_ hpl
  refine thn (hkw.run pos pins s1 σ H1 _ I1 q) fun ws s2 ⟨zs, H2, I2, rz, l2, q2⟩ => ⟨I2.kIn, ?_⟩
  rw [hks]
  exact run_fnKn (us := [.ref a]) (vs := [.ref a]) F hr hb hx I2 (.cons rfl .nil) rz rfl l2 q2
end
end Kx
namespace Kx
open PySem PySem.Spec PyProof.Rows L2
def top (i : Nat) : Stmt := PySem.Challenge.pw_cellsenough_k05_claims_judged.main.body.getD i (.Pass ⟨0, 0, 0, 0⟩)
abbrev s_wall : Stmt := top 0
abbrev s_is_integer : Stmt := top 3
abbrev s_is_name : Stmt := top 15
abbrev s_are_own_names : Stmt := top 16
abbrev s_check_frame : Stmt := top 17
abbrev s_check_own : Stmt := top 18
abbrev s_are_names : Stmt := top 19
abbrev s_is_array : Stmt := top 20
abbrev s_are_arrays : Stmt := top 21
abbrev s_kinds_of : Stmt := top 22
abbrev s_with_blanks : Stmt := top 23
abbrev s_Frame_init : Stmt := inClass (top 24) 0
abbrev s_Frame_arrays : Stmt := inClass (top 24) 1
abbrev s_Frame_positions : Stmt := inClass (top 24) 2
abbrev s_Frame_amounts : Stmt := inClass (top 24) 3
abbrev s_Frame_lengths : Stmt := inClass (top 24) 4
abbrev s_Frame_length_of : Stmt := inClass (top 24) 5
abbrev s_Frame_kind_of : Stmt := inClass (top 24) 6
abbrev s_Frame_is_fresh : Stmt := inClass (top 24) 7
abbrev s_Frame_is_position_term : Stmt := inClass (top 24) 8
abbrev s_Frame_is_value_term : Stmt := inClass (top 24) 9
abbrev s_Frame_shifted : Stmt := inClass (top 24) 10
abbrev s_Frame_with_names : Stmt := inClass (top 24) 11
abbrev s_Frame_renamed : Stmt := inClass (top 24) 12
abbrev s_Frame_has_place : Stmt := inClass (top 24) 13
abbrev s_Frame_has_amount : Stmt := inClass (top 24) 14
abbrev s_Frame_is_of_kind : Stmt := inClass (top 24) 15
abbrev s_Frame_contains : Stmt := inClass (top 24) 16
abbrev s_Frame_len : Stmt := inClass (top 24) 17
abbrev s_Frame_eq : Stmt := inClass (top 24) 18
abbrev s_Frame_str : Stmt := inClass (top 24) 19
abbrev s_parts_of : Stmt := top 26
abbrev s_is_right : Stmt := top 31
abbrev s_check_claim : Stmt := top 32
abbrev s_is_body_term : Stmt := top 33
abbrev s_needed_parts : Stmt := top 34
abbrev s_needed_of_two : Stmt := top 35
abbrev s_needed_of_four : Stmt := top 36
abbrev s_is_atom : Stmt := top 37
abbrev s_is_guard_pair : Stmt := top 38
abbrev s_is_claim : Stmt := top 40
abbrev s_is_guard : Stmt := top 41
abbrev s_is_body : Stmt := top 42
abbrev s_claim_depth : Stmt := top 43
abbrev s_check_own_of_all : Stmt := top 44
abbrev s_law_keg : Stmt := top 46
abbrev s_law_tap : Stmt := top 47
abbrev s_law_choices : Stmt := top 48
abbrev s_law_choice : Stmt := top 49
abbrev s_law_sides : Stmt := top 50
abbrev s_law_frame_of : Stmt := top 51
abbrev s_law_all_names : Stmt := top 52
abbrev s_law_own_names : Stmt := top 53
abbrev s_law_place_names : Stmt := top 54
abbrev s_law_number : Stmt := top 55
abbrev s_law_place : Stmt := top 56
abbrev s_law_worth : Stmt := top 57
abbrev s_law_body : Stmt := top 58
abbrev s_law_guard : Stmt := top 59
abbrev s_law_claim : Stmt := top 60
abbrev s_law_are_joined : Stmt := top 61
abbrev s_law_starts : Stmt := top 62
abbrev s_law_are_own : Stmt := top 63
abbrev s_law_is_op : Stmt := top 64
abbrev s_law_is_whole : Stmt := top 65
abbrev s_law_is_place : Stmt := top 66
abbrev s_law_is_guard : Stmt := top 67
abbrev s_law_is_worth : Stmt := top 68
abbrev s_law_is_body : Stmt := top 69
abbrev s_law_is_claim : Stmt := top 70
abbrev s_law_all_judged : Stmt := top 71
abbrev s_law_odd : Stmt := top 72
abbrev s_law_bent : Stmt := top 73
abbrev s_law_deep : Stmt := top 74
abbrev s_law_limits_right : Stmt := top 75
abbrev s_law : Stmt := top 76
theorem big8 : Builtin.Int.intTooBig (((Builtin.Int.intBits (10 ^ 60) : Nat) : Int) * 8) = false := by decide +kernel
/-- (10 ** 60) ** 8 -/
theorem op_powBig8 {X : Cx} : OpR X (binaryOp .Pow) (fun x y H Q => x = .int (10 ^ 60) ∧ y = .int 8 ∧ Q (.int (10 ^ 480)) H) := by
  intro pins s σ H x y v u Q I rx ry h
  obtain ⟨rfl, rfl, q⟩ := h
  obtain ⟨t, rfl⟩ := rx
  obtain ⟨t2, rfl⟩ := ry
  refine PySem.AutoIntOps.pow_4 (by decide) (by decide) (by decide +kernel) (by decide +kernel) (by rw [big8]; decide) ?_
  have e : ((10 : Int) ^ 60) ^ (Int.toNat 8) = 10 ^ 480 := by decide +kernel
  rw [e]
  exact ⟨.int (10 ^ 480), H, I.tok _, ⟨_, rfl⟩, q⟩
/-- a def of the top stands under its name -/
def Has (K : PySem.W.Frag) (mg : Str → Option Value) (x : Str) (st : Stmt) : Prop := ∃ f fd, FunD K x x (defArgs st) (defBody st) (defScope st) [] [] f fd ∧ mg x = some (.ref f)
/-- it keeps a promise -/
structure Cal (P : Program) (w : World) (K : PySem.W.Frag) (mg : Str → Option Value) (base : Heap) (CX : CXT) (k : Nat) (x : Str) (ps : List Str) (sp : Sp) (f : Addr) (fd : FuncData) : Prop where
  ok : FnOk P w K mg base CX k f fd ps sp
  g : mg x = some (.ref f)
  kp : PySem.W.keepIn K (.ref f) = true
  b : Binds K fd ps []
abbrev Ca (P : Program) (w : World) (K : PySem.W.Frag) (mg : Str → Option Value) (base : Heap) (k : Nat) (x : Str) (ps : List Str) (sp : Sp) : Prop := ∃ f fd, FnOk P w K mg base CX0 k f fd ps sp ∧ mg x = some (.ref f) ∧ PySem.W.keepIn K (.ref f) = true ∧ Binds K fd ps []
section
variable {P : Program} {w : World} {K : PySem.W.Frag} {mg : Str → Option Value} {base : Heap}
theorem cal_of {x : Str} {st : Stmt} {N ps : List Str} {k : Nat} {sp : Sp} (h : Has K mg x st) (S : FnScope N ps (defScope st))
    (bd : ∀ (kV doc pm : Value) (an : Option Addr) (cdv ct : Value) (us : List Value), us.length = ps.length → bindArgs (PySem.W.fnOf x x (defArgs st) (defBody st) (defScope st) .none kV doc pm an cdv ct) ⟨us, []⟩ = pure (ps.zip us))
    (len : ∀ vs H Q E, sp vs H Q E → vs.length = ps.length)
    (body : ∀ (f : Addr) (cdv : Value) (A : Around) (outer : List Env) (s : Shared) (H : Hp) (vs : List V) (Q : VK) (E : XK), Room k (A.deeper (envOfC x (defScope st) s.heap.objs.size f cdv)) → sp vs H Q E →
      ∃ t, PSs (cxOf CX0 P w K mg base N x (defScope st) f cdv A outer s H E).nox (defBody st) t ∧ t { nx := fun _ H' => Q .non H', rt := Q } (start N vs) H) : Ca P w K mg base (k + 1) x ps sp := by
  obtain ⟨f, fd, F, g⟩ := h
  exact ⟨f, fd, F.ok S len (fun cdv A outer s H vs Q E hr h => let ⟨t, ht, q⟩ := body f cdv A outer s H vs Q E hr h; ⟨t, PSs.nox ht, q⟩), g, F.kp, F.bindsN bd⟩
/-- the built-ins are still there -/
structure Bt (mg : Str → Option Value) : Prop where
  abs : mg "abs" = none
  all : mg "all" = none
  dict : mg "dict" = none
  enumerate : mg "enumerate" = none
  int : mg "int" = none
  isinstance : mg "isinstance" = none
  len : mg "len" = none
  list : mg "list" = none
  max : mg "max" = none
  min : mg "min" = none
  range : mg "range" = none
  repr : mg "repr" = none
  set : mg "set" = none
  sorted : mg "sorted" = none
  str : mg "str" = none
  sum : mg "sum" = none
  tuple : mg "tuple" = none
/-! ### the purse of draws -/
def PotAt (H : Hp) (p : Addr) (n : Nat) : Prop := ∃ a b c : Int, H p = some (.lst [.int a, .int b, .int c]) ∧ 0 ≤ a ∧ 0 ≤ b ∧ b < 2 ^ 61 ∧ 0 ≤ c ∧ c ≤ n
abbrev KpP (p : Addr) (H H' : Hp) : Prop := Kp (fun a => a = p) H H'
theorem PotAt.mono {H : Hp} {p : Addr} {n m : Nat} (h : PotAt H p n) (k : n ≤ m) : PotAt H p m := by
  obtain ⟨a, b, c, e, h1, h2, h3, h4, h5⟩ := h
  exact ⟨a, b, c, e, h1, h2, h3, h4, by omega⟩
theorem PotAt.same {H H' : Hp} {p : Addr} {n : Nat} (h : PotAt H p n) (k : Same H H') : PotAt H' p n := by
  obtain ⟨a, b, c, e, r⟩ := h
  exact ⟨a, b, c, k _ _ e, r⟩
abbrev N_law_keg : List Str := ["script", "at", "cell", "great", "seed"]
abbrev P_law_keg : List Str := ["script", "at"]
theorem sc_law_keg : FnScope N_law_keg P_law_keg (defScope s_law_keg) := ⟨rfl, rfl, rfl, by decide +kernel, rfl, by decide +kernel, by decide +kernel⟩
def spKeg (K : PySem.W.Frag) : Sp := fun vs H Q _ => ∃ (a : Addr) (ns : List Int) (i : Int), vs = [.ref a, .int i] ∧ SqL K H a (ns.map V.int) ∧ ns.length ≤ 63 ∧ 0 ≤ i ∧ i ≤ 100 ∧ ∀ (p : Addr) (H' : Hp), H p = none → Same H H' → PotAt H' p 0 → Q (.ref p) H'
theorem natAbs_pow {i : Int} {n : Nat} (h : 0 ≤ i) (h2 : i < 2 ^ n) : i.natAbs < 2 ^ n := by
  have : ((i.natAbs : Nat) : Int) < ((2 ^ n : Nat) : Int) := by
    rw [Int.natAbs_of_nonneg h]
    simpa using h2
  exact_mod_cast this
theorem modN_range (i : Int) {n : Int} (h : 0 < n) : 0 ≤ i.fmod n ∧ i.fmod n < n := by
  rw [Int.fmod_eq_emod_of_nonneg i (by omega)]
  exact ⟨Int.emod_nonneg _ (by omega), Int.emod_lt_of_pos _ h⟩
theorem pow60 : V.int (10 ^ (Int.toNat 60)) = V.int (10 ^ 60) := rfl
theorem ne0 {j : Int} (h : decide (j = 0) = false) : j ≠ 0 := of_decide_eq_false h
theorem ok_keg (T : Bt mg) (h : Has K mg "_law_keg" s_law_keg) : Ca P w K mg base 1 "_law_keg" P_law_keg (spKeg K) := by
  refine cal_of h sc_law_keg (fun _ _ _ _ _ _ us hl => match us, hl with | [_, _], _ => rfl) (fun vs H Q E h => ?_) (fun f cdv A outer s H vs Q E hr h => ?_)
  · obtain ⟨a, ns, i, rfl, _⟩ := h
    rfl
  · obtain ⟨a, ns, i, rfl, hS, hl, h0, h1, k⟩ := h
    refine ⟨_, (pss_cons (ps_set (i := 2) sc_law_keg.nd rfl (.inl rfl) (pe_ifExp (pt_cmpR op_lt (pv 1) (pe_callB call_len (by rfl) T.len (by decide +kernel) (pa_cons (pv 0) pa_nil)) (nomark _)) (pe_ix ix_list (pv 0) (pv 1) (fun _ _ => rfl)) (pe_op op_add (pe_op op_mul pe_int (pv 1)) pe_int)))
      (pss_cons (ps_set (i := 3) sc_law_keg.nd rfl (.inl rfl) (pe_op op_modN (pe_callTy call_int1 (by rfl) T.int (by decide +kernel) (pa_cons (pe_callB call_abs (by rfl) T.abs (by decide +kernel) (pa_cons (pv 2) pa_nil)) pa_nil)) (pe_op op_powBig8 (pe_op op_pow pe_int pe_int) pe_int)))
      (pss_cons (ps_set (i := 4) sc_law_keg.nd rfl (.inl rfl) (pe_op op_modN (pe_callTy call_int1 (by rfl) T.int (by decide +kernel) (pa_cons (pe_op op_add (pe_op op_add (pe_op op_add (pv 3) (pe_op op_mul pe_int (pv 1))) (pe_op op_mul pe_int (pe_callTy call_int1 (by rfl) T.int (by decide +kernel) (pa_cons (pe_cmpR op_lt (pv 2) pe_int (nomark _)) pa_nil)))) pe_int) pa_nil)) (pe_op op_add (pe_op op_pow pe_int pe_int) pe_int)))
      (pss_one (ps_ret (pe_lst (pa_cons (pe_ifExp (pt_cmpR op_gt (pv 3) (pe_op op_pow pe_int pe_int) (nomark _)) (pe_op op_sub (pv 3) (pe_op op_pow pe_int pe_int)) pe_int) (pa_cons (pv 4) (pa_cons pe_int pa_nil))))))))), ?_⟩
    refine ⟨_, rfl, _, rfl, _, _, rfl, .inl ⟨_, hS, rfl⟩, _, _, rfl, rfl, _, rfl, ite2 (fun hlt => ?ga) (fun hge => ?gb)⟩
    case' ga =>
      have hlt' : i < ((ns.map V.int).length : Int) := of_decide_eq_true hlt
      rw [List.length_map] at hlt'
      obtain ⟨j, rfl⟩ : ∃ j : Nat, i = j := ⟨i.toNat, by omega⟩
      have hj : j < ns.length := by omega
      have hat : (ns.map V.int)[j]? = some (.int ns[j]) := by rw [List.getElem?_map, List.getElem?_eq_getElem hj]; rfl
      refine ⟨_, rfl, _, rfl, a, _, _, _, rfl, rfl, hS, atI_nat hat, ?_⟩
    case' gb => refine ⟨_, rfl, _, _, rfl, rfl, .inl ⟨by decide, by decide⟩, _, _, rfl, rfl, ?_⟩
    all_goals
      refine ⟨_, rfl, _, rfl, .inl ⟨_, rfl, _, _, rfl, rfl, ⟨by decide, by decide, by decide⟩, pow60, rfl, _, _, rfl, rfl, ne0 (by decide +kernel), ?_⟩⟩
      refine ⟨_, rfl, _, rfl, _, _, rfl, rfl, .inl ⟨by decide, by decide⟩, _, _, rfl, rfl, _, rfl, _, _, rfl, rfl, .inr ⟨_, rfl, _, _, rfl, rfl, .inl ⟨by decide, by decide⟩, _, _, rfl, rfl, _, _, rfl, rfl, .inl ⟨_, rfl, _, _, rfl, rfl, ⟨by decide, by decide, by decide⟩, _, _, rfl, rfl, _, _, rfl, rfl, ne0 (by decide +kernel), ?_⟩⟩⟩
      refine ⟨_, rfl, _, _, rfl, rfl, ⟨by decide, by decide, by decide⟩, _, _, rfl, rfl, _, rfl, ?_⟩
      refine ite2 (fun hgt => ?_) (fun hle => ?_)
      · have hgt' := of_decide_eq_true hgt
        refine ⟨_, rfl, _, _, rfl, rfl, ⟨by decide, by decide, by decide⟩, _, _, rfl, rfl, _, rfl, by show 3 ≤ sizeLine; decide, fun p hp => ?_⟩
        exact k p _ hp (Same.upd hp) ⟨_, _, 0, upd_same, Int.sub_nonneg_of_le (Int.le_of_lt hgt'), (modN_range _ (by decide)).1, Int.lt_trans (modN_range _ (by decide)).2 (by decide), by omega, by omega⟩
      · refine ⟨_, rfl, by show 3 ≤ sizeLine; decide, fun p hp => ?_⟩
        exact k p _ hp (Same.upd hp) ⟨_, _, 0, upd_same, Int.le_refl _, (modN_range _ (by decide)).1, Int.lt_trans (modN_range _ (by decide)).2 (by decide), by omega, by omega⟩
abbrev N_law_tap : List Str := ["keg", "total", "found", "one", "two", "three"]
abbrev P_law_tap : List Str := ["keg", "total"]
theorem sc_law_tap : FnScope N_law_tap P_law_tap (defScope s_law_tap) := ⟨rfl, rfl, rfl, by decide +kernel, rfl, by decide +kernel, by decide +kernel⟩
def spTap : Sp := fun vs H Q _ => ∃ (p : Addr) (n : Nat) (t : Int), vs = [.ref p, .int t] ∧ PotAt H p n ∧ n ≤ 1000000 ∧ 1 ≤ t ∧ t ≤ 1000000 ∧
  ∀ (d : Int) (H' : Hp), 0 ≤ d → d < t → PotAt H' p (n + 1) → KpP p H H' → Q (.int d) H'
theorem ok_tap (T : Bt mg) (h : Has K mg "_law_tap" s_law_tap) : Ca P w K mg base 1 "_law_tap" P_law_tap spTap := by
  refine cal_of h sc_law_tap (fun _ _ _ _ _ _ us hl => match us, hl with | [_, _], _ => rfl) (fun vs H Q E h => ?_) (fun f cdv A outer s H vs Q E hr h => ?_)
  · obtain ⟨p, n, t, rfl, _⟩ := h
    rfl
  · obtain ⟨p, n, t, rfl, ⟨a, b, c, hp, ha, hb, hb2, hc, hc2⟩, hn, ht, ht2, k⟩ := h
    refine ⟨_, (pss_cons (ps_if (pt_cmpR op_gt (pe_ix ix_list (pv 0) pe_int (fun _ _ => rfl)) pe_int (nomark _)) (pss_cons (ps_set (i := 2) sc_law_tap.nd rfl (.inl rfl) (pe_op op_modN (pe_callTy call_int1 (by rfl) T.int (by decide +kernel) (pa_cons (pe_ix ix_list (pv 0) pe_int (fun _ _ => rfl)) pa_nil)) (pv 1)))
        (pss_cons (ps_asg (pe_op op_fdivN (pe_ix ix_list (pv 0) pe_int (fun _ _ => rfl)) (pv 1)) (pg_sub (pv 0) pe_int set_list))
        (pss_one (ps_ret (pv 2))))) pss_nil)
      (pss_cons (ps_asg (pe_op op_add (pe_ix ix_list (pv 0) pe_int (fun _ _ => rfl)) pe_int) (pg_sub (pv 0) pe_int set_list))
      (pss_cons (ps_set (i := 3) sc_law_tap.nd rfl (.inl rfl) (pe_op op_modN (pe_callTy call_int1 (by rfl) T.int (by decide +kernel) (pa_cons (pe_op op_add (pe_ix ix_list (pv 0) pe_int (fun _ _ => rfl)) (pe_op op_mul pe_int (pe_ix ix_list (pv 0) pe_int (fun _ _ => rfl)))) pa_nil)) pe_int))
      (pss_cons (ps_set (i := 4) sc_law_tap.nd rfl (.inl rfl) (pe_op op_modN (pe_callTy call_int1 (by rfl) T.int (by decide +kernel) (pa_cons (pe_op op_add (pe_op op_add (pe_op op_mul (pv 3) (pv 3)) (pe_op op_fdivN (pe_ix ix_list (pv 0) pe_int (fun _ _ => rfl)) pe_int)) (pe_op op_mul pe_int (pe_ix ix_list (pv 0) pe_int (fun _ _ => rfl)))) pa_nil)) pe_int))
      (pss_cons (ps_set (i := 5) sc_law_tap.nd rfl (.inl rfl) (pe_op op_modN (pe_callTy call_int1 (by rfl) T.int (by decide +kernel) (pa_cons (pe_op op_add (pe_op op_mul (pv 4) (pv 4)) (pv 3)) pa_nil)) pe_int))
      (pss_one (ps_ret (pe_op op_modN (pe_callTy call_int1 (by rfl) T.int (by decide +kernel) (pa_cons (pe_op op_fdivN (pv 5) pe_int) pa_nil)) (pv 1))))))))), ?_⟩
    refine ⟨_, rfl, p, _, _, _, rfl, rfl, SqL.of hp, rfl, _, _, rfl, rfl, _, rfl, ?_⟩
    refine ite2 (fun hpos => ?_) (fun hneg => ?_)
    · have hpos' : 0 < a := of_decide_eq_true hpos
      refine ⟨_, rfl, p, _, _, _, rfl, rfl, SqL.of hp, rfl, .inl ⟨_, rfl, _, rfl, _, _, rfl, rfl, (by omega), ?_⟩⟩
      refine ⟨_, rfl, p, _, _, _, rfl, rfl, SqL.of hp, rfl, _, rfl, _, _, rfl, rfl, ⟨by omega, by omega⟩, _, rfl, p, _, _, 0, rfl, rfl, hp, rfl, ?_⟩
      refine ⟨_, rfl, ?_⟩
      have hd : 0 ≤ a.fmod t ∧ a.fmod t < t := by
        rw [Int.fmod_eq_emod_of_nonneg a (by omega)]
        exact ⟨Int.emod_nonneg _ (by omega), Int.emod_lt_of_pos _ (by omega)⟩
      refine k _ _ hd.1 hd.2 ⟨a.fdiv t, b, c, upd_same, ?_, hb, hb2, hc, by omega⟩ (Kp.at rfl hp)
      rw [Int.fdiv_eq_ediv_of_nonneg a (by omega)]
      exact Int.ediv_nonneg ha (by omega)
    · refine ⟨_, rfl, p, _, _, _, rfl, rfl, SqL.of hp, rfl, _, _, rfl, rfl, _, rfl, p, _, _, 2, rfl, rfl, hp, rfl, ?_⟩
      have hp2 : upd H p (HO.lst [V.int a, V.int b, V.int (c + 1)]) p = some (.lst [.int a, .int b, .int (c + 1)]) := upd_same
      refine ⟨_, rfl, p, _, _, _, rfl, rfl, SqL.of hp2, rfl, _, rfl, p, _, _, _, rfl, rfl, SqL.of hp2, rfl, _, _, rfl, rfl, .inl ⟨by omega, by omega⟩, _, _, rfl, rfl, .inl ⟨_, rfl, _, _, rfl, rfl, ne0 (by decide), ?_⟩⟩
      have m1 := modN_range (b + 1181783497 * (c + 1)) (n := 2147483587) (by decide)
      refine ⟨_, rfl, _, rfl, _, _, rfl, rfl, .inl ⟨by omega, by omega⟩, _, rfl, p, _, _, _, rfl, rfl, SqL.of hp2, rfl, _, _, rfl, rfl, ⟨by omega, by decide⟩, _, _, rfl, rfl, _, rfl, p, _, _, _, rfl, rfl, SqL.of hp2, rfl, _, _, rfl, rfl, .inl ⟨by decide, by omega⟩, _, _, rfl, rfl, .inl ⟨_, rfl, _, _, rfl, rfl, ne0 (by decide), ?_⟩⟩
      have m2 := modN_range ((b + 1181783497 * (c + 1)).fmod 2147483587 * (b + 1181783497 * (c + 1)).fmod 2147483587 + b.fdiv 1000003 + 7207 * (c + 1)) (n := 1000000009) (by decide)
      refine ⟨_, rfl, _, rfl, _, _, rfl, rfl, .inl ⟨by omega, by omega⟩, _, rfl, _, _, rfl, rfl, .inl ⟨_, rfl, _, _, rfl, rfl, ne0 (by decide), ?_⟩⟩
      have m3 := modN_range (((b + 1181783497 * (c + 1)).fmod 2147483587 * (b + 1181783497 * (c + 1)).fmod 2147483587 + b.fdiv 1000003 + 7207 * (c + 1)).fmod 1000000009 * ((b + 1181783497 * (c + 1)).fmod 2147483587 * (b + 1181783497 * (c + 1)).fmod 2147483587 + b.fdiv 1000003 + 7207 * (c + 1)).fmod 1000000009 + (b + 1181783497 * (c + 1)).fmod 2147483587) (n := 999999937) (by decide)
      refine ⟨_, rfl, _, _, rfl, rfl, ⟨by omega, by decide⟩, .inl ⟨_, rfl, _, rfl, _, _, rfl, rfl, (by omega), ?_⟩⟩
      exact k _ _ (modN_range _ (by omega)).1 (modN_range _ (by omega)).2 ⟨a, b, c + 1, upd_same, ha, hb, hb2, by omega, by omega⟩ (Kp.at rfl hp)
end
end Kx
namespace Kx
open PySem PySem.Spec PyProof.Rows L2
section
variable {P : Program} {w : World} {K : PySem.W.Frag} {mg : Str → Option Value} {base : Heap}
theorem yes {σ : L2.St} {H : Hp} {A B : Hp → Prop} (h : A H) : tYes σ H (fun b H3 => if b = true then A H3 else B H3) := by
  show if true = true then A H else B H
  rw [if_pos rfl]
  exact h
/-- x can be chosen from: a list, a tuple, a text -/
def Pick (H : Hp) (p : Addr) (x : V) (xs : List V) : Prop :=
  (∃ a, x = .ref a ∧ a ≠ p ∧ H a = some (.lst xs)) ∨ (∃ a, x = .ref a ∧ a ≠ p ∧ TupF H a xs) ∨ ∃ z : Str, x = .str z ∧ z.length ≤ 1000 ∧ xs = signsV z
abbrev N_law_choice : List Str := ["keg", "items"]
abbrev P_law_choice : List Str := ["keg", "items"]
theorem sc_law_choice : FnScope N_law_choice P_law_choice (defScope s_law_choice) := ⟨rfl, rfl, rfl, by decide +kernel, rfl, by decide +kernel, by decide +kernel⟩
def spChoice : Sp := fun vs H Q _ => ∃ (p : Addr) (n : Nat) (x : V) (xs : List V), vs = [.ref p, x] ∧ PotAt H p n ∧ n ≤ 1000000 ∧ Pick H p x xs ∧ 1 ≤ xs.length ∧ xs.length ≤ 1000 ∧
  ∀ (i : Nat) (v : V) (H' : Hp), xs[i]? = some v → PotAt H' p (n + 1) → KpP p H H' → Q v H'
theorem ok_choice (T : Bt mg) (h : Has K mg "_law_choice" s_law_choice) (C1 : Ca P w K mg base 1 "_law_tap" P_law_tap spTap) : Ca P w K mg base 2 "_law_choice" P_law_choice spChoice := by
  obtain ⟨_, _, c__law_tap⟩ := C1
  refine cal_of h sc_law_choice (fun _ _ _ _ _ _ us hl => match us, hl with | [_, _], _ => rfl) (fun vs H Q E h => ?_) (fun f cdv A outer s H vs Q E hr h => ?_)
  · obtain ⟨p, n, x, xs, rfl, _⟩ := h
    rfl
  · obtain ⟨p, n, x, xs, rfl, hp, hn, hx, h1, h2, k⟩ := h
    refine ⟨_, (pss_one (ps_ret (pe_ix ix_seq (pv 1) (pe_call c__law_tap.1 (hr.mono (by decide)) rfl c__law_tap.2.1 c__law_tap.2.2.1 c__law_tap.2.2.2 .nil pass0 (pa_cons (pv 0) (pa_cons (pe_callB call_len (by rfl) T.len (by decide +kernel) (pa_cons (pv 1) pa_nil)) pa_nil))) (fun _ _ => rfl)))), ?_⟩
    have room : ∀ m : Nat, m ≤ 1000 → m ≤ sizeLine := fun m hm => by rw [sizeLine_eq]; omega
    have after : ∀ (d : Int) (H' : Hp), 0 ≤ d → d < (xs.length : Int) → PotAt H' p (n + 1) → KpP p H H' → ∃ i v, d = ((i : Nat) : Int) ∧ xs[i]? = some v ∧ Q v H' := fun d H' h0 hd hp' hk => by
      have hi : d.toNat < xs.length := by omega
      exact ⟨d.toNat, _, by omega, List.getElem?_eq_getElem hi, k d.toNat _ H' (List.getElem?_eq_getElem hi) hp' hk⟩
    rcases hx with ⟨a, rfl, hne, ha⟩ | ⟨a, rfl, hne, ha⟩ | ⟨z, rfl, hz, rfl⟩
    · refine ⟨_, rfl, _, rfl, _, rfl, _, _, rfl, .inl ⟨_, SqL.of ha, rfl⟩, p, n, _, rfl, hp, hn, by omega, by omega, fun d H' h0 hd hp' hk => ?_⟩
      obtain ⟨i, v, rfl, hv, q⟩ := after d H' h0 hd hp' hk
      exact .inl ⟨a, _, _, _, rfl, rfl, SqL.of (hk.get ha hne), atI_nat hv, q⟩
    · refine ⟨_, rfl, _, rfl, _, rfl, _, _, rfl, .inr ⟨_, ha.sq, rfl⟩, p, n, _, rfl, hp, hn, by omega, by omega, fun d H' h0 hd hp' hk => ?_⟩
      obtain ⟨i, v, rfl, hv, q⟩ := after d H' h0 hd hp' hk
      obtain ⟨o, od, e⟩ := ha
      exact .inr (.inl ⟨a, _, _, _, rfl, rfl, (hk.tup ⟨o, od, e⟩).sq, atI_nat hv, q⟩)
    · have el : (signsV z).length = z.length := by unfold signsV; rw [List.length_map, Array.length_toList]; rfl
      refine ⟨_, rfl, _, rfl, _, rfl, _, _, rfl, ⟨room _ hz, rfl⟩, p, n, _, rfl, hp, hn, by omega, by omega, fun d H' h0 hd hp' hk => ?_⟩
      obtain ⟨i, v, rfl, hv, q⟩ := after d H' h0 (by omega) hp' hk
      unfold signsV at hv
      rw [List.getElem?_map] at hv
      cases e : z.cps.toList[i]? with
      | none => rw [e] at hv; cases hv
      | some c =>
        rw [e] at hv
        cases hv
        exact .inr (.inr ⟨z, _, c, rfl, rfl, room _ hz, atI_nat e, q⟩)
/-! ### names -/
def NameS (z : Str) : Prop := 1 ≤ z.length ∧ z.length ≤ 8 ∧ ∀ c ∈ z.cps.toList, 97 ≤ c ∧ c ≤ 122
instance (z : Str) : Decidable (NameS z) := inferInstanceAs (Decidable (_ ∧ _ ∧ _))
theorem TL.joinL_nil : ∀ ps : List (List Nat), TL.joinL [] ps = ps.flatten
  | [] => rfl
  | [p] => by simp [TL.joinL]
  | p :: q :: r => by
    show p ++ ([] ++ TL.joinL [] (q :: r)) = _
    rw [TL.joinL_nil (q :: r)]
    simp
theorem join0 (ys : List Str) : (Txt.join Str.empty ys).cps.toList = (ys.map fun y => y.cps.toList).flatten := by
  rw [TL.join_eq]
  have := TL.tl_join Str.empty ys
  rw [show TL.tl Str.empty = [] from rfl, TL.joinL_nil] at this
  exact this
theorem nameS_join {ys : List Str} (h1 : 1 ≤ ys.length) (h2 : ys.length ≤ 8) (h : ∀ y ∈ ys, ∃ c, y = ⟨#[c]⟩ ∧ 97 ≤ c ∧ c ≤ 122) : NameS (Txt.join Str.empty ys) := by
  have e := join0 ys
  have len : (Txt.join Str.empty ys).length = ys.length := by
    have : (Txt.join Str.empty ys).length = (Txt.join Str.empty ys).cps.toList.length := by rw [Array.length_toList]; rfl
    rw [this, e]
    clear e this h1 h2
    induction ys with
    | nil => rfl
    | cons y r ih =>
      obtain ⟨c, rfl, _⟩ := h y List.mem_cons_self
      rw [List.map_cons, List.flatten_cons, List.length_append, ih fun z hz => h z (List.mem_cons_of_mem _ hz)]
      simp; omega
  refine ⟨by omega, by omega, fun c hc => ?_⟩
  rw [e] at hc
  obtain ⟨l, hl, hcl⟩ := List.mem_flatten.mp hc
  obtain ⟨y, hy, rfl⟩ := List.mem_map.mp hl
  obtain ⟨d, rfl, hd⟩ := h y hy
  have : c = d := by simpa using hcl
  rw [this]; exact hd
def LetV (v : V) : Prop := ∃ z : Str, v = .str z ∧ (1 ≤ z.length ∧ z.length ≤ 26 ∧ ∀ c ∈ z.cps.toList, 97 ≤ c ∧ c ≤ 122)
theorem PotAt.ne {H : Hp} {p l : Addr} {n : Nat} (h : PotAt H p n) (hl : H l = none) : l ≠ p := by
  obtain ⟨a, b, c, e, _⟩ := h
  exact (ne_of_none e hl).symm
def spName : Sp := fun vs H Q _ => ∃ (p : Addr) (n : Nat), vs = [.ref p] ∧ PotAt H p n ∧ n ≤ 900000 ∧ ∀ (z : Str) (H' : Hp), NameS z → PotAt H' p (n + 12) → KpP p H H' → Q (.str z) H'
end
end Kx
namespace Kx
open PySem PySem.Spec PyProof.Rows L2
/-- a comprehension that changes nothing: the i-th turn adds o i, or nothing -/
theorem lc_o {J : It} {n : Nat} {G : Hp → Prop} {Y : Nat → Hp → V → Hp → Prop} (w : Walk J n G Y) {g : TG} {tt : TT} {te : TE} {vs : List Nat} {σ : L2.St} {H1 : Hp} {D : Addr} {Qd : Hp → Prop} (o : Nat → Option V) (hn : n < sizeLine)
    (hD : H1 D = none) (hG : ∀ H, Same H1 H → G H)
    (hs : ∀ i x H H' (Nx : Hp → Prop), i < n → Same H1 H → H D ≠ none → Y i H x H' → (o i = none → ∀ H3, Same H H3 → Nx H3) → (∀ y, o i = some y → ∀ H4, Same H H4 → ∃ acc, H4 D = some (.lst acc) ∧ acc.length < sizeLine ∧ Nx (upd H4 D (.lst (acc ++ [y])))) →
      g x (wipe σ vs) H' fun σ2 H2 => wipe σ2 vs = wipe σ vs ∧ tt σ2 H2 fun b H3 => if b = true then te σ2 H3 fun y H4 => ∃ acc, H4 D = some (.lst acc) ∧ acc.length < sizeLine ∧ Nx (upd H4 D (.lst (acc ++ [y]))) else Nx H3)
    (hd : ∀ H, Same H1 H → H D = some (.lst ((List.range n).filterMap o)) → Qd H) :
    ∃ W : Nat → Nat → Hp → Prop, (∃ m, W 0 m (upd H1 D (.lst []))) ∧ ∀ i m H, W i m H →
      (J.stop i H ∧ Qd H) ∨ (J.go i H ∧ ∃ Nx : Hp → Prop, (∀ H', Nx H' → ∃ m', m' < m ∧ W (i + 1) m' H') ∧ ∀ x H', J.yld i H x H' → g x (wipe σ vs) H' fun σ2 H2 => wipe σ2 vs = wipe σ vs ∧ tt σ2 H2 fun b H3 =>
        if b = true then te σ2 H3 fun y H4 => ∃ acc, H4 D = some (.lst acc) ∧ acc.length < sizeLine ∧ Nx (upd H4 D (.lst (acc ++ [y]))) else Nx H3) := by
  have off : ∀ {H : Hp} {xs : List V}, Same H1 H → Same H1 (upd H D (.lst xs)) := fun {H xs} h b u e => by
    rw [upd_ne (ne_of_none e hD)]
    exact h b u e
  refine lc_it w (fun i H => Same H1 H ∧ H D = some (.lst ((List.range i).filterMap o))) ⟨Same.upd hD, upd_same⟩ (fun i H _ h => hG H h.1) (fun i x H H' hi h y => ?_) (fun H h => hd H h.1 h.2)
  have step : ∀ (q : Option V), o i = q → (List.range (i + 1)).filterMap o = (List.range i).filterMap o ++ q.toList := fun q e => by
    rw [List.range_succ, List.filterMap_append]
    cases q with
    | none => simp [e]
    | some z => simp [e]
  refine hs i x H H' _ hi h.1 (by rw [h.2]; simp) y (fun e H3 k => ⟨h.1.trans k, ?_⟩) (fun z e H4 k => ⟨_, k _ _ h.2, ?_, off (h.1.trans k), ?_⟩)
  · rw [step none e, k _ _ h.2]
    simp
  · have := List.length_filterMap_le o (List.range i)
    rw [List.length_range] at this
    omega
  · rw [upd_same, step (some z) e]
    rfl
theorem range_bind {α β : Type} (f : α → Option β) : ∀ (xs : List α), (List.range xs.length).filterMap (fun i => xs[i]?.bind f) = xs.filterMap f := fun xs => by
  have key : ∀ k, k ≤ xs.length → (List.range k).filterMap (fun i => xs[i]?.bind f) = (xs.take k).filterMap f := fun k => by
    induction k with
    | zero => intro _; simp
    | succ k ih =>
      intro h
      have hk : k < xs.length := by omega
      rw [List.range_succ, List.filterMap_append, ih (by omega), List.take_succ, List.filterMap_append]
      congr 1
      rw [List.getElem?_eq_getElem hk]
      cases hf : f xs[k] with
      | none => simp [List.getElem?_eq_getElem hk, hf]
      | some b => simp [List.getElem?_eq_getElem hk, hf]
  have := key xs.length (Nat.le_refl _)
  rw [List.take_length] at this
  exact this
theorem nodup_le {α : Type} [DecidableEq α] : ∀ (l m : List α), l.Nodup → (∀ x ∈ l, x ∈ m) → l.length ≤ m.length
  | [], _, _, _ => Nat.zero_le _
  | a :: l, m, hn, h => by
    have ha := h a List.mem_cons_self
    have hn' := List.nodup_cons.mp hn
    have := nodup_le l (m.erase a) hn'.2 fun x hx => by
      have hne : x ≠ a := fun e => hn'.1 (e ▸ hx)
      exact (List.mem_erase_of_ne hne).mpr (h x (List.mem_cons_of_mem _ hx))
    rw [List.length_erase_of_mem ha] at this
    have := List.length_pos_of_mem ha
    rw [List.length_cons]
    omega
section
variable {P : Program} {w : World} {K : PySem.W.Frag} {mg : Str → Option Value} {base : Heap}
theorem eqV_str (a b : Str) : eqV (.str a) (.str b) = decide (a = b) := by
  first
    | rfl
    | (show (a == b) = decide (a = b); by_cases h : a = b <;> simp [h])
theorem inV_str (z : Str) (zs : List Str) : inV (.str z) (zs.map V.str) = decide (z ∈ zs) := by
  unfold inV
  induction zs with
  | nil => simp
  | cons a r ih =>
    rw [List.map_cons, List.any_cons, ih, eqV_str]
    by_cases h : a = z
    · subst h; simp
    · have : ¬ z = a := fun e => h e.symm
      simp [h, this]
theorem flat_strs (zs : List Str) : (zs.map V.str).all flatV = true := by
  rw [List.all_eq_true]
  intro v hv
  obtain ⟨z, _, rfl⟩ := List.mem_map.mp hv
  rfl
/-! ### some different names -/
def abcL : List Nat := [97, 98, 99, 100, 101, 102, 103, 104, 105, 106, 107, 108]
theorem abc_cps : (("abcdefghijkl" : Str)).cps = abcL.toArray := by decide +kernel
theorem qrs_cps : (("qrs" : Str)).cps = #[113, 114, 115] := by decide +kernel
def spareL : List Str := (["q", "r", "s"] : List Str).flatMap fun a => (["a", "b", "c", "d", "e", "f", "g", "h", "i", "j", "k", "l"] : List Str).map fun b => a ++ b
theorem spare_len : spareL.length = 36 := by decide +kernel
theorem spare_nd : spareL.Nodup := by decide +kernel
theorem spare_ok : ∀ z ∈ spareL, NameS z := by decide +kernel
def spNames : Sp := fun vs H Q _ => ∃ (p : Addr) (n : Nat) (m : Int), vs = [.ref p, .int m] ∧ PotAt H p n ∧ n ≤ 800000 ∧ 0 ≤ m ∧ m ≤ 36 ∧
  ∀ (D : Addr) (zs : List Str) (H' : Hp), H D = none → (zs.length : Int) = m → zs.Nodup → (∀ z ∈ zs, NameS z) → H' D = some (.lst (zs.map V.str)) → PotAt H' p (n + 12 * m.toNat) → KpP p H H' → Q (.ref D) H'
end
end Kx
namespace Kx
open PySem PySem.Spec PyProof.Rows L2
def uniqF (acc : List Str) (x : Str) : List Str := if x ∈ acc then acc else acc ++ [x]
/-- each once, where it stands first -/
def uniq (l : List Str) : List Str := l.foldl uniqF []
def pairD (q : Str × Str) : PyData := .tuple [.str q.1, .str q.2]
theorem uniqF_nd {acc : List Str} {x : Str} (h : acc.Nodup) : (uniqF acc x).Nodup := by
  unfold uniqF
  split
  · exact h
  · rename_i hx
    exact List.nodup_append.mpr ⟨h, List.nodup_cons.mpr ⟨List.not_mem_nil, List.nodup_nil⟩, fun a ha b hb e => hx (by rw [List.mem_singleton.mp hb] at e; exact e ▸ ha)⟩
theorem uniq_gen (l : List Str) : ∀ acc : List Str, acc.Nodup → (l.foldl uniqF acc).Nodup ∧ ∀ z, z ∈ l.foldl uniqF acc ↔ z ∈ acc ∨ z ∈ l := by
  induction l with
  | nil => intro acc h; exact ⟨h, fun z => by simp⟩
  | cons x r ih =>
    intro acc h
    obtain ⟨h1, h2⟩ := ih (uniqF acc x) (uniqF_nd h)
    refine ⟨h1, fun z => (h2 z).trans ?_⟩
    unfold uniqF
    split
    · rename_i hx
      rw [List.mem_cons]
      refine ⟨fun q => q.elim .inl fun q => .inr (.inr q), fun q => q.elim .inl fun q => q.elim (fun e => .inl (e ▸ hx)) .inr⟩
    · rw [List.mem_append, List.mem_singleton, List.mem_cons, or_assoc]
theorem uniq_nd (l : List Str) : (uniq l).Nodup := (uniq_gen l [] List.nodup_nil).1
theorem uniq_mem (l : List Str) (z : Str) : z ∈ uniq l ↔ z ∈ l := by
  have := (uniq_gen l [] List.nodup_nil).2 z
  exact this.trans (by simp)
theorem uniqF_len (acc : List Str) (x : Str) : (uniqF acc x).length ≤ acc.length + 1 := by
  unfold uniqF
  split <;> simp
theorem uniq_take (l : List Str) (i : Nat) (h : i < l.length) : uniq (l.take (i + 1)) = uniqF (uniq (l.take i)) l[i] := by
  unfold uniq
  rw [List.take_succ, List.getElem?_eq_getElem h, List.foldl_append]
  rfl
theorem uniq_len (l : List Str) : (uniq l).length ≤ l.length := by
  refine nodup_le _ _ (uniq_nd l) fun x hx => (uniq_mem l x).mp hx
theorem Dv.pairI {ex : Addr → Prop} {H : Hp} {v : V} {q : Str × Str} (h : Dv ex H v (pairD q)) : ∃ b, v = .ref b ∧ TupF H b [.str q.1, .str q.2] := by
  obtain ⟨b, xs, rfl, ht, l⟩ := h.tupI
  cases l with
  | cons a l =>
    cases l with
    | cons a2 l =>
      cases l
      rw [a.strI, a2.strI] at ht
      exact ⟨b, rfl, ht⟩
section
variable {P : Program} {w : World} {K : PySem.W.Frag} {mg : Str → Option Value} {base : Heap}
def spLengths : Sp := fun vs H Q _ => ∃ (ex : Addr → Prop) (v : V) (ps : List (Str × Str)), vs = [v] ∧ Dv ex H v (.tuple (ps.map pairD)) ∧ ps.length ≤ 100 ∧
  ∀ (D : Addr) (H' : Hp), H D = none → Same H H' → H' D = some (.lst ((uniq (ps.map (·.2))).map V.str)) → Q (.ref D) H'
/-! ### the parts of a frame -/
theorem cut_take (xs : List V) (i : Int) (h : 0 ≤ i) : cutV xs none (some i) = xs.take i.toNat := by
  obtain ⟨j, rfl⟩ : ∃ j : Nat, i = j := ⟨i.toNat, by omega⟩
  unfold cutV
  rw [HT.sIx_nat]
  show (xs.drop 0).take (min j xs.length - 0) = _
  rw [List.drop_zero, Nat.sub_zero, List.take_eq_take_iff]
  simp
theorem cut_drop (xs : List V) (i : Int) (h : 0 ≤ i) : cutV xs (some i) none = xs.drop i.toNat := by
  obtain ⟨j, rfl⟩ : ∃ j : Nat, i = j := ⟨i.toNat, by omega⟩
  unfold cutV
  rw [HT.sIx_nat]
  show (xs.drop (min j xs.length)).take (xs.length - min j xs.length) = xs.drop j
  rw [List.take_of_length_le (by rw [List.length_drop]; omega)]
  by_cases hj : j ≤ xs.length
  · rw [Nat.min_eq_left hj]
  · rw [Nat.min_eq_right (by omega), List.drop_length, List.drop_of_length_le (by omega)]
/-- the parts of a frame are right -/
def Good (ps : List (Str × Str)) (ns vs : List Str) : Prop :=
  ps.length ≤ 12 ∧ ns.length ≤ 6 ∧ vs.length ≤ 6 ∧ (∀ z ∈ ps.map (·.1) ++ (ps.map (·.2) ++ (ns ++ vs)), NameS z) ∧ (ps.map (·.1) ++ (uniq (ps.map (·.2)) ++ (ns ++ vs))).Nodup
theorem good_of {zs : List Str} {qs : List (Str × Str)} {M N s1 s2 : Nat} (hnd : zs.Nodup) (hok : ∀ z ∈ zs, NameS z) (hl : zs.length = M + N + s1 + s2) (hM : M ≤ 12) (h1 : s1 ≤ 6) (h2 : s2 ≤ 6)
    (ha : qs.map (·.1) = zs.take M) (hb : ∀ q ∈ qs, q.2 ∈ (zs.drop M).take N) : Good qs ((zs.drop (M + N)).take s1) ((zs.drop (M + N)).drop s1) := by
  have split : zs = zs.take M ++ ((zs.drop M).take N ++ zs.drop (M + N)) := by
    rw [← List.drop_drop, List.take_append_drop, List.take_append_drop]
  have hq : qs.length ≤ 12 := by
    have := congrArg List.length ha
    rw [List.length_map, List.length_take] at this
    omega
  have hsub : ∀ z ∈ qs.map (·.2), z ∈ (zs.drop M).take N := fun z hz => by
    obtain ⟨q, hq, rfl⟩ := List.mem_map.mp hz
    exact hb q hq
  have inz : ∀ z, z ∈ zs.take M ∨ z ∈ (zs.drop M).take N ∨ z ∈ zs.drop (M + N) → z ∈ zs := fun z hz => by
    rw [split]
    rw [List.mem_append, List.mem_append]
    exact hz
  refine ⟨hq, ?_, ?_, ?_, ?_⟩
  · rw [List.length_take]; omega
  · rw [List.length_drop, List.length_drop]; omega
  · intro z hz
    rw [List.take_append_drop, ha, List.mem_append, List.mem_append] at hz
    refine hok z (inz z ?_)
    rcases hz with h | h | h
    · exact .inl h
    · exact .inr (.inl (hsub z h))
    · exact .inr (.inr h)
  · rw [List.take_append_drop, ha]
    rw [split] at hnd
    obtain ⟨n1, n2, n3⟩ := List.nodup_append.mp hnd
    obtain ⟨n4, n5, n6⟩ := List.nodup_append.mp n2
    refine List.nodup_append.mpr ⟨n1, List.nodup_append.mpr ⟨uniq_nd _, n5, fun a h1 b h2 => n6 a (hsub a ((uniq_mem _ a).mp h1)) b h2⟩, fun a h1 b h2 => n3 a h1 b ?_⟩
    rcases List.mem_append.mp h2 with h | h
    · exact List.mem_append.mpr (.inl (hsub b ((uniq_mem _ b).mp h)))
    · exact List.mem_append.mpr (.inr h)
theorem DvL.snoc {ex : Addr → Prop} {H : Hp} {xs : List V} {ds : List PyData} {v : V} {d : PyData} (h : DvL ex H xs ds) (a : Dv ex H v d) : DvL ex H (xs ++ [v]) (ds ++ [d]) := h.app (.cons a .nil)
def spParts : Sp := fun vs H Q _ => ∃ (p : Addr) (n : Nat) (t m : Int), vs = [.ref p, .int t, .int m] ∧ PotAt H p n ∧ n ≤ 700000 ∧ 0 ≤ t ∧ t ≤ 12 ∧ 0 ≤ m ∧ m ≤ 6 ∧
  ∀ (R : Addr) (x y z : V) (ps : List (Str × Str)) (ns vs : List Str) (H' : Hp), H R = none → H' R = some (.lst [x, y, z]) → Good ps ns vs → (∀ ex, Dv ex H' x (.tuple (ps.map pairD))) → (∀ ex, Dv ex H' y (.tuple (ns.map .str))) → (∀ ex, Dv ex H' z (.tuple (vs.map .str))) →
    PotAt H' p (n + 400) → KpP p H H' → Q (.ref R) H'
end
end Kx
namespace Kx
open PySem PySem.Spec PyProof.Rows L2
/-! ### what the judges say of data -/
def nameD : PyData → Bool
  | .str s => decide (NameS s)
  | _ => false
def pairOkD : PyData → Bool
  | .tuple [a, b] => nameD a && nameD b
  | _ => false
def namesD (m : Nat) : PyData → Bool
  | .tuple xs => decide (xs.length ≤ m) && xs.all nameD
  | _ => false
def arrsD : PyData → Bool
  | .tuple xs => decide (xs.length ≤ 12) && xs.all pairOkD
  | _ => false
def isStrD : PyData → Bool
  | .str _ => true
  | _ => false
def isTupD : PyData → Bool
  | .tuple _ => true
  | _ => false
def tyD : PyData → String
  | .none => "NoneType"
  | .bool _ => "bool"
  | .int _ => "int"
  | .str _ => "str"
  | .list _ => "list"
  | .tuple _ => "tuple"
  | .dict _ => "dict"
theorem Dv.ty {K : PySem.W.Frag} {ex : Addr → Prop} {H : Hp} {v : V} {d : PyData} (h : Dv ex H v d) : TyX K H v (.type (tyD d)) := by
  cases h with
  | non => exact .base .non
  | bl b => exact .base (.bl b)
  | int i => exact .base (.int i)
  | str x => exact .base (.str x)
  | lst _ e _ => exact .base (.lst e)
  | tup _ e _ => exact .fTuple e
  | dic _ e _ => exact .base (.dK e)
theorem kitS {K : PySem.W.Frag} (d : PyData) : PySem.W.kitOne K (.type (tyD d)) (.type "str") = some (isStrD d) := by
  cases d with
  | none => exact kit_ty (show kitB "NoneType" "str" = some false by decide +kernel)
  | bool _ => exact kit_ty (show kitB "bool" "str" = some false by decide +kernel)
  | int _ => exact kit_ty (show kitB "int" "str" = some false by decide +kernel)
  | str _ => exact kit_ty (show kitB "str" "str" = some true by decide +kernel)
  | list _ => exact kit_ty (show kitB "list" "str" = some false by decide +kernel)
  | tuple _ => exact kit_ty (show kitB "tuple" "str" = some false by decide +kernel)
  | dict _ => exact kit_ty (show kitB "dict" "str" = some false by decide +kernel)
theorem kitT {K : PySem.W.Frag} (d : PyData) : PySem.W.kitOne K (.type (tyD d)) (.type "tuple") = some (isTupD d) := by
  cases d with
  | none => exact kit_ty (show kitB "NoneType" "tuple" = some false by decide +kernel)
  | bool _ => exact kit_ty (show kitB "bool" "tuple" = some false by decide +kernel)
  | int _ => exact kit_ty (show kitB "int" "tuple" = some false by decide +kernel)
  | str _ => exact kit_ty (show kitB "str" "tuple" = some false by decide +kernel)
  | list _ => exact kit_ty (show kitB "list" "tuple" = some false by decide +kernel)
  | tuple _ => exact kit_ty (show kitB "tuple" "tuple" = some true by decide +kernel)
  | dict _ => exact kit_ty (show kitB "dict" "tuple" = some false by decide +kernel)
theorem cost_mem : ∀ {xs : List PyData} {x : PyData}, x ∈ xs → cost x + 2 ≤ costL xs
  | y :: r, x, h => by
    rcases List.mem_cons.mp h with rfl | h
    · simp only [costL]; omega
    · have := cost_mem h
      simp only [costL]; omega
theorem costL_len : ∀ xs : List PyData, 2 * xs.length ≤ costL xs
  | [] => by simp [costL]
  | x :: r => by
    have := costL_len r
    simp only [costL, List.length_cons]; omega
theorem abc_all : ("abcdefghijklmnopqrstuvwxyz" : Str).cps.toList = (List.range 26).map (· + 97) := by decide +kernel
theorem mem_abc (c : Nat) : c ∈ ("abcdefghijklmnopqrstuvwxyz" : Str).cps.toList ↔ 97 ≤ c ∧ c ≤ 122 := by
  rw [abc_all, List.mem_map]
  constructor
  · rintro ⟨i, hi, rfl⟩
    have := List.mem_range.mp hi
    omega
  · intro h
    exact ⟨c - 97, List.mem_range.mpr (by omega), by omega⟩
theorem range_arr {α β : Type} (xs : Array α) (f : α → β) : (List.range xs.size).filterMap (fun i => xs[i]?.map f) = xs.toList.map f := by
  have := range_bind (fun a => some (f a)) xs.toList
  rw [List.filterMap_eq_map', Array.length_toList] at this
  rw [← this]
  refine congrArg (fun g => List.filterMap g _) (funext fun i => ?_)
  rw [Array.getElem?_toList]
  cases xs[i]? <;> rfl
theorem range_list {α β : Type} (xs : List α) (f : α → β) : (List.range xs.length).filterMap (fun i => xs[i]?.map f) = xs.map f := by
  have := range_arr xs.toArray f
  simpa using this
section
variable {P : Program} {w : World} {K : PySem.W.Frag} {mg : Str → Option Value} {base : Heap}
structure Co (mg : Str → Option Value) : Prop where
  LONGEST_NAME : ∃ t, mg "LONGEST_NAME" = some (.int 8 t)
  MAX_ARRAYS : ∃ t, mg "MAX_ARRAYS" = some (.int 12 t)
  MAX_POSITIONS : ∃ t, mg "MAX_POSITIONS" = some (.int 6 t)
  MAX_VALUES : ∃ t, mg "MAX_VALUES" = some (.int 6 t)
/-- the promise of a judge of one datum -/
def spJudge (f : PyData → Bool) : Sp := fun vs H Q _ => ∃ (ex : Addr → Prop) (v : V) (d : PyData), vs = [v] ∧ Dv ex H v d ∧ cost d ≤ 8000000 ∧ ∀ H', Same H H' → Q (.bl (f d)) H'
theorem nameS_iff (s : Str) : NameS s ↔ (1 ≤ s.length ∧ s.length ≤ 8) ∧ (s.cps.toList.map fun c => decide (c ∈ ("abcdefghijklmnopqrstuvwxyz" : Str).cps.toList)).all id = true := by
  unfold NameS
  rw [List.all_map, List.all_eq_true]
  constructor
  · rintro ⟨h1, h2, h3⟩
    exact ⟨⟨h1, h2⟩, fun c hc => decide_eq_true ((mem_abc c).mpr (h3 c hc))⟩
  · rintro ⟨⟨h1, h2⟩, h3⟩
    exact ⟨h1, h2, fun c hc => (mem_abc c).mp (of_decide_eq_true (h3 c hc))⟩
theorem nameD_all (z : Str) (hh : 1 ≤ z.length ∧ z.length ≤ 8) : nameD (.str z) = (z.cps.toList.map fun c => decide (c ∈ ("abcdefghijklmnopqrstuvwxyz" : Str).cps.toList)).all id := by
  show decide (NameS z) = _
  cases hB : (z.cps.toList.map fun c => decide (c ∈ ("abcdefghijklmnopqrstuvwxyz" : Str).cps.toList)).all id with
  | true => exact decide_eq_true ((nameS_iff z).mpr ⟨hh, hB⟩)
  | false =>
    refine decide_eq_false fun q => ?_
    have := ((nameS_iff z).mp q).2
    rw [hB] at this
    cases this
theorem ascii_tab : ∀ c : Nat, c < 128 → (Unicode.isAlpha c = (decide (97 ≤ c ∧ c ≤ 122) || decide (65 ≤ c ∧ c ≤ 90))) ∧ (Unicode.isLower c = decide (97 ≤ c ∧ c ≤ 122)) ∧ (Unicode.isUpper c = decide (65 ≤ c ∧ c ≤ 90)) ∧ Unicode.isTitle c = false := by
  decide +kernel
theorem low_iff (z : Str) (hh : 1 ≤ z.length) : (Txt.isascii z && (Txt.isalpha z && Txt.islower z)) = true ↔ ∀ c ∈ z.cps.toList, 97 ≤ c ∧ c ≤ 122 := by
  have hz : z.cps.toList.length = z.length := by rw [Array.length_toList]; rfl
  unfold Txt.isascii Txt.isalpha Txt.islower
  rw [← Array.all_toList, ← Array.all_toList, ← Array.any_toList, ← Array.any_toList]
  simp only [Bool.and_eq_true, Bool.not_eq_true', List.all_eq_true, List.any_eq_true, List.any_eq_false, decide_eq_true_eq]
  constructor
  · rintro ⟨h1, ⟨_, h2⟩, h3, h4⟩ c hc
    have t := ascii_tab c (h1 c hc)
    have a := h2 c hc
    have b := h4 c hc
    rw [t.2.2.1, t.2.2.2, Bool.or_false] at b
    rw [t.1] at a
    simp only [Bool.or_eq_true, decide_eq_true_eq] at a b
    omega
  · intro h
    refine ⟨fun c hc => by have := h c hc; omega, ⟨hh, fun c hc => ?_⟩, ?_, fun c hc => ?_⟩
    · have := h c hc
      rw [(ascii_tab c (by omega)).1, decide_eq_true this]; rfl
    · obtain ⟨c, hc⟩ : ∃ c, c ∈ z.cps.toList := by
        cases e : z.cps.toList with
        | nil => rw [e] at hz; simp at hz; omega
        | cons c r => exact ⟨c, List.mem_cons_self⟩
      have := h c hc
      exact ⟨c, hc, by rw [(ascii_tab c (by omega)).2.1, decide_eq_true this]⟩
    · have := h c hc
      have t := ascii_tab c (by omega)
      rw [t.2.2.1, t.2.2.2, decide_eq_false (by omega)]; decide
theorem nameD_low (z : Str) (hh : 1 ≤ z.length ∧ z.length ≤ 8) : nameD (.str z) = (Txt.isascii z && (Txt.isalpha z && Txt.islower z)) := by
  show decide (NameS z) = _
  rw [Bool.eq_iff_iff, low_iff z hh.1, decide_eq_true_iff]
  exact ⟨fun h => h.2.2, fun h => ⟨hh.1, hh.2, h⟩⟩
theorem pairOkD_eq (ds : List PyData) : pairOkD (.tuple ds) = (decide (ds.length = 2) && ds.all nameD) := by
  match ds with
  | [] => rfl
  | [a] => rfl
  | [a, b] => simp [pairOkD]
  | a :: b :: c :: r => simp [pairOkD]
abbrev N_is_name : List Str := ["value"]
abbrev P_is_name : List Str := ["value"]
theorem sc_is_name : FnScope N_is_name P_is_name (defScope s_is_name) := ⟨rfl, rfl, rfl, by decide +kernel, rfl, by decide +kernel, by decide +kernel⟩
theorem ok_is_name (T : Bt mg) (C : Co mg) (h : Has K mg "is_name" s_is_name) : Ca P w K mg base 1 "is_name" P_is_name (spJudge nameD) := by
  obtain ⟨_, gN⟩ := C.LONGEST_NAME
  refine cal_of h sc_is_name (fun _ _ _ _ _ _ us hl => match us, hl with | [_], _ => rfl) (fun vs H Q E h => ?_) (fun f cdv A outer s H vs Q E hr h => ?_)
  · obtain ⟨ex, v, d, rfl, _⟩ := h
    rfl
  · obtain ⟨ex, v, d, rfl, dv, hc, k⟩ := h
    refine ⟨_, (pss_cons (ps_if (PW.pt (pw_or (pt_not (pt_val (pe_callB call_isi (by rfl) T.isinstance (by decide +kernel) (pa_cons (pv 0) (pa_cons (pe_bltn (v := .ty "str") (by rfl) T.str (by decide +kernel) rfl) pa_nil))))) (pw_or1 (pt_not (pt_chain op_le op_le pe_int (pe_callB call_len (by rfl) T.len (by decide +kernel) (pa_cons (pv 0) pa_nil)) (pe_glob (v := .int 8) rfl gN ⟨_, rfl⟩)))))) (pss_one (ps_ret pe_bl)) pss_nil)
      (pss_one (ps_ret (pe_and (pe_m0 PySem.F.slot_str_isascii PySem.F.type_str_isascii mt_isascii (pv 0)) (pe_and (pe_m0 PySem.F.slot_str_isalpha PySem.F.type_str_isalpha mt_isalpha (pv 0)) (pe_one (pe_m0 PySem.F.slot_str_islower PySem.F.type_str_islower mt_islower (pv 0)))))))), ?_⟩
    refine ⟨_, rfl, _, _, _, _, _, rfl, .ty _, dv.ty, kitS d, _, rfl, ?_⟩
    have no : isStrD d = false → nameD d = false := fun e => by cases d <;> first | rfl | cases e
    cases e : isStrD d with
    | false =>
      refine iteT ?_
      have := k H Same.refl
      rw [no e] at this
      exact iteT this
    | true =>
      refine iteF ?_
      obtain ⟨z, rfl⟩ : ∃ z, d = .str z := by cases d <;> first | exact ⟨_, rfl⟩ | cases e
      cases dv.strI
      have hz : z.length ≤ sizeLine := by
        simp only [cost] at hc
        rw [sizeLine_eq]; omega
      have bad : ¬ (1 ≤ z.length ∧ z.length ≤ 8) → nameD (.str z) = false := fun n => decide_eq_false fun q => n ⟨q.1, q.2.1⟩
      refine ⟨_, rfl, _, _, rfl, ⟨hz, rfl⟩, _, _, rfl, rfl, _, rfl, ?_⟩
      by_cases h1 : (1 : Int) ≤ (z.length : Int)
      · rw [decide_eq_true h1]
        refine iteT ⟨_, _, rfl, rfl, _, rfl, ?_⟩
        by_cases h2 : (z.length : Int) ≤ 8
        · rw [decide_eq_true h2]
          refine iteF ?_
          have := k H Same.refl
          rw [nameD_low z (by omega)] at this
          refine ⟨_, rfl, ⟨_, rfl⟩, _, rfl, rfl, trivial, _, rfl, ?_⟩
          cases e1 : Txt.isascii z with
          | false => rw [e1] at this; exact iteF this
          | true =>
            rw [e1, Bool.true_and] at this
            refine iteT ⟨_, rfl, ⟨_, rfl⟩, _, rfl, rfl, trivial, _, rfl, ?_⟩
            cases e2 : Txt.isalpha z with
            | false => rw [e2] at this; exact iteF this
            | true =>
              rw [e2, Bool.true_and] at this
              exact iteT ⟨_, rfl, ⟨_, rfl⟩, _, rfl, rfl, trivial, this⟩
        · rw [decide_eq_false h2]
          have := k H Same.refl
          rw [bad (by omega)] at this
          exact iteT this
      · rw [decide_eq_false h1]
        have := k H Same.refl
        rw [bad (by omega)] at this
        exact iteF ⟨_, rfl, iteT this⟩
theorem namesD_tup (m : Nat) (ds : List PyData) : namesD m (.tuple ds) = (decide (ds.length ≤ m) && ds.all nameD) := rfl
/-- all([f(part) for part in t]) -/
abbrev N_are_names : List Str := ["value", "most", "part"]
abbrev P_are_names : List Str := ["value", "most"]
theorem sc_are_names : FnScope N_are_names P_are_names (defScope s_are_names) := ⟨rfl, rfl, rfl, by decide +kernel, rfl, by decide +kernel, by decide +kernel⟩
def spAreNames : Sp := fun vs H Q _ => ∃ (ex : Addr → Prop) (v : V) (d : PyData) (m : Nat), vs = [v, .int m] ∧ Dv ex H v d ∧ cost d ≤ 8000000 ∧ ∀ H', Same H H' → Q (.bl (namesD m d)) H'
theorem ok_are_names (T : Bt mg) (h : Has K mg "_are_names" s_are_names) (C1 : Ca P w K mg base 1 "is_name" P_is_name (spJudge nameD)) : Ca P w K mg base 2 "_are_names" P_are_names spAreNames := by
  obtain ⟨_, _, c_is_name⟩ := C1
  refine cal_of h sc_are_names (fun _ _ _ _ _ _ us hl => match us, hl with | [_, _], _ => rfl) (fun vs H Q E h => ?_) (fun f cdv A outer s H vs Q E hr h => ?_)
  · obtain ⟨ex, v, d, m, rfl, _⟩ := h
    rfl
  · obtain ⟨ex, v, d, m, rfl, dv, hc, k⟩ := h
    refine ⟨_, (pss_one (ps_ret (pe_and (pe_callB call_isi (by rfl) T.isinstance (by decide +kernel) (pa_cons (pv 0) (pa_cons (pe_bltn (v := .ty "tuple") (by rfl) T.tuple (by decide +kernel) rfl) pa_nil))) (pe_and (pe_cmpR op_le (pe_callB call_len (by rfl) T.len (by decide +kernel) (pa_cons (pv 0) pa_nil)) (pv 1) (nomark _)) (pe_one (pe_callB (cr_all rfl) (by rfl) T.all (by decide +kernel) (pa_cons (pe_lc (own := [("part", 2)]) (g := (gName 2)) (tt := tYes) (by rfl) sc_are_names.nd (pi_tup (pv 0)) (blkOk_by (own := [("part", 2)]) (N := ["value", "most", "part"]) (sc := defScope s_are_names) (by decide +kernel)) (fun _ _ _ _ _ => pg_name (i := 2) sc_are_names.nd rfl (Or.inl rfl)) (fun _ _ _ _ _ => pts_nil) (fun _ _ _ _ _ => (pe_call c_is_name.1 (hr.mono (by decide)) rfl c_is_name.2.1 c_is_name.2.2.1 c_is_name.2.2.2 .nil pass0 (pa_cons (pv 2) pa_nil)))) pa_nil))))))), ?_⟩
    refine ⟨_, rfl, _, _, _, _, _, rfl, .ty _, dv.ty, kitT d, _, rfl, ?_⟩
    cases e : isTupD d with
    | false =>
      have no : namesD m d = false := by cases d <;> first | rfl | cases e
      have := k H Same.refl
      rw [no] at this
      exact iteF this
    | true =>
      obtain ⟨ds, rfl⟩ : ∃ ds, d = .tuple ds := by cases d <;> first | exact ⟨_, rfl⟩ | cases e
      obtain ⟨a, xs, rfl, ht, dl⟩ := dv.tupI
      have hl := dl.len
      simp only [cost] at hc
      have hl2 := costL_len ds
      refine iteT ⟨_, rfl, _, _, rfl, .inr ⟨_, ht.sq, rfl⟩, _, rfl, _, _, rfl, rfl, _, rfl, ?_⟩
      by_cases hm : (xs.length : Int) ≤ (m : Int)
      · rw [decide_eq_true hm]
        refine iteT ⟨_, rfl, a, rfl, ⟨_, ht.sq⟩, fun D hD => lc_o (walk_tup (K := K) (a := a) (xs := xs)) (fun i => ds[i]?.map fun e => V.bl (nameD e)) (by rw [sizeLine_eq]; omega) hD (fun Hx sm => ((Kp.same (ex := ex) sm).tup ht).sq) ?_ ?_⟩
        · rintro i x Hx H' Nx hi sm hDx ⟨rfl, hx⟩ hno hyes
          obtain ⟨e, he, dve⟩ := dl.get hx
          refine ⟨rfl, yes ⟨_, rfl, ex, x, e, rfl, dve.kp (Kp.same sm), ?_, fun H2 sm2 => ?_⟩⟩
          · have := cost_mem (List.mem_of_getElem? he)
            omega
          · exact hyes _ (by rw [he]; rfl) _ sm2
        · intro Hx sm hDx
          rw [hl, range_list, show (ds.map fun e => V.bl (nameD e)) = (ds.map nameD).map V.bl by rw [List.map_map]; rfl] at hDx
          refine ⟨D, _, rfl, SqL.of hDx, ?_⟩
          have := k Hx sm
          rw [namesD_tup, decide_eq_true (by omega : ds.length ≤ m), Bool.true_and] at this
          rw [List.all_map]
          exact this
      · rw [decide_eq_false hm]
        have := k H Same.refl
        rw [namesD_tup, decide_eq_false (by omega : ¬ ds.length ≤ m), Bool.false_and] at this
        exact iteF this
abbrev N_is_array : List Str := ["value"]
abbrev P_is_array : List Str := ["value"]
theorem sc_is_array : FnScope N_is_array P_is_array (defScope s_is_array) := ⟨rfl, rfl, rfl, by decide +kernel, rfl, by decide +kernel, by decide +kernel⟩
theorem ok_is_array (T : Bt mg) (h : Has K mg "_is_array" s_is_array) (C1 : Ca P w K mg base 2 "_are_names" P_are_names spAreNames) : Ca P w K mg base 3 "_is_array" P_is_array (spJudge pairOkD) := by
  obtain ⟨_, _, c__are_names⟩ := C1
  refine cal_of h sc_is_array (fun _ _ _ _ _ _ us hl => match us, hl with | [_], _ => rfl) (fun vs H Q E h => ?_) (fun f cdv A outer s H vs Q E hr h => ?_)
  · obtain ⟨ex, v, d, rfl, _⟩ := h
    rfl
  · obtain ⟨ex, v, d, rfl, dv, hc, k⟩ := h
    refine ⟨_, (pss_one (ps_ret (pe_and (pe_callB call_isi (by rfl) T.isinstance (by decide +kernel) (pa_cons (pv 0) (pa_cons (pe_bltn (v := .ty "tuple") (by rfl) T.tuple (by decide +kernel) rfl) pa_nil))) (pe_and (pe_cmpR op_eq (pe_callB call_len (by rfl) T.len (by decide +kernel) (pa_cons (pv 0) pa_nil)) pe_int (nomark _)) (pe_one (pe_call c__are_names.1 (hr.mono (by decide)) rfl c__are_names.2.1 c__are_names.2.2.1 c__are_names.2.2.2 .nil pass0 (pa_cons (pv 0) (pa_cons pe_int pa_nil)))))))), ?_⟩
    refine ⟨_, rfl, _, _, _, _, _, rfl, .ty _, dv.ty, kitT d, _, rfl, ?_⟩
    cases e : isTupD d with
    | false =>
      have no : pairOkD d = false := by cases d <;> first | rfl | cases e
      have := k H Same.refl
      rw [no] at this
      exact iteF this
    | true =>
      obtain ⟨ds, rfl⟩ : ∃ ds, d = .tuple ds := by cases d <;> first | exact ⟨_, rfl⟩ | cases e
      obtain ⟨a, xs, rfl, ht, dl⟩ := dv.tupI
      have hl := dl.len
      have at_ : ∀ H', Same H H' → Q (.bl (decide (ds.length = 2) && ds.all nameD)) H' := fun H' sm => by
        have := k H' sm
        rw [pairOkD_eq] at this
        exact this
      refine iteT ⟨_, rfl, _, _, rfl, .inr ⟨_, ht.sq, rfl⟩, rfl, _, rfl, ?_⟩
      by_cases h2 : xs.length = 2
      · rw [decide_eq_true (show V.int (xs.length : Int) = V.int 2 by rw [h2]; rfl)]
        refine iteT ⟨_, rfl, ex, _, _, 2, rfl, dv, hc, fun H2 sm => ?_⟩
        have := at_ H2 sm
        rw [decide_eq_true (by omega : ds.length = 2)] at this
        rw [namesD_tup, decide_eq_true (by omega : ds.length ≤ 2)]
        exact this
      · rw [decide_eq_false (fun q : V.int (xs.length : Int) = V.int 2 => h2 (by injection q with q; omega))]
        have := at_ H Same.refl
        rw [decide_eq_false (by omega : ¬ ds.length = 2)] at this
        exact iteF this
abbrev N_are_arrays : List Str := ["value", "part"]
abbrev P_are_arrays : List Str := ["value"]
theorem sc_are_arrays : FnScope N_are_arrays P_are_arrays (defScope s_are_arrays) := ⟨rfl, rfl, rfl, by decide +kernel, rfl, by decide +kernel, by decide +kernel⟩
theorem ok_are_arrays (T : Bt mg) (C : Co mg) (h : Has K mg "_are_arrays" s_are_arrays) (C1 : Ca P w K mg base 3 "_is_array" P_is_array (spJudge pairOkD)) : Ca P w K mg base 4 "_are_arrays" P_are_arrays (spJudge arrsD) := by
  obtain ⟨_, gM⟩ := C.MAX_ARRAYS
  obtain ⟨_, _, c__is_array⟩ := C1
  refine cal_of h sc_are_arrays (fun _ _ _ _ _ _ us hl => match us, hl with | [_], _ => rfl) (fun vs H Q E h => ?_) (fun f cdv A outer s H vs Q E hr h => ?_)
  · obtain ⟨ex, v, d, rfl, _⟩ := h
    rfl
  · obtain ⟨ex, v, d, rfl, dv, hc, k⟩ := h
    refine ⟨_, (pss_one (ps_ret (pe_and (pe_callB call_isi (by rfl) T.isinstance (by decide +kernel) (pa_cons (pv 0) (pa_cons (pe_bltn (v := .ty "tuple") (by rfl) T.tuple (by decide +kernel) rfl) pa_nil))) (pe_and (pe_cmpR op_le (pe_callB call_len (by rfl) T.len (by decide +kernel) (pa_cons (pv 0) pa_nil)) (pe_glob (v := .int 12) rfl gM ⟨_, rfl⟩) (nomark _)) (pe_one (pe_callB (cr_all rfl) (by rfl) T.all (by decide +kernel) (pa_cons (pe_lc (own := [("part", 1)]) (g := (gName 1)) (tt := tYes) (by rfl) sc_are_arrays.nd (pi_tup (pv 0)) (blkOk_by (own := [("part", 1)]) (N := ["value", "part"]) (sc := defScope s_are_arrays) (by decide +kernel)) (fun _ _ _ _ _ => pg_name (i := 1) sc_are_arrays.nd rfl (Or.inl rfl)) (fun _ _ _ _ _ => pts_nil) (fun _ _ _ _ _ => (pe_call c__is_array.1 (hr.mono (by decide)) rfl c__is_array.2.1 c__is_array.2.2.1 c__is_array.2.2.2 .nil pass0 (pa_cons (pv 1) pa_nil)))) pa_nil))))))), ?_⟩
    refine ⟨_, rfl, _, _, _, _, _, rfl, .ty _, dv.ty, kitT d, _, rfl, ?_⟩
    cases e : isTupD d with
    | false =>
      have no : arrsD d = false := by cases d <;> first | rfl | cases e
      have := k H Same.refl
      rw [no] at this
      exact iteF this
    | true =>
      obtain ⟨ds, rfl⟩ : ∃ ds, d = .tuple ds := by cases d <;> first | exact ⟨_, rfl⟩ | cases e
      obtain ⟨a, xs, rfl, ht, dl⟩ := dv.tupI
      have hl := dl.len
      simp only [cost] at hc
      have hl2 := costL_len ds
      have eq : arrsD (.tuple ds) = (decide (ds.length ≤ 12) && ds.all pairOkD) := rfl
      refine iteT ⟨_, rfl, _, _, rfl, .inr ⟨_, ht.sq, rfl⟩, _, _, rfl, rfl, _, rfl, ?_⟩
      by_cases hm : (xs.length : Int) ≤ 12
      · rw [decide_eq_true hm]
        refine iteT ⟨_, rfl, a, rfl, ⟨_, ht.sq⟩, fun D hD => lc_o (walk_tup (K := K) (a := a) (xs := xs)) (fun i => ds[i]?.map fun e => V.bl (pairOkD e)) (by rw [sizeLine_eq]; omega) hD (fun Hx sm => ((Kp.same (ex := ex) sm).tup ht).sq) ?_ ?_⟩
        · rintro i x Hx H' Nx hi sm hDx ⟨rfl, hx⟩ hno hyes
          obtain ⟨e, he, dve⟩ := dl.get hx
          refine ⟨rfl, yes ⟨_, rfl, ex, x, e, rfl, dve.kp (Kp.same sm), ?_, fun H2 sm2 => ?_⟩⟩
          · have := cost_mem (List.mem_of_getElem? he)
            omega
          · exact hyes _ (by rw [he]; rfl) _ sm2
        · intro Hx sm hDx
          rw [hl, range_list, show (ds.map fun e => V.bl (pairOkD e)) = (ds.map pairOkD).map V.bl by rw [List.map_map]; rfl] at hDx
          refine ⟨D, _, rfl, SqL.of hDx, ?_⟩
          have := k Hx sm
          rw [eq, decide_eq_true (by omega : ds.length ≤ 12), Bool.true_and] at this
          rw [List.all_map]
          exact this
      · rw [decide_eq_false hm]
        have := k H Same.refl
        rw [eq, decide_eq_false (by omega : ¬ ds.length ≤ 12), Bool.false_and] at this
        exact iteF this
end
end Kx
namespace Kx
open PySem PySem.Spec PyProof.Rows L2
/-! ### dicts by texts -/
def dictV (l : List (Str × V)) : List (Key × V) := mergeK [] (l.map fun q => (Sum.inr q.1, q.2))
theorem dictV_snoc (l : List (Str × V)) (q : Str × V) : dictV (l ++ [q]) = putK (dictV l) (.inr q.1) q.2 := by
  unfold dictV mergeK
  rw [List.map_append, List.foldl_append]
  rfl
theorem dictV_take (l : List (Str × V)) (i : Nat) (h : i < l.length) : dictV (l.take (i + 1)) = putK (dictV (l.take i)) (.inr l[i].1) l[i].2 := by
  rw [List.take_succ, List.getElem?_eq_getElem h]
  exact dictV_snoc _ _
theorem putK_in {kvs : List (Key × V)} {k : Key} (v : V) (h : k ∈ kvs.map (·.1)) : (putK kvs k v).map (·.1) = kvs.map (·.1) := by
  have h2 : (kvs.any fun kv => decide (kv.1 = k)) = true := by
    obtain ⟨q, hq, e⟩ := List.mem_map.mp h
    exact List.any_eq_true.mpr ⟨q, hq, decide_eq_true e⟩
  unfold putK
  rw [if_pos h2, List.map_map]
  refine List.map_congr_left fun q _ => ?_
  show (if q.1 = k then (q.1, v) else q).1 = q.1
  split <;> rfl
theorem putK_out {kvs : List (Key × V)} {k : Key} (v : V) (h : ¬ k ∈ kvs.map (·.1)) : (putK kvs k v).map (·.1) = kvs.map (·.1) ++ [k] := by
  have h2 : ¬ (kvs.any fun kv => decide (kv.1 = k)) = true := fun z => h (by
    obtain ⟨q, hq, e⟩ := List.any_eq_true.mp z
    exact List.mem_map.mpr ⟨q, hq, of_decide_eq_true e⟩)
  unfold putK
  rw [if_neg h2, List.map_append]
  rfl
theorem putK_len (kvs : List (Key × V)) (k : Key) (v : V) : (putK kvs k v).length ≤ kvs.length + 1 := by
  unfold putK
  split
  · rw [List.length_map]; omega
  · rw [List.length_append]; exact Nat.le_refl _
theorem uniq_snoc (l : List Str) (x : Str) : uniq (l ++ [x]) = uniqF (uniq l) x := by
  unfold uniq
  rw [List.foldl_append]
  rfl
theorem snoc_ind {α : Type} {p : List α → Prop} (h0 : p []) (hs : ∀ l a, p l → p (l ++ [a])) : ∀ l, p l := fun l => by
  have : ∀ r : List α, p r.reverse := fun r => by
    induction r with
    | nil => exact h0
    | cons a r ih => rw [List.reverse_cons]; exact hs _ _ ih
  have := this l.reverse
  rw [List.reverse_reverse] at this
  exact this
theorem dictV_keys (l : List (Str × V)) : (dictV l).map (·.1) = (uniq (l.map (·.1))).map Sum.inr := by
  refine snoc_ind (p := fun l => (dictV l).map (·.1) = (uniq (l.map (·.1))).map Sum.inr) rfl (fun l q ih => ?_) l
  rw [dictV_snoc, List.map_append]
  show _ = (uniq (l.map (·.1) ++ [q.1])).map Sum.inr
  rw [uniq_snoc, uniqF]
  by_cases h : q.1 ∈ uniq (l.map (·.1))
  · rw [if_pos h, putK_in _ (by rw [ih]; exact List.mem_map.mpr ⟨_, h, rfl⟩)]
    exact ih
  · rw [if_neg h, putK_out _ (fun z => h (by
      rw [ih] at z
      obtain ⟨a, ha, e⟩ := List.mem_map.mp z
      cases e
      exact ha)), List.map_append, ih]
    rfl
theorem dictV_len (l : List (Str × V)) : (dictV l).length = (uniq (l.map (·.1))).length := by
  have := congrArg List.length (dictV_keys l)
  rw [List.length_map, List.length_map] at this
  exact this
theorem dictV_le (l : List (Str × V)) : (dictV l).length ≤ l.length := by
  rw [dictV_len]
  have := uniq_len (l.map (·.1))
  rw [List.length_map] at this
  exact this
/-- where all entries of a name agree -/
theorem dictV_val (g : Str → V) (l : List (Str × V)) : (∀ q ∈ l, q.2 = g q.1) → ∀ z, valV (dictV l) (.inr z) = if z ∈ l.map (·.1) then some (g z) else none := by
  refine snoc_ind (p := fun l => (∀ q ∈ l, q.2 = g q.1) → ∀ z, valV (dictV l) (.inr z) = if z ∈ l.map (·.1) then some (g z) else none) (fun _ z => by simp [dictV, mergeK, valV]) (fun l q ih h z => ?_) l
  rw [dictV_snoc, valV_put, ih (fun q hq => h q (List.mem_append.mpr (.inl hq))) z]
  simp only [List.map_append, List.mem_append]
  by_cases e : z = q.1
  · subst e
    rw [if_pos rfl, if_pos (.inr (List.mem_singleton.mpr rfl)), h q (List.mem_append.mpr (.inr (List.mem_singleton.mpr rfl)))]
  · rw [if_neg (fun w => e (Sum.inr.inj w))]
    have : (z ∈ l.map (·.1) ∨ z ∈ [q].map (·.1)) ↔ z ∈ l.map (·.1) := ⟨fun w => w.elim id fun w => absurd (List.mem_singleton.mp w) e, .inl⟩
    simp only [this]
theorem uniq_full (l : List Str) : l.length ≤ (uniq l).length → l.Nodup := by
  refine snoc_ind (p := fun l => l.length ≤ (uniq l).length → l.Nodup) (fun _ => List.nodup_nil) (fun l x ih h => ?_) l
  rw [uniq_snoc, List.length_append] at h
  have h1 := uniqF_len (uniq l) x
  have h2 := uniq_len l
  have hx : ¬ x ∈ uniq l := fun hx => by
    rw [uniqF, if_pos hx] at h
    simp only [List.length_cons, List.length_nil] at h
    omega
  simp only [List.length_cons, List.length_nil] at h
  have hl := ih (by omega)
  exact List.nodup_append.mpr ⟨hl, List.nodup_cons.mpr ⟨List.not_mem_nil, List.nodup_nil⟩, fun a ha b hb e => hx ((uniq_mem l x).mpr (by rw [List.mem_singleton.mp hb] at e; exact e ▸ ha))⟩
/-! ### the names of a frame -/
abbrev allN (ps : List (Str × Str)) (ns vs : List Str) : List Str := ps.map (·.1) ++ (uniq (ps.map (·.2)) ++ (ns ++ vs))
def kl (ps : List (Str × Str)) (ns vs : List Str) : List (Str × V) :=
  ps.flatMap (fun q => [(q.1, V.str "array"), (q.2, V.str "length")]) ++ (ns.map (fun z => (z, V.str "position")) ++ vs.map fun z => (z, V.str "value"))
theorem kl_mem (ps : List (Str × Str)) (ns vs : List Str) (z : Str) : z ∈ (kl ps ns vs).map (·.1) ↔ z ∈ allN ps ns vs := by
  unfold kl allN
  simp only [List.map_append, List.mem_append, List.map_map, List.mem_map, List.mem_flatMap, uniq_mem, List.mem_cons, Function.comp]
  constructor
  · rintro (⟨a, ⟨q, hq, h | h | h⟩, rfl⟩ | ⟨a, ha, rfl⟩ | ⟨a, ha, rfl⟩)
    · subst h; exact .inl ⟨q, hq, rfl⟩
    · subst h; exact .inr (.inl ⟨q, hq, rfl⟩)
    · cases h
    · exact .inr (.inr (.inl ha))
    · exact .inr (.inr (.inr ha))
  · rintro (⟨q, hq, rfl⟩ | ⟨q, hq, rfl⟩ | h | h)
    · exact .inl ⟨_, ⟨q, hq, .inl rfl⟩, rfl⟩
    · exact .inl ⟨_, ⟨q, hq, .inr (.inl rfl)⟩, rfl⟩
    · exact .inr (.inl ⟨z, h, rfl⟩)
    · exact .inr (.inr ⟨z, h, rfl⟩)
theorem kinds_count (ps : List (Str × Str)) (ns vs : List Str) : (dictV (kl ps ns vs)).length ≤ (allN ps ns vs).length ∧ ((allN ps ns vs).length ≤ (dictV (kl ps ns vs)).length ↔ (allN ps ns vs).Nodup) := by
  rw [dictV_len]
  have e1 : (uniq ((kl ps ns vs).map (·.1))).length ≤ (uniq (allN ps ns vs)).length := nodup_le _ _ (uniq_nd _) fun x hx => (uniq_mem _ _).mpr ((kl_mem _ _ _ _).mp ((uniq_mem _ _).mp hx))
  have e2 : (uniq (allN ps ns vs)).length ≤ (uniq ((kl ps ns vs).map (·.1))).length := nodup_le _ _ (uniq_nd _) fun x hx => (uniq_mem _ _).mpr ((kl_mem _ _ _ _).mpr ((uniq_mem _ _).mp hx))
  have e3 := uniq_len (allN ps ns vs)
  refine ⟨by omega, fun h => uniq_full _ (by omega), fun h => ?_⟩
  have := nodup_le _ (uniq (allN ps ns vs)) h fun x hx => (uniq_mem _ _).mpr hx
  omega
section
variable {P : Program} {w : World} {K : PySem.W.Frag} {mg : Str → Option Value} {base : Heap}
abbrev N_kinds_of : List Str := ["arrays", "positions", "values", "kinds", "array", "length", "name"]
abbrev P_kinds_of : List Str := ["arrays", "positions", "values"]
theorem sc_kinds_of : FnScope N_kinds_of P_kinds_of (defScope s_kinds_of) := ⟨rfl, rfl, rfl, by decide +kernel, rfl, by decide +kernel, by decide +kernel⟩
def spKinds : Sp := fun vs H Q _ => ∃ (ex : Addr → Prop) (x y z : V) (ps : List (Str × Str)) (ns us : List Str), vs = [x, y, z] ∧ Dv ex H x (.tuple (ps.map pairD)) ∧ Dv ex H y (.tuple (ns.map .str)) ∧ Dv ex H z (.tuple (us.map .str)) ∧ ps.length ≤ 100 ∧ ns.length ≤ 100 ∧ us.length ≤ 100 ∧
  ∀ (D : Addr) (H' : Hp), H D = none → Same H H' → H' D = some (.dK (dictV (kl ps ns us))) → Q (.ref D) H'
theorem flatMap_take (ps : List (Str × Str)) (i : Nat) (h : i < ps.length) : ((ps.take (i + 1)).flatMap fun q => [(q.1, V.str "array"), (q.2, V.str "length")]) = (((ps.take i).flatMap fun q => [(q.1, V.str "array"), (q.2, V.str "length")]) ++ [(ps[i].1, V.str "array")]) ++ [(ps[i].2, V.str "length")] := by
  rw [List.take_succ, List.getElem?_eq_getElem h, List.flatMap_append, List.append_assoc]
  rfl
theorem flat_len (ps : List (Str × Str)) : (ps.flatMap fun q => [(q.1, V.str "array"), (q.2, V.str "length")]).length = 2 * ps.length := by
  induction ps with
  | nil => rfl
  | cons q r ih => rw [List.flatMap_cons, List.length_append, ih]; simp; omega
theorem ok_kinds (T : Bt mg) (h : Has K mg "_kinds_of" s_kinds_of) : Ca P w K mg base 1 "_kinds_of" P_kinds_of spKinds := by
  refine cal_of h sc_kinds_of (fun _ _ _ _ _ _ us hl => match us, hl with | [_, _, _], _ => rfl) (fun vs H Q E h => ?_) (fun f cdv A outer s H vs Q E hr h => ?_)
  · obtain ⟨ex, x, y, z, ps, ns, us, rfl, _⟩ := h
    rfl
  · obtain ⟨ex, x, y, z, ps, ns, us, rfl, dx, dy, dz, l1, l2, l3, k⟩ := h
    obtain ⟨a1, x1, rfl, t1, d1⟩ := dx.tupI
    obtain ⟨a2, x2, rfl, t2, d2⟩ := dy.tupI
    obtain ⟨a3, x3, rfl, t3, d3⟩ := dz.tupI
    have n1 := d1.len
    have n2 := d2.len
    have n3 := d3.len
    rw [List.length_map] at n1 n2 n3
    refine ⟨_, (pss_cons (ps_set (i := 3) sc_kinds_of.nd rfl (.inl rfl) pe_dnewK)
      (pss_cons (ps_for PassesOwn.never rfl (pi_tup (pv 0)) (pg_tup (by rfl) (pgs_cons (pg_name (i := 4) sc_kinds_of.nd rfl (.inl rfl)) (pgs_cons (pg_name (i := 5) sc_kinds_of.nd rfl (.inl rfl)) pgs_nil)))
        (pss_cons (ps_dput (hu_of hr) (pv 3) (pv 4) pe_str rfl)
        (pss_one (ps_dput (hu_of hr) (pv 3) (pv 5) pe_str rfl))))
      (pss_cons (ps_for PassesOwn.never rfl (pi_tup (pv 1)) (pg_name (i := 6) sc_kinds_of.nd rfl (.inl rfl))
        (pss_one (ps_dput (hu_of hr) (pv 3) (pv 6) pe_str rfl)))
      (pss_cons (ps_for PassesOwn.never rfl (pi_tup (pv 2)) (pg_name (i := 6) sc_kinds_of.nd rfl (.inl rfl))
        (pss_one (ps_dput (hu_of hr) (pv 3) (pv 6) pe_str rfl)))
      (pss_one (ps_ret (pv 3))))))), ?_⟩
    refine fun D hD => ?_
    have kt : ∀ {Hx : Hp} {a : Addr} {xs : List V}, Same H Hx → TupF H a xs → SqT K Hx a xs := fun sm t => ((Kp.same (ex := ex) sm).tup t).sq
    have up : ∀ {Hx : Hp} {o : HO}, Same H Hx → Same H (upd Hx D o) := fun {Hx o} sm b u e => by
      rw [upd_ne (ne_of_none e hD)]
      exact sm b u e
    have room : ∀ n : Nat, n ≤ 400 → n < sizeLine := fun n h => by rw [sizeLine_eq]; omega
    refine ⟨_, rfl, a1, rfl, ⟨_, kt (Same.upd hD) t1⟩, for_it (walk_tup (K := K) (a := a1) (xs := x1)) (fun i σ Hx => ∃ (v4 v5 : Option V), σ = [some (.ref a1), some (.ref a2), some (.ref a3), some (.ref D), v4, v5, none] ∧ Same H Hx ∧ Hx D = some (.dK (dictV ((ps.take i).flatMap fun q => [(q.1, V.str "array"), (q.2, V.str "length")]))))
      ⟨none, none, rfl, Same.upd hD, upd_same⟩ (fun i σ Hx _ ⟨_, _, _, sm, _⟩ => kt sm t1) ?_ ?_⟩
    · rintro i x σ Hx H' hi ⟨v4, v5, rfl, sm, hDx⟩ ⟨rfl, hx⟩
      obtain ⟨e, he, dve⟩ := d1.get hx
      have hi' : i < ps.length := by omega
      rw [List.getElem?_map, List.getElem?_eq_getElem hi'] at he
      cases he
      obtain ⟨b, rfl, hb⟩ := dve.pairI
      have z1 := dictV_le ((ps.take i).flatMap fun q => [(q.1, V.str "array"), (q.2, V.str "length")])
      rw [flat_len, List.length_take] at z1
      refine ⟨b, _, rfl, kt sm hb, rfl, _, _, rfl, _, _, rfl, rfl, ?_⟩
      refine ⟨_, rfl, _, rfl, D, _, rfl, DPut.k (k := Sum.inr _) hDx (room _ (by omega)), ?_⟩
      have z2 := putK_len (dictV ((ps.take i).flatMap fun q => [(q.1, V.str "array"), (q.2, V.str "length")])) (Sum.inr ps[i].1) (V.str "array")
      refine ⟨_, rfl, _, rfl, D, _, rfl, DPut.k (k := Sum.inr _) upd_same (room _ (by omega)), ?_⟩
      refine ⟨_, _, rfl, up (up sm), ?_⟩
      rw [upd_same, flatMap_take ps i hi', dictV_snoc, dictV_snoc]
    · rintro σ Hx ⟨v4, v5, rfl, sm, hDx⟩
      rw [n1, List.take_length] at hDx
      refine ⟨_, rfl, a2, rfl, ⟨_, kt sm t2⟩, for_it (walk_tup (K := K) (a := a2) (xs := x2)) (fun i σ Hx => ∃ (v6 : Option V), σ = [some (.ref a1), some (.ref a2), some (.ref a3), some (.ref D), v4, v5, v6] ∧ Same H Hx ∧
        Hx D = some (.dK (dictV ((ps.flatMap fun q => [(q.1, V.str "array"), (q.2, V.str "length")]) ++ (ns.map fun z => (z, V.str "position")).take i))))
        ⟨none, rfl, sm, by rw [hDx, List.take_zero, List.append_nil]⟩ (fun i σ Hx _ ⟨_, _, sm, _⟩ => kt sm t2) ?_ ?_⟩
      · rintro i x σ Hx H' hi ⟨v6, rfl, sm, hDx⟩ ⟨rfl, hx⟩
        obtain ⟨e, he, dve⟩ := d2.get hx
        have hi' : i < ns.length := by omega
        rw [List.getElem?_map, List.getElem?_eq_getElem hi'] at he
        cases he
        cases dve.strI
        have z1 := dictV_le ((ps.flatMap fun q => [(q.1, V.str "array"), (q.2, V.str "length")]) ++ (ns.map fun z => (z, V.str "position")).take i)
        rw [List.length_append, flat_len, List.length_take, List.length_map] at z1
        refine ⟨_, rfl, _, rfl, D, _, rfl, DPut.k (k := Sum.inr _) hDx (room _ (by omega)), _, rfl, up sm, ?_⟩
        rw [upd_same, List.take_succ, List.getElem?_map, List.getElem?_eq_getElem hi']
        show _ = some (HO.dK (dictV (_ ++ (_ ++ [(ns[i], V.str "position")]))))
        rw [← List.append_assoc, dictV_snoc]
      · rintro σ Hx ⟨v6, rfl, sm, hDx⟩
        rw [n2, List.take_of_length_le (by rw [List.length_map]; omega)] at hDx
        refine ⟨_, rfl, a3, rfl, ⟨_, kt sm t3⟩, for_it (walk_tup (K := K) (a := a3) (xs := x3)) (fun i σ Hx => ∃ (v6 : Option V), σ = [some (.ref a1), some (.ref a2), some (.ref a3), some (.ref D), v4, v5, v6] ∧ Same H Hx ∧
          Hx D = some (.dK (dictV ((ps.flatMap fun q => [(q.1, V.str "array"), (q.2, V.str "length")]) ++ (ns.map (fun z => (z, V.str "position")) ++ (us.map fun z => (z, V.str "value")).take i)))))
          ⟨v6, rfl, sm, by rw [hDx, List.take_zero, List.append_nil]⟩ (fun i σ Hx _ ⟨_, _, sm, _⟩ => kt sm t3) ?_ ?_⟩
        · rintro i x σ Hx H' hi ⟨v6, rfl, sm, hDx⟩ ⟨rfl, hx⟩
          obtain ⟨e, he, dve⟩ := d3.get hx
          have hi' : i < us.length := by omega
          rw [List.getElem?_map, List.getElem?_eq_getElem hi'] at he
          cases he
          cases dve.strI
          have z1 := dictV_le ((ps.flatMap fun q => [(q.1, V.str "array"), (q.2, V.str "length")]) ++ (ns.map (fun z => (z, V.str "position")) ++ (us.map fun z => (z, V.str "value")).take i))
          rw [List.length_append, flat_len, List.length_append, List.length_take, List.length_map, List.length_map] at z1
          refine ⟨_, rfl, _, rfl, D, _, rfl, DPut.k (k := Sum.inr _) hDx (room _ (by omega)), _, rfl, up sm, ?_⟩
          rw [upd_same, List.take_succ, List.getElem?_map, List.getElem?_eq_getElem hi']
          have := dictV_snoc ((ps.flatMap fun q => [(q.1, V.str "array"), (q.2, V.str "length")]) ++ (ns.map (fun z => (z, V.str "position")) ++ (us.map fun z => (z, V.str "value")).take i)) (us[i], V.str "value")
          rw [List.append_assoc, List.append_assoc] at this
          exact congrArg (fun d => some (HO.dK d)) this.symm
        · rintro σ Hx ⟨v6, rfl, sm, hDx⟩
          rw [n3, List.take_of_length_le (by rw [List.length_map]; omega)] at hDx
          exact ⟨_, rfl, k D Hx hD sm hDx⟩
end
end Kx
namespace Kx
open PySem PySem.Spec PyProof.Rows L2
section
variable {P : Program} {w : World} {K : PySem.W.Frag} {mg : Str → Option Value} {base : Heap}
/-! ### words with blanks -/
def blanks (zs : List Str) : Str := if zs.isEmpty = true then "-" else Txt.join " " zs
theorem joinL_le (S : List Nat) : ∀ ps : List (List Nat), (TL.joinL S ps).length ≤ (ps.map (·.length)).sum + ps.length * S.length
  | [] => Nat.zero_le _
  | [p] => by simp [TL.joinL]
  | p :: q :: r => by
    have := joinL_le S (q :: r)
    show (p ++ (S ++ TL.joinL S (q :: r))).length ≤ _
    rw [List.length_append, List.length_append, List.map_cons, List.sum_cons, List.length_cons, Nat.succ_mul]
    omega
theorem joinL_ge (S : List Nat) (p : List Nat) : ∀ r : List (List Nat), p.length ≤ (TL.joinL S (p :: r)).length
  | [] => Nat.le_refl _
  | q :: r => by
    show p.length ≤ (p ++ (S ++ TL.joinL S (q :: r))).length
    rw [List.length_append]; omega
theorem tl_len (y : Str) : (TL.tl y).length = y.length := by
  show y.cps.toList.length = _
  rw [Array.length_toList]; rfl
theorem join_bound (zs : List Str) : (Txt.join " " zs).length ≤ (zs.map (·.length)).sum + zs.length := by
  rw [TL.join_eq, ← tl_len, TL.tl_join]
  have := joinL_le (TL.tl " ") (zs.map TL.tl)
  rw [List.map_map, List.length_map] at this
  have e : (zs.map ((fun x : List Nat => x.length) ∘ TL.tl)) = zs.map (·.length) := List.map_congr_left fun z _ => tl_len z
  rw [e, tl_len, show (" " : Str).length = 1 from by decide +kernel] at this
  omega
theorem join_pos {z : Str} (r : List Str) (h : 1 ≤ z.length) : 1 ≤ (Txt.join " " (z :: r)).length := by
  rw [TL.join_eq, ← tl_len, TL.tl_join, List.map_cons]
  have := joinL_ge (TL.tl " ") (TL.tl z) (r.map TL.tl)
  rw [tl_len] at this
  omega
theorem sum_le (zs : List Str) (n : Nat) (h : ∀ z ∈ zs, z.length ≤ n) : (zs.map (·.length)).sum ≤ zs.length * n := by
  induction zs with
  | nil => exact Nat.zero_le _
  | cons z r ih =>
    have a := h z List.mem_cons_self
    have b := ih fun y hy => h y (List.mem_cons_of_mem _ hy)
    rw [List.map_cons, List.sum_cons, List.length_cons, Nat.succ_mul]
    omega
abbrev N_with_blanks : List Str := ["words"]
abbrev P_with_blanks : List Str := ["words"]
theorem sc_with_blanks : FnScope N_with_blanks P_with_blanks (defScope s_with_blanks) := ⟨rfl, rfl, rfl, by decide +kernel, rfl, by decide +kernel, by decide +kernel⟩
def spBlanks (K : PySem.W.Frag) : Sp := fun vs H Q _ => ∃ (a : Addr) (zs : List Str), vs = [.ref a] ∧ (SqL K H a (zs.map V.str) ∨ SqT K H a (zs.map V.str)) ∧ zs.length ≤ 1000 ∧ (∀ z ∈ zs, 1 ≤ z.length ∧ z.length ≤ 1000) ∧ Q (.str (blanks zs)) H
theorem ok_blanks (T : Bt mg) (h : Has K mg "_with_blanks" s_with_blanks) : Ca P w K mg base 1 "_with_blanks" P_with_blanks (spBlanks K) := by
  refine cal_of h sc_with_blanks (fun _ _ _ _ _ _ us hl => match us, hl with | [_], _ => rfl) (fun vs H Q E h => ?_) (fun f cdv A outer s H vs Q E hr h => ?_)
  · obtain ⟨a, zs, rfl, _⟩ := h
    rfl
  · obtain ⟨a, zs, rfl, hq, hl, hz, k⟩ := h
    refine ⟨_, (pss_one (ps_ret (pe_orT (pe_join pe_str (pv 0)) (pe_one pe_str)))), ?_⟩
    have b1 := sum_le zs 1000 fun z hz' => (hz z hz').2
    have b2 := join_bound zs
    have b3 : zs.length * 1000 ≤ 1000 * 1000 := Nat.mul_le_mul_right _ hl
    refine ⟨⟨_, rfl⟩, _, rfl, _, a, zs, rfl, rfl, hq, ?_, _, ⟨by rw [sizeLine_eq]; omega, rfl⟩, ?_⟩
    · show (zs.map (·.length)).sum + zs.length * (" " : Str).length ≤ 16777216
      rw [show (" " : Str).length = 1 from by decide +kernel]
      omega
    · cases zs with
      | nil =>
        have e : (((Txt.join " " ([] : List Str)).length : Int) != 0) = false := by
          have : (Txt.join " " ([] : List Str)).length = 0 := by
            have := join_bound []
            simp at this
            exact this
          rw [this]; rfl
        rw [e]
        exact iteF k
      | cons z r =>
        have := join_pos r (hz z List.mem_cons_self).1
        have e : (((Txt.join " " (z :: r)).length : Int) != 0) = true := by
          rw [bne_iff_ne]; omega
        rw [e]
        exact iteT k
/-! ### frames -/
structure Fx (K : PySem.W.Frag) (mg : Str → Option Value) (C : Addr) : Prop where
  cl : Cls K C
  n1 : NoAttr K C "_arrays"
  n2 : NoAttr K C "_positions"
  n3 : NoAttr K C "_amounts"
  n4 : NoAttr K C "_length_by_array"
  n5 : NoAttr K C "_lengths"
  n6 : NoAttr K C "_kinds"
  mgC : mg "Frame" = some (.ref C)
structure Ex (K : PySem.W.Frag) (mg : Str → Option Value) (I : Addr) : Prop where
  gP : mg "InvalidFrame" = some (.ref I)
  xP : PySem.W.excIn K I [.type "ValueError", .type "Exception", .type "BaseException", .type "object"] "ValueError.__new__" = true
  kP : PySem.W.keepIn K (.ref I) = true
  bP : PySem.W.subIn K (.ref I) (.type "BaseException") = some true
  tP : PySem.W.typeIn K (.ref I) = some (.type "type")
def flds (va vp vv : V) (LB LT KD : Addr) : List (Str × V) := [("_arrays", va), ("_positions", vp), ("_amounts", vv), ("_length_by_array", .ref LB), ("_lengths", .ref LT), ("_kinds", .ref KD)]
theorem putF_new {k : Str} {v : V} : ∀ {fs : List (Str × V)}, (∀ q ∈ fs, ¬ q.1 = k) → putF k v fs = fs ++ [(k, v)]
  | [], _ => rfl
  | q :: r, h => by
    have h1 := h q List.mem_cons_self
    have h2 := putF_new (v := v) (fs := r) fun z hz => h z (List.mem_cons_of_mem _ hz)
    show (if q.1 = k then _ else _) = _
    rw [if_neg h1, h2]
    rfl
/-- a frame stands at x -/
structure FrameAt (C : Addr) (H : Hp) (x : Addr) (va vp vv : V) (ps : List (Str × Str)) (ns us : List Str) : Prop where
  ob : ∃ dx LB LT KD, H x = some (.ins C dx (flds va vp vv LB LT KD)) ∧ H LB = some (.dK (dictV (ps.map fun q => (q.1, V.str q.2)))) ∧ TupF H LT ((uniq (ps.map (·.2))).map V.str) ∧ H KD = some (.dK (dictV (kl ps ns us)))
  da : Dv (fun _ => True) H va (.tuple (ps.map pairD))
  dp : Dv (fun _ => True) H vp (.tuple (ns.map .str))
  dv : Dv (fun _ => True) H vv (.tuple (us.map .str))
  nd : (allN ps ns us).Nodup
  l1 : ps.length ≤ 12
  l2 : ns.length ≤ 6
  l3 : us.length ≤ 6
  ok : ∀ z ∈ ps.map (·.1) ++ (ps.map (·.2) ++ (ns ++ us)), NameS z
end
end Kx
namespace Kx
open PySem PySem.Spec PyProof.Rows L2
section
variable {ex : Addr → Prop} {H H' : Hp}
mutual
theorem Dv.offG {n : Addr} (h1 : ∀ xs, H n ≠ some (.lst xs)) (h2 : ∀ kvs, H n ≠ some (.dK kvs)) : ∀ {v : V} {d : PyData}, Dv ex H v d → Dv (fun a => ex a ∨ a = n) H v d
  | _, _, .non => .non
  | _, _, .bl b => .bl b
  | _, _, .int i => .int i
  | _, _, .str x => .str x
  | _, _, .lst m e l => .lst (fun z => z.elim m (fun q => h1 _ (q ▸ e))) e (DvL.offG h1 h2 l)
  | _, _, .tup d e l => .tup d e (DvL.offG h1 h2 l)
  | _, _, .dic m e l => .dic (fun z => z.elim m (fun q => h2 _ (q ▸ e))) e (DvK.offG h1 h2 l)
theorem DvL.offG {n : Addr} (h1 : ∀ xs, H n ≠ some (.lst xs)) (h2 : ∀ kvs, H n ≠ some (.dK kvs)) : ∀ {v : List V} {d : List PyData}, DvL ex H v d → DvL (fun a => ex a ∨ a = n) H v d
  | _, _, .nil => .nil
  | _, _, .cons a b => .cons (Dv.offG h1 h2 a) (DvL.offG h1 h2 b)
theorem DvK.offG {n : Addr} (h1 : ∀ xs, H n ≠ some (.lst xs)) (h2 : ∀ kvs, H n ≠ some (.dK kvs)) : ∀ {v : List (Key × V)} {d : List (PyData × PyData)}, DvK ex H v d → DvK (fun a => ex a ∨ a = n) H v d
  | _, _, .nil => .nil
  | _, _, .cons a b => .cons (Dv.offG h1 h2 a) (DvK.offG h1 h2 b)
end
theorem Kp.ins {p C dx : Addr} {fs : List (Str × V)} {o : HO} (h : ex p) (hi : H p = some (.ins C dx fs)) : Kp ex H (upd H p o) := fun a u e n => by
  have : a ≠ p := fun z => by
    subst z
    obtain ⟨ob, w, rfl⟩ := n h
    rw [hi] at e
    cases e
  rw [upd_ne this]; exact e
theorem Dv.ins {n C dx : Addr} {fs : List (Str × V)} (hi : H n = some (.ins C dx fs)) {v : V} {d : PyData} (h : Dv ex H v d) : Dv (fun a => ex a ∨ a = n) H v d :=
  h.offG (fun xs e => by rw [hi] at e; cases e) (fun kvs e => by rw [hi] at e; cases e)
theorem DvL.strAny {ey : Addr → Prop} : ∀ {vs : List V} {ns : List Str}, DvL ex H vs (ns.map .str) → DvL ey H vs (ns.map .str)
  | _, [], .nil => .nil
  | _, z :: r, .cons a b => .cons (by cases a; exact .str z) (DvL.strAny b)
theorem Dv.strsAny {ey : Addr → Prop} {v : V} {ns : List Str} (h : Dv ex H v (.tuple (ns.map .str))) : Dv ey H v (.tuple (ns.map .str)) := by
  obtain ⟨a, xs, rfl, t, l⟩ := h.tupI
  exact Dv.tupM t l.strAny
theorem DvL.pairAny {ey : Addr → Prop} : ∀ {vs : List V} {ps : List (Str × Str)}, DvL ex H vs (ps.map pairD) → DvL ey H vs (ps.map pairD)
  | _, [], .nil => .nil
  | _, q :: r, .cons a b => .cons (by
      obtain ⟨c, rfl, t⟩ := Dv.pairI a
      exact Dv.tupM t (.cons (.str _) (.cons (.str _) .nil))) (DvL.pairAny b)
theorem Dv.pairsAny {ey : Addr → Prop} {v : V} {ps : List (Str × Str)} (h : Dv ex H v (.tuple (ps.map pairD))) : Dv ey H v (.tuple (ps.map pairD)) := by
  obtain ⟨a, xs, rfl, t, l⟩ := h.tupI
  exact Dv.tupM t l.pairAny
end
theorem DvL.paired {K : PySem.W.Frag} {ex : Addr → Prop} {H : Hp} : ∀ {vs : List V} {ps : List (Str × Str)}, DvL ex H vs (ps.map pairD) → ∃ as : List Addr, vs = as.map V.ref ∧ ∀ {ey : Addr → Prop} (G : Hp), Kp ey H G → Paired (fun p kv => SqT K G p [kV kv.1, kv.2]) as (ps.map fun q => ((Sum.inr q.1 : Key), V.str q.2))
  | _, [], .nil => ⟨[], rfl, fun _ _ => .nil⟩
  | _, q :: r, .cons a b => by
    obtain ⟨as, rfl, h⟩ := DvL.paired (K := K) b
    obtain ⟨c, rfl, t⟩ := Dv.pairI a
    exact ⟨c :: as, rfl, fun G k => .cons (k.tup t).sq (h G k)⟩
/-! ### which parts are right -/
def pairOf : PyData → Option (Str × Str)
  | .tuple [.str a, .str b] => some (a, b)
  | _ => none
def strOf : PyData → Option Str
  | .str a => some a
  | _ => none
def psOf : PyData → List (Str × Str)
  | .tuple xs => xs.filterMap pairOf
  | _ => []
def nsOf : PyData → List Str
  | .tuple xs => xs.filterMap strOf
  | _ => []
def frameD (da dp dv : PyData) : Bool := (arrsD da && (namesD 6 dp && namesD 6 dv)) && decide (allN (psOf da) (nsOf dp) (nsOf dv)).Nodup
theorem nameD_str {d : PyData} (h : nameD d = true) : ∃ z, d = .str z ∧ NameS z := by
  cases d with
  | str z => exact ⟨z, rfl, of_decide_eq_true h⟩
  | _ => cases h
theorem strs_all : ∀ {xs : List PyData}, xs.all nameD = true → xs = (xs.filterMap strOf).map .str ∧ ∀ z ∈ xs.filterMap strOf, NameS z
  | [], _ => ⟨rfl, fun z hz => nomatch hz⟩
  | x :: r, h => by
    rw [List.all_cons, Bool.and_eq_true] at h
    obtain ⟨z, rfl, hz⟩ := nameD_str h.1
    obtain ⟨e, h2⟩ := strs_all h.2
    have e1 : (PyData.str z :: r).filterMap strOf = z :: r.filterMap strOf := rfl
    rw [e1]
    refine ⟨by rw [List.map_cons, ← e], fun y hy => ?_⟩
    rcases List.mem_cons.mp hy with rfl | hy
    · exact hz
    · exact h2 y hy
theorem names_true {m : Nat} {d : PyData} (h : namesD m d = true) : d = .tuple ((nsOf d).map .str) ∧ (nsOf d).length ≤ m ∧ ∀ z ∈ nsOf d, NameS z := by
  cases d with
  | tuple xs =>
    have h' : (decide (xs.length ≤ m) && xs.all nameD) = true := h
    rw [Bool.and_eq_true] at h'
    obtain ⟨e, h2⟩ := strs_all h'.2
    refine ⟨congrArg PyData.tuple e, ?_, h2⟩
    have := of_decide_eq_true h'.1
    have l := congrArg List.length e
    rw [List.length_map] at l
    show (xs.filterMap strOf).length ≤ m
    omega
  | _ => cases h
theorem pair_true {d : PyData} (h : pairOkD d = true) : ∃ q : Str × Str, d = pairD q ∧ NameS q.1 ∧ NameS q.2 := by
  cases d with
  | tuple xs =>
    rw [pairOkD_eq, Bool.and_eq_true] at h
    match xs, h with
    | [a, b], h =>
      have h2 := h.2
      rw [List.all_cons, List.all_cons, Bool.and_eq_true, Bool.and_eq_true] at h2
      obtain ⟨y, rfl, hy⟩ := nameD_str h2.1
      obtain ⟨z, rfl, hz⟩ := nameD_str h2.2.1
      exact ⟨(y, z), rfl, hy, hz⟩
    | [], h => exact absurd h.1 (by decide)
    | [a], h => exact absurd h.1 (by simp)
    | a :: b :: c :: r, h => exact absurd h.1 (by simp)
  | _ => cases h
theorem pairs_all : ∀ {xs : List PyData}, xs.all pairOkD = true → xs = (xs.filterMap pairOf).map pairD ∧ ∀ q ∈ xs.filterMap pairOf, NameS q.1 ∧ NameS q.2
  | [], _ => ⟨rfl, fun z hz => nomatch hz⟩
  | x :: r, h => by
    rw [List.all_cons, Bool.and_eq_true] at h
    obtain ⟨q, rfl, hq⟩ := pair_true h.1
    obtain ⟨e, h2⟩ := pairs_all h.2
    have e1 : (pairD q :: r).filterMap pairOf = q :: r.filterMap pairOf := rfl
    rw [e1]
    refine ⟨by rw [List.map_cons, ← e], fun y hy => ?_⟩
    rcases List.mem_cons.mp hy with rfl | hy
    · exact hq
    · exact h2 y hy
theorem arrs_true {d : PyData} (h : arrsD d = true) : d = .tuple ((psOf d).map pairD) ∧ (psOf d).length ≤ 12 ∧ ∀ q ∈ psOf d, NameS q.1 ∧ NameS q.2 := by
  cases d with
  | tuple xs =>
    have h' : (decide (xs.length ≤ 12) && xs.all pairOkD) = true := h
    rw [Bool.and_eq_true] at h'
    obtain ⟨e, h2⟩ := pairs_all h'.2
    refine ⟨congrArg PyData.tuple e, ?_, h2⟩
    have := of_decide_eq_true h'.1
    have l := congrArg List.length e
    rw [List.length_map] at l
    show (xs.filterMap pairOf).length ≤ 12
    omega
  | _ => cases h
section
variable {P : Program} {w : World} {K : PySem.W.Frag} {mg : Str → Option Value} {base : Heap}
abbrev N_Frame_init : List Str := ["self", "arrays", "positions", "values", "_", "length"]
abbrev P_Frame_init : List Str := ["self", "arrays", "positions", "values"]
theorem sc_Frame_init : FnScope N_Frame_init P_Frame_init (defScope s_Frame_init) := ⟨rfl, rfl, rfl, by decide +kernel, rfl, by decide +kernel, by decide +kernel⟩
abbrev KpX (x : Addr) (H H' : Hp) : Prop := Kp (fun a => a = x) H H'
theorem pf1 {a : V} : putF "_arrays" a [] = ([("_arrays", a)] : List (Str × V)) := putF_new (fs := ([] : List (Str × V))) (fun q hq => by cases hq)
theorem pf2 {a b : V} : putF "_positions" b [("_arrays", a)] = ([("_arrays", a), ("_positions", b)] : List (Str × V)) := putF_new (fs := ([("_arrays", a)] : List (Str × V))) (fun q hq => by simp only [List.mem_cons, List.not_mem_nil, or_false] at hq; rcases hq with rfl <;> (dsimp only; decide +kernel))
theorem pf3 {a b c : V} : putF "_amounts" c [("_arrays", a), ("_positions", b)] = ([("_arrays", a), ("_positions", b), ("_amounts", c)] : List (Str × V)) := putF_new (fs := ([("_arrays", a), ("_positions", b)] : List (Str × V))) (fun q hq => by simp only [List.mem_cons, List.not_mem_nil, or_false] at hq; rcases hq with rfl | rfl <;> (dsimp only; decide +kernel))
theorem pf4 {a b c d : V} : putF "_length_by_array" d [("_arrays", a), ("_positions", b), ("_amounts", c)] = ([("_arrays", a), ("_positions", b), ("_amounts", c), ("_length_by_array", d)] : List (Str × V)) := putF_new (fs := ([("_arrays", a), ("_positions", b), ("_amounts", c)] : List (Str × V))) (fun q hq => by simp only [List.mem_cons, List.not_mem_nil, or_false] at hq; rcases hq with rfl | rfl | rfl <;> (dsimp only; decide +kernel))
theorem pf5 {a b c d e : V} : putF "_lengths" e [("_arrays", a), ("_positions", b), ("_amounts", c), ("_length_by_array", d)] = ([("_arrays", a), ("_positions", b), ("_amounts", c), ("_length_by_array", d), ("_lengths", e)] : List (Str × V)) := putF_new (fs := ([("_arrays", a), ("_positions", b), ("_amounts", c), ("_length_by_array", d)] : List (Str × V))) (fun q hq => by simp only [List.mem_cons, List.not_mem_nil, or_false] at hq; rcases hq with rfl | rfl | rfl | rfl <;> (dsimp only; decide +kernel))
theorem pf6 {a b c d e f : V} : putF "_kinds" f [("_arrays", a), ("_positions", b), ("_amounts", c), ("_length_by_array", d), ("_lengths", e)] = ([("_arrays", a), ("_positions", b), ("_amounts", c), ("_length_by_array", d), ("_lengths", e), ("_kinds", f)] : List (Str × V)) := putF_new (fs := ([("_arrays", a), ("_positions", b), ("_amounts", c), ("_length_by_array", d), ("_lengths", e)] : List (Str × V))) (fun q hq => by simp only [List.mem_cons, List.not_mem_nil, or_false] at hq; rcases hq with rfl | rfl | rfl | rfl | rfl <;> (dsimp only; decide +kernel))
def spInit (C I : Addr) : Sp := fun vs H Q E => ∃ (x dx : Addr) (va vp vv : V) (da dp dv : PyData) (ex : Addr → Prop), vs = [.ref x, va, vp, vv] ∧ H x = some (.ins C dx []) ∧ Dv ex H va da ∧ Dv ex H vp dp ∧ Dv ex H vv dv ∧ cost da ≤ 8000000 ∧ cost dp ≤ 8000000 ∧ cost dv ≤ 8000000 ∧
  (frameD da dp dv = true → ∀ H', FrameAt C H' x va vp vv (psOf da) (nsOf dp) (nsOf dv) → KpX x H H' → Q .non H') ∧
  (frameD da dp dv = false → ∀ H', KpX x H H' → E (.ref I) none H')
theorem ok_init (T : Bt mg) (Co_ : Co mg) {C I f : Addr} {fd : FuncData} (F : FunD K "__init__" "Frame.__init__" (defArgs s_Frame_init) (defBody s_Frame_init) (defScope s_Frame_init) [] [] f fd) (X : Fx K mg C) (XI : Ex K mg I)
    (C1 : Ca P w K mg base 4 "_are_arrays" P_are_arrays (spJudge arrsD)) (C2 : Ca P w K mg base 2 "_are_names" P_are_names spAreNames) (C3 : Ca P w K mg base 1 "_kinds_of" P_kinds_of spKinds) : FnOk P w K mg base (L2N.CX P w) 5 f fd P_Frame_init (spInit C I) := by
  obtain ⟨_, gP_⟩ := Co_.MAX_POSITIONS
  obtain ⟨_, gV_⟩ := Co_.MAX_VALUES
  obtain ⟨_, _, c__are_arrays⟩ := C1
  obtain ⟨_, _, c__are_names⟩ := C2
  obtain ⟨_, _, c__kinds_of⟩ := C3
  obtain ⟨gP, xP, kP, bP, tP⟩ := XI
  refine F.ok sc_Frame_init (fun vs H Q E h => ?_) (fun cdv A outer s H vs Q E hr h => ?_)
  · obtain ⟨x, dx, va, vp, vv, da, dp, dv, ex, rfl, _⟩ := h
    rfl
  · obtain ⟨x, dx, va, vp, vv, da, dp, dv, ex, rfl, hx, ha, hp, hv, c1, c2, c3, kg, kb⟩ := h
    refine ⟨_, (pss_cons (ps_if (PW.pt (pw_or (pt_not (pt_val (pe_call c__are_arrays.1 (hr.mono (by decide)) rfl c__are_arrays.2.1 c__are_arrays.2.2.1 c__are_arrays.2.2.2 .nil pass0 (pa_cons (pv 1) pa_nil)))) (pw_or (pt_not (pt_val (pe_call c__are_names.1 (hr.mono (by decide)) rfl c__are_names.2.1 c__are_names.2.2.1 c__are_names.2.2.2 .nil pass0 (pa_cons (pv 2) (pa_cons (pe_glob (v := .int 6) rfl gP_ ⟨_, rfl⟩) pa_nil))))) (pw_or1 (pt_not (pt_val (pe_call c__are_names.1 (hr.mono (by decide)) rfl c__are_names.2.1 c__are_names.2.2.1 c__are_names.2.2.2 .nil pass0 (pa_cons (pv 3) (pa_cons (pe_glob (v := .int 6) rfl gV_ ⟨_, rfl⟩) pa_nil))))))))) (pss_one (L2N.ps_raise rfl (L2N.takes_of rfl rfl rfl rfl) (L2N.pmk_own PySem.F.excBase_ValueError xP gP kP (raises_own bP tP) rfl))) pss_nil)
      (pss_cons (ps_fld (pv 0) (pv 1) rfl)
      (pss_cons (ps_fld (pv 0) (pv 2) rfl)
      (pss_cons (ps_fld (pv 0) (pv 3) rfl)
      (pss_cons (ps_fld (pv 0) (pe_callTy (call_dictT rfl) (by rfl) T.dict (by decide +kernel) (pa_cons (pv 1) pa_nil)) rfl)
      (pss_cons (ps_fld (pv 0) (pe_callTy (call_tupleDF rfl) (by rfl) T.tuple (by decide +kernel) (pa_cons (pe_dc (own := [("_", 4), ("length", 5)]) (g := (gTup K 2 (gCons (gName 4) (gCons (gName 5) gNil)))) (tt := tYes) (by rfl) sc_Frame_init.nd (pi_tup (pv 1)) (blkOk_by (own := [("_", 4), ("length", 5)]) (N := ["self", "arrays", "positions", "values", "_", "length"]) (sc := defScope s_Frame_init) (by decide +kernel)) (fun _ _ _ _ _ => pg_tup (by rfl) (pgs_cons (pg_name (i := 4) sc_Frame_init.nd rfl (Or.inl rfl)) (pgs_cons (pg_name (i := 5) sc_Frame_init.nd rfl (Or.inl rfl)) pgs_nil))) (fun _ _ _ _ _ => pts_nil) (fun _ _ _ _ _ => (pv 5)) (fun _ _ _ _ _ => pe_bl)) pa_nil)) rfl)
      (pss_cons (ps_fld (pv 0) (pe_call c__kinds_of.1 (hr.mono (by decide)) rfl c__kinds_of.2.1 c__kinds_of.2.2.1 c__kinds_of.2.2.2 .nil pass0 (pa_cons (pv 1) (pa_cons (pv 2) (pa_cons (pv 3) pa_nil)))) rfl)
      (pss_one (ps_if (pt_cmpR op_lt (pe_callB call_lenD (by rfl) T.len (by decide +kernel) (pa_cons (pe_fld (pv 0) rfl) pa_nil)) (pe_op op_add (pe_op op_add (pe_op op_add (pe_callB call_len (by rfl) T.len (by decide +kernel) (pa_cons (pv 1) pa_nil)) (pe_callB call_len (by rfl) T.len (by decide +kernel) (pa_cons (pe_fld (pv 0) rfl) pa_nil))) (pe_callB call_len (by rfl) T.len (by decide +kernel) (pa_cons (pv 2) pa_nil))) (pe_callB call_len (by rfl) T.len (by decide +kernel) (pa_cons (pv 3) pa_nil))) (nomark _)) (pss_one (L2N.ps_raise rfl (L2N.takes_of rfl rfl rfl rfl) (L2N.pmk_own PySem.F.excBase_ValueError xP gP kP (raises_own bP tP) rfl))) pss_nil))))))))), ?_⟩
    have s1 : ∀ {H1}, Same H H1 → H1 x = some (.ins C dx []) := fun sm => sm _ _ hx
    -- the three tests
    have bad : ∀ {H1 : Hp}, Same H H1 → frameD da dp dv = false → E (.ref I) none H1 := fun sm z => kb z _ (Kp.same sm)
    refine ⟨_, rfl, ex, va, da, rfl, ha, c1, fun H1 m1 => ?_⟩
    cases e1 : arrsD da with
    | false => exact ⟨_, rfl, iteT (iteT (bad m1 (by unfold frameD; rw [e1]; rfl)))⟩
    | true =>
      refine ⟨_, rfl, iteF ⟨_, rfl, ex, _, dp, 6, rfl, hp.kp (Kp.same m1), c2, fun H2 m2 => ?_⟩⟩
      cases e2 : namesD 6 dp with
      | false => exact ⟨_, rfl, iteT (iteT (bad (m1.trans m2) (by unfold frameD; rw [e1, e2]; rfl)))⟩
      | true =>
        refine ⟨_, rfl, iteF ⟨_, rfl, ex, _, dv, 6, rfl, hv.kp (Kp.same (m1.trans m2)), c3, fun H3 m3 => ?_⟩⟩
        cases e3 : namesD 6 dv with
        | false => exact ⟨_, rfl, iteT (bad ((m1.trans m2).trans m3) (by unfold frameD; rw [e1, e2, e3]; rfl))⟩
        | true =>
          refine ⟨_, rfl, iteF ?_⟩
          have m := (m1.trans m2).trans m3
          obtain ⟨ea, la, oa⟩ := arrs_true e1
          obtain ⟨ep, lp, op_⟩ := names_true e2
          obtain ⟨ev, lv, ov⟩ := names_true e3
          have fD : frameD da dp dv = decide (allN (psOf da) (nsOf dp) (nsOf dv)).Nodup := by unfold frameD; rw [e1, e2, e3]; rfl
          rw [fD] at kg kb
          rw [ea] at ha
          rw [ep] at hp
          rw [ev] at hv
          clear fD e1 e2 e3 bad ea ep ev
          generalize psOf da = ps at *
          generalize nsOf dp = ns at *
          generalize nsOf dv = us at *
          have hx3 := m _ _ hx
          have kp3 : KpX x H H3 := Kp.same m
          have stepX : ∀ {G : Hp} {fs fs2 : List (Str × V)}, KpX x H G → G x = some (.ins C dx fs) → KpX x H (upd G x (.ins C dx fs2)) := fun {G fs fs2} k e => k.trans (Kp.ins rfl e)
          refine ⟨_, rfl, _, rfl, x, C, dx, [], rfl, hx3, X.cl, X.n1, by simp, ?_⟩
          rw [pf1]
          have kp4 := stepX (fs2 := [("_arrays", va)]) kp3 hx3
          generalize hH4 : upd H3 x (.ins C dx ([("_arrays", va)])) = H4 at kp4 ⊢
          have hx4 : H4 x = some (.ins C dx [("_arrays", va)]) := by rw [← hH4]; exact upd_same
          refine ⟨_, rfl, _, rfl, x, C, dx, _, rfl, hx4, X.cl, X.n2, by simp, ?_⟩
          rw [pf2]
          have kp5 := stepX (fs2 := [("_arrays", va), ("_positions", vp)]) kp4 hx4
          generalize hH5 : upd H4 x (.ins C dx [("_arrays", va), ("_positions", vp)]) = H5 at kp5 ⊢
          have hx5 : H5 x = some (.ins C dx [("_arrays", va), ("_positions", vp)]) := by rw [← hH5]; exact upd_same
          refine ⟨_, rfl, _, rfl, x, C, dx, _, rfl, hx5, X.cl, X.n3, by simp, ?_⟩
          rw [pf3]
          have kp6 := stepX (fs2 := [("_arrays", va), ("_positions", vp), ("_amounts", vv)]) kp5 hx5
          generalize hH6 : upd H5 x (.ins C dx [("_arrays", va), ("_positions", vp), ("_amounts", vv)]) = H6 at kp6 ⊢
          have hx6 : H6 x = some (.ins C dx [("_arrays", va), ("_positions", vp), ("_amounts", vv)]) := by rw [← hH6]; exact upd_same
          have in6 : ∀ {G : Hp} {v : V} {d : PyData}, KpX x H G → Dv ex H v d → Dv (fun a => ex a ∨ a = x) G v d := fun k h => (h.ins hx).kp (k.weak fun b z => .inr z)
          obtain ⟨aA, xA, rfl, tA, dA⟩ := ha.tupI
          obtain ⟨aP, xP', rfl, tP', dP⟩ := hp.tupI
          obtain ⟨aV, xV, rfl, tV, dV⟩ := hv.tupI
          obtain ⟨as, rfl, pr⟩ := dA.paired (K := K)
          have prG : ∀ {G : Hp}, KpX x H G → Paired (fun p kv => SqT K G p [kV kv.1, kv.2]) as (ps.map fun q => (Sum.inr q.1, V.str q.2)) := fun k => pr _ k
          refine ⟨_, rfl, aA, as, _, rfl, kp6.tup tA, prG kp6, fun LB hLB => ?_⟩
          refine ⟨_, rfl, x, C, dx, _, rfl, (upd_ne (ne_of_none hx6 hLB)).trans hx6, X.cl, X.n4, by simp, ?_⟩
          rw [pf4]
          have kp7 := stepX (fs2 := [("_arrays", .ref aA), ("_positions", .ref aP), ("_amounts", .ref aV), ("_length_by_array", .ref LB)]) (kp6.trans (Kp.new (o := .dK (mergeK [] (ps.map fun q => (Sum.inr q.1, V.str q.2)))) hLB)) ((upd_ne (ne_of_none hx6 hLB)).trans hx6)
          have xLB := ne_of_none hx6 hLB
          generalize hH7 : upd (upd H6 LB (.dK (mergeK [] (ps.map fun q => (Sum.inr q.1, V.str q.2))))) x (.ins C dx [("_arrays", .ref aA), ("_positions", .ref aP), ("_amounts", .ref aV), ("_length_by_array", .ref LB)]) = H7 at kp7 ⊢
          have hx7 : H7 x = some (.ins C dx [("_arrays", .ref aA), ("_positions", .ref aP), ("_amounts", .ref aV), ("_length_by_array", .ref LB)]) := by rw [← hH7]; exact upd_same
          have lb7 : H7 LB = some (.dK (dictV (ps.map fun q => (q.1, V.str q.2)))) := by
            rw [← hH7, upd_ne (Ne.symm xLB), upd_same]
            unfold dictV
            rw [List.map_map]
            rfl
          -- the lengths
          refine ⟨_, rfl, aA, rfl, ⟨_, (kp7.tup tA).sq⟩, fun D hD => ?_⟩
          have lAn := dA.len
          rw [List.length_map, List.length_map] at lAn
          refine dc_tup (K := K) (a := aA) (xs := as.map V.ref) (fun i G => Same H7 G ∧ G D = some (.dK (dictV ((ps.take i).map fun q => (q.2, V.bl true))))) ⟨Same.upd hD, upd_same⟩ (fun i G _ h => ((kp7.trans (Kp.same h.1)).tup tA).sq) ?_ ?_
          · rintro i y G hi ⟨sm, hDx⟩
            obtain ⟨e, he, dve⟩ := dA.get hi
            have hi' : i < ps.length := by
              have := (List.getElem?_eq_some_iff.mp hi).1
              rw [List.length_map] at this
              omega
            rw [List.getElem?_map, List.getElem?_eq_getElem hi'] at he
            cases he
            obtain ⟨b, rfl, hb⟩ := dve.pairI
            refine ⟨b, _, rfl, ((kp7.trans (Kp.same sm)).tup hb).sq, rfl, _, _, rfl, _, _, rfl, rfl, ?_⟩
            have z1 := dictV_le ((ps.take i).map fun q => (q.2, V.bl true))
            rw [List.length_map, List.length_take] at z1
            refine ⟨rfl, yes (⟨_, rfl, _, .inr ps[i].2, rfl, hDx, by rw [sizeLine_eq]; omega, ?_, ?_⟩)⟩
            · intro b u e
              rw [upd_ne (ne_of_none e hD)]
              exact sm b u e
            · rw [upd_same, List.take_succ, List.getElem?_eq_getElem hi']
              show _ = some (HO.dK (dictV (((ps.take i) ++ [ps[i]]).map fun q => (q.2, V.bl true))))
              rw [List.map_append]
              have := dictV_snoc ((ps.take i).map fun q => (q.2, V.bl true)) (ps[i].2, V.bl true)
              exact congrArg (fun d => some (HO.dK d)) this.symm
          · rintro G ⟨sm, hDx⟩
            rw [List.length_map, lAn, List.take_length] at hDx
            have kp8 := kp7.trans (Kp.same sm)
            have hx8 := sm _ _ hx7
            have lb8 := sm _ _ lb7
            refine ⟨D, _, rfl, .inl hDx, fun LT GL smL tLT => ?_⟩
            have hxL := smL _ _ hx8
            have lbL := smL _ _ lb8
            have xLB' := xLB
            refine ⟨_, rfl, x, C, dx, _, rfl, hxL, X.cl, X.n5, by simp, ?_⟩
            rw [pf5]
            have kpL := kp8.trans (Kp.same smL)
            have kp9 := stepX (fs2 := [("_arrays", .ref aA), ("_positions", .ref aP), ("_amounts", .ref aV), ("_length_by_array", .ref LB), ("_lengths", .ref LT)]) kpL hxL
            have kuL : Kp (fun a => a = x) GL (upd GL x (.ins C dx [("_arrays", .ref aA), ("_positions", .ref aP), ("_amounts", .ref aV), ("_length_by_array", .ref LB), ("_lengths", .ref LT)])) := Kp.ins rfl hxL
            generalize hH9 : upd GL x (.ins C dx [("_arrays", .ref aA), ("_positions", .ref aP), ("_amounts", .ref aV), ("_length_by_array", .ref LB), ("_lengths", .ref LT)]) = H9 at kp9 kuL ⊢
            have hx9 : H9 x = some (.ins C dx [("_arrays", .ref aA), ("_positions", .ref aP), ("_amounts", .ref aV), ("_length_by_array", .ref LB), ("_lengths", .ref LT)]) := by rw [← hH9]; exact upd_same
            have lb9 : H9 LB = some (.dK (dictV (ps.map fun q => (q.1, V.str q.2)))) := by
              rw [← hH9, upd_ne (Ne.symm xLB)]
              exact lbL
            have lt9 : TupF H9 LT ((uniq (ps.map (·.2))).map V.str) := by
              have := congrArg (List.map kV) (dictV_keys (ps.map fun q => (q.2, V.bl true)))
              rw [List.map_map, List.map_map, List.map_map] at this
              have e : (dictV (ps.map fun q => (q.2, V.bl true))).map (fun kv => kV kv.1) = (uniq (ps.map (·.2))).map V.str := this
              rw [e] at tLT
              exact kuL.tup tLT
            refine ⟨_, rfl, _, rfl, _, rfl, _, _, _, _, ps, ns, us, rfl, in6 kp9 ha, in6 kp9 hp, in6 kp9 hv, by omega, by omega, by omega, fun KD Hk hKD m10 hKk => ?_⟩
            have hx10 := m10 _ _ hx9
            have kp10 := kp9.trans (Kp.same m10)
            refine ⟨_, rfl, x, C, dx, _, rfl, hx10, X.cl, X.n6, by simp, ?_⟩
            rw [pf6]
            have xKD := ne_of_none hx9 hKD
            have kp11 := stepX (fs2 := [("_arrays", .ref aA), ("_positions", .ref aP), ("_amounts", .ref aV), ("_length_by_array", .ref LB), ("_lengths", .ref LT), ("_kinds", .ref KD)]) kp10 hx10
            generalize hH11 : upd Hk x (.ins C dx [("_arrays", .ref aA), ("_positions", .ref aP), ("_amounts", .ref aV), ("_length_by_array", .ref LB), ("_lengths", .ref LT), ("_kinds", .ref KD)]) = H11 at kp11 ⊢
            have hlb : H11 LB = some (.dK (dictV (ps.map fun q => (q.1, V.str q.2)))) := by
              rw [← hH11, upd_ne (Ne.symm xLB)]; exact m10 _ _ lb9
            have ku11 : Kp (fun a => a = x) Hk H11 := by rw [← hH11]; exact Kp.ins rfl hx10
            have hlt : TupF H11 LT ((uniq (ps.map (·.2))).map V.str) := ku11.tup ((Kp.same (ex := fun _ => True) m10).tup lt9)
            have hkd : H11 KD = some (.dK (dictV (kl ps ns us))) := by
              rw [← hH11, upd_ne (Ne.symm xKD)]; exact hKk
            have hxx : H11 x = some (.ins C dx (flds (.ref aA) (.ref aP) (.ref aV) LB LT KD)) := by rw [← hH11]; exact upd_same
            refine ⟨_, rfl, x, C, dx, _, _, rfl, hxx, X.cl, X.n6, rfl, KD, _, rfl, hkd, ?_⟩
            refine ⟨_, rfl, _, _, rfl, .inr ⟨_, (kp11.tup tA).sq, rfl⟩, _, rfl, x, C, dx, _, _, rfl, hxx, X.cl, X.n5, rfl, _, _, rfl, .inr ⟨_, hlt.sq, rfl⟩, _, _, rfl, rfl, ?_⟩
            refine ⟨_, rfl, _, _, rfl, .inr ⟨_, (kp11.tup tP').sq, rfl⟩, _, _, rfl, rfl, ?_⟩
            refine ⟨_, rfl, _, _, rfl, .inr ⟨_, (kp11.tup tV).sq, rfl⟩, _, _, rfl, rfl, ?_⟩
            have hk := kinds_count ps ns us
            have lP := dP.len
            have lV := dV.len
            rw [List.length_map] at lP lV
            have lN : (allN ps ns us).length = ps.length + (uniq (ps.map (·.2))).length + ns.length + us.length := by
              unfold allN
              simp only [List.length_append, List.length_map]
              omega
            refine ⟨_, _, rfl, rfl, _, rfl, ?_⟩
            rw [List.length_map, List.length_map, lAn, lP, lV]
            by_cases nd : (allN ps ns us).Nodup
            · have := hk.2.mpr nd
              rw [decide_eq_false (by omega)]
              refine iteF (kg (decide_eq_true nd) _ ⟨⟨dx, LB, LT, KD, hxx, hlb, hlt, hkd⟩, (in6 kp11 ha).pairsAny, (in6 kp11 hp).strsAny, (in6 kp11 hv).strsAny, nd, la, lp, lv, fun z hz => ?_⟩ kp11)
              rcases List.mem_append.mp hz with hz | hz
              · obtain ⟨q, hq, rfl⟩ := List.mem_map.mp hz
                exact (oa q hq).1
              · rcases List.mem_append.mp hz with hz | hz
                · obtain ⟨q, hq, rfl⟩ := List.mem_map.mp hz
                  exact (oa q hq).2
                · rcases List.mem_append.mp hz with hz | hz
                  · exact op_ z hz
                  · exact ov z hz
            · have : ¬ (allN ps ns us).length ≤ (dictV (kl ps ns us)).length := fun z => nd (hk.2.mp z)
              rw [decide_eq_true (by omega)]
              exact iteT (kb (decide_eq_false nd) H11 kp11)
end
end Kx
namespace Kx
open PySem PySem.Spec PyProof.Rows L2
def pairT (q : Str × Str) : Str := q.1 ++ (":" : Str) ++ q.2
theorem DvL.strE {ex : Addr → Prop} {H : Hp} : ∀ {vs : List V} {ns : List Str}, DvL ex H vs (ns.map .str) → vs = ns.map V.str
  | _, [], .nil => rfl
  | _, z :: r, .cons a b => by rw [a.strI, DvL.strE b]; rfl
theorem pairT_len (q : Str × Str) : (pairT q).length = q.1.length + 1 + q.2.length := by
  unfold pairT
  rw [strLen_append, strLen_append, show (":" : Str).length = 1 by decide +kernel]
theorem str_emp (z : Str) : Str.empty ++ z = z := by
  show (⟨#[] ++ z.cps⟩ : Str) = z
  rw [Array.empty_append]
theorem blanks_le (zs : List Str) (n : Nat) (h : ∀ z ∈ zs, z.length ≤ n) : (blanks zs).length ≤ zs.length * n + zs.length + 1 := by
  unfold blanks
  have e1 : ("-" : Str).length = 1 := by decide +kernel
  split
  · omega
  · have := join_bound zs
    have := sum_le zs n h
    omega
theorem ps_never {X : Cx} {s : Stmt} : PS X s (fun _ _ _ => False) := ⟨fun _ _ _ _ _ _ h => h.elim⟩
theorem FrameAt.same {C x : Addr} {H H' : Hp} {va vp vv : V} {ps : List (Str × Str)} {ns us : List Str} (h : FrameAt C H x va vp vv ps ns us) (k : Same H H') : FrameAt C H' x va vp vv ps ns us := by
  obtain ⟨⟨dx, LB, LT, KD, h1, h2, h3, h4⟩, da, dp, dv, r1, r2, r3, r4, r5⟩ := h
  exact ⟨⟨dx, LB, LT, KD, k _ _ h1, k _ _ h2, (Kp.same (ex := fun _ => True) k).tup h3, k _ _ h4⟩, da.kp (Kp.same k), dp.kp (Kp.same k), dv.kp (Kp.same k), r1, r2, r3, r4, r5⟩
theorem FrameAt.nm {C x : Addr} {H : Hp} {va vp vv : V} {ps : List (Str × Str)} {ns us : List Str} (h : FrameAt C H x va vp vv ps ns us) {z : Str} (hz : z ∈ allN ps ns us) : NameS z := by
  refine h.ok z ?_
  rcases List.mem_append.mp hz with q | q
  · exact List.mem_append.mpr (.inl q)
  · rcases List.mem_append.mp q with q | q
    · exact List.mem_append.mpr (.inr (List.mem_append.mpr (.inl ((uniq_mem _ _).mp q))))
    · exact List.mem_append.mpr (.inr (List.mem_append.mpr (.inr q)))
/-! ### kinds -/
def kindF (ps : List (Str × Str)) (ns : List Str) (z : Str) : Str := if z ∈ ps.map (·.1) then "array" else if z ∈ ps.map (·.2) then "length" else if z ∈ ns then "position" else "value"
theorem nd4 {a b c d : List Str} (h : (a ++ (b ++ (c ++ d))).Nodup) : a.Nodup ∧ (∀ z ∈ b, z ∉ a) ∧ (∀ z ∈ c, z ∉ a ∧ z ∉ b) ∧ ∀ z ∈ d, z ∉ a ∧ z ∉ b ∧ z ∉ c := by
  obtain ⟨h1, h2, h3⟩ := List.nodup_append.mp h
  obtain ⟨h4, h5, h6⟩ := List.nodup_append.mp h2
  obtain ⟨h7, h8, h9⟩ := List.nodup_append.mp h5
  refine ⟨h1, fun z hz q => h3 z q z (List.mem_append.mpr (.inl hz)) rfl, fun z hz => ⟨fun q => h3 z q z (List.mem_append.mpr (.inr (List.mem_append.mpr (.inl hz)))) rfl, fun q => h6 z q z (List.mem_append.mpr (.inl hz)) rfl⟩,
    fun z hz => ⟨fun q => h3 z q z (List.mem_append.mpr (.inr (List.mem_append.mpr (.inr hz)))) rfl, fun q => h6 z q z (List.mem_append.mpr (.inr hz)) rfl, fun q => h9 z q z hz rfl⟩⟩
theorem kind_array {ps : List (Str × Str)} {ns us : List Str} (nd : (allN ps ns us).Nodup) : ∀ z ∈ ps.map (·.1), kindF ps ns z = "array" := fun z hz => if_pos hz
theorem kind_length {ps : List (Str × Str)} {ns us : List Str} (nd : (allN ps ns us).Nodup) : ∀ z ∈ ps.map (·.2), kindF ps ns z = "length" := fun z hz => by
  unfold kindF
  rw [if_neg ((nd4 nd).2.1 z ((uniq_mem _ _).mpr hz)), if_pos hz]
theorem kind_position {ps : List (Str × Str)} {ns us : List Str} (nd : (allN ps ns us).Nodup) : ∀ z ∈ ns, kindF ps ns z = "position" := fun z hz => by
  have := (nd4 nd).2.2.1 z hz
  unfold kindF
  rw [if_neg this.1, if_neg (fun q => this.2 ((uniq_mem _ _).mpr q)), if_pos hz]
theorem kind_value {ps : List (Str × Str)} {ns us : List Str} (nd : (allN ps ns us).Nodup) : ∀ z ∈ us, kindF ps ns z = "value" := fun z hz => by
  have := (nd4 nd).2.2.2 z hz
  unfold kindF
  rw [if_neg this.1, if_neg (fun q => this.2.1 ((uniq_mem _ _).mpr q)), if_neg this.2.2]
theorem kl_val {ps : List (Str × Str)} {ns us : List Str} (nd : (allN ps ns us).Nodup) {z : Str} (hz : z ∈ allN ps ns us) : valV (dictV (kl ps ns us)) (.inr z) = some (.str (kindF ps ns z)) := by
  rw [dictV_val (fun z => V.str (kindF ps ns z)) (kl ps ns us) ?_ z, if_pos ((kl_mem _ _ _ _).mpr hz)]
  intro q hq
  unfold kl at hq
  rcases List.mem_append.mp hq with hq | hq
  · obtain ⟨p, hp, hq⟩ := List.mem_flatMap.mp hq
    rcases List.mem_cons.mp hq with rfl | hq
    · exact congrArg V.str (kind_array nd p.1 (List.mem_map.mpr ⟨p, hp, rfl⟩)).symm
    · rcases List.mem_cons.mp hq with rfl | hq
      · exact congrArg V.str (kind_length nd p.2 (List.mem_map.mpr ⟨p, hp, rfl⟩)).symm
      · cases hq
  · rcases List.mem_append.mp hq with hq | hq
    · obtain ⟨y, hy, rfl⟩ := List.mem_map.mp hq
      exact congrArg V.str (kind_position nd y hy).symm
    · obtain ⟨y, hy, rfl⟩ := List.mem_map.mp hq
      exact congrArg V.str (kind_value nd y hy).symm
theorem find_of {q : Str × Str} : ∀ {ps : List (Str × Str)}, (ps.map (·.1)).Nodup → q ∈ ps → ps.find? (fun p => decide (p.1 = q.1)) = some q
  | p :: r, nd, h => by
    rw [List.map_cons, List.nodup_cons] at nd
    by_cases e : p.1 = q.1
    · rcases List.mem_cons.mp h with rfl | h
      · exact List.find?_cons_of_pos (decide_eq_true rfl)
      · exact absurd (List.mem_map.mpr ⟨q, h, e.symm⟩) nd.1
    · rw [List.find?_cons_of_neg (by rw [decide_eq_false e]; exact Bool.false_ne_true)]
      rcases List.mem_cons.mp h with rfl | h
      · exact absurd rfl e
      · exact find_of nd.2 h
theorem lb_val {ps : List (Str × Str)} (nd : (ps.map (·.1)).Nodup) {q : Str × Str} (hq : q ∈ ps) : valV (dictV (ps.map fun q => (q.1, V.str q.2))) (.inr q.1) = some (.str q.2) := by
  rw [dictV_val (fun z => match ps.find? (fun p => decide (p.1 = z)) with | some p => V.str p.2 | none => V.non) (ps.map fun q => (q.1, V.str q.2)) ?_ q.1, if_pos (by rw [List.map_map]; exact List.mem_map.mpr ⟨q, hq, rfl⟩)]
  · show some (match ps.find? (fun p => decide (p.1 = q.1)) with | some p => V.str p.2 | none => V.non) = _
    rw [find_of nd hq]
  · intro y hy
    obtain ⟨p, hp, rfl⟩ := List.mem_map.mp hy
    show V.str p.2 = match ps.find? (fun z => decide (z.1 = p.1)) with | some p => V.str p.2 | none => V.non
    rw [find_of nd hp]
/-! ### methods -/
def HasM (K : PySem.W.Frag) (C : Addr) (m q : Str) (st : Stmt) : Prop := ∃ f fd, FunD K m q (defArgs st) (defBody st) (defScope st) [] [] f fd ∧ Meth K C m f
abbrev Me (P : Program) (w : World) (K : PySem.W.Frag) (mg : Str → Option Value) (base : Heap) (C : Addr) (k : Nat) (m : Str) (ps : List Str) (sp : Sp) : Prop := ∃ f fd, FnOk P w K mg base CX0 k f fd ps sp ∧ Meth K C m f ∧ Binds K fd ps []
section
variable {P : Program} {w : World} {K : PySem.W.Frag} {mg : Str → Option Value} {base : Heap}
theorem met_of {C : Addr} {m q : Str} {st : Stmt} {N ps : List Str} {k : Nat} {sp : Sp} (h : HasM K C m q st) (S : FnScope N ps (defScope st))
    (bd : ∀ (kV doc pm : Value) (an : Option Addr) (cdv ct : Value) (us : List Value), us.length = ps.length → bindArgs (PySem.W.fnOf m q (defArgs st) (defBody st) (defScope st) .none kV doc pm an cdv ct) ⟨us, []⟩ = pure (ps.zip us))
    (len : ∀ vs H Q E, sp vs H Q E → vs.length = ps.length)
    (body : ∀ (f : Addr) (cdv : Value) (A : Around) (outer : List Env) (s : Shared) (H : Hp) (vs : List V) (Q : VK) (E : XK), Room k (A.deeper (envOfC q (defScope st) s.heap.objs.size f cdv)) → sp vs H Q E →
      ∃ t, PSs (cxOf CX0 P w K mg base N q (defScope st) f cdv A outer s H E).nox (defBody st) t ∧ t { nx := fun _ H' => Q .non H', rt := Q } (start N vs) H) : Me P w K mg base C (k + 1) m ps sp := by
  obtain ⟨f, fd, F, g⟩ := h
  exact ⟨f, fd, F.ok S len (fun cdv A outer s H vs Q E hr h => let ⟨t, ht, q⟩ := body f cdv A outer s H vs Q E hr h; ⟨t, PSs.nox ht, q⟩), g, F.bindsN bd⟩
abbrev N_Frame_is_of_kind : List Str := ["self", "value", "kind"]
abbrev P_Frame_is_of_kind : List Str := ["self", "value", "kind"]
theorem sc_Frame_is_of_kind : FnScope N_Frame_is_of_kind P_Frame_is_of_kind (defScope s_Frame_is_of_kind) := ⟨rfl, rfl, rfl, by decide +kernel, rfl, by decide +kernel, by decide +kernel⟩
def spKind (C : Addr) : Sp := fun vs H Q _ => ∃ (x : Addr) (va vp vv : V) (ps : List (Str × Str)) (ns us : List Str) (z k : Str), vs = [.ref x, .str z, .str k] ∧ FrameAt C H x va vp vv ps ns us ∧ z ∈ allN ps ns us ∧ Q (.bl (decide (kindF ps ns z = k))) H
theorem ok_kind (T : Bt mg) {C : Addr} (X : Fx K mg C) (h : HasM K C "_is_of_kind" "Frame._is_of_kind" s_Frame_is_of_kind) : Me P w K mg base C 1 "_is_of_kind" P_Frame_is_of_kind (spKind C) := by
  refine met_of h sc_Frame_is_of_kind (fun _ _ _ _ _ _ us hl => match us, hl with | [_, _, _], _ => rfl) (fun vs H Q E h => ?_) (fun f cdv A outer s H vs Q E hr h => ?_)
  · obtain ⟨x, va, vp, vv, ps, ns, us, z, k, rfl, _⟩ := h
    rfl
  · obtain ⟨x, va, vp, vv, ps, ns, us, z, k, rfl, fr, hz, q⟩ := h
    refine ⟨_, (pss_one (ps_ret (pe_and (pe_callB call_isi (by rfl) T.isinstance (by decide +kernel) (pa_cons (pv 1) (pa_cons (pe_bltn (v := .ty "str") (by rfl) T.str (by decide +kernel) rfl) pa_nil))) (pe_one (pe_cmpR op_eq (pe_dget1 (hu_of hr) (pe_fld (pv 0) rfl) (pv 1) ⟨rfl, rfl, rfl, rfl⟩) (pv 2) (nomark _)))))), ?_⟩
    obtain ⟨⟨dx, LB, LT, KD, hx, hlb, hlt, hkd⟩, da, dp, dv, nd, _⟩ := fr
    refine ⟨_, rfl, _, _, _, _, _, rfl, .ty _, (Dv.str (ex := fun _ => True) (H := H) z).ty, kitS (.str z), _, rfl, iteT ?_⟩
    refine ⟨_, rfl, x, C, dx, _, _, rfl, hx, X.cl, X.n6, rfl, KD, rfl, .inl ⟨_, .inl hkd⟩, _, rfl, _, DGet.k (k := .inr z) hkd, ?_⟩
    rw [kl_val nd hz]
    refine ⟨_, rfl, rfl, ?_⟩
    rw [show decide ((some (V.str (kindF ps ns z))).getD V.non = V.str k) = decide (kindF ps ns z = k) from decide_eq_decide.mpr ⟨fun e => by injection e, fun e => congrArg V.str e⟩]
    exact q
theorem kl_get {ps : List (Str × Str)} {ns us : List Str} (nd : (allN ps ns us).Nodup) (z : Str) : valV (dictV (kl ps ns us)) (.inr z) = if z ∈ allN ps ns us then some (.str (kindF ps ns z)) else none := by
  by_cases hz : z ∈ allN ps ns us
  · rw [if_pos hz, kl_val nd hz]
  · rw [if_neg hz, dictV_val (fun z => V.str (kindF ps ns z)) (kl ps ns us) ?_ z, if_neg (fun q => hz ((kl_mem _ _ _ _).mp q))]
    intro q hq
    unfold kl at hq
    rcases List.mem_append.mp hq with hq | hq
    · obtain ⟨p, hp, hq⟩ := List.mem_flatMap.mp hq
      rcases List.mem_cons.mp hq with rfl | hq
      · exact congrArg V.str (kind_array nd p.1 (List.mem_map.mpr ⟨p, hp, rfl⟩)).symm
      · rcases List.mem_cons.mp hq with rfl | hq
        · exact congrArg V.str (kind_length nd p.2 (List.mem_map.mpr ⟨p, hp, rfl⟩)).symm
        · cases hq
    · rcases List.mem_append.mp hq with hq | hq
      · obtain ⟨y, hy, rfl⟩ := List.mem_map.mp hq
        exact congrArg V.str (kind_position nd y hy).symm
      · obtain ⟨y, hy, rfl⟩ := List.mem_map.mp hq
        exact congrArg V.str (kind_value nd y hy).symm
def hasD (ps : List (Str × Str)) (ns us : List Str) : PyData → Bool
  | .str z => decide (z ∈ allN ps ns us)
  | _ => false
abbrev N_Frame_contains : List Str := ["self", "value"]
abbrev P_Frame_contains : List Str := ["self", "value"]
theorem sc_Frame_contains : FnScope N_Frame_contains P_Frame_contains (defScope s_Frame_contains) := ⟨rfl, rfl, rfl, by decide +kernel, rfl, by decide +kernel, by decide +kernel⟩
def spHas (C : Addr) : Sp := fun vs H Q _ => ∃ (ex : Addr → Prop) (x : Addr) (va vp vv : V) (ps : List (Str × Str)) (ns us : List Str) (v : V) (d : PyData), vs = [.ref x, v] ∧ FrameAt C H x va vp vv ps ns us ∧ Dv ex H v d ∧ Q (.bl (hasD ps ns us d)) H
theorem ok_contains (T : Bt mg) {C : Addr} (X : Fx K mg C) (h : HasM K C "__contains__" "Frame.__contains__" s_Frame_contains) : Me P w K mg base C 1 "__contains__" P_Frame_contains (spHas C) := by
  refine met_of h sc_Frame_contains (fun _ _ _ _ _ _ us hl => match us, hl with | [_, _], _ => rfl) (fun vs H Q E h => ?_) (fun f cdv A outer s H vs Q E hr h => ?_)
  · obtain ⟨ex, x, va, vp, vv, ps, ns, us, v, d, rfl, _⟩ := h
    rfl
  · obtain ⟨ex, x, va, vp, vv, ps, ns, us, v, d, rfl, fr, dv', q⟩ := h
    refine ⟨_, (pss_one (ps_ret (pe_and (pe_callB call_isi (by rfl) T.isinstance (by decide +kernel) (pa_cons (pv 1) (pa_cons (pe_bltn (v := .ty "str") (by rfl) T.str (by decide +kernel) rfl) pa_nil))) (pe_one (pe_cmp (pc_din (hu_of hr) (pv 1) (pe_fld (pv 0) rfl)) rfl))))), ?_⟩
    obtain ⟨⟨dx, LB, LT, KD, hx, hlb, hlt, hkd⟩, da, dp, dv, nd, _⟩ := fr
    refine ⟨_, rfl, _, _, _, _, _, rfl, .ty _, dv'.ty, kitS d, _, rfl, ?_⟩
    cases e : isStrD d with
    | false =>
      have no : hasD ps ns us d = false := by cases d <;> first | rfl | cases e
      rw [no] at q
      exact iteF q
    | true =>
      obtain ⟨z, rfl⟩ : ∃ z, d = .str z := by cases d <;> first | exact ⟨_, rfl⟩ | cases e
      cases dv'.strI
      refine iteT ⟨_, rfl, _, rfl, x, C, dx, _, _, rfl, hx, X.cl, X.n6, rfl, KD, _, rfl, DGet.k (k := .inr z) hkd, ?_⟩
      rw [kl_get nd z]
      have e2 : (if z ∈ allN ps ns us then some (V.str (kindF ps ns z)) else none).isSome = hasD ps ns us (.str z) := by
        by_cases hz : z ∈ allN ps ns us
        · rw [if_pos hz]; exact (decide_eq_true hz).symm
        · rw [if_neg hz]; exact (decide_eq_false hz).symm
      rw [e2]
      exact q
abbrev N_Frame_is_fresh : List Str := ["self", "value"]
abbrev P_Frame_is_fresh : List Str := ["self", "value"]
theorem sc_Frame_is_fresh : FnScope N_Frame_is_fresh P_Frame_is_fresh (defScope s_Frame_is_fresh) := ⟨rfl, rfl, rfl, by decide +kernel, rfl, by decide +kernel, by decide +kernel⟩
def freshD (ps : List (Str × Str)) (ns us : List Str) (d : PyData) : Bool := nameD d && !hasD ps ns us d
def spFresh (C : Addr) : Sp := fun vs H Q _ => ∃ (ex : Addr → Prop) (x : Addr) (va vp vv : V) (ps : List (Str × Str)) (ns us : List Str) (v : V) (d : PyData), vs = [.ref x, v] ∧ FrameAt C H x va vp vv ps ns us ∧ Dv ex H v d ∧ cost d ≤ 8000000 ∧ ∀ H', Same H H' → Q (.bl (freshD ps ns us d)) H'
theorem ok_fresh (T : Bt mg) {C : Addr} (X : Fx K mg C) (h : HasM K C "is_fresh" "Frame.is_fresh" s_Frame_is_fresh) (C1 : Ca P w K mg base 1 "is_name" P_is_name (spJudge nameD)) : Me P w K mg base C 2 "is_fresh" P_Frame_is_fresh (spFresh C) := by
  obtain ⟨_, _, c_is_name⟩ := C1
  refine met_of h sc_Frame_is_fresh (fun _ _ _ _ _ _ us hl => match us, hl with | [_, _], _ => rfl) (fun vs H Q E h => ?_) (fun f cdv A outer s H vs Q E hr h => ?_)
  · obtain ⟨ex, x, va, vp, vv, ps, ns, us, v, d, rfl, _⟩ := h
    rfl
  · obtain ⟨ex, x, va, vp, vv, ps, ns, us, v, d, rfl, fr, dv', hc, q⟩ := h
    refine ⟨_, (pss_one (ps_ret (pe_and (pe_call c_is_name.1 (hr.mono (by decide)) rfl c_is_name.2.1 c_is_name.2.2.1 c_is_name.2.2.2 .nil pass0 (pa_cons (pv 1) pa_nil)) (pe_one (pe_cmp (pc_dnotin (hu_of hr) (pv 1) (pe_fld (pv 0) rfl)) rfl))))), ?_⟩
    obtain ⟨dx, LB, LT, KD, hx, hlb, hlt, hkd⟩ := fr.ob
    refine ⟨_, rfl, ex, _, d, rfl, dv', hc, fun H2 sm => ?_⟩
    have q2 := q H2 sm
    unfold freshD at q2
    cases e : nameD d with
    | false =>
      rw [e] at q2
      exact ⟨_, rfl, iteF q2⟩
    | true =>
      rw [e] at q2
      obtain ⟨z, rfl, _⟩ := nameD_str e
      cases dv'.strI
      refine ⟨_, rfl, iteT ?_⟩
      refine ⟨_, rfl, _, rfl, x, C, dx, _, _, rfl, sm _ _ hx, X.cl, X.n6, rfl, KD, _, rfl, DGet.k (k := .inr z) (sm _ _ hkd), ?_⟩
      rw [kl_get fr.nd z]
      have e2 : (!(if z ∈ allN ps ns us then some (V.str (kindF ps ns z)) else none).isSome) = (true && !hasD ps ns us (.str z)) := by
        by_cases hz : z ∈ allN ps ns us
        · rw [if_pos hz, show hasD ps ns us (.str z) = true from decide_eq_true hz]; rfl
        · rw [if_neg hz, show hasD ps ns us (.str z) = false from decide_eq_false hz]; rfl
      rw [e2]
      exact q2
abbrev N_Frame_len : List Str := ["self"]
abbrev P_Frame_len : List Str := ["self"]
theorem sc_Frame_len : FnScope N_Frame_len P_Frame_len (defScope s_Frame_len) := ⟨rfl, rfl, rfl, by decide +kernel, rfl, by decide +kernel, by decide +kernel⟩
def spLen (C : Addr) : Sp := fun vs H Q _ => ∃ (x : Addr) (va vp vv : V) (ps : List (Str × Str)) (ns us : List Str), vs = [.ref x] ∧ FrameAt C H x va vp vv ps ns us ∧ Q (.int (allN ps ns us).length) H
theorem ok_len (T : Bt mg) {C : Addr} (X : Fx K mg C) (h : HasM K C "__len__" "Frame.__len__" s_Frame_len) : Me P w K mg base C 1 "__len__" P_Frame_len (spLen C) := by
  refine met_of h sc_Frame_len (fun _ _ _ _ _ _ us hl => match us, hl with | [_], _ => rfl) (fun vs H Q E h => ?_) (fun f cdv A outer s H vs Q E hr h => ?_)
  · obtain ⟨x, va, vp, vv, ps, ns, us, rfl, _⟩ := h
    rfl
  · obtain ⟨x, va, vp, vv, ps, ns, us, rfl, fr, q⟩ := h
    refine ⟨_, (pss_one (ps_ret (pe_callB call_lenD (by rfl) T.len (by decide +kernel) (pa_cons (pe_fld (pv 0) rfl) pa_nil)))), ?_⟩
    obtain ⟨⟨dx, LB, LT, KD, hx, hlb, hlt, hkd⟩, da, dp, dv, nd, _⟩ := fr
    refine ⟨_, rfl, x, C, dx, _, _, rfl, hx, X.cl, X.n6, rfl, KD, _, rfl, hkd, ?_⟩
    have := kinds_count ps ns us
    rw [show (dictV (kl ps ns us)).length = (allN ps ns us).length from Nat.le_antisymm this.1 (this.2.mpr nd)]
    exact q
abbrev N_Frame_str : List Str := ["self", "arrays", "array", "length"]
abbrev P_Frame_str : List Str := ["self"]
theorem sc_Frame_str : FnScope N_Frame_str P_Frame_str (defScope s_Frame_str) := ⟨rfl, rfl, rfl, by decide +kernel, rfl, by decide +kernel, by decide +kernel⟩
def rowS (ps : List (Str × Str)) (ns us : List Str) : Str := blanks (ps.map pairT) ++ " | " ++ blanks ns ++ " | " ++ blanks us
def spStr (C : Addr) : Sp := fun vs H Q _ => ∃ (x : Addr) (va vp vv : V) (ps : List (Str × Str)) (ns us : List Str), vs = [.ref x] ∧ FrameAt C H x va vp vv ps ns us ∧ ∀ H', Same H H' → Q (.str (rowS ps ns us)) H'
theorem ok_str (T : Bt mg) {C : Addr} (X : Fx K mg C) (h : HasM K C "__str__" "Frame.__str__" s_Frame_str) (C1 : Ca P w K mg base 1 "_with_blanks" P_with_blanks (spBlanks K)) : Me P w K mg base C 2 "__str__" P_Frame_str (spStr C) := by
  obtain ⟨_, _, c__with_blanks⟩ := C1
  refine met_of h sc_Frame_str (fun _ _ _ _ _ _ us hl => match us, hl with | [_], _ => rfl) (fun vs H Q E h => ?_) (fun f cdv A outer s H vs Q E hr h => ?_)
  · obtain ⟨x, va, vp, vv, ps, ns, us, rfl, _⟩ := h
    rfl
  · obtain ⟨x, va, vp, vv, ps, ns, us, rfl, fr, q⟩ := h
    refine ⟨_, (pss_cons (ps_set (i := 1) sc_Frame_str.nd rfl (.inl rfl) (pe_call c__with_blanks.1 (hr.mono (by decide)) rfl c__with_blanks.2.1 c__with_blanks.2.2.1 c__with_blanks.2.2.2 .nil pass0 (pa_cons (pe_lc (own := [("array", 2), ("length", 3)]) (g := (gTup K 2 (gCons (gName 2) (gCons (gName 3) gNil)))) (tt := tYes) (by rfl) sc_Frame_str.nd (pi_tup (pe_fld (pv 0) rfl)) (blkOk_by (own := [("array", 2), ("length", 3)]) (N := ["self", "arrays", "array", "length"]) (sc := defScope s_Frame_str) (by decide +kernel)) (fun _ _ _ _ _ => pg_tup (by rfl) (pgs_cons (pg_name (i := 2) sc_Frame_str.nd rfl (Or.inl rfl)) (pgs_cons (pg_name (i := 3) sc_Frame_str.nd rfl (Or.inl rfl)) pgs_nil))) (fun _ _ _ _ _ => pts_nil) (fun _ _ _ _ _ => (pe_joined (.cons (pe_fmt (pv 2)) (.cons pe_str (.cons (pe_fmt (pv 3)) .nil)))))) pa_nil)))
      (pss_one (ps_ret (pe_joined (.cons (pe_fmt (pv 1)) (.cons pe_str (.cons (pe_fmt (pe_call c__with_blanks.1 (hr.mono (by decide)) rfl c__with_blanks.2.1 c__with_blanks.2.2.1 c__with_blanks.2.2.2 .nil pass0 (pa_cons (pe_fld (pv 0) rfl) pa_nil))) (.cons pe_str (.cons (pe_fmt (pe_call c__with_blanks.1 (hr.mono (by decide)) rfl c__with_blanks.2.1 c__with_blanks.2.2.1 c__with_blanks.2.2.2 .nil pass0 (pa_cons (pe_fld (pv 0) rfl) pa_nil))) .nil))))))))), ?_⟩
    obtain ⟨dx, LB, LT, KD, hx, hlb, hlt, hkd⟩ := fr.ob
    obtain ⟨aA, xA, rfl, tA, dA⟩ := fr.da.tupI
    refine ⟨_, rfl, x, C, dx, _, _, rfl, hx, X.cl, X.n1, rfl, aA, rfl, ⟨_, tA.sq⟩, fun D hD => ?_⟩
    have okA : ∀ q ∈ ps, q.1.length ≤ 8 ∧ q.2.length ≤ 8 := fun q hq => ⟨(fr.ok q.1 (List.mem_append.mpr (.inl (List.mem_map.mpr ⟨q, hq, rfl⟩)))).2.1, (fr.ok q.2 (List.mem_append.mpr (.inr (List.mem_append.mpr (.inl (List.mem_map.mpr ⟨q, hq, rfl⟩)))))).2.1⟩
    have okN : ∀ z ∈ ns, 1 ≤ z.length ∧ z.length ≤ 8 := fun z hz => let n := fr.ok z (List.mem_append.mpr (.inr (List.mem_append.mpr (.inr (List.mem_append.mpr (.inl hz)))))); ⟨n.1, n.2.1⟩
    have okU : ∀ z ∈ us, 1 ≤ z.length ∧ z.length ≤ 8 := fun z hz => let n := fr.ok z (List.mem_append.mpr (.inr (List.mem_append.mpr (.inr (List.mem_append.mpr (.inr hz)))))); ⟨n.1, n.2.1⟩
    have lA := fr.l1
    have lN := fr.l2
    have lU := fr.l3
    have nA := dA.len
    rw [List.length_map] at nA
    have le0 : (Str.empty : Str).length = 0 := by decide +kernel
    have le1 : (":" : Str).length = 1 := by decide +kernel
    have le3 : (" | " : Str).length = 3 := by decide +kernel
    refine lc_o (walk_tup (K := K) (a := aA) (xs := xA)) (te := fun σ H Q => tJs [tFmt (tVar 2), tC (V.str ":"), tFmt (tVar 3)] Str.empty σ H fun out H1 => Q (V.str out) H1) (fun i => ps[i]?.map fun q => V.str (pairT q)) (by rw [sizeLine_eq]; omega) hD (fun Hx sm => ((Kp.same (ex := fun _ => True) sm).tup tA).sq) ?_ ?_
    · rintro i y Hx H' Nx hi sm hDx ⟨rfl, hy⟩ hno hyes
      obtain ⟨e, he, dve⟩ := dA.get hy
      have hi' : i < ps.length := by omega
      rw [List.getElem?_map, List.getElem?_eq_getElem hi'] at he
      cases he
      obtain ⟨b, rfl, hb⟩ := dve.pairI
      have hq := okA _ (List.getElem_mem hi')
      refine ⟨b, _, rfl, ((Kp.same (ex := fun _ => True) sm).tup hb).sq, rfl, _, _, rfl, _, _, rfl, rfl, ?_⟩
      refine ⟨rfl, yes (⟨_, rfl, .inl ⟨_, rfl, ?_, _, rfl, ?_, _, rfl, ?_, _, rfl, .inl ⟨_, rfl, ?_, _, rfl, ?_, ?_⟩⟩⟩)⟩
      · rw [sizeLine_eq]; omega
      · rw [sizeLine_eq, strLen_append]; omega
      · rw [sizeLine_eq, strLen_append, strLen_append]; omega
      · rw [sizeLine_eq]; omega
      · rw [sizeLine_eq, strLen_append, strLen_append, strLen_append]; omega
      · rw [str_emp]
        exact hyes _ (by rw [List.getElem?_eq_getElem hi']; rfl) _ Same.refl
    · intro Hx sm hDx
      have hDx2 : Hx D = some (.lst ((ps.map pairT).map V.str)) := by
        rw [List.map_map]
        rw [nA, range_list] at hDx
        exact hDx
      obtain ⟨aP, xP, rfl, tP, dP⟩ := fr.dp.tupI
      obtain ⟨aU, xU, rfl, tU, dU⟩ := fr.dv.tupI
      have b1 := blanks_le (ps.map pairT) 17 (fun z hz => by
        obtain ⟨q, hq, rfl⟩ := List.mem_map.mp hz
        have := okA q hq
        rw [pairT_len]; omega)
      have b2 := blanks_le ns 8 fun z hz => (okN z hz).2
      have b3 := blanks_le us 8 fun z hz => (okU z hz).2
      rw [List.length_map] at b1
      have hx2 := sm _ _ hx
      refine ⟨D, _, rfl, .inl (SqL.of hDx2), by rw [List.length_map]; omega, fun z hz => ?_, ?_⟩
      · obtain ⟨q, hq, rfl⟩ := List.mem_map.mp hz
        have := okA q hq
        rw [pairT_len]; omega
      · refine ⟨_, rfl, .inl ⟨_, rfl, by rw [sizeLine_eq]; omega, _, rfl, by rw [sizeLine_eq, strLen_append]; omega, _, rfl, by rw [sizeLine_eq, strLen_append, strLen_append]; omega, ?_⟩⟩
        refine ⟨_, rfl, x, C, dx, _, _, rfl, hx2, X.cl, X.n2, rfl, aP, ns, rfl, .inr ?_, by omega, fun z hz => ⟨(okN z hz).1, by have := (okN z hz).2; omega⟩, ?_⟩
        · exact (((Kp.same (ex := fun _ => True) sm).tup tP).sq (K := K)) |> fun h => by rw [dP.strE] at h; exact h
        refine .inl ⟨_, rfl, by rw [sizeLine_eq]; omega, _, rfl, by rw [sizeLine_eq, strLen_append, strLen_append, strLen_append]; omega, _, rfl, by rw [sizeLine_eq, strLen_append, strLen_append, strLen_append, strLen_append]; omega, ?_⟩
        refine ⟨_, rfl, x, C, dx, _, _, rfl, hx2, X.cl, X.n3, rfl, aU, us, rfl, .inr ?_, by omega, fun z hz => ⟨(okU z hz).1, by have := (okU z hz).2; omega⟩, ?_⟩
        · exact (((Kp.same (ex := fun _ => True) sm).tup tU).sq (K := K)) |> fun h => by rw [dU.strE] at h; exact h
        refine .inl ⟨_, rfl, by rw [sizeLine_eq]; omega, _, rfl, by rw [sizeLine_eq, strLen_append, strLen_append, strLen_append, strLen_append, strLen_append]; omega, ?_⟩
        have := q Hx sm
        unfold rowS at this
        rw [str_emp]
        exact this
end
end Kx
namespace Kx
open PySem PySem.Spec PyProof.Rows L2
/-! ### list == [] whatever the items are -/
section
variable {X : Cx}
def rEqL0 (K : PySem.W.Frag) : R2 := fun x y H Q => ∃ a b xs, x = .ref a ∧ y = .ref b ∧ SqL K H a xs ∧ SqL K H b [] ∧ Q (.bl xs.isEmpty) H
theorem op_eqL0 (hu : X.A.units < cLine) : OpR X (compareOp .Eq) (rEqL0 X.K) := by
  intro pins s σ H x y v u Q I rx ry h
  obtain ⟨a, b, xs, rfl, rfl, h1, h2, q⟩ := h
  cases rx
  cases ry
  obtain ⟨its, r, p1, _⟩ := I.list h1
  obtain ⟨its2, r2, p2, _⟩ := I.list h2
  cases r2
  cases r with
  | nil => exact SeqAt.eq_listAt (e := fun _ => true) p1.isList p2.isList rfl hu (fun j hj _ => absurd hj (by simp)) ⟨.bl true, H, I, rfl, q⟩
  | cons r0 r1 => exact SeqAt.eq_list_lengthsAt p1.isList p2.isList (by simp) hu ⟨.bl false, H, I, rfl, q⟩
end
/-! ### set(list of texts) -/
section
variable {P : Program} {w : World} {A : Around} {E : Value → Shared → Prop} {s : Shared}
abbrev SetS (P : Program) (w : World) (h : Heap) (S : Addr) (xs : List Str) : Prop := h.SetOf (PySem.strKind P w) S (fun k => decide (k ∈ xs)) (uniq xs).length
theorem SetS.at {h h' : Heap} {S : Addr} {xs : List Str} (q : SetS P w h S xs) (k : ∀ o, h.get? S = some o → h'.get? S = some o) : SetS P w h' S xs := by
  obtain ⟨o, es, ep, t, ho, rest⟩ := q
  exact ⟨o, es, ep, t, k o ho, rest⟩
theorem upd_strs {I : Addr} {fp wr : List Addr} {G : Array GenState → Array GenState → Prop} {n : Nat} {Pv : Nat → Value → Prop} {St : Nat → Shared → Prop} {R : Result → Shared → Prop}
    (W : WalksS P w A.in1 I fp wr G n Pv St) (S : Addr) (hSf : S ∉ fp) (xs : List Str) (hn : n = xs.length) (hb : xs.length + 1 < scanBound) (hval : ∀ i v, Pv i v → ∃ y t, xs[i]? = some y ∧ v = .str y t) :
    ∀ (k i : Nat) (s : Shared), n - i = k → i ≤ n → St i s → SetS P w s.heap S (xs.take i) → (∀ s', Moved (S :: wr) G s s' → SetS P w s'.heap S xs → R (.ok (.ret .none)) s') →
      codeAny (model P w) A (.builtin "set.update.loop" ⟨[.ref S, .ref I], []⟩) R s := by
  have noS : S ∉ wr := fun h => hSf (W.sub _ h)
  have more : ∀ b ∈ wr, b ∈ S :: wr := fun b hb => List.mem_cons_of_mem _ hb
  intro k
  induction k with
  | zero =>
    intro i s hk hi st q fin
    obtain rfl : i = n := by omega
    rw [List.take_of_length_le (by omega)] at q
    refine codeAny_builtin PyProof.Rows.F.entry_set_update_loop ?_
    rw [Around.under_plainId PyProof.Rows.F.plain_set_update_loop _]
    refine wpAny_bind (m := pyNext (.ref I)) (W.done s _ _ st fun s' mv => ?_)
    exact wpAny_pure (fin s' (mv.mono more) (q.at fun o e => mv.heap S o noS e))
  | succ k ih =>
    intro i s hk hi st q fin
    have lt : i < n := by omega
    refine codeAny_builtin PyProof.Rows.F.entry_set_update_loop ?_
    rw [Around.under_plainId PyProof.Rows.F.plain_set_update_loop _]
    refine wpAny_bind (m := pyNext (.ref I)) (W.item i s _ _ lt st fun v s' pv st' mv => ?_)
    obtain ⟨y, t, hy, rfl⟩ := hval i v pv
    have q' := q.at fun o e => mv.heap S o noS e
    have lu := uniq_len (xs.take i)
    rw [List.length_take] at lu
    refine wpAny_bind (m := holding [Value.str y t] (setAdd S (.str y t))) (wpAny_holding ?_)
    unfold setAdd
    refine wpAny_holding (wpAny_bind ((PySem.strKind P w).pyHash (k := y) (strKind_is _ _ _ _) ?_))
    refine wpAny_setAddHashed_of (knd := PySem.strKind P w) (s := { s' with toks := s'.toks + 1 }) (strKind_is _ _ _ _) rfl q' (by omega) fun h' same q2 => ?_
    have q3 : SetS P w h' S (xs.take (i + 1)) := by
      have ey : xs.take (i + 1) = xs.take i ++ [y] := by rw [List.take_succ, hy]; rfl
      refine PyProof.Rows.SetOf_congr q2 (fun z => ?_) ?_
      · rw [ey]
        by_cases h1 : z ∈ xs.take i <;> by_cases h2 : z = y <;> simp [h1, h2]
      · rw [ey, uniq_snoc]
        unfold uniqF
        by_cases h1 : y ∈ xs.take i
        · rw [decide_eq_true h1, if_pos rfl, if_pos ((uniq_mem _ _).mpr h1)]
        · rw [decide_eq_false h1, if_neg Bool.false_ne_true, if_neg (fun z => h1 ((uniq_mem _ _).mp z)), List.length_append]
          rfl
    have keep : ∀ b, b ≠ S → ∀ o, s'.heap.get? b = some o → h'.get? b = some o := fun b hb o e => by rw [same.2 b hb]; exact e
    exact wpAny_pure ⟨plainId_quiet PyProof.Rows.F.plain_set_update_loop _, ih (i + 1) _ (by omega) lt (W.frame _ s' _ _ st' (Nat.le_succ _) fun b hb o e => keep b (fun z => hSf (z ▸ hb)) o e) q3 fun s'' mv2 q4 =>
      fin s'' (Moved.trans W.gtrans ((mv.mono more).then_heap (Nat.le_succ _) fun b o hb e => keep b (fun z => hb (by rw [z]; exact List.mem_cons_self)) o e) mv2) q4⟩
theorem call_setS {l : Addr} {items : Array Value} {xs : List Str} {Q : Value → Shared → Prop} (hh : A.handled = none) (hl : s.heap.IsList l items) (hi : StrsAre items.toList xs) (hb : xs.length + 1 < scanBound)
    (h : ∀ (h' : Heap) (tk : Nat), SetS P w h' s.heap.objs.size xs → (∀ b o, s.heap.get? b = some o → h'.get? b = some o) → Q (.ref s.heap.objs.size) { s with heap := h', toks := tk }) :
    wpAny (model P w) A (call (.type "set") [.ref l]) Q E s := by
  obtain ⟨c, tl, hmro⟩ := PySem.F.called_set.mro
  have hmade := PySem.F.called_set.made
  have hsub := PySem.F.called_set.sub
  refine wpAny_call (codeAny_of_tree ?_)
  show wpAny _ _ (callAny (.type "set") _) _ _ _
  refine wpAny_pure ⟨Code.quiet_builtin _ (by decide +kernel), codeAny_builtin PySem.F.entry_type_call ?_⟩
  rw [Around.under_plain (weight_type_call_type "set" [.ref l] []) rfl]
  have h1 := PySem.F.called_set.notType
  have h2 := PySem.F.called_set.canCreate
  have hct := PySem.F.typeCall_set_1 (.ref l)
  repeat (any_goals (first | assumption | wp_step))
  let so : Bool → Obj := fun led => { cls := .type "set", dict := none, data := .set #[] 0 (.fresh 0 0 led) }
  refine codeAny_mono (code_set_new_1 (.ref l) (E := E) (Q₁ := fun obj t => ∃ led : Bool, obj = .ref s.heap.objs.size ∧ t = { s with heap := s.heap.push (so led) }) fun led => ⟨led, rfl, rfl⟩) fun r t hr => ?_
  cases r with
  | error e => exact hr
  | ok fl =>
    cases fl with
    | ret obj =>
      obtain ⟨led, rfl, rfl⟩ := hr
      have hS : (s.heap.push (so led)).get? s.heap.objs.size = some (so led) := Heap.get?_push_size _ rfl
      have hT : Shared.TypeIs { s with heap := s.heap.push (so led) } (.ref s.heap.objs.size) "set" := ⟨_, hS, rfl⟩
      have hli := PySem.F.called_set.init.lookup
      have hbi := PySem.F.called_set.init.bind (.ref s.heap.objs.size)
      repeat (any_goals (first | assumption | wp_step))
      refine codeAny_mono (codeAny_call_builtin (R := wants (fun r t => r = .none ∧ ∃ h' tk, t = { s with heap := h', toks := tk } ∧ SetS P w h' s.heap.objs.size xs ∧ (∀ b o, s.heap.get? b = some o → h'.get? b = some o)) E)
        PySem.F.called_set.init.plain PySem.F.entry_set_init (check_set_init_1 hT ?_)) fun r t hr => ?_
      · obtain ⟨ol, hol, hcl, nl, hdl⟩ := hl
        obtain ⟨ocls, odict, odata, oslots⟩ := ol
        simp only at hcl hdl
        subst hcl; subst hdl
        have hol' : (s.heap.push (so led)).get? l = some { cls := .type "list", dict := odict, data := .seq items nl, slots := oslots } := Heap.get?_push_of_some _ hol
        have hsls := PySem.F.sub_list_set
        have hslf := PySem.F.sub_list_frozenset
        have hne : (Value.type "list" == Value.type "dict") = false := by decide
        have hl1 : (s.heap.push (so led)).IsList l items := ⟨_, hol', rfl, nl, rfl⟩
        have lS : l < s.heap.objs.size := Heap.lt_size hol
        unfold Builtin.«set.__init__» noKeywords Builtin.Frozenset.updateFrom
        generalize hPI : pyIter = PI
        wp_walk
        subst hPI
        refine wpAny_pyIter_list hl1 (wpAny_bind (wpAny_runValue ?_))
        have hh3 : A.in1.in1.in1.handled = none := by simp [hh]
        have neI : l ≠ (s.heap.push (so led)).objs.size := by rw [Heap.size_push]; exact Nat.ne_of_lt (Nat.lt_succ_of_lt lS)
        have hSf : s.heap.objs.size ∉ [(s.heap.push (so led)).objs.size, l] := by
          rw [Heap.size_push]
          simp only [List.mem_cons, List.not_mem_nil, or_false, not_or]
          exact ⟨Nat.ne_of_lt (Nat.lt_succ_self _), Nat.ne_of_gt lS⟩
        have hsz : items.size = xs.length := by rw [← StrsAre.len_eq hi, Array.length_toList]
        refine upd_strs ((Walks.list hh3 _ l neI items).toS) s.heap.objs.size hSf xs hsz hb (fun i v hv => ?_) (items.size - 0) 0 _ (by omega) (Nat.zero_le _) ⟨⟨_, Heap.get?_push_size _ rfl, rfl, rfl⟩, (hl1.push _)⟩ ?_ (fun s' mv q => ?_)
        · have hv' : items.toList[i]? = some v := by rw [Array.getElem?_toList]; exact hv
          have hi' : i < xs.length := by rw [← hsz]; exact (Array.getElem?_eq_some_iff.mp hv).1
          obtain ⟨t, e⟩ := StrsAre.at hi (List.getElem?_eq_getElem hi')
          rw [hv'] at e
          exact ⟨xs[i], t, List.getElem?_eq_getElem hi', Option.some.inj e⟩
        · exact PyProof.Rows.SetOf_congr ((PyProof.Rows.setObjOf_fresh (knd := PySem.strKind P w) led).setOf (Heap.get?_push_of_some _ hS) (by unfold scanBound; omega)) (fun _ => rfl) rfl
        · obtain ⟨h', g', d', tk', os'⟩ := s'
          obtain rfl : g' = s.gens := mv.gens
          obtain rfl : d' = s.drawn := mv.drawn
          obtain rfl : os' = s.os := mv.os
          show wpAny _ _ _ _ _ _
          refine wpAny_pure ?_
          show wpAny _ _ (ret Value.none) _ _ _
          refine wpAny_pure ⟨rfl, h', tk', rfl, q, fun b o e => mv.heap b o ?_ (Heap.get?_push_of_some _ (Heap.get?_push_of_some _ e))⟩
          have := Heap.lt_size e
          rw [Heap.size_push]
          simp only [List.mem_cons, List.not_mem_nil, or_false, not_or]
          exact ⟨Nat.ne_of_lt this, Nat.ne_of_lt (Nat.lt_succ_of_lt this)⟩
      · cases r with
        | error e => exact hr
        | ok fl =>
          cases fl with
          | ret r =>
            obtain ⟨rfl, h', tk, rfl, q, kp⟩ := hr
            repeat (any_goals (first | assumption | wp_step))
            exact h _ _ q kp
          | _ => exact hr.elim
    | _ => exact hr.elim
end
section
variable {X : Cx}
/-- len(set(a list of texts)) -/
def tLenSetS (K : PySem.W.Frag) (ta : TE) : TE := fun σ H Q => ta σ H fun x H1 => ∃ l, ∃ xs : List Str, x = .ref l ∧ SqL K H1 l (xs.map V.str) ∧ xs.length ≤ 1000 ∧ Q (.int (uniq xs).length) H1
theorem pe_lenSetS {a : Expr} {ta : TE} {p p2 q pos : Pos} (hc : X.calm = true) (hg : Gl X "len") (hm : X.mg "len" = none) (hg2 : Gl X "set") (hm2 : X.mg "set" = none) (ha : PE X a ta)
    (na : starEach [a] X.env = (false, eval a X.env) :: starEach [] X.env := by rfl) : PE X (.Call (.Name "len" p) [.Call (.Name "set" p2) [a] [] q] [] pos) (tLenSetS X.K ta) := by
  refine ⟨fun pins s σ H Q I h => ?_⟩
  refine Call_ (ld_blt I hg hm boot_len (PyProof.Rows.callWith_builtin1 (PyProof.Rows.args_cons ?_ rfl) rfl rfl))
  refine Call_ (ld_blt I hg2 hm2 boot_set (PyProof.Rows.callWith_type1 (PyProof.Rows.args_cons (thn (ha.run pins s σ H _ I h) fun v t ⟨x, H1, I1, rx, l, xs, ex, hq, hl, k⟩ => PyProof.Rows.args_nil ?_) na) na rfl))
  subst ex
  cases rx
  obtain ⟨its, r, pl, _⟩ := I1.list hq
  refine call_setS (I1.ok.hd hc) pl.isList (by simpa using strsAre_of r) (by unfold scanBound; omega) fun h' tk hS hk => PyProof.Rows.args_nil ?_
  obtain ⟨o, es, ep, tb, ho, hex, hd, _, _, _, hf, hn⟩ := hS
  have I2 : Inv X pins σ H1 { t with heap := h', toks := tk } := I1.kept hk
  have lu := uniq_len xs
  exact call_len_set ho hex hd hf (by rw [hn]; omega) ⟨.int (uniq xs).length, H1, I2.tok _, ⟨_, by rw [hn]⟩, k⟩
end
end Kx
namespace Kx
open PySem PySem.Spec PyProof.Rows L2
section
variable {X : Cx} {CX : CXT} {k : Nat} {C f a dx : Addr} {fd : FuncData} {ps : List Str} {sp : Sp} {E : XK}
/-- x in o, by the own __contains__'s promise -/
def rInO (C : Addr) (sp : Sp) (E : XK) : R2 := fun x y H Q => ∃ a dx fs, y = .ref a ∧ H a = some (.ins C dx fs) ∧ sp [.ref a, x] H (fun v H' => ∃ b, v = .bl b ∧ Q (.bl b) H') E
theorem op_inO (c : Cls X.K C) (hs : PySem.W.findIn X.K (.ref C) "__contains__" = some (some (.ref f))) (hf : PySem.W.isFn X.K (.ref f) = true) (F : FnOk X.prog X.w X.K X.mg X.base CX k f fd ps sp) (hr : Room k X.A) (hb : Binds X.K fd ps [])
    (hx : Passes CX X E) : OpR X (compareOp .In) (rInO C sp E) := by
  intro pins s σ H x y v u Q I rx ry h
  obtain ⟨a, dx, fs, rfl, ha, q⟩ := h
  cases ry
  obtain ⟨mA, O, _⟩ := ins_get I.hok ha
  obtain ⟨od, J, _⟩ := O.look
  obtain ⟨m, fr⟩ := I.fr
  refine PySem.W.in_K fr I.ok.mod.kin J hs hf ?_
  refine wpAny_mono (run_fn (us := [.ref a, v]) (vs := [.ref a, x]) (ds := []) (dvs := []) F hr hb .nil hx I (.cons rfl (.cons rx .nil)) q) (fun r s' z => ?_) fun _ _ z => z
  obtain ⟨v', H', I', rv, b, rfl, qq⟩ := z
  cases (show r = Value.bool b from rv)
  exact wpAny_truthy_bool ⟨.bl b, H', I', rfl, qq⟩
end
/-! ### list(d.values()) -/
def dvO (p d : Addr) : HO := .ext fun h => h.IsValuesView p d
theorem dvO_ok {P : Program} {w : World} {H : Hp} {h : Heap} {p d : Addr} (e : h.IsValuesView p d) : ObjOk P w H h p (dvO p d) :=
  ⟨e, (let ⟨o, ho, _⟩ := e; ⟨o, ho⟩), fun h1 h2 q k => let ⟨o, ho, r⟩ := q; ⟨o, k _ ho, r⟩⟩
def tDvals (td : TE) : TE := fun σ H Q => td σ H fun x H1 => ∃ (d : Addr) (kvs : List (Key × V)), x = .ref d ∧ H1 d = some (.dK kvs) ∧ ∀ p, H1 p = none → Q (.ref p) (upd H1 p (dvO p d))
section
variable {X : Cx} {e : Expr} {td : TE} {apos cpos : Pos}
theorem pe_dvals (he : PE X e td) (hbase : attributeBase e "values" X.env (eval e X.env) = eval e X.env := by rfl) (hline : (apos.endLine == cpos.line) = true := by rfl) : PE X (.Call (.Attribute e "values" apos) [] [] cpos) (tDvals td) := by
  refine ⟨fun pins s σ H Q I h => ?_⟩
  refine wpAny_Call_method (T := "dict") (id := "dict.values") hbase rfl hline F.plainAttrs_dict F.slot_dict_values F.type_dict_values (thn (he.run pins s σ H _ I h) fun u s1 ⟨x, H1, I1, rx, d, kvs, ex, hd, q⟩ => ?_)
  subst ex
  obtain rfl : u = Value.ref d := rx
  obtain ⟨z, lo, vs, rel, dd⟩ := dk_rd I1.hok (.inl hd)
  refine ⟨dd.typeIs, dd.mapOf.noDict, ?_⟩
  have ev : (s1.heap.push { cls := .type "dict_values", data := .fields #[.ref d] }).IsValuesView s1.heap.objs.size d := ⟨_, Heap.get?_push_size _ rfl, rfl, rfl⟩
  have fin : EP X pins σ Q (.ref s1.heap.objs.size) { s1 with heap := s1.heap.push { cls := .type "dict_values", data := .fields #[.ref d] } } :=
    ⟨.ref s1.heap.objs.size, _, I1.laid (t' := s1.toks) (o := dvO s1.heap.objs.size d) (fun b ob e => Heap.get?_push_of_some _ e) (Nat.le_refl _) (dvO_ok ev), rfl, q _ (I1.hok.fresh (Nat.le_refl _))⟩
  show wpAny _ _ (callWith cpos (.builtin "dict.values") [.ref d] [] []) _ X.xe s1
  exact method_meetsIn F.slot_dict_values F.entry_dict_values rfl (PySem.evalArgs_none ⟨rfl, dd.typeIs, F.args_dict_values_1 _, _, meets_dict_values (mixKind X.prog X.w) d lo, ⟨vs, dd⟩, fin⟩)
theorem call_listV (hcalm : X.calm = true) : CallR X (.type "list") (fun xs H Q => ∃ (p d : Addr) (kvs : List (Key × V)), xs = [.ref p] ∧ H p = some (dvO p d) ∧ H d = some (.dK kvs) ∧ ∀ q, H q = none → Q (.ref q) (upd H q (.lst (kvs.map (·.2))))) := by
  intro pins s σ H xs us Q I r q
  obtain ⟨p, d, kvs, rfl, hp, hd, q⟩ := q
  obtain ⟨u, rfl, rx⟩ := vals1 r
  cases rx
  obtain ⟨z, lo, vs, rel, dd⟩ := dk_rd I.hok (.inl hd)
  obtain ⟨ep, hat⟩ := dd.dictAt
  have hv0 : s.heap.IsValuesView p d := (show ObjOk X.prog X.w H s.heap p (.ext fun h => h.IsValuesView p d) from I.hok p _ hp).1
  have lenv : vs.length ≤ sizeLine := by rw [← rel.length]; exact z
  refine PySem.W.kdl_call (PySem.W.kdl_values (knd := mixKind X.prog X.w) (kvs := vs) (ep := ep)) (I.ok.hd hcalm) ⟨hv0, hat⟩ lenv fun h' tk acc c' hk hD hacc => ?_
  have e2 : acc.toList = vs.map (·.2) := PySem.W.kdl_vals_eq acc.toList (by rw [Array.length_toList]; exact hacc.1) fun j v e => hacc.2 j v (by rw [← Array.getElem?_toList]; exact e)
  have hv : Vals (kvs.map (·.2)) acc.toList := by
    rw [e2]
    clear e2 hacc hat dd lenv z hd q
    induction rel with
    | nil => exact .nil
    | cons h t ih => exact .cons h.2 ih
  refine ⟨.ref s.heap.objs.size, upd H s.heap.objs.size (.lst (kvs.map (·.2))), I.laid (t' := tk) hk (Nat.le_refl _)
    (show ObjOk X.prog X.w _ _ _ (.lst (kvs.map (·.2))) from ⟨by rw [List.length_map]; exact z, acc.toList, c', hv, by rw [Array.toArray_toList]; exact hD⟩), rfl, q _ (I.hok.fresh (Nat.le_refl _))⟩
end
/-! ### == and != of data -/
section
variable {X : Cx}
def rEqDv : R2 := fun x y H Q => ∃ (ex ey : Addr → Prop) (d e : PyData), Dv ex H x d ∧ Dv ey H y e ∧ SeqAt.shaped d = true ∧ SeqAt.shaped e = true ∧ Q (.bl (PyData.eqv d e)) H
def rNeDv : R2 := fun x y H Q => ∃ (ex ey : Addr → Prop) (d e : PyData), Dv ex H x d ∧ Dv ey H y e ∧ SeqAt.shaped d = true ∧ SeqAt.shaped e = true ∧ Q (.bl (!PyData.eqv d e)) H
theorem op_eqDv {om : Obj} (hK : X.K.lookup sysModules = some om) (hu : X.A.units + 64 < cLine) : OpR X (compareOp .Eq) rEqDv := by
  intro pins s σ H x y v u Q I rx ry h
  obtain ⟨ex, ey, d, e, hd, he, sd, se, q⟩ := h
  have hsm : H sysModules = none := (I.bs _ _ (I.ok.mod.kin _ _ hK)).2
  obtain ⟨as, r1, _⟩ := Dv.reads I hsm d x v hd rx
  obtain ⟨bs, r2, _⟩ := Dv.reads I hsm e y u he ry
  exact SeqAt.compareEq_shaped r1 r2 sd se hu ⟨.bl _, H, I, rfl, q⟩
theorem op_neDv {om : Obj} (hK : X.K.lookup sysModules = some om) (hu : X.A.units + 64 < cLine) : OpR X (compareOp .NotEq) rNeDv := by
  intro pins s σ H x y v u Q I rx ry h
  obtain ⟨ex, ey, d, e, hd, he, sd, se, q⟩ := h
  have hsm : H sysModules = none := (I.bs _ _ (I.ok.mod.kin _ _ hK)).2
  obtain ⟨as, r1, _⟩ := Dv.reads I hsm d x v hd rx
  obtain ⟨bs, r2, _⟩ := Dv.reads I hsm e y u he ry
  exact SeqAt.compareNe_reads r1 r2 (SeqAt.canLay_of_shaped sd) (SeqAt.canLay_of_shaped se) (SeqAt.room_of_shaped sd hu) ⟨.bl _, H, I, rfl, q⟩
/-- t != () whatever the items are -/
def rNeT0 (K : PySem.W.Frag) : R2 := fun x y H Q => ∃ a b xs, x = .ref a ∧ y = .ref b ∧ SqT K H a xs ∧ SqT K H b [] ∧ Q (.bl (!xs.isEmpty)) H
theorem op_neT0 (hu : X.A.units < cLine) : OpR X (compareOp .NotEq) (rNeT0 X.K) := by
  intro pins s σ H x y v u Q I rx ry h
  obtain ⟨a, b, xs, rfl, rfl, h1, h2, q⟩ := h
  cases rx
  cases ry
  obtain ⟨its, r, p1, _⟩ := I.tuple h1
  obtain ⟨its2, r2, p2, _⟩ := I.tuple h2
  cases r2
  have e : (!((List.range (min its.toArray.size 0)).all (fun _ => true) && its.toArray.size == 0)) = !xs.isEmpty := by
    cases xs with
    | nil => cases r; rfl
    | cons y ys => cases r; rfl
  refine SeqAt.RcNeAt.tuples (e := fun _ => true) p1 p2 hu (fun j hj h2 => absurd h2 (by simp)) _ _ _ _ ?_
  refine ⟨.bl (!xs.isEmpty), H, I, ?_, q⟩
  rw [← e]
  rfl
end
end Kx
namespace Kx
open PySem PySem.Spec PyProof.Rows L2 PySem.AutoSeq1
open AutoSeq1 (wpAny_loadPart')
theorem str_eq_declines_dict (b : Str) (u : Tok) (l : Addr) (es : Array DictEntry) (ep : Nat) (dd : Option Addr) (sl : Array (Option Value)) :
    Meets (Builtin.«str.__eq__» ⟨[.str b u, .ref l], []⟩) (fun _ R s => s.heap.get? l = some { cls := .type "dict", dict := dd, data := .dict es ep, slots := sl } ∧ R (.ok (.ret .notImplemented)) s) :=
  .of_wp fun prog w A R s h => by obtain ⟨hp, g, d, tk, os⟩ := s; obtain ⟨hl, h⟩ := h; wp_walk using wpAny_loadPart' hl, wpAny_load hl; exact ⟨_, rfl, h⟩
theorem dict_eq_declines_str (b : Str) (u : Tok) (l : Addr) (es : Array DictEntry) (ep : Nat) (dd : Option Addr) (sl : Array (Option Value)) :
    Meets (Builtin.«dict.__eq__» ⟨[.ref l, .str b u], []⟩) (fun _ R s => s.heap.get? l = some { cls := .type "dict", dict := dd, data := .dict es ep, slots := sl } ∧ R (.ok (.ret .notImplemented)) s) :=
  .of_wp fun prog w A R s h => by
    obtain ⟨hp, g, d, tk, os⟩ := s; obtain ⟨hl, h⟩ := h; have f1 := F.sub_dict_str; have f2 := F.sub_str_dict
    have g4 : Shared.TypeIs ⟨hp, g, d, tk, os⟩ (.ref l) "dict" := ⟨_, hl, rfl⟩
    wp_walk using wpAny_loadPart' hl, wpAny_load hl, wpAny_typeOf g4
    exact ⟨_, rfl, h⟩
theorem eqAt_str_dict {A : Around} {s : Shared} {l : Addr} {o : Obj} {es : Array DictEntry} {ep : Nat} (b : Str) (u : Tok) (hl : s.heap.get? l = some o) (hc : o.cls = .type "dict") (hd : o.data = .dict es ep) (hu : A.units < cLine) : SeqAt.EqAt A s (.str b u) (.ref l) false := fun prog w E Q h => by
  obtain ⟨cls, dd, data, sl⟩ := o
  simp only at hc hd
  subst hc hd
  unfold eqBool
  refine wpAny_holding ?_
  refine wpAny_ite_split (fun hab => absurd (eq_of_beq hab) nofun) (fun _ => ?_)
  refine wpAny_bind ?_
  refine SeqAt.rc_eq_decline_or (k := false) (typeIs_str s b u) ⟨_, hl, rfl⟩ (by decide) F.sub_dict_str F.slot_str_eq F.slot_dict_eq_refl
    (fun _ hq => call_meets F.slot_str_eq (typeIs_str s b u) F.entry_str_eq (F.args_str_eq_2 _ _) (str_eq_declines_dict b u l es ep dd sl) ⟨hl, hq⟩)
    (fun _ hq => call_meets F.slot_dict_eq_refl ⟨_, hl, rfl⟩ F.entry_dict_eq (F.args_dict_eq_2 _ _) (dict_eq_declines_str b u l es ep dd sl) ⟨hl, hq⟩)
    (fun _ hq => wpAny_of_eq (rfl : isSame (.str b u) (.ref l) = pure false) hq) (.inr hu) (wpAny_truthy_bool h)

def strInD (zs : List Str) : PyData → Bool
  | .str z => decide (z ∈ zs)
  | _ => false
section
variable {X : Cx}
/-- x in a tuple of texts, x any datum -/
def rInS (K : PySem.W.Frag) : R2 := fun x y H Q => ∃ (ex : Addr → Prop) (p : Addr) (zs : List Str) (d : PyData), y = .ref p ∧ SqT K H p (zs.map V.str) ∧ Dv ex H x d ∧ Q (.bl (strInD zs d)) H
theorem op_inS (hu : X.A.units + 1 < cLine) : OpR X (compareOp .In) (rInS X.K) := by
  intro pins s σ H x y v u Q I rx ry h
  obtain ⟨ex, p, zs, d, rfl, hq, hd, q⟩ := h
  cases ry
  obtain ⟨its, r, pl, hz⟩ := I.tuple hq
  have hu2 : X.A.in1.units < cLine := hu
  let e : Value → Bool := fun y => match y, d with
    | .str a _, .str b => a == b
    | _, _ => false
  have each : ∀ {zs : List Str} {its : List Value}, Vals (zs.map V.str) its → (∀ y ∈ its, ∃ z t, y = Value.str z t ∧ z ∈ zs) ∧ its.any e = strInD zs d := by
    intro zs
    induction zs with
    | nil =>
      intro its r
      cases r
      refine ⟨fun y hy => (by cases hy), ?_⟩
      cases d <;> first | rfl | simp [strInD]
    | cons z zs ih =>
      intro its r
      cases r with
      | cons r1 r2 =>
        obtain ⟨t, rfl⟩ := r1
        obtain ⟨h1, h2⟩ := ih r2
        refine ⟨fun y hy => ?_, ?_⟩
        · rcases List.mem_cons.mp hy with rfl | hy
          · exact ⟨z, t, rfl, List.mem_cons_self⟩
          · obtain ⟨a, b, c, d⟩ := h1 y hy
            exact ⟨a, b, c, List.mem_cons_of_mem _ d⟩
        · rw [List.any_cons, h2]
          cases d with
          | str w =>
            show ((z == w) || decide (w ∈ zs)) = decide (w ∈ z :: zs)
            by_cases hw : z = w
            · subst hw; simp
            · have hw' : ¬ w = z := fun q => hw q.symm
              simp [hw, hw', List.mem_cons]
          | _ => rfl
  obtain ⟨h1, h2⟩ := each r
  refine SeqAt.in_tupleAt e pl (fun y hy => ?_) ⟨.bl _, H, I, rfl, ?_⟩
  · obtain ⟨z, t, rfl, _⟩ := h1 y (by simpa using hy)
    cases hd with
    | non => cases rx; exact SeqAt.EqAt.str_none z t
    | bl b => cases rx; exact SeqAt.EqAt.str_bool z t b
    | int i => obtain ⟨t2, rfl⟩ := rx; exact SeqAt.EqAt.str_int z t i t2
    | str w => obtain ⟨t2, rfl⟩ := rx; exact SeqAt.EqAt.str_str z t w t2
    | lst na e2 l =>
      cases rx
      obtain ⟨its2, r2, p2, _⟩ := I.list (SqL.of e2)
      exact SeqAt.EqAt.str_list z t p2.isList hu2
    | @tup a o xs ds od e2 l =>
      cases rx
      obtain ⟨its2, r2, p2, _⟩ := I.tuple (TupF.sq (K := X.K) ⟨o, od, e2⟩)
      exact SeqAt.EqAt.str_tuple z t p2 hu2
    | @dic a kvs es na e2 l =>
      cases rx
      obtain ⟨_, hne, vs, rv, o, es', ep, ho, hx, hd', _⟩ := (show ObjOk X.prog X.w H s.heap a (.dK kvs) from I.hok a _ e2)
      exact eqAt_str_dict z t ho hx.1 hd' hu2
  · rw [show its.toArray.any e = its.any e by simp, h2]
    exact q
end
end Kx
namespace Kx
open PySem PySem.Spec PyProof.Rows L2
/-! ### set(tuple of texts) -/
section
variable {P : Program} {w : World} {A : Around} {E : Value → Shared → Prop} {s : Shared}
theorem call_setT {l : Addr} {items : Array Value} {xs : List Str} {Q : Value → Shared → Prop} (hh : A.handled = none) (hl : s.heap.IsTuple l items) (hi : StrsAre items.toList xs) (hb : xs.length + 1 < scanBound)
    (h : ∀ (h' : Heap) (tk : Nat), SetS P w h' s.heap.objs.size xs → (∀ b o, s.heap.get? b = some o → h'.get? b = some o) → Q (.ref s.heap.objs.size) { s with heap := h', toks := tk }) :
    wpAny (model P w) A (call (.type "set") [.ref l]) Q E s := by
  obtain ⟨c, tl, hmro⟩ := PySem.F.called_set.mro
  have hmade := PySem.F.called_set.made
  have hsub := PySem.F.called_set.sub
  refine wpAny_call (codeAny_of_tree ?_)
  show wpAny _ _ (callAny (.type "set") _) _ _ _
  refine wpAny_pure ⟨Code.quiet_builtin _ (by decide +kernel), codeAny_builtin PySem.F.entry_type_call ?_⟩
  rw [Around.under_plain (weight_type_call_type "set" [.ref l] []) rfl]
  have h1 := PySem.F.called_set.notType
  have h2 := PySem.F.called_set.canCreate
  have hct := PySem.F.typeCall_set_1 (.ref l)
  repeat (any_goals (first | assumption | wp_step))
  let so : Bool → Obj := fun led => { cls := .type "set", dict := none, data := .set #[] 0 (.fresh 0 0 led) }
  refine codeAny_mono (code_set_new_1 (.ref l) (E := E) (Q₁ := fun obj t => ∃ led : Bool, obj = .ref s.heap.objs.size ∧ t = { s with heap := s.heap.push (so led) }) fun led => ⟨led, rfl, rfl⟩) fun r t hr => ?_
  cases r with
  | error e => exact hr
  | ok fl =>
    cases fl with
    | ret obj =>
      obtain ⟨led, rfl, rfl⟩ := hr
      have hS : (s.heap.push (so led)).get? s.heap.objs.size = some (so led) := Heap.get?_push_size _ rfl
      have hT : Shared.TypeIs { s with heap := s.heap.push (so led) } (.ref s.heap.objs.size) "set" := ⟨_, hS, rfl⟩
      have hli := PySem.F.called_set.init.lookup
      have hbi := PySem.F.called_set.init.bind (.ref s.heap.objs.size)
      repeat (any_goals (first | assumption | wp_step))
      refine codeAny_mono (codeAny_call_builtin (R := wants (fun r t => r = .none ∧ ∃ h' tk, t = { s with heap := h', toks := tk } ∧ SetS P w h' s.heap.objs.size xs ∧ (∀ b o, s.heap.get? b = some o → h'.get? b = some o)) E)
        PySem.F.called_set.init.plain PySem.F.entry_set_init (check_set_init_1 hT ?_)) fun r t hr => ?_
      · obtain ⟨ol, hol, hcl, nl, hdl⟩ := hl
        obtain ⟨ocls, odict, odata, oslots⟩ := ol
        simp only at hcl hdl
        subst hcl; subst hdl
        have hol' : (s.heap.push (so led)).get? l = some { cls := .type "tuple", dict := odict, data := .seq items nl, slots := oslots } := Heap.get?_push_of_some _ hol
        have hsls := PySem.F.sub_tuple_set
        have hslf := PySem.F.sub_tuple_frozenset
        have hne : (Value.type "tuple" == Value.type "dict") = false := by decide
        have hl1 : (s.heap.push (so led)).IsTuple l items := ⟨_, hol', rfl, nl, rfl⟩
        have lS : l < s.heap.objs.size := Heap.lt_size hol
        unfold Builtin.«set.__init__» noKeywords Builtin.Frozenset.updateFrom
        generalize hPI : pyIter = PI
        wp_walk
        subst hPI
        refine wpAny_pyIter_tuple hl1 (wpAny_bind (wpAny_runValue ?_))
        have hh3 : A.in1.in1.in1.handled = none := by simp [hh]
        have neI : l ≠ (s.heap.push (so led)).objs.size := by rw [Heap.size_push]; exact Nat.ne_of_lt (Nat.lt_succ_of_lt lS)
        have hSf : s.heap.objs.size ∉ [(s.heap.push (so led)).objs.size, l] := by
          rw [Heap.size_push]
          simp only [List.mem_cons, List.not_mem_nil, or_false, not_or]
          exact ⟨Nat.ne_of_lt (Nat.lt_succ_self _), Nat.ne_of_gt lS⟩
        have hsz : items.size = xs.length := by rw [← StrsAre.len_eq hi, Array.length_toList]
        refine upd_strs ((Walks.tuple hh3 _ l neI items).toS) s.heap.objs.size hSf xs hsz hb (fun i v hv => ?_) (items.size - 0) 0 _ (by omega) (Nat.zero_le _) ⟨⟨_, Heap.get?_push_size _ rfl, rfl, rfl⟩, (hl1.push _)⟩ ?_ (fun s' mv q => ?_)
        · have hv' : items.toList[i]? = some v := by rw [Array.getElem?_toList]; exact hv
          have hi' : i < xs.length := by rw [← hsz]; exact (Array.getElem?_eq_some_iff.mp hv).1
          obtain ⟨t, e⟩ := StrsAre.at hi (List.getElem?_eq_getElem hi')
          rw [hv'] at e
          exact ⟨xs[i], t, List.getElem?_eq_getElem hi', Option.some.inj e⟩
        · exact PyProof.Rows.SetOf_congr ((PyProof.Rows.setObjOf_fresh (knd := PySem.strKind P w) led).setOf (Heap.get?_push_of_some _ hS) (by unfold scanBound; omega)) (fun _ => rfl) rfl
        · obtain ⟨h', g', d', tk', os'⟩ := s'
          obtain rfl : g' = s.gens := mv.gens
          obtain rfl : d' = s.drawn := mv.drawn
          obtain rfl : os' = s.os := mv.os
          show wpAny _ _ _ _ _ _
          refine wpAny_pure ?_
          show wpAny _ _ (ret Value.none) _ _ _
          refine wpAny_pure ⟨rfl, h', tk', rfl, q, fun b o e => mv.heap b o ?_ (Heap.get?_push_of_some _ (Heap.get?_push_of_some _ e))⟩
          have := Heap.lt_size e
          rw [Heap.size_push]
          simp only [List.mem_cons, List.not_mem_nil, or_false, not_or]
          exact ⟨Nat.ne_of_lt this, Nat.ne_of_lt (Nat.lt_succ_of_lt this)⟩
      · cases r with
        | error e => exact hr
        | ok fl =>
          cases fl with
          | ret r =>
            obtain ⟨rfl, h', tk, rfl, q, kp⟩ := hr
            repeat (any_goals (first | assumption | wp_step))
            exact h _ _ q kp
          | _ => exact hr.elim
    | _ => exact hr.elim
end
section
variable {X : Cx}
/-- len(set(a tuple of texts)) -/
def tLenSetT (K : PySem.W.Frag) (ta : TE) : TE := fun σ H Q => ta σ H fun x H1 => ∃ l, ∃ xs : List Str, x = .ref l ∧ SqT K H1 l (xs.map V.str) ∧ xs.length ≤ 1000 ∧ Q (.int (uniq xs).length) H1
theorem pe_lenSetT {a : Expr} {ta : TE} {p p2 q pos : Pos} (hc : X.calm = true) (hg : Gl X "len") (hm : X.mg "len" = none) (hg2 : Gl X "set") (hm2 : X.mg "set" = none) (ha : PE X a ta)
    (na : starEach [a] X.env = (false, eval a X.env) :: starEach [] X.env := by rfl) : PE X (.Call (.Name "len" p) [.Call (.Name "set" p2) [a] [] q] [] pos) (tLenSetT X.K ta) := by
  refine ⟨fun pins s σ H Q I h => ?_⟩
  refine Call_ (ld_blt I hg hm boot_len (PyProof.Rows.callWith_builtin1 (PyProof.Rows.args_cons ?_ rfl) rfl rfl))
  refine Call_ (ld_blt I hg2 hm2 boot_set (PyProof.Rows.callWith_type1 (PyProof.Rows.args_cons (thn (ha.run pins s σ H _ I h) fun v t ⟨x, H1, I1, rx, l, xs, ex, hq, hl, k⟩ => PyProof.Rows.args_nil ?_) na) na rfl))
  subst ex
  cases rx
  obtain ⟨its, r, pl, _⟩ := I1.tuple hq
  refine call_setT (I1.ok.hd hc) pl (by simpa using strsAre_of r) (by unfold scanBound; omega) fun h' tk hS hk => PyProof.Rows.args_nil ?_
  obtain ⟨o, es, ep, tb, ho, hex, hd, _, _, _, hf, hn⟩ := hS
  have I2 : Inv X pins σ H1 { t with heap := h', toks := tk } := I1.kept hk
  have lu := uniq_len xs
  exact call_len_set ho hex hd hf (by rw [hn]; omega) ⟨.int (uniq xs).length, H1, I2.tok _, ⟨_, by rw [hn]⟩, k⟩
end
end Kx
/-! list(zip(a, b)) of two lists of one length -/
namespace Kx
open PySem PySem.Spec PyProof.Rows L2
theorem zip_no_len : typeLookup (.type "zip") "__len__" = pure none := by rw [typeLookup_type, builtinLookup_eq_fast]; kernel_rfl
theorem zip_no_hint : typeLookup (.type "zip") "__length_hint__" = pure none := by rw [typeLookup_type, builtinLookup_eq_fast]; kernel_rfl
def ZSt (S : Addr) (h : Heap) (z TI TO i1 i2 l1 l2 : Addr) (xs ys : Array Value) (i : Nat) : Prop :=
  IsPair h TI (.ref i1) (.ref i2) ∧ h.IsListIter i1 l1 i ∧ h.IsListIter i2 l2 i ∧ h.IsList l1 xs ∧ h.IsList l2 ys ∧
    ((IsZip h z TI TO .none ∧ ∃ a b, IsPair h TO a b) ∨ ∃ T f oT, IsZipHeld h z TI TO T f ∧ h.get? T = some oT ∧ T ≠ z ∧ T ≠ i1 ∧ T ≠ i2 ∧ T ≠ S)
theorem ZSt.off {S z TI TO i1 i2 l1 l2 : Addr} {h h' : Heap} {xs ys : Array Value} {i : Nat} (st : ZSt S h z TI TO i1 i2 l1 l2 xs ys i) (n : ∀ b ∈ [z, TI, TO, i1, i2, l1, l2], b ≠ S) (k : ∀ b o, b ≠ S → h.get? b = some o → h'.get? b = some o) : ZSt S h' z TI TO i1 i2 l1 l2 xs ys i := by
  obtain ⟨hTI, h1, h2, hl1, hl2, hz⟩ := st
  refine ⟨k _ _ (n TI (by simp)) hTI, h1.at fun o e => k _ o (n i1 (by simp)) e, h2.at fun o e => k _ o (n i2 (by simp)) e, hl1.at fun o e => k _ o (n l1 (by simp)) e, hl2.at fun o e => k _ o (n l2 (by simp)) e, ?_⟩
  rcases hz with ⟨hz, a, b, hTO⟩ | ⟨T, f, oT, hz, hT, r1, r2, r3, r4⟩
  · exact .inl ⟨k _ _ (n z (by simp)) hz, a, b, k _ _ (n TO (by simp)) hTO⟩
  · exact .inr ⟨T, f, oT, k _ _ (n z (by simp)) hz, k _ _ r4 hT, r1, r2, r3, r4⟩
section
variable {prog : Program} {w : World} {A : Around} {R : Result → Shared → Prop}
/-- what the list has got so far -/
def Got (N0 : Nat) (h : Heap) (xs ys acc : Array Value) (i : Nat) : Prop := ∃ ps : List Addr, acc.toList = ps.map Value.ref ∧ ps.length = i ∧ ps.Nodup ∧ ∀ (j : Nat) (p : Addr), ps[j]? = some p → N0 ≤ p ∧ p < h.objs.size ∧ ∃ x y, xs[j]? = some x ∧ ys[j]? = some y ∧ IsPair h p x y
theorem ext_zip {S z TI TO i1 i2 l1 l2 : Addr} {xs ys : Array Value} {N0 : Nat} (D : ZipApart z TI TO i1 i2 l1 l2) (hl : xs.size = ys.size) (hs : xs.size ≤ sizeLine) (hh : A.handled = none) (n : ∀ b ∈ [z, TI, TO, i1, i2, l1, l2], b ≠ S)
    (hN : ∀ b ∈ [S, z, TO, i1, i2], b < N0) (res : Value) :
    ∀ (k i : Nat) (s : Shared) (acc : Array Value) (c : Nat), xs.size - i = k → i ≤ xs.size → ZSt S s.heap z TI TO i1 i2 l1 l2 xs ys i → s.heap.get? S = some { cls := .type "list", dict := none, data := .seq acc c, slots := #[] } → N0 ≤ s.heap.objs.size → Got N0 s.heap xs ys acc i →
      (∀ h' acc' c', (∀ b o, b ∉ [S, z, TO, i1, i2] → s.heap.get? b = some o → h'.get? b = some o) → h'.get? S = some { cls := .type "list", dict := none, data := .seq acc' c', slots := #[] } → Got N0 h' xs ys acc' xs.size → R (.ok (.ret res)) { s with heap := h' }) →
      codeAny (model prog w) A (.builtin "list.extend.loop" ⟨[.ref S, .ref z, res], []⟩) R s := by
  have nz := n z (by simp)
  have n1 := n i1 (by simp)
  have n2 := n i2 (by simp)
  have nO := n TO (by simp)
  intro k
  induction k with
  | zero =>
    intro i s acc c hk hi hst hS hNs hgot hR
    obtain rfl : i = xs.size := by omega
    refine codeAny_builtin F.entry_extend_loop ?_
    rw [Around.under_plainId F.plain_extend_loop _]
    show wpAny _ A.in1 (pyNext (.ref z) >>= _) _ _ s
    have fin : ∀ h', (∀ b o, b ∉ [z, TO, i1, i2] → s.heap.get? b = some o → h'.get? b = some o) → R (.ok (.ret res)) { s with heap := h' } := fun h' hk => by
      refine hR h' acc c (fun b o hb e => hk b o (fun q => hb (List.mem_cons_of_mem _ q)) e) (hk S _ (by simp only [List.mem_cons, List.not_mem_nil, or_false, not_or]; exact ⟨nz.symm, nO.symm, n1.symm, n2.symm⟩) hS) ?_
      obtain ⟨ps, e1, e2, e3, e4⟩ := hgot
      refine ⟨ps, e1, e2, e3, fun j p hj => ?_⟩
      obtain ⟨q1, q2, x, y, hx, hy, hp⟩ := e4 j p hj
      have np : p ∉ [z, TO, i1, i2] := fun q => Nat.not_lt.mpr q1 (hN p (List.mem_cons_of_mem _ q))
      have hp' := hk p _ np hp
      exact ⟨q1, Heap.lt_size hp', x, y, hx, hy, hp'⟩
    obtain ⟨hTI, h1, h2, hl1, hl2, hz⟩ := hst
    have hend : xs[xs.size]? = none ∨ ys[xs.size]? = none := .inl (by simp)
    rcases hz with ⟨hz, a, b, hTO⟩ | ⟨T, f, oT, hz, hT, r1, r2, r3, r4⟩
    · exact wpAny_bind (wpAny_pyNext_zip_end (by simpa using hh) D hz hTI hTO h1 h2 hl1 hl2 hend fun h' hk => wpAny_pure (fin h' fun c o hc e => hk c o (fun x => hc (by simp [x])) (fun x => hc (by simp [x])) (fun x => hc (by simp [x])) (fun x => hc (by simp [x])) e))
    · exact wpAny_bind (wpAny_pyNext_zip_end_held (by simpa using hh) D hz hT hTI h1 h2 hl1 hl2 hend fun h' hk => wpAny_pure (fin h' fun c o hc e => hk c o (fun x => hc (by simp [x])) (fun x => hc (by simp [x])) (fun x => hc (by simp [x])) e))
  | succ k ih =>
    intro i s acc c hk hi hst hS hNs hgot hR
    have hlt : i < xs.size := by omega
    have hlt2 : i < ys.size := by omega
    refine codeAny_builtin F.entry_extend_loop ?_
    rw [Around.under_plainId F.plain_extend_loop _]
    show wpAny _ A.in1 (pyNext (.ref z) >>= _) _ _ s
    have ex := Array.getElem?_eq_getElem hlt
    have ey := Array.getElem?_eq_getElem hlt2
    have szacc : acc.size = i := by
      obtain ⟨ps, e1, e2, _⟩ := hgot
      have := congrArg List.length e1
      rw [List.length_map, e2, Array.length_toList] at this
      exact this
    have go : ∀ h', ZSt S h' z TI TO i1 i2 l1 l2 xs ys (i + 1) → IsPair h' s.heap.objs.size xs[i] ys[i] → h'.objs.size = s.heap.objs.size + 1 → (∀ b o, b ∉ [z, TO, i1, i2] → s.heap.get? b = some o → h'.get? b = some o) →
        wpAny (model prog w) A.in1 (updateSeq S (·.push (.ref s.heap.objs.size)) >>= fun _ => again (.builtin "list.extend.loop" ⟨[.ref S, .ref z, res], []⟩)) (fun fin s' => match fin with | .done f => R (.ok f) s' | .again c' => c'.quiet = true ∧ codeAny (model prog w) A c' R s') (fun e s' => R (.error e) s') { s with heap := h' } := fun h' st' hp hsz hk => by
      have hS' : h'.get? S = some { cls := .type "list", dict := none, data := .seq acc c, slots := #[] } := hk S _ (by simp only [List.mem_cons, List.not_mem_nil, or_false, not_or]; exact ⟨nz.symm, nO.symm, n1.symm, n2.symm⟩) hS
      have ltS : S < s.heap.objs.size := Heap.lt_size hS
      have oth : ∀ b o, b ≠ S → h'.get? b = some o → (h'.update S (Obj.mapSeq (·.push (Value.ref s.heap.objs.size)))).get? b = some o := fun b o hb e => (Heap.get?_update_other _ _ (Ne.symm hb)).trans e
      refine wpAny_bind ?_
      refine wpAny_updateSeq hS' rfl (wpAny_pure ⟨plainId_quiet F.plain_extend_loop _, ih (i + 1) _ (acc.push (.ref s.heap.objs.size)) _ (by omega) hlt (st'.off n oth) (Heap.get?_update_self _ hS' rfl) ?_ ?_ fun h'' acc' c' hk'' hS'' hacc' => ?_⟩)
        (by rw [szacc]; omega) (by show (acc.push (.ref s.heap.objs.size)).size ≤ sizeLine + 1; rw [Array.size_push, szacc]; omega)
      · show N0 ≤ (h'.update S _).objs.size
        have : (h'.update S (Obj.mapSeq (·.push (Value.ref s.heap.objs.size)))).objs.size = h'.objs.size := by simp [Heap.update]
        rw [this, hsz]; omega
      · obtain ⟨ps, e1, e2, e3, e4⟩ := hgot
        have psz : ∀ p ∈ ps, p < s.heap.objs.size := fun p hp => by
          obtain ⟨j, hj⟩ := List.getElem?_of_mem hp
          exact (e4 j p hj).2.1
        refine ⟨ps ++ [s.heap.objs.size], by rw [Array.toList_push, e1, List.map_append]; rfl, by rw [List.length_append, e2]; rfl, ?_, fun j p hj => ?_⟩
        · rw [List.nodup_append]
          refine ⟨e3, by simp, fun a ha b hb e => ?_⟩
          rw [List.mem_singleton.mp hb] at e
          have hlt := psz a ha
          rw [e] at hlt
          exact Nat.lt_irrefl _ hlt
        · by_cases hjl : j < ps.length
          · rw [List.getElem?_append_left hjl] at hj
            obtain ⟨q1, q2, x, y, hx, hy, hp0⟩ := e4 j p hj
            have np : p ∉ [z, TO, i1, i2] := fun q => Nat.not_lt.mpr q1 (hN p (List.mem_cons_of_mem _ q))
            have npS : p ≠ S := fun q => Nat.not_lt.mpr q1 (hN p (by rw [q]; exact List.mem_cons_self))
            have hp' := oth p _ npS (hk p _ np hp0)
            exact ⟨q1, Heap.lt_size hp', x, y, hx, hy, hp'⟩
          · rw [List.getElem?_append_right (by omega)] at hj
            have hj0 : j - ps.length = 0 := by
              have := (List.getElem?_eq_some_iff.mp hj).1
              simp at this
              omega
            rw [hj0] at hj
            cases hj
            have hji : j = i := by omega
            subst hji
            have hp' := oth _ _ (Nat.ne_of_gt ltS) hp
            exact ⟨hNs, Heap.lt_size hp', _, _, ex, ey, hp'⟩
      · refine hR h'' acc' c' (fun b o hb e => hk'' b o hb (oth b o (fun q => hb (by rw [q]; exact List.mem_cons_self)) (hk b o (fun q => hb (List.mem_cons_of_mem _ q)) e))) hS'' hacc'
    obtain ⟨hTI, h1, h2, hl1, hl2, hz⟩ := hst
    have lt : ∀ {c o}, s.heap.get? c = some o → s.heap.objs.size ≠ c := fun e => Nat.ne_of_gt (Heap.lt_size e)
    have m1 : s.heap.objs.size ≠ i1 := let ⟨_, e, _⟩ := h1; lt e
    have m2 : s.heap.objs.size ≠ i2 := let ⟨_, e, _⟩ := h2; lt e
    rcases hz with ⟨hz, a, b, hTO⟩ | ⟨T, f, oT, hz, hT, r1, r2, r3, r4⟩
    · refine wpAny_bind (wpAny_pyNext_zip_item D hz hTI hTO h1 h2 hl1 hl2 ex ey fun h' a1 a2 a3 a4 a5 a6 hk => ?_)
      exact go h' ⟨hk _ _ D.TIz D.TITO D.TIi1 D.TIi2 hTI, a3, a4, hl1.at fun o e => hk _ o D.l1z D.l1TO D.l1i1 D.l1i2 e, hl2.at fun o e => hk _ o D.l2z D.l2TO D.l2i1 D.l2i2 e, .inr ⟨s.heap.objs.size, false, _, a1, a5, lt hz, m1, m2, lt hS⟩⟩ a5 a6
        fun c o hc e => hk c o (fun x => hc (by simp [x])) (fun x => hc (by simp [x])) (fun x => hc (by simp [x])) (fun x => hc (by simp [x])) e
    · refine wpAny_bind (wpAny_pyNext_zip_item_held D hz hT hTI h1 h2 hl1 hl2 ex ey fun h' a1 a3 a4 a5 a6 hk => ?_)
      exact go h' ⟨hk _ _ D.TIz D.TIi1 D.TIi2 hTI, a3, a4, hl1.at fun o e => hk _ o D.l1z D.l1i1 D.l1i2 e, hl2.at fun o e => hk _ o D.l2z D.l2i1 D.l2i2 e, .inr ⟨T, true, oT, a1, hk _ _ r1 r2 r3 hT, r1, r2, r3, r4⟩⟩ a5 a6
        fun c o hc e => hk c o (fun x => hc (by simp [x])) (fun x => hc (by simp [x])) (fun x => hc (by simp [x])) e
end
section
variable {P : Program} {w : World} {A : Around} {E : Value → Shared → Prop} {s : Shared}
/-- list(z) of a zip just made -/
theorem call_list_zip {z TI TO i1 i2 l1 l2 : Addr} {xs ys : Array Value} {Q : Value → Shared → Prop} (D : ZipApart z TI TO i1 i2 l1 l2) (hl : xs.size = ys.size) (hs : xs.size ≤ sizeLine) (hh : A.handled = none)
    (lt : ∀ b ∈ [z, TI, TO, i1, i2, l1, l2], b < s.heap.objs.size) (hTI : IsPair s.heap TI (.ref i1) (.ref i2)) (h1 : s.heap.IsListIter i1 l1 0) (h2 : s.heap.IsListIter i2 l2 0) (hl1 : s.heap.IsList l1 xs) (hl2 : s.heap.IsList l2 ys) (hz : IsZip s.heap z TI TO .none) (hTO : ∃ a b, IsPair s.heap TO a b)
    (hQ : ∀ h' acc' c', (∀ b o, b ∉ [s.heap.objs.size, z, TO, i1, i2] → s.heap.get? b = some o → h'.get? b = some o) → h'.get? s.heap.objs.size = some { cls := .type "list", dict := none, data := .seq acc' c', slots := #[] } → Got (s.heap.objs.size + 1) h' xs ys acc' xs.size → Q (.ref s.heap.objs.size) { s with heap := h' }) :
    wpAny (model P w) A (call (.type "list") [.ref z]) Q E s := by
  have nS : ∀ b ∈ [z, TI, TO, i1, i2, l1, l2], b ≠ s.heap.objs.size := fun b hb => Nat.ne_of_lt (lt b hb)
  have zS : s.heap.objs.size ≠ z := (nS z (by simp)).symm
  refine callType_codes (Q₁ := fun obj s₁ => obj = .ref s.heap.objs.size ∧ s₁ = { s with heap := s.heap.push { cls := .type "list", data := .seq #[] } }) PySem.F.called_list (PySem.F.typeCall_list_1 _) PySem.F.entry_list_init
    (code_list_new _ ⟨rfl, rfl⟩) fun obj s₁ h₁ => ?_
  obtain ⟨rfl, rfl⟩ := h₁
  have hS : (s.heap.push { cls := .type "list", data := .seq #[] }).get? s.heap.objs.size = some { cls := .type "list", data := .seq #[] } := Heap.get?_push_size _ rfl
  refine ⟨⟨_, hS, rfl⟩, PySem.F.args_list_init_2 _ _, ?_⟩
  show wpAny _ A.in1.in1 (do let old ← Builtin.List.listItems (.ref s.heap.objs.size); Builtin.List.listUpdate (.ref s.heap.objs.size) (fun _ => #[]); letGo old.toList.reverse; Builtin.List.listExtendWith (.ref s.heap.objs.size) (.ref z) .none) _ _ _
  refine wpAny_bind ?_
  unfold Builtin.List.listItems
  refine wpAny_bind (wpAny_seqItems hS rfl (wpAny_pure ?_))
  show wpAny _ A.in1.in1 (updateSeq s.heap.objs.size (fun _ => #[]) >>= fun _ => letGo (#[] : Array Value).toList.reverse >>= fun _ => Builtin.List.listExtendWith (.ref s.heap.objs.size) (.ref z) .none) _ _ _
  refine wpAny_bind (wpAny_updateSeq hS rfl ?_)
  have hS₂ := Heap.get?_update_self (Obj.mapSeq (fun _ => (#[] : Array Value))) hS rfl
  have oth : ∀ b o, b ≠ s.heap.objs.size → s.heap.get? b = some o → ((s.heap.push { cls := .type "list", data := .seq #[] }).update s.heap.objs.size (Obj.mapSeq (fun _ => (#[] : Array Value)))).get? b = some o :=
    fun b o hb e => (Heap.get?_update_other _ _ (Ne.symm hb)).trans (Heap.get?_push_of_some _ e)
  refine wpAny_bind (wpAny_letGo ?_)
  generalize hg2 : (s.heap.push { cls := .type "list", data := .seq #[] }).update s.heap.objs.size (Obj.mapSeq (fun _ => (#[] : Array Value))) = h2' at hS₂ oth ⊢
  have hz2 : IsZip h2' z TI TO .none := oth _ _ zS.symm hz
  unfold Builtin.List.listExtendWith
  refine wpAny_bind (wpAny_typeOf (T := "zip") ⟨_, hz2, rfl⟩ ?_)
  have q1 : Builtin.List.listSameRef (.ref s.heap.objs.size) (.ref z) = false := by simp [Builtin.List.listSameRef, zS]
  have q2 : (Value.type "zip" == Value.type "list") = false := by decide
  have q3 : (Value.type "zip" == Value.type "tuple") = false := by decide
  simp only [q1, q2, q3, Bool.or_false, Bool.false_eq_true, if_false]
  refine wpAny_bind (wpAny_pyIter_zip hz2 ?_)
  refine wpAny_bind (wpAny_holding ?_)
  unfold Builtin.List.listLengthHint
  refine wpAny_bind (wpAny_specialOf (T := "zip") ⟨_, hz2, rfl⟩ zip_no_len ?_)
  show wpAny _ A.in1.in1 (specialOf (Value.ref z) (Str.ofString "__length_hint__") >>= _) _ _ _
  refine wpAny_bind (wpAny_specialOf (T := "zip") ⟨_, hz2, rfl⟩ zip_no_hint ?_)
  refine wpAny_pure ?_
  show wpAny _ A.in1.in1 (rule "list.extend.makes-room" >>= fun _ => Builtin.List.listTouch (.ref s.heap.objs.size) >>= fun _ =>
    again (.builtin "list.extend.loop" ⟨[.ref s.heap.objs.size, .ref z, .none], []⟩)) _ _ _
  refine wpAny_bind (wpAny_rule ?_)
  refine wpAny_bind ?_
  show wpAny _ A.in1.in1 (updateSeq s.heap.objs.size (·.push .none) >>= fun _ => updateSeq s.heap.objs.size (·.pop)) _ _ _
  refine wpAny_bind (wpAny_updateSeq hS₂ rfl ?_)
  have hS₃ := Heap.get?_update_self (Obj.mapSeq (·.push Value.none)) hS₂ rfl
  refine wpAny_updateSeq (hz := by seq_fits) hS₃ rfl ?_
  have hS₄ := Heap.get?_update_self (Obj.mapSeq (·.pop)) hS₃ rfl
  have oth2 : ∀ b o, b ≠ s.heap.objs.size → s.heap.get? b = some o → ((h2'.update s.heap.objs.size (Obj.mapSeq (·.push Value.none))).update s.heap.objs.size (Obj.mapSeq (·.pop))).get? b = some o :=
    fun b o hb e => (Heap.get?_update_other _ _ (Ne.symm hb)).trans ((Heap.get?_update_other _ _ (Ne.symm hb)).trans (oth b o hb e))
  have hsz : s.heap.objs.size + 1 ≤ ((h2'.update s.heap.objs.size (Obj.mapSeq (·.push Value.none))).update s.heap.objs.size (Obj.mapSeq (·.pop))).objs.size := Heap.lt_size hS₄
  generalize hg3 : (h2'.update s.heap.objs.size (Obj.mapSeq (·.push Value.none))).update s.heap.objs.size (Obj.mapSeq (·.pop)) = h3' at hS₄ oth2 hsz ⊢
  refine wpAny_pure ⟨plainId_quiet F.plain_extend_loop _, ext_zip (N0 := s.heap.objs.size + 1) D hl hs (by simpa using hh) nS (fun b hb => ?_) _ xs.size 0 _ _ _ rfl (Nat.zero_le _)
    ⟨oth2 _ _ (nS TI (by simp)) hTI, h1.at fun o e => oth2 _ o (nS i1 (by simp)) e, h2.at fun o e => oth2 _ o (nS i2 (by simp)) e, hl1.at fun o e => oth2 _ o (nS l1 (by simp)) e, hl2.at fun o e => oth2 _ o (nS l2 (by simp)) e, .inl ⟨oth2 _ _ zS.symm hz, let ⟨a, b, e⟩ := hTO; ⟨a, b, oth2 _ _ (nS TO (by simp)) e⟩⟩⟩
    hS₄ hsz ⟨[], rfl, rfl, List.nodup_nil, fun j p hj => by simp at hj⟩ fun h' acc' c' hk hS' hgot => ⟨rfl, hQ h' acc' c' (fun b o hb e => hk b o hb (oth2 b o (fun q => hb (by rw [q]; exact List.mem_cons_self)) e)) hS' hgot⟩⟩
  rcases List.mem_cons.mp hb with e | hb
  · rw [e]; exact Nat.lt_succ_self _
  · have : b ∈ [z, TI, TO, i1, i2, l1, l2] := by
      simp only [List.mem_cons, List.not_mem_nil, or_false] at hb ⊢
      rcases hb with e | e | e | e <;> simp [e]
    exact Nat.lt_succ_of_lt (lt b this)
end
/-! ### its objects tracked -/
def adoptH (H : Hp) : List (Addr × V × V) → Hp
  | [] => H
  | q :: r => adoptH (upd H q.1 (.tup [q.2.1, q.2.2])) r
theorem adopt_ok {P : Program} {w : World} {h : Heap} : ∀ (l : List (Addr × V × V)) (H : Hp), (l.map (·.1)).Nodup → (∀ q ∈ l, H q.1 = none) → (∀ q ∈ l, ∃ u v, RelV q.2.1 u ∧ RelV q.2.2 v ∧ IsPair h q.1 u v) → HOk P w H h →
    HOk P w (adoptH H l) h ∧ (∀ b, b ∉ l.map (·.1) → adoptH H l b = H b) ∧ ∀ q ∈ l, adoptH H l q.1 = some (.tup [q.2.1, q.2.2])
  | [], H, _, _, _, ok => ⟨ok, fun _ _ => rfl, fun q hq => by cases hq⟩
  | q :: r, H, nd, hn, hp, ok => by
    rw [List.map_cons, List.nodup_cons] at nd
    obtain ⟨u, v, ru, rv, e⟩ := hp q List.mem_cons_self
    have new : ObjOk P w (upd H q.1 (.tup [q.2.1, q.2.2])) h q.1 (.tup [q.2.1, q.2.2]) := ⟨by show 2 ≤ sizeLine; decide, [u, v], .cons ru (.cons rv .nil), ⟨_, e, rfl, _, rfl⟩⟩
    have ok1 := ok.laidN (fun _ _ e => e) (hn q List.mem_cons_self) new
    have ne : ∀ p ∈ r, p.1 ≠ q.1 := fun p hp z => nd.1 (List.mem_map.mpr ⟨p, hp, z⟩)
    obtain ⟨a1, a2, a3⟩ := adopt_ok r (upd H q.1 (.tup [q.2.1, q.2.2])) nd.2 (fun p hp' => by rw [upd_ne (ne p hp')]; exact hn p (List.mem_cons_of_mem _ hp')) (fun p hp' => hp p (List.mem_cons_of_mem _ hp')) ok1
    refine ⟨a1, fun b hb => ?_, fun p hp' => ?_⟩
    · rw [List.map_cons, List.mem_cons, not_or] at hb
      show adoptH (upd H q.1 _) r b = H b
      rw [a2 b hb.2, upd_ne hb.1]
    · rcases List.mem_cons.mp hp' with z | z
      · rw [z]
        show adoptH (upd H q.1 _) r q.1 = _
        rw [a2 q.1 nd.1, upd_same]
      · exact a3 p z
theorem vals_refs : ∀ ps : List Addr, Vals (ps.map V.ref) (ps.map Value.ref)
  | [] => .nil
  | _ :: r => .cons rfl (vals_refs r)
section
variable {X : Cx}
/-- list(zip(a, b)): a new list of new pairs -/
def tListZip (K : PySem.W.Frag) (ta : TA) : TE := fun σ H Q => ta σ H fun vs H1 => ∃ a b xs ys, vs = [.ref a, .ref b] ∧ SqL K H1 a xs ∧ SqL K H1 b ys ∧ xs.length = ys.length ∧
  ∀ (D : Addr) (ps : List Addr) (H' : Hp), H1 D = none → Same H1 H' → H' D = some (.lst (ps.map V.ref)) → ps.length = xs.length → (∀ (i : Nat) (p : Addr), ps[i]? = some p → ∃ x y, xs[i]? = some x ∧ ys[i]? = some y ∧ H' p = some (.tup [x, y])) → Q (.ref D) H'
theorem pe_listZip {e e2 : Expr} {ta : TA} {p p2 q pos : Pos} (hc : X.calm = true) (hg : Gl X "list") (hm : X.mg "list" = none) (hg2 : Gl X "zip") (hm2 : X.mg "zip" = none) (ha : PA X [e, e2] ta)
    (hs : starEach [e, e2] X.env = (false, eval e X.env) :: starEach [e2] X.env := by rfl) (hpl : (backTo q (starEach [e2] X.env)).any (·.1) = false := by rfl) :
    PE X (.Call (.Name "list" p) [.Call (.Name "zip" p2) [e, e2] [] q] [] pos) (tListZip X.K ta) := by
  refine ⟨fun pins s σ H Q I h => ?_⟩
  refine Call_ (ld_blt I hg hm PyProof.Rows.boot_list (PyProof.Rows.callWith_type1 (PyProof.Rows.args_cons ?_ rfl) rfl rfl))
  refine Call_ (ld_blt I hg2 hm2 PyProof.Rows.boot_zip (PyProof.Rows.callWith_type1 (thn (ha.run q pins s σ H _ I h) fun us s1 ⟨vs, H1, I1, r1, q1⟩ => ?_) hs hpl))
  obtain ⟨a, b, xs, ys, ex, hqx, hqy, hlen, k⟩ := q1
  subst ex
  cases r1 with
  | cons r rr =>
    cases rr with
    | cons r' rr =>
      cases rr
      cases r
      cases r'
      obtain ⟨its, rv, p1, z1⟩ := I1.list hqx
      obtain ⟨its2, rv2, p2', z2⟩ := I1.list hqy
      have l1 := rv.length
      have l2 := rv2.length
      refine call_zip_2 p1.isList p2'.isList fun h' hz hTI hTO h1 h2 hsz hk => PyProof.Rows.args_nil ?_
      have la : a < s1.heap.objs.size := p1.lt
      have lb : b < s1.heap.objs.size := p2'.lt
      refine call_list_zip (s := { s1 with heap := h' }) (PySem.W.ktu_apart s1.heap.objs.size a b la lb) (by simp; omega) (by simp; omega) (I1.ok.hd hc) (fun c hcm => ?_) hTI h1 h2 (p1.isList.at fun o e => hk _ o e) (p2'.isList.at fun o e => hk _ o e) hz ⟨_, _, hTO⟩ fun h3 acc' c' hk3 hS3 hgot => ?_
      · show c < h'.objs.size
        rw [hsz]
        simp only [List.mem_cons, List.not_mem_nil, or_false] at hcm
        rcases hcm with e | e | e | e | e | e | e <;> rw [e]
        · exact Nat.add_lt_add_left (by decide) _
        · exact Nat.add_lt_add_left (by decide) _
        · exact Nat.add_lt_add_left (by decide) _
        · exact Nat.lt_add_of_pos_right (by decide)
        · exact Nat.add_lt_add_left (by decide) _
        · exact Nat.lt_of_lt_of_le la (Nat.le_add_right _ _)
        · exact Nat.lt_of_lt_of_le lb (Nat.le_add_right _ _)
      · have hsz' : h'.objs.size = s1.heap.objs.size + 5 := hsz
        have old : ∀ c o, s1.heap.get? c = some o → h3.get? c = some o := fun c o e => hk3 c o (fun z => by
          have := Heap.lt_size e
          have z' : c ∈ [h'.objs.size, s1.heap.objs.size + 4, s1.heap.objs.size + 3, s1.heap.objs.size, s1.heap.objs.size + 1] := z
          simp only [List.mem_cons, List.not_mem_nil, or_false] at z'
          rcases z' with q | q | q | q | q
          · rw [q, hsz'] at this; exact Nat.not_lt.mpr (Nat.le_add_right _ _) this
          · rw [q] at this; exact Nat.not_lt.mpr (Nat.le_add_right _ _) this
          · rw [q] at this; exact Nat.not_lt.mpr (Nat.le_add_right _ _) this
          · rw [q] at this; exact Nat.lt_irrefl _ this
          · rw [q] at this; exact Nat.not_lt.mpr (Nat.le_add_right _ _) this) (hk c o e)
        obtain ⟨ps, e1, e2', e3, e4⟩ := hgot
        have e2 : ps.length = its.length := by simpa using e2'
        have hN : ∀ j p, ps[j]? = some p → s1.heap.objs.size + 6 ≤ p := fun j p hj => by
          have := (e4 j p hj).1
          have z : h'.objs.size + 1 ≤ p := this
          omega
        let l := ps.zip (xs.zip ys)
        have lz : (xs.zip ys).length = xs.length := by rw [List.length_zip]; omega
        have lm : l.map (·.1) = ps := List.map_fst_zip (by rw [lz]; omega)
        have memI : ∀ q ∈ l, ∃ j : Nat, ps[j]? = some q.1 ∧ xs[j]? = some q.2.1 ∧ ys[j]? = some q.2.2 := fun q hq => by
          obtain ⟨j, hj⟩ := List.getElem?_of_mem hq
          obtain ⟨h1, h2⟩ := List.getElem?_zip_eq_some.mp hj
          obtain ⟨h3, h4⟩ := List.getElem?_zip_eq_some.mp h2
          exact ⟨j, h1, h3, h4⟩
        have frH : ∀ c, s1.heap.objs.size ≤ c → H1 c = none := fun c hc => I1.hok.fresh hc
        have ok0 : HOk X.prog X.w H1 h3 := I1.hok.kept old
        obtain ⟨ok1, a2, a3⟩ := adopt_ok (P := X.prog) (w := X.w) (h := h3) l H1 (by rw [lm]; exact e3) (fun q hq => by
          obtain ⟨j, hj, _⟩ := memI q hq
          exact frH _ (by have := hN j _ hj; omega)) (fun q hq => by
          obtain ⟨j, hj, hx, hy⟩ := memI q hq
          obtain ⟨_, _, x, y, hx', hy', hp⟩ := e4 j _ hj
          obtain ⟨u, hu, ru⟩ := rv.get hx
          obtain ⟨v, hv, rv'⟩ := rv2.get hy
          have eu : x = u := by
            have : its[j]? = some x := by simpa using hx'
            rw [hu] at this
            exact (Option.some.inj this).symm
          have ev : y = v := by
            have : its2[j]? = some y := by simpa using hy'
            rw [hv] at this
            exact (Option.some.inj this).symm
          subst eu ev
          exact ⟨_, _, ru, rv', hp⟩) ok0
        have nSl : h'.objs.size ∉ l.map (·.1) := by
          rw [lm]
          intro hm
          obtain ⟨j, hj⟩ := List.getElem?_of_mem hm
          have := (e4 j _ hj).1
          have z : h'.objs.size + 1 ≤ h'.objs.size := this
          omega
        have nS1 : H1 h'.objs.size = none := frH _ (by omega)
        have nS : adoptH H1 l h'.objs.size = none := by rw [a2 _ nSl]; exact nS1
        have ok2 : HOk X.prog X.w (upd (adoptH H1 l) h'.objs.size (.lst (ps.map V.ref))) h3 := ok1.laidN (fun _ _ e => e) nS ⟨by rw [List.length_map]; omega, ps.map Value.ref, c', vals_refs ps, by
          have z : h3.get? h'.objs.size = some { cls := .type "list", dict := none, data := .seq acc' c', slots := #[] } := hS3
          rw [z, ← e1, Array.toArray_toList]⟩
        have same : ∀ c o, H1 c = some o → upd (adoptH H1 l) h'.objs.size (.lst (ps.map V.ref)) c = some o := fun c o e => by
          have n1 : c ≠ h'.objs.size := fun z => by rw [z, nS1] at e; cases e
          rw [upd_ne n1, a2 c ?_]
          · exact e
          · rw [lm]
            intro hm
            obtain ⟨j, hj⟩ := List.getElem?_of_mem hm
            rw [frH c (by have := hN j _ hj; omega)] at e
            cases e
        have offN : ∀ c, H1 c = none → c < s1.heap.objs.size → upd (adoptH H1 l) h'.objs.size (.lst (ps.map V.ref)) c = none := fun c e hc => by
          rw [upd_ne (fun z => by rw [z, hsz'] at hc; exact Nat.not_lt.mpr (Nat.le_add_right _ _) hc), a2 c ?_]
          · exact e
          · rw [lm]
            intro hm
            obtain ⟨j, hj⟩ := List.getElem?_of_mem hm
            exact Nat.not_lt.mpr (Nat.le_trans (Nat.le_add_right _ 6) (hN j _ hj)) hc
        have u : Un X.fs [] H1 (upd (adoptH H1 l) h'.objs.size (.lst (ps.map V.ref))) s1.heap h3 :=
          ⟨fun c o e _ _ _ => old c o e, fun c o e _ _ _ => ⟨o.slots, old c o e⟩, fun c o e n _ => offN c n (Heap.lt_size e), fun c o e _ => ⟨o, old c o e⟩, fun c xs e => same c _ e, fun c o u e => same c _ e, fun c ps e => ⟨#[], by rw [Array.append_empty]; exact same c _ e⟩⟩
        have I3 : Inv X pins σ (upd (adoptH H1 l) h'.objs.size (.lst (ps.map V.ref))) { s1 with heap := h3 } := I1.un (t' := s1.toks) u ok2
        refine ⟨.ref h'.objs.size, _, I3, rfl, k _ ps _ nS1 same upd_same (by omega) fun i p hp => ?_⟩
        have hi : i < xs.length := by
          have := (List.getElem?_eq_some_iff.mp hp).1
          omega
        have hi2 : i < ys.length := by omega
        refine ⟨xs[i], ys[i], List.getElem?_eq_getElem hi, List.getElem?_eq_getElem hi2, ?_⟩
        have hq : (p, xs[i], ys[i]) ∈ l := List.mem_of_getElem? (i := i) (List.getElem?_zip_eq_some.mpr ⟨hp, List.getElem?_zip_eq_some.mpr ⟨List.getElem?_eq_getElem hi, List.getElem?_eq_getElem hi2⟩⟩)
        have np : p ≠ h'.objs.size := fun z => by
          have := hN i p hp
          rw [z, hsz'] at this
          omega
        rw [upd_ne np]
        exact a3 _ hq
end
end Kx
namespace Kx
open PySem PySem.Spec PyProof.Rows L2 PySem.AutoSeq1
open AutoSeq1 (wpAny_loadPart')
/-- a datum is this text -/
def eqS (z : Str) : PyData → Bool
  | .str w => decide (w = z)
  | _ => false
section
variable {X : Cx}
theorem str_beq_dec (a b : Str) : (a == b) = decide (a = b) := by
  by_cases h : a = b
  · subst h; simp
  · simp [h]
theorem dictAt {pins : List (Addr × Obj)} {σ : L2.St} {H : Hp} {s : Shared} {a : Addr} {kvs : List (Key × V)} (I : Inv X pins σ H s) (e : H a = some (.dK kvs)) : ∃ es ep dd sl, s.heap.get? a = some { cls := .type "dict", dict := dd, data := .dict es ep, slots := sl } := by
  obtain ⟨_, hne, vs, rv, o, es', ep, ho, hx, hd', _⟩ := (show ObjOk X.prog X.w H s.heap a (.dK kvs) from I.hok a _ e)
  obtain ⟨cls, dd, data, sl⟩ := o
  have hc : cls = .type "dict" := hx.1
  simp only at hd'
  subst hc hd'
  exact ⟨_, _, _, _, ho⟩
theorem str_ne_declines_dict (b : Str) (u : Tok) (l : Addr) (es : Array DictEntry) (ep : Nat) (dd : Option Addr) (sl : Array (Option Value)) :
    Meets (Builtin.«str.__ne__» ⟨[.str b u, .ref l], []⟩) (fun _ R s => s.heap.get? l = some { cls := .type "dict", dict := dd, data := .dict es ep, slots := sl } ∧ R (.ok (.ret .notImplemented)) s) :=
  .of_wp fun prog w A R s h => by obtain ⟨hp, g, d, tk, os⟩ := s; obtain ⟨hl, h⟩ := h; wp_walk using wpAny_loadPart' hl, wpAny_load hl; exact ⟨_, rfl, h⟩
theorem dict_ne_declines_str (b : Str) (u : Tok) (l : Addr) (es : Array DictEntry) (ep : Nat) (dd : Option Addr) (sl : Array (Option Value)) :
    Meets (Builtin.«dict.__ne__» ⟨[.ref l, .str b u], []⟩) (fun _ R s => s.heap.get? l = some { cls := .type "dict", dict := dd, data := .dict es ep, slots := sl } ∧ R (.ok (.ret .notImplemented)) s) :=
  .of_wp fun prog w A R s h => by
    obtain ⟨hp, g, d, tk, os⟩ := s; obtain ⟨hl, h⟩ := h; have f1 := F.sub_dict_str; have f2 := F.sub_str_dict
    have g4 : Shared.TypeIs ⟨hp, g, d, tk, os⟩ (.ref l) "dict" := ⟨_, hl, rfl⟩
    wp_walk using wpAny_loadPart' hl, wpAny_load hl, wpAny_typeOf g4
    exact ⟨_, rfl, h⟩
def rEqA : R2 := fun x y H Q => ∃ (ex : Addr → Prop) (d : PyData) (z : Str), y = .str z ∧ Dv ex H x d ∧ Q (.bl (eqS z d)) H
/-- any datum == a text -/
theorem op_eqA (hu : X.A.units + 1 < cLine) : OpR X (compareOp .Eq) rEqA := by
  intro pins s σ H x y v u Q I rx ry h
  obtain ⟨ex, d, z, rfl, hd, q⟩ := h
  obtain ⟨t, rfl⟩ := ry
  have hu1 : X.A.units < cLine := by omega
  have go : ∀ b : Bool, b = eqS z d → (fun w' s' => ∃ (y' : V) (H' : Hp), Inv X pins σ H' s' ∧ RelV y' w' ∧ Q y' H') (.bool b) s := fun b e => ⟨.bl b, H, I, rfl, by rw [e]; exact q⟩
  cases hd with
  | non => cases rx; exact SeqAt.RcAt.none_str z t _ _ _ _ (go _ rfl)
  | bl b => cases rx; exact SeqAt.RcAt.bool_str b z t _ _ _ _ (go _ rfl)
  | int i => obtain ⟨t2, rfl⟩ := rx; exact SeqAt.RcAt.int_str i t2 z t _ _ _ _ (go _ rfl)
  | str w => obtain ⟨t2, rfl⟩ := rx; exact SeqAt.RcAt.str_str w t2 z t _ _ _ _ (go _ (str_beq_dec w z))
  | lst na e2 l =>
    cases rx
    obtain ⟨its2, r2, p2, _⟩ := I.list (SqL.of e2)
    exact SeqAt.RcAt.list_str z t p2.isList hu1 _ _ _ _ (go _ rfl)
  | @tup a o xs ds od e2 l =>
    cases rx
    obtain ⟨its2, r2, p2, _⟩ := I.tuple (TupF.sq (K := X.K) ⟨o, od, e2⟩)
    exact SeqAt.RcAt.tuple_str z t p2 hu1 _ _ _ _ (go _ rfl)
  | @dic a kvs es na e2 l =>
    cases rx
    obtain ⟨es', ep, dd, sl, ho⟩ := dictAt I e2
    show wpAny _ _ (richCompare .Eq (.ref a) (.str z t)) _ _ _
    exact SeqAt.rc_eq_decline_or (k := false) ⟨_, ho, rfl⟩ (typeIs_str s z t) (by decide) F.sub_str_dict F.slot_dict_eq_refl F.slot_str_eq
      (fun _ hq => call_meets F.slot_dict_eq_refl ⟨_, ho, rfl⟩ F.entry_dict_eq (F.args_dict_eq_2 _ _) (dict_eq_declines_str z t a _ _ dd sl) ⟨ho, hq⟩)
      (fun _ hq => call_meets F.slot_str_eq (typeIs_str s z t) F.entry_str_eq (F.args_str_eq_2 _ _) (str_eq_declines_dict z t a _ _ dd sl) ⟨ho, hq⟩)
      (fun _ hq => wpAny_of_eq (rfl : isSame (.ref a) (.str z t) = pure false) hq) (.inr hu1) (go false rfl)
def rNeA : R2 := fun x y H Q => ∃ (ex : Addr → Prop) (d : PyData) (z : Str), y = .str z ∧ Dv ex H x d ∧ Q (.bl (!eqS z d)) H
/-- any datum != a text -/
theorem op_neA (hu : X.A.units + 1 < cLine) : OpR X (compareOp .NotEq) rNeA := by
  intro pins s σ H x y v u Q I rx ry h
  obtain ⟨ex, d, z, rfl, hd, q⟩ := h
  obtain ⟨t, rfl⟩ := ry
  have hu1 : X.A.units < cLine := by omega
  have go : ∀ b : Bool, b = !eqS z d → (fun w' s' => ∃ (y' : V) (H' : Hp), Inv X pins σ H' s' ∧ RelV y' w' ∧ Q y' H') (.bool b) s := fun b e => ⟨.bl b, H, I, rfl, by rw [e]; exact q⟩
  cases hd with
  | non => cases rx; exact SeqAt.RcNeAt.none_str z t _ _ _ _ (go _ rfl)
  | bl b => cases rx; exact SeqAt.RcNeAt.bool_str b z t _ _ _ _ (go _ rfl)
  | int i => obtain ⟨t2, rfl⟩ := rx; exact SeqAt.RcNeAt.int_str i t2 z t _ _ _ _ (go _ rfl)
  | str w => obtain ⟨t2, rfl⟩ := rx; exact SeqAt.RcNeAt.str_str w t2 z t _ _ _ _ (go _ (by rw [str_beq_dec]; rfl))
  | lst na e2 l =>
    cases rx
    obtain ⟨its2, r2, p2, _⟩ := I.list (SqL.of e2)
    exact SeqAt.RcNeAt.list_str z t p2.isList hu1 _ _ _ _ (go _ rfl)
  | @tup a o xs ds od e2 l =>
    cases rx
    obtain ⟨its2, r2, p2, _⟩ := I.tuple (TupF.sq (K := X.K) ⟨o, od, e2⟩)
    exact SeqAt.RcNeAt.tuple_str z t p2 hu1 _ _ _ _ (go _ rfl)
  | @dic a kvs es na e2 l =>
    cases rx
    obtain ⟨es', ep, dd, sl, ho⟩ := dictAt I e2
    show wpAny _ _ (richCompare .NotEq (.ref a) (.str z t)) _ _ _
    exact SeqAt.rc_ne_decline_or (k := false) ⟨_, ho, rfl⟩ (typeIs_str s z t) (by decide) F.sub_str_dict F.slot_dict_ne F.slot_str_ne_refl
      (fun _ hq => call_meets F.slot_dict_ne ⟨_, ho, rfl⟩ F.entry_dict_ne (F.args_dict_ne_2 _ _) (dict_ne_declines_str z t a _ _ dd sl) ⟨ho, hq⟩)
      (fun _ hq => call_meets F.slot_str_ne_refl (typeIs_str s z t) F.entry_str_ne (F.args_str_ne_2 _ _) (str_ne_declines_dict z t a _ _ dd sl) ⟨ho, hq⟩)
      (fun _ hq => wpAny_of_eq (rfl : isSame (.ref a) (.str z t) = pure false) hq) (.inr hu1) (go true rfl)
end
end Kx
namespace Kx
open PySem PySem.Spec PyProof.Rows L2
def isIntD : PyData → Bool
  | .int _ => true
  | .bool _ => true
  | _ => false
def isBoolD : PyData → Bool
  | .bool _ => true
  | _ => false
def lim : Int := 10 ^ 60
/-- an integer between the limits -/
def intD : PyData → Bool
  | .int i => decide (-lim < i ∧ i < lim)
  | _ => false
theorem kitI {K : PySem.W.Frag} (d : PyData) : PySem.W.kitOne K (.type (tyD d)) (.type "int") = some (isIntD d) := by
  cases d with
  | none => exact kit_ty (show kitB "NoneType" "int" = some false by decide +kernel)
  | bool _ => exact kit_ty (show kitB "bool" "int" = some true by decide +kernel)
  | int _ => exact kit_ty (show kitB "int" "int" = some true by decide +kernel)
  | str _ => exact kit_ty (show kitB "str" "int" = some false by decide +kernel)
  | list _ => exact kit_ty (show kitB "list" "int" = some false by decide +kernel)
  | tuple _ => exact kit_ty (show kitB "tuple" "int" = some false by decide +kernel)
  | dict _ => exact kit_ty (show kitB "dict" "int" = some false by decide +kernel)
theorem kitBo {K : PySem.W.Frag} (d : PyData) : PySem.W.kitOne K (.type (tyD d)) (.type "bool") = some (isBoolD d) := by
  cases d with
  | none => exact kit_ty (show kitB "NoneType" "bool" = some false by decide +kernel)
  | bool _ => exact kit_ty (show kitB "bool" "bool" = some true by decide +kernel)
  | int _ => exact kit_ty (show kitB "int" "bool" = some false by decide +kernel)
  | str _ => exact kit_ty (show kitB "str" "bool" = some false by decide +kernel)
  | list _ => exact kit_ty (show kitB "list" "bool" = some false by decide +kernel)
  | tuple _ => exact kit_ty (show kitB "tuple" "bool" = some false by decide +kernel)
  | dict _ => exact kit_ty (show kitB "dict" "bool" = some false by decide +kernel)
theorem Dv.intI {ex : Addr → Prop} {H : Hp} {v : V} {i : Int} (h : Dv ex H v (.int i)) : v = .int i := by cases h; rfl
section
variable {P : Program} {w : World} {K : PySem.W.Frag} {mg : Str → Option Value} {base : Heap}
abbrev N_is_integer : List Str := ["value"]
abbrev P_is_integer : List Str := ["value"]
theorem sc_is_integer : FnScope N_is_integer P_is_integer (defScope s_is_integer) := ⟨rfl, rfl, rfl, by decide +kernel, rfl, by decide +kernel, by decide +kernel⟩
theorem ok_is_integer (T : Bt mg) (Tb : mg "bool" = none) (gL : ∃ t, mg "LIMIT" = some (.int lim t)) (h : Has K mg "is_integer" s_is_integer) : Ca P w K mg base 1 "is_integer" P_is_integer (spJudge intD) := by
  obtain ⟨_, gL⟩ := gL
  refine cal_of h sc_is_integer (fun _ _ _ _ _ _ us hl => match us, hl with | [_], _ => rfl) (fun vs H Q E h => ?_) (fun f cdv A outer s H vs Q E hr h => ?_)
  · obtain ⟨ex, v, d, rfl, _⟩ := h
    rfl
  · obtain ⟨ex, v, d, rfl, dv, hc, k⟩ := h
    refine ⟨_, (pss_one (ps_ret (pe_and (pe_callB call_isi (by rfl) T.isinstance (by decide +kernel) (pa_cons (pv 0) (pa_cons (pe_bltn (v := .ty "int") (by rfl) T.int (by decide +kernel) rfl) pa_nil))) (pe_and (pe_not (pe_callB call_isi (by rfl) T.isinstance (by decide +kernel) (pa_cons (pv 0) (pa_cons (pe_bltn (v := .ty "bool") (by rfl) Tb (by decide +kernel) rfl) pa_nil)))) (pe_one (pe_chain op_lt op_lt (pe_un un_neg (pe_glob (v := .int lim) rfl gL ⟨_, rfl⟩)) (pv 0) (pe_glob (v := .int lim) rfl gL ⟨_, rfl⟩))))))), ?_⟩
    refine ⟨_, rfl, _, _, _, _, _, rfl, .ty _, dv.ty, kitI d, _, rfl, ?_⟩
    cases e : isIntD d with
    | false =>
      refine iteF ?_
      have := k H Same.refl
      rw [show intD d = false by cases d <;> first | rfl | cases e] at this
      exact this
    | true =>
      refine iteT ⟨_, rfl, _, _, _, _, _, rfl, .ty _, dv.ty, kitBo d, _, rfl, _, rfl, ?_⟩
      cases e2 : isBoolD d with
      | true =>
        refine iteF ?_
        have := k H Same.refl
        rw [show intD d = false by cases d <;> first | rfl | cases e2] at this
        exact this
      | false =>
        obtain ⟨i, rfl⟩ : ∃ i, d = .int i := by cases d <;> first | exact ⟨_, rfl⟩ | (cases e; done) | (cases e2; done)
        cases dv.intI
        have q := k H Same.refl
        refine iteT ⟨_, rfl, _, rfl, _, _, rfl, rfl, _, rfl, ?_⟩
        by_cases h1 : -lim < i
        · rw [decide_eq_true h1]
          refine iteT ⟨_, _, rfl, rfl, ?_⟩
          rw [show intD (.int i) = decide (i < lim) from decide_eq_decide.mpr ⟨fun z => z.2, fun z => ⟨h1, z⟩⟩] at q
          exact q
        · rw [decide_eq_false h1]
          refine iteF ?_
          rw [show intD (.int i) = false from decide_eq_false fun z => h1 z.1] at q
          exact q
/-- what _is_of_kind tells of any datum -/
def kindD (ps : List (Str × Str)) (ns us : List Str) (k : Str) : PyData → Bool
  | .str z => decide (z ∈ allN ps ns us ∧ kindF ps ns z = k)
  | _ => false
def spKindD (C : Addr) : Sp := fun vs H Q _ => ∃ (ex : Addr → Prop) (x : Addr) (va vp vv v : V) (d : PyData) (ps : List (Str × Str)) (ns us : List Str) (k : Str), vs = [.ref x, v, .str k] ∧ FrameAt C H x va vp vv ps ns us ∧ Dv ex H v d ∧ Q (.bl (kindD ps ns us k d)) H
theorem ok_kindD (T : Bt mg) {C : Addr} (X : Fx K mg C) (h : HasM K C "_is_of_kind" "Frame._is_of_kind" s_Frame_is_of_kind) : Me P w K mg base C 1 "_is_of_kind" P_Frame_is_of_kind (spKindD C) := by
  refine met_of h sc_Frame_is_of_kind (fun _ _ _ _ _ _ us hl => match us, hl with | [_, _, _], _ => rfl) (fun vs H Q E h => ?_) (fun f cdv A outer s H vs Q E hr h => ?_)
  · obtain ⟨ex, x, va, vp, vv, v, d, ps, ns, us, k, rfl, _⟩ := h
    rfl
  · obtain ⟨ex, x, va, vp, vv, v, d, ps, ns, us, k, rfl, fr, dv0, q⟩ := h
    refine ⟨_, (pss_one (ps_ret (pe_and (pe_callB call_isi (by rfl) T.isinstance (by decide +kernel) (pa_cons (pv 1) (pa_cons (pe_bltn (v := .ty "str") (by rfl) T.str (by decide +kernel) rfl) pa_nil))) (pe_one (pe_cmpR op_eq (pe_dget1 (hu_of hr) (pe_fld (pv 0) rfl) (pv 1) ⟨rfl, rfl, rfl, rfl⟩) (pv 2) (nomark _)))))), ?_⟩
    obtain ⟨⟨dx, LB, LT, KD, hx, hlb, hlt, hkd⟩, da, dp, dv, nd, _⟩ := fr
    refine ⟨_, rfl, _, _, _, _, _, rfl, .ty _, dv0.ty, kitS d, _, rfl, ?_⟩
    cases e : isStrD d with
    | false =>
      refine iteF ?_
      rw [show kindD ps ns us k d = false by cases d <;> first | rfl | cases e] at q
      exact q
    | true =>
      obtain ⟨z, rfl⟩ : ∃ z, d = .str z := by cases d <;> first | exact ⟨_, rfl⟩ | cases e
      cases dv0.strI
      refine iteT ⟨_, rfl, x, C, dx, _, _, rfl, hx, X.cl, X.n6, rfl, KD, rfl, .inl ⟨_, .inl hkd⟩, _, rfl, _, DGet.k (k := .inr z) hkd, ?_⟩
      rw [kl_get nd z]
      by_cases hz : z ∈ allN ps ns us
      · rw [if_pos hz]
        refine ⟨_, rfl, rfl, ?_⟩
        rw [show decide ((some (V.str (kindF ps ns z))).getD V.non = V.str k) = kindD ps ns us k (.str z) from decide_eq_decide.mpr ⟨fun e => ⟨hz, by injection e⟩, fun e => congrArg V.str e.2⟩]
        exact q
      · rw [if_neg hz]
        refine ⟨_, rfl, rfl, ?_⟩
        rw [show kindD ps ns us k (.str z) = false from decide_eq_false fun e => hz e.1] at q
        exact q
end
end Kx
namespace Kx
open PySem PySem.Spec PyProof.Rows L2
/-- a position term: a tuple of a name, an own name or the empty one, and an integer -/
def nameAtD (ps : List (Str × Str)) (ns us ow : List Str) (d : PyData) : Bool := eqS "" d || (strInD ow d || (kindD ps ns us "position" d || kindD ps ns us "length" d))
def placeD (ps : List (Str × Str)) (ns us ow : List Str) : PyData → Bool
  | .tuple [a, b] => intD b && nameAtD ps ns us ow a
  | _ => false
def shp : PyData → Prop
  | .tuple ds => ∀ e ∈ ds, cost e ≤ 8000000
  | _ => True
section
variable {P : Program} {w : World} {K : PySem.W.Frag} {mg : Str → Option Value} {base : Heap}
abbrev N_Frame_has_place : List Str := ["self", "value", "own", "name"]
abbrev P_Frame_has_place : List Str := ["self", "value", "own"]
theorem sc_Frame_has_place : FnScope N_Frame_has_place P_Frame_has_place (defScope s_Frame_has_place) := ⟨rfl, rfl, rfl, by decide +kernel, rfl, by decide +kernel, by decide +kernel⟩
def spPlace (C : Addr) : Sp := fun vs H Q _ => ∃ (ex : Addr → Prop) (x o : Addr) (va vp vv v : V) (d : PyData) (ps : List (Str × Str)) (ns us ow : List Str), vs = [.ref x, v, .ref o] ∧ FrameAt C H x va vp vv ps ns us ∧ Dv ex H v d ∧ shp d ∧ TupF H o (ow.map V.str) ∧ ∀ H', Same H H' → Q (.bl (placeD ps ns us ow d)) H'
theorem ok_place {om : Obj} (hK : K.lookup sysModules = some om) (T : Bt mg) {C : Addr} (X : Fx K mg C) (h : HasM K C "has_place" "Frame.has_place" s_Frame_has_place) (C1 : Ca P w K mg base 1 "is_integer" P_is_integer (spJudge intD)) (M1 : Me P w K mg base C 1 "_is_of_kind" P_Frame_is_of_kind (spKindD C)) : Me P w K mg base C 2 "has_place" P_Frame_has_place (spPlace C) := by
  obtain ⟨_, _, c_is_integer⟩ := C1
  obtain ⟨_, _, c_is_of_kind⟩ := M1
  refine met_of h sc_Frame_has_place (fun _ _ _ _ _ _ us hl => match us, hl with | [_, _, _], _ => rfl) (fun vs H Q E h => ?_) (fun f cdv A outer s H vs Q E hr h => ?_)
  · obtain ⟨ex, x, o, va, vp, vv, v, d, ps, ns, us, ow, rfl, _⟩ := h
    rfl
  · obtain ⟨ex, x, o, va, vp, vv, v, d, ps, ns, us, ow, rfl, fr, dv, sh, to, k⟩ := h
    refine ⟨_, (pss_cons (ps_if (PW.pt (pw_or (pt_not (pt_val (pe_callB call_isi (by rfl) T.isinstance (by decide +kernel) (pa_cons (pv 1) (pa_cons (pe_bltn (v := .ty "tuple") (by rfl) T.tuple (by decide +kernel) rfl) pa_nil))))) (pw_or (pt_cmpR op_ne (pe_callB call_len (by rfl) T.len (by decide +kernel) (pa_cons (pv 1) pa_nil)) pe_int (nomark _)) (pw_or1 (pt_not (pt_val (pe_call c_is_integer.1 (hr.mono (by decide)) rfl c_is_integer.2.1 c_is_integer.2.2.1 c_is_integer.2.2.2 .nil pass0 (pa_cons (pe_ix ix_tup (pv 1) pe_int (fun _ _ => rfl)) pa_nil)))))))) (pss_one (ps_ret pe_bl)) pss_nil)
      (pss_cons (ps_set (i := 3) sc_Frame_has_place.nd rfl (.inl rfl) (pe_ix ix_tup (pv 1) pe_int (fun _ _ => rfl)))
      (pss_one (ps_ret (pe_or (pe_cmpR (op_eqA (hu_of hr)) (pv 3) pe_str (nomark _)) (pe_or (pe_cmpR (op_inS (hu_of hr)) (pv 3) (pv 2) rfl) (pe_or (pe_meth (pv 0) X.cl c_is_of_kind.2.1 c_is_of_kind.1 (hr.mono (by decide)) c_is_of_kind.2.2 .nil pass0 (pa_cons (pv 3) (pa_cons pe_str pa_nil))) (pe_one (pe_meth (pv 0) X.cl c_is_of_kind.2.1 c_is_of_kind.1 (hr.mono (by decide)) c_is_of_kind.2.2 .nil pass0 (pa_cons (pv 3) (pa_cons pe_str pa_nil))))))))))), ?_⟩
    refine ⟨_, rfl, _, _, _, _, _, rfl, .ty _, dv.ty, kitT d, _, rfl, ?_⟩
    cases e : isTupD d with
    | false =>
      have no : placeD ps ns us ow d = false := by cases d <;> first | rfl | (cases e; done)
      have := k H Same.refl
      rw [no] at this
      exact iteT (iteT this)
    | true =>
      obtain ⟨ds, rfl⟩ : ∃ ds, d = .tuple ds := by cases d <;> first | exact ⟨_, rfl⟩ | (cases e; done)
      obtain ⟨a, xs, rfl, ht, dl⟩ := dv.tupI
      have hl := dl.len
      refine iteF ?_
      have sqx : SqT K H a xs := ht.sq
      refine ⟨_, rfl, _, _, rfl, .inr ⟨_, sqx, rfl⟩, rfl, ?_⟩
      refine ⟨_, rfl, ?_⟩
      by_cases h2 : xs.length = 2
      · obtain ⟨a0, a1, rfl⟩ : ∃ a0 a1, xs = [a0, a1] := match xs, h2 with | [_, _], _ => ⟨_, _, rfl⟩
        obtain ⟨d0, d1, rfl⟩ : ∃ d0 d1, ds = [d0, d1] := match ds, hl with | [_, _], _ => ⟨_, _, rfl⟩
        rw [decide_eq_true (show V.int (([a0, a1] : List V).length : Int) = V.int 2 from rfl)]
        cases dl with
        | cons dv0 dl =>
        cases dl with
        | cons dv1 _ =>
        refine iteF ?_
        have s0 := sh d0 List.mem_cons_self
        have s1 := sh d1 (List.mem_cons_of_mem _ List.mem_cons_self)
        refine ⟨_, rfl, a, [a0, a1], 1, a1, rfl, rfl, sqx, rfl, ex, _, _, rfl, dv1, s1, fun H1 sm => ?_⟩
        refine ⟨_, rfl, ?_⟩
        have q := k H1 sm
        rw [show placeD ps ns us ow (.tuple [d0, d1]) = (intD d1 && nameAtD ps ns us ow d0) from rfl] at q
        have kx := Kp.same (ex := ex) sm
        cases e1 : intD d1 with
        | false =>
          rw [e1] at q
          exact iteT q
        | true =>
          rw [e1] at q
          refine iteF ?_
          refine ⟨_, rfl, a, [a0, a1], 0, a0, rfl, rfl, (kx.tup ht).sq, rfl, ?_⟩
          have d0' := dv0.kp kx
          refine ⟨_, rfl, ex, d0, "", rfl, d0', _, rfl, ?_⟩
          rw [show (true && nameAtD ps ns us ow d0) = (eqS "" d0 || (strInD ow d0 || (kindD ps ns us "position" d0 || kindD ps ns us "length" d0))) from rfl] at q
          have frx := fr.same sm
          cases b1 : eqS "" d0 with
          | true =>
            rw [b1] at q
            exact iteT q
          | false =>
            rw [b1] at q
            refine iteF ⟨_, rfl, _, rfl, ex, o, ow, d0, rfl, (kx.tup to).sq, d0', _, rfl, ?_⟩
            cases b2 : strInD ow d0 with
            | true =>
              rw [b2] at q
              exact iteT q
            | false =>
              rw [b2] at q
              obtain ⟨dx, LB, LT, KD, hx, _⟩ := frx.ob
              refine iteF ⟨_, rfl, x, dx, _, rfl, hx, rfl, _, rfl, ex, x, va, vp, vv, a0, d0, ps, ns, us, _, rfl, frx, d0', _, rfl, ?_⟩
              cases b3 : kindD ps ns us "position" d0 with
              | true =>
                rw [b3] at q
                exact iteT q
              | false =>
                rw [b3] at q
                exact iteF ⟨_, rfl, x, dx, _, rfl, hx, rfl, _, rfl, ex, x, va, vp, vv, a0, d0, ps, ns, us, _, rfl, frx, d0', q⟩
      · rw [decide_eq_false (fun q : V.int (xs.length : Int) = V.int 2 => h2 (by injection q with q; omega))]
        have := k H Same.refl
        rw [show placeD ps ns us ow (.tuple ds) = false from match ds, hl with
          | [], _ => rfl
          | [_], _ => rfl
          | [_, _], hl => absurd hl h2
          | _ :: _ :: _ :: _, _ => rfl] at this
        exact iteT (iteT this)
end
end Kx
namespace Kx
open PySem PySem.Spec PyProof.Rows L2
/-- own names that are right: at most two, different, no names of the frame -/
def OwnOk (ps : List (Str × Str)) (ns us ow : List Str) : Prop := ow.length ≤ 2 ∧ ow.Nodup ∧ ∀ z ∈ ow, NameS z ∧ ¬ z ∈ allN ps ns us
section
variable {P : Program} {w : World} {K : PySem.W.Frag} {mg : Str → Option Value} {base : Heap}
abbrev N_are_own_names : List Str := ["frame", "value", "name"]
abbrev P_are_own_names : List Str := ["frame", "value"]
theorem sc_are_own_names : FnScope N_are_own_names P_are_own_names (defScope s_are_own_names) := ⟨rfl, rfl, rfl, by decide +kernel, rfl, by decide +kernel, by decide +kernel⟩
def spOwn (C : Addr) : Sp := fun vs H Q _ => ∃ (x o : Addr) (va vp vv : V) (ps : List (Str × Str)) (ns us ow : List Str), vs = [.ref x, .ref o] ∧ FrameAt C H x va vp vv ps ns us ∧ TupF H o (ow.map V.str) ∧ OwnOk ps ns us ow ∧ ∀ H', Same H H' → Q (.bl true) H'
theorem ok_own (T : Bt mg) (gO : ∃ t, mg "MAX_OWN" = some (.int 2 t)) {C : Addr} (X : Fx K mg C) (h : Has K mg "are_own_names" s_are_own_names) (M1 : Me P w K mg base C 2 "is_fresh" P_Frame_is_fresh (spFresh C)) : Ca P w K mg base 3 "are_own_names" P_are_own_names (spOwn C) := by
  obtain ⟨_, gO⟩ := gO
  obtain ⟨_, _, c_is_fresh⟩ := M1
  refine cal_of h sc_are_own_names (fun _ _ _ _ _ _ us hl => match us, hl with | [_, _], _ => rfl) (fun vs H Q E h => ?_) (fun f cdv A outer s H vs Q E hr h => ?_)
  · obtain ⟨x, o, va, vp, vv, ps, ns, us, ow, rfl, _⟩ := h
    rfl
  · obtain ⟨x, o, va, vp, vv, ps, ns, us, ow, rfl, fr, to, ⟨hl, nd, hn⟩, k⟩ := h
    refine ⟨_, (pss_cons (ps_if (PW.pt (pw_or (pt_not (pt_val (pe_callB call_isi (by rfl) T.isinstance (by decide +kernel) (pa_cons (pv 1) (pa_cons (pe_bltn (v := .ty "tuple") (by rfl) T.tuple (by decide +kernel) rfl) pa_nil))))) (pw_or1 (pt_cmpR op_gt (pe_callB call_len (by rfl) T.len (by decide +kernel) (pa_cons (pv 1) pa_nil)) (pe_glob (v := .int 2) rfl gO ⟨_, rfl⟩) (nomark _))))) (pss_one (ps_ret pe_bl)) pss_nil)
      (pss_one (ps_ret (pe_and (pe_callB (cr_all rfl) (by rfl) T.all (by decide +kernel) (pa_cons (pe_lc (own := [("name", 2)]) (g := (gName 2)) (tt := tYes) (by rfl) sc_are_own_names.nd (pi_tup (pv 1)) (blkOk_by (own := [("name", 2)]) (N := ["frame", "value", "name"]) (sc := defScope s_are_own_names) (by decide +kernel)) (fun _ _ _ _ _ => pg_name (i := 2) sc_are_own_names.nd rfl (Or.inl rfl)) (fun _ _ _ _ _ => pts_nil) (fun _ _ _ _ _ => (pe_meth (pv 0) X.cl c_is_fresh.2.1 c_is_fresh.1 (hr.mono (by decide)) c_is_fresh.2.2 .nil pass0 (pa_cons (pv 2) pa_nil)))) pa_nil)) (pe_one (pe_cmpR op_eq (pe_lenSetT rfl rfl T.len rfl T.set (pv 1)) (pe_callB call_len (by rfl) T.len (by decide +kernel) (pa_cons (pv 1) pa_nil)) (nomark _))))))), ?_⟩
    have dt := Dv.tupM (ex := fun _ => True) to (DvL.strs ow)
    refine ⟨_, rfl, _, _, _, _, _, rfl, .ty _, dt.ty, kitT _, _, rfl, ?_⟩
    refine iteF ⟨_, rfl, _, _, rfl, .inr ⟨_, to.sq, rfl⟩, _, _, rfl, rfl, _, rfl, ?_⟩
    rw [decide_eq_false (by rw [List.length_map]; omega : ¬ (2 : Int) < ((ow.map V.str).length : Int))]
    refine iteF ?_
    obtain ⟨dx, LB, LT, KD, hx, _⟩ := fr.ob
    refine ⟨_, rfl, o, rfl, ⟨_, to.sq⟩, fun D hD => lc_o (walk_tup (K := K) (a := o) (xs := ow.map V.str)) (fun i => ow[i]?.map fun _ => V.bl true) (by rw [List.length_map, sizeLine_eq]; omega) hD (fun Hx sm => ((Kp.same (ex := fun _ => True) sm).tup to).sq) ?_ ?_⟩
    · rintro i y Hx H' Nx hi sm hDx ⟨rfl, hy⟩ hno hyes
      rw [List.getElem?_map] at hy
      cases q : ow[i]? with
      | none => rw [q] at hy; cases hy
      | some z =>
        rw [q] at hy
        cases hy
        have hz := hn z (List.mem_of_getElem? q)
        have z8 : z.length ≤ 8 := hz.1.2.1
        refine ⟨rfl, yes ⟨_, rfl, x, dx, _, rfl, sm _ _ hx, rfl, _, rfl, fun _ => True, x, va, vp, vv, ps, ns, us, _, .str z, rfl, fr.same sm, .str z, by simp only [cost]; omega, fun H2 sm2 => ?_⟩⟩
        rw [show freshD ps ns us (.str z) = true by
          show (decide (NameS z) && !decide (z ∈ allN ps ns us)) = true
          rw [decide_eq_true hz.1, decide_eq_false hz.2]; rfl]
        exact hyes _ (by rw [q]; rfl) _ sm2
    · intro Hx sm hDx
      rw [List.length_map, range_list, show (ow.map fun _ => V.bl true) = (ow.map fun _ => true).map V.bl by rw [List.map_map]; rfl] at hDx
      have tx := (Kp.same (ex := fun _ => True) sm).tup to
      refine ⟨D, _, rfl, SqL.of hDx, ?_⟩
      rw [show (ow.map fun _ => true).all id = true by rw [List.all_map]; exact List.all_eq_true.mpr fun _ _ => rfl]
      refine ⟨_, rfl, iteT ?_⟩
      refine ⟨_, rfl, o, ow, rfl, tx.sq, by omega, _, rfl, _, _, rfl, .inr ⟨_, tx.sq, rfl⟩, rfl, ?_⟩
      have hu : (uniq ow).length = ow.length := by
        have a1 := uniq_len ow
        have a2 := nodup_le ow (uniq ow) nd fun x hx => (uniq_mem _ _).mpr hx
        omega
      rw [decide_eq_true (show V.int ((uniq ow).length : Int) = V.int ((ow.map V.str).length : Int) by rw [List.length_map, hu])]
      exact k Hx sm
end
end Kx
namespace Kx
open PySem PySem.Spec PyProof.Rows L2
section
variable {P : Program} {w : World} {K : PySem.W.Frag} {mg : Str → Option Value} {base : Heap}
abbrev N_check_own : List Str := ["frame", "own"]
abbrev P_check_own : List Str := ["frame", "own"]
theorem sc_check_own : FnScope N_check_own P_check_own (defScope s_check_own) := ⟨rfl, rfl, rfl, by decide +kernel, rfl, by decide +kernel, by decide +kernel⟩
def spChk (C : Addr) : Sp := fun vs H Q _ => ∃ (x o : Addr) (va vp vv : V) (ps : List (Str × Str)) (ns us ow : List Str), vs = [.ref x, .ref o] ∧ FrameAt C H x va vp vv ps ns us ∧ TupF H o (ow.map V.str) ∧ OwnOk ps ns us ow ∧ ∀ H', Same H H' → Q .non H'
theorem ok_chk (T : Bt mg) {C : Addr} (h : Has K mg "_check_own" s_check_own) (C1 : Ca P w K mg base 3 "are_own_names" P_are_own_names (spOwn C)) : Ca P w K mg base 4 "_check_own" P_check_own (spChk C) := by
  obtain ⟨_, _, c_are_own_names⟩ := C1
  refine cal_of h sc_check_own (fun _ _ _ _ _ _ us hl => match us, hl with | [_, _], _ => rfl) (fun vs H Q E h => ?_) (fun f cdv A outer s H vs Q E hr h => ?_)
  · obtain ⟨x, o, va, vp, vv, ps, ns, us, ow, rfl, _⟩ := h
    rfl
  · obtain ⟨x, o, va, vp, vv, ps, ns, us, ow, rfl, fr, to, ok, k⟩ := h
    refine ⟨_, (pss_one (ps_if (pt_not (pt_val (pe_call c_are_own_names.1 (hr.mono (by decide)) rfl c_are_own_names.2.1 c_are_own_names.2.2.1 c_are_own_names.2.2.2 .nil pass0 (pa_cons (pv 0) (pa_cons (pv 1) pa_nil))))) (pss_one ps_never) pss_nil)), ?_⟩
    refine ⟨_, rfl, _, rfl, x, o, va, vp, vv, ps, ns, us, ow, rfl, fr, to, ok, fun H1 sm => ?_⟩
    exact ⟨_, rfl, iteF (k H1 sm)⟩
end
end Kx
namespace Kx
open PySem PySem.Spec PyProof.Rows L2
/-- a value term -/
def amountD (ps : List (Str × Str)) (ns us ow : List Str) : PyData → Bool
  | .tuple [a, b, c, e] => kindD ps ns us "array" a && (placeD ps ns us ow (.tuple [b, c]) && intD e)
  | .tuple [a, b] => (eqS "" a || kindD ps ns us "value" a) && intD b
  | _ => false
section
variable {P : Program} {w : World} {K : PySem.W.Frag} {mg : Str → Option Value} {base : Heap}
abbrev N_Frame_has_amount : List Str := ["self", "value", "own"]
abbrev P_Frame_has_amount : List Str := ["self", "value", "own"]
theorem sc_Frame_has_amount : FnScope N_Frame_has_amount P_Frame_has_amount (defScope s_Frame_has_amount) := ⟨rfl, rfl, rfl, by decide +kernel, rfl, by decide +kernel, by decide +kernel⟩
def spAmount (C : Addr) : Sp := fun vs H Q _ => ∃ (ex : Addr → Prop) (x o : Addr) (va vp vv v : V) (d : PyData) (ps : List (Str × Str)) (ns us ow : List Str), vs = [.ref x, v, .ref o] ∧ FrameAt C H x va vp vv ps ns us ∧ Dv ex H v d ∧ shp d ∧ TupF H o (ow.map V.str) ∧ ∀ H', Same H H' → Q (.bl (amountD ps ns us ow d)) H'
theorem ok_amount {om : Obj} (hK : K.lookup sysModules = some om) (T : Bt mg) {C : Addr} (X : Fx K mg C) (h : HasM K C "has_amount" "Frame.has_amount" s_Frame_has_amount) (C1 : Ca P w K mg base 1 "is_integer" P_is_integer (spJudge intD)) (M1 : Me P w K mg base C 1 "_is_of_kind" P_Frame_is_of_kind (spKindD C))
    (M2 : Me P w K mg base C 2 "has_place" P_Frame_has_place (spPlace C)) : Me P w K mg base C 3 "has_amount" P_Frame_has_amount (spAmount C) := by
  obtain ⟨_, _, c_is_integer⟩ := C1
  obtain ⟨_, _, c_is_of_kind⟩ := M1
  obtain ⟨_, _, c_has_place⟩ := M2
  refine met_of h sc_Frame_has_amount (fun _ _ _ _ _ _ us hl => match us, hl with | [_, _, _], _ => rfl) (fun vs H Q E h => ?_) (fun f cdv A outer s H vs Q E hr h => ?_)
  · obtain ⟨ex, x, o, va, vp, vv, v, d, ps, ns, us, ow, rfl, _⟩ := h
    rfl
  · obtain ⟨ex, x, o, va, vp, vv, v, d, ps, ns, us, ow, rfl, fr, dv, sh, to, k⟩ := h
    refine ⟨_, (pss_cons (ps_if (pt_not (pt_val (pe_callB call_isi (by rfl) T.isinstance (by decide +kernel) (pa_cons (pv 1) (pa_cons (pe_bltn (v := .ty "tuple") (by rfl) T.tuple (by decide +kernel) rfl) pa_nil))))) (pss_one (ps_ret pe_bl)) pss_nil)
      (pss_cons (ps_if (pt_cmpR op_eq (pe_callB call_len (by rfl) T.len (by decide +kernel) (pa_cons (pv 1) pa_nil)) pe_int (nomark _)) (pss_one (ps_ret (pe_and (pe_meth (pv 0) X.cl c_is_of_kind.2.1 c_is_of_kind.1 (hr.mono (by decide)) c_is_of_kind.2.2 .nil pass0 (pa_cons (pe_ix ix_tup (pv 1) pe_int (fun _ _ => rfl)) (pa_cons pe_str pa_nil))) (pe_and (pe_meth (pv 0) X.cl c_has_place.2.1 c_has_place.1 (hr.mono (by decide)) c_has_place.2.2 .nil pass0 (pa_cons (pe_slice sl_tupF (pv 1) (po_some pe_int) (po_some pe_int)) (pa_cons (pv 2) pa_nil))) (pe_one (pe_call c_is_integer.1 (hr.mono (by decide)) rfl c_is_integer.2.1 c_is_integer.2.2.1 c_is_integer.2.2.2 .nil pass0 (pa_cons (pe_ix ix_tup (pv 1) pe_int (fun _ _ => rfl)) pa_nil))))))) pss_nil)
      (pss_one (ps_ret (pe_and (pe_cmpR op_eq (pe_callB call_len (by rfl) T.len (by decide +kernel) (pa_cons (pv 1) pa_nil)) pe_int (nomark _)) (pe_and (pe_or (pe_cmpR (op_eqA (hu_of hr)) (pe_ix ix_tup (pv 1) pe_int (fun _ _ => rfl)) pe_str (nomark _)) (pe_one (pe_meth (pv 0) X.cl c_is_of_kind.2.1 c_is_of_kind.1 (hr.mono (by decide)) c_is_of_kind.2.2 .nil pass0 (pa_cons (pe_ix ix_tup (pv 1) pe_int (fun _ _ => rfl)) (pa_cons pe_str pa_nil))))) (pe_one (pe_call c_is_integer.1 (hr.mono (by decide)) rfl c_is_integer.2.1 c_is_integer.2.2.1 c_is_integer.2.2.2 .nil pass0 (pa_cons (pe_ix ix_tup (pv 1) pe_int (fun _ _ => rfl)) pa_nil))))))))), ?_⟩
    refine ⟨_, rfl, _, _, _, _, _, rfl, .ty _, dv.ty, kitT d, _, rfl, ?_⟩
    cases e : isTupD d with
    | false =>
      have no : amountD ps ns us ow d = false := by cases d <;> first | rfl | (cases e; done)
      have := k H Same.refl
      rw [no] at this
      exact iteT this
    | true =>
      obtain ⟨ds, rfl⟩ : ∃ ds, d = .tuple ds := by cases d <;> first | exact ⟨_, rfl⟩ | (cases e; done)
      obtain ⟨a, xs, rfl, ht, dl⟩ := dv.tupI
      have hl := dl.len
      refine iteF ?_
      have sqx : SqT K H a xs := ht.sq
      refine ⟨_, rfl, _, _, rfl, .inr ⟨_, sqx, rfl⟩, rfl, _, rfl, ?_⟩
      obtain ⟨dx, LB, LT, KD, hx, _⟩ := fr.ob
      by_cases h4 : xs.length = 4
      · obtain ⟨a0, a1, a2, a3, rfl⟩ : ∃ a0 a1 a2 a3, xs = [a0, a1, a2, a3] := match xs, h4 with | [_, _, _, _], _ => ⟨_, _, _, _, rfl⟩
        obtain ⟨d0, d1, d2, d3, rfl⟩ : ∃ d0 d1 d2 d3, ds = [d0, d1, d2, d3] := match ds, hl with | [_, _, _, _], _ => ⟨_, _, _, _, rfl⟩
        rw [decide_eq_true (show V.int (([a0, a1, a2, a3] : List V).length : Int) = V.int 4 from rfl)]
        obtain ⟨dv0, dv1, dv2, dv3⟩ : Dv ex H a0 d0 ∧ Dv ex H a1 d1 ∧ Dv ex H a2 d2 ∧ Dv ex H a3 d3 := by
          cases dl with
          | cons q0 dl => cases dl with
            | cons q1 dl => cases dl with
              | cons q2 dl => cases dl with
                | cons q3 dl => exact ⟨q0, q1, q2, q3⟩
        have s1 := sh d1 (by simp)
        have s2 := sh d2 (by simp)
        have s3 := sh d3 (by simp)
        refine iteT ?_
        refine ⟨_, rfl, x, dx, _, rfl, hx, rfl, _, rfl, a, _, 0, a0, rfl, rfl, sqx, rfl, ex, x, va, vp, vv, a0, d0, ps, ns, us, _, rfl, fr, dv0, ?_⟩
        have q : ∀ H', Same H H' → Q (.bl (kindD ps ns us "array" d0 && (placeD ps ns us ow (.tuple [d1, d2]) && intD d3))) H' := k
        refine ⟨_, rfl, ?_⟩
        cases e1 : kindD ps ns us "array" d0 with
        | false =>
          have := q H Same.refl
          rw [e1] at this
          exact iteF this
        | true =>
          refine iteT ⟨_, rfl, x, dx, _, rfl, hx, rfl, _, rfl, _, rfl, _, rfl, a, _, rfl, ht, fun p H1 sm hp => ?_⟩
          have hp2 : TupF H1 p [a1, a2] := hp
          have kx := Kp.same (ex := ex) sm
          refine ⟨_, rfl, ex, x, o, va, vp, vv, _, .tuple [d1, d2], ps, ns, us, ow, rfl, fr.same sm, .tupM hp2 (.cons (dv1.kp kx) (.cons (dv2.kp kx) .nil)), ?_, kx.tup to, fun H2 sm2 => ?_⟩
          · intro e he
            rcases List.mem_cons.mp he with rfl | he
            · exact s1
            · rcases List.mem_cons.mp he with rfl | he
              · exact s2
              · cases he
          · have s12 := sm.trans sm2
            refine ⟨_, rfl, ?_⟩
            cases e2 : placeD ps ns us ow (.tuple [d1, d2]) with
            | false =>
              have := q H2 s12
              rw [e1, e2] at this
              exact iteF this
            | true =>
              have kx2 := Kp.same (ex := ex) s12
              refine iteT ⟨_, rfl, a, _, 3, a3, rfl, rfl, (kx2.tup ht).sq, rfl, ex, _, _, rfl, dv3.kp kx2, s3, fun H3 sm3 => ?_⟩
              have := q H3 (s12.trans sm3)
              rw [e1, e2] at this
              exact this
      · rw [decide_eq_false (fun q : V.int (xs.length : Int) = V.int 4 => h4 (by injection q with q; omega))]
        refine iteF ⟨_, rfl, _, _, rfl, .inr ⟨_, sqx, rfl⟩, rfl, _, rfl, ?_⟩
        by_cases h2 : xs.length = 2
        · obtain ⟨a0, a1, rfl⟩ : ∃ a0 a1, xs = [a0, a1] := match xs, h2 with | [_, _], _ => ⟨_, _, rfl⟩
          obtain ⟨d0, d1, rfl⟩ : ∃ d0 d1, ds = [d0, d1] := match ds, hl with | [_, _], _ => ⟨_, _, rfl⟩
          rw [decide_eq_true (show V.int (([a0, a1] : List V).length : Int) = V.int 2 from rfl)]
          obtain ⟨dv0, dv1⟩ : Dv ex H a0 d0 ∧ Dv ex H a1 d1 := by
            cases dl with
            | cons q0 dl => cases dl with
              | cons q1 dl => exact ⟨q0, q1⟩
          have s0 := sh d0 (by simp)
          have s1 := sh d1 (by simp)
          have q : ∀ H', Same H H' → Q (.bl ((eqS "" d0 || kindD ps ns us "value" d0) && intD d1)) H' := k
          refine iteT ⟨_, rfl, a, _, 0, a0, rfl, rfl, sqx, rfl, ex, d0, "", rfl, dv0, _, rfl, ?_⟩
          have last : (eqS "" d0 || kindD ps ns us "value" d0) = true → ∀ H1, Same H H1 → Q (.bl (intD d1)) H1 := fun e H1 sm => by
            have := q H1 sm
            rw [e] at this
            exact this
          cases b1 : eqS "" d0 with
          | true => exact iteT ⟨_, rfl, iteT ⟨_, rfl, a, _, 1, a1, rfl, rfl, sqx, rfl, ex, _, _, rfl, dv1, s1, fun H1 sm => last (by rw [b1]; rfl) H1 sm⟩⟩
          | false =>
            refine iteF ⟨_, rfl, x, dx, _, rfl, hx, rfl, _, rfl, a, _, 0, a0, rfl, rfl, sqx, rfl, ex, x, va, vp, vv, a0, d0, ps, ns, us, _, rfl, fr, dv0, _, rfl, ?_⟩
            cases b2 : kindD ps ns us "value" d0 with
            | true => exact iteT ⟨_, rfl, a, _, 1, a1, rfl, rfl, sqx, rfl, ex, _, _, rfl, dv1, s1, fun H1 sm => last (by rw [b1, b2]; rfl) H1 sm⟩
            | false =>
              have := q H Same.refl
              rw [b1, b2] at this
              exact iteF this
        · have no : amountD ps ns us ow (.tuple ds) = false := match ds, hl with
            | [], _ => rfl
            | [_], _ => rfl
            | [_, _], hl => absurd hl h2
            | [_, _, _], _ => rfl
            | [_, _, _, _], hl => absurd hl h4
            | _ :: _ :: _ :: _ :: _ :: _, _ => rfl
          rw [decide_eq_false (fun q : V.int (xs.length : Int) = V.int 2 => h2 (by injection q with q; omega))]
          have := k H Same.refl
          rw [no] at this
          exact iteF this
end
end Kx
namespace Kx
open PySem PySem.Spec PyProof.Rows L2
def strsD (ds : List PyData) : List Str := ds.filterMap fun d => match d with
  | .str z => some z
  | _ => none
/-- own names: at most two, fresh and different -/
def ownD (ps : List (Str × Str)) (ns us : List Str) : PyData → Bool
  | .tuple ds => decide (ds.length ≤ 2) && (ds.all (freshD ps ns us) && decide ((strsD ds).Nodup))
  | _ => false
theorem fresh_str {ps : List (Str × Str)} {ns us : List Str} {d : PyData} (h : freshD ps ns us d = true) : ∃ z, d = .str z ∧ NameS z ∧ ¬ z ∈ allN ps ns us := by
  cases d with
  | str z =>
    have h : (decide (NameS z) && !decide (z ∈ allN ps ns us)) = true := h
    obtain ⟨h1, h2⟩ := Bool.and_eq_true_iff.mp h
    exact ⟨z, rfl, of_decide_eq_true h1, by simpa using h2⟩
  | _ => cases h
theorem all_fresh {ps : List (Str × Str)} {ns us : List Str} : ∀ {ds : List PyData}, ds.all (freshD ps ns us) = true → ds = (strsD ds).map .str ∧ ∀ z ∈ strsD ds, NameS z ∧ ¬ z ∈ allN ps ns us
  | [], _ => ⟨rfl, fun z h => by cases h⟩
  | d :: r, h => by
    obtain ⟨h1, h2⟩ := Bool.and_eq_true_iff.mp (show (freshD ps ns us d && r.all (freshD ps ns us)) = true from h)
    obtain ⟨z, rfl, hz⟩ := fresh_str h1
    obtain ⟨e, hr⟩ := all_fresh h2
    have es : strsD (PyData.str z :: r) = z :: strsD r := rfl
    rw [es]
    exact ⟨by rw [List.map_cons, ← e], fun y hy => by
      rcases List.mem_cons.mp hy with rfl | hy
      · exact hz
      · exact hr y hy⟩
theorem DvL.strsI {ex : Addr → Prop} {H : Hp} : ∀ {ow : List Str} {xs : List V}, DvL ex H xs (ow.map .str) → xs = ow.map V.str
  | [], _, .nil => rfl
  | _ :: _, _, .cons (.str _) r => by rw [DvL.strsI r]; rfl
theorem cost_tup {ds : List PyData} {d : PyData} {n : Nat} (hc : cost (.tuple ds) ≤ n) (h : d ∈ ds) : cost d ≤ n := by
  have := cost_mem h
  simp only [cost] at hc
  omega
theorem nodup_uniq (ow : List Str) : decide (((uniq ow).length : Int) = (ow.length : Int)) = decide ow.Nodup := by
  by_cases h : ow.Nodup
  · have a1 := uniq_len ow
    have a2 := nodup_le ow (uniq ow) h fun x hx => (uniq_mem _ _).mpr hx
    rw [decide_eq_true h, decide_eq_true (by omega)]
  · rw [decide_eq_false h]
    refine decide_eq_false fun e => h ?_
    have e : (uniq ow).length = ow.length := by omega
    clear h
    have key : ∀ (l acc : List Str), (l.foldl uniqF acc).length ≤ acc.length + l.length ∧ ((l.foldl uniqF acc).length = acc.length + l.length → l.Nodup ∧ ∀ z ∈ l, ¬ z ∈ acc) := by
      intro l
      induction l with
      | nil => intro acc; exact ⟨Nat.le_refl _, fun _ => ⟨List.nodup_nil, fun z h => by cases h⟩⟩
      | cons x r ih =>
        intro acc
        rw [List.foldl_cons, List.length_cons]
        obtain ⟨i1, i2⟩ := ih (uniqF acc x)
        have hl := uniqF_len acc x
        refine ⟨by omega, fun e => ?_⟩
        have e1 : (uniqF acc x).length = acc.length + 1 := by omega
        obtain ⟨j1, j2⟩ := i2 (by omega)
        have nx : ¬ x ∈ acc := fun h => by
          unfold uniqF at e1
          rw [if_pos h] at e1
          omega
        have eu : uniqF acc x = acc ++ [x] := by
          unfold uniqF
          rw [if_neg nx]
        rw [eu] at j2
        refine ⟨List.nodup_cons.mpr ⟨fun h => j2 x h (List.mem_append.mpr (.inr List.mem_cons_self)), j1⟩, fun z hz => ?_⟩
        rcases List.mem_cons.mp hz with rfl | hz
        · exact nx
        · exact fun h => j2 z hz (List.mem_append.mpr (.inl h))
    exact ((key ow []).2 (by rw [show ow.foldl uniqF [] = uniq ow from rfl, e]; simp)).1
section
variable {P : Program} {w : World} {K : PySem.W.Frag} {mg : Str → Option Value} {base : Heap}
def spOwnD (C : Addr) : Sp := fun vs H Q _ => ∃ (ex : Addr → Prop) (x : Addr) (va vp vv v : V) (d : PyData) (ps : List (Str × Str)) (ns us : List Str), vs = [.ref x, v] ∧ FrameAt C H x va vp vv ps ns us ∧ Dv ex H v d ∧ cost d ≤ 8000000 ∧ ∀ H', Same H H' → Q (.bl (ownD ps ns us d)) H'
theorem ok_ownD (T : Bt mg) (gO : ∃ t, mg "MAX_OWN" = some (.int 2 t)) {C : Addr} (X : Fx K mg C) (h : Has K mg "are_own_names" s_are_own_names) (M1 : Me P w K mg base C 2 "is_fresh" P_Frame_is_fresh (spFresh C)) : Ca P w K mg base 3 "are_own_names" P_are_own_names (spOwnD C) := by
  obtain ⟨_, gO⟩ := gO
  obtain ⟨_, _, c_is_fresh⟩ := M1
  refine cal_of h sc_are_own_names (fun _ _ _ _ _ _ us hl => match us, hl with | [_, _], _ => rfl) (fun vs H Q E h => ?_) (fun f cdv A outer s H vs Q E hr h => ?_)
  · obtain ⟨ex, x, va, vp, vv, v, d, ps, ns, us, rfl, _⟩ := h
    rfl
  · obtain ⟨ex, x, va, vp, vv, v, d, ps, ns, us, rfl, fr, dv, hc, k⟩ := h
    refine ⟨_, (pss_cons (ps_if (PW.pt (pw_or (pt_not (pt_val (pe_callB call_isi (by rfl) T.isinstance (by decide +kernel) (pa_cons (pv 1) (pa_cons (pe_bltn (v := .ty "tuple") (by rfl) T.tuple (by decide +kernel) rfl) pa_nil))))) (pw_or1 (pt_cmpR op_gt (pe_callB call_len (by rfl) T.len (by decide +kernel) (pa_cons (pv 1) pa_nil)) (pe_glob (v := .int 2) rfl gO ⟨_, rfl⟩) (nomark _))))) (pss_one (ps_ret pe_bl)) pss_nil)
      (pss_one (ps_ret (pe_and (pe_callB (cr_all rfl) (by rfl) T.all (by decide +kernel) (pa_cons (pe_lc (own := [("name", 2)]) (g := (gName 2)) (tt := tYes) (by rfl) sc_are_own_names.nd (pi_tup (pv 1)) (blkOk_by (own := [("name", 2)]) (N := ["frame", "value", "name"]) (sc := defScope s_are_own_names) (by decide +kernel)) (fun _ _ _ _ _ => pg_name (i := 2) sc_are_own_names.nd rfl (Or.inl rfl)) (fun _ _ _ _ _ => pts_nil) (fun _ _ _ _ _ => (pe_meth (pv 0) X.cl c_is_fresh.2.1 c_is_fresh.1 (hr.mono (by decide)) c_is_fresh.2.2 .nil pass0 (pa_cons (pv 2) pa_nil)))) pa_nil)) (pe_one (pe_cmpR op_eq (pe_lenSetT rfl rfl T.len rfl T.set (pv 1)) (pe_callB call_len (by rfl) T.len (by decide +kernel) (pa_cons (pv 1) pa_nil)) (nomark _))))))), ?_⟩
    refine ⟨_, rfl, _, _, _, _, _, rfl, .ty _, dv.ty, kitT _, _, rfl, ?_⟩
    cases e : isTupD d with
    | false =>
      have no : ownD ps ns us d = false := by cases d <;> first | rfl | (cases e; done)
      have := k H Same.refl
      rw [no] at this
      exact iteT this
    | true =>
      obtain ⟨ds, rfl⟩ : ∃ ds, d = .tuple ds := by cases d <;> first | exact ⟨_, rfl⟩ | (cases e; done)
      obtain ⟨o, xs, rfl, to, dl⟩ := dv.tupI
      have hl := dl.len
      refine iteF ⟨_, rfl, _, _, rfl, .inr ⟨_, to.sq, rfl⟩, _, _, rfl, rfl, _, rfl, ?_⟩
      by_cases h2 : ds.length ≤ 2
      case neg =>
        rw [decide_eq_true (by omega : (2 : Int) < (xs.length : Int))]
        have := k H Same.refl
        rw [show ownD ps ns us (.tuple ds) = (decide (ds.length ≤ 2) && (ds.all (freshD ps ns us) && decide ((strsD ds).Nodup))) from rfl, decide_eq_false h2] at this
        exact iteT this
      rw [decide_eq_false (by omega : ¬ (2 : Int) < (xs.length : Int))]
      refine iteF ?_
      obtain ⟨dx, LB, LT, KD, hx, _⟩ := fr.ob
      refine ⟨_, rfl, o, rfl, ⟨_, to.sq⟩, fun D hD => lc_o (walk_tup (K := K) (a := o) (xs := xs)) (fun i => ds[i]?.map fun d => V.bl (freshD ps ns us d)) (by rw [sizeLine_eq]; omega) hD (fun Hx sm => ((Kp.same (ex := fun _ => True) sm).tup to).sq) ?_ ?_⟩
      · rintro i y Hx H' Nx hi sm hDx ⟨rfl, hy⟩ hno hyes
        obtain ⟨z, hz, dz⟩ := dl.get hy
        refine ⟨rfl, yes ⟨_, rfl, x, dx, _, rfl, sm _ _ hx, rfl, _, rfl, ex, x, va, vp, vv, ps, ns, us, _, z, rfl, fr.same sm, dz.kp (Kp.same sm), cost_tup hc (List.mem_of_getElem? hz), fun H2 sm2 => ?_⟩⟩
        exact hyes _ (by rw [hz]; rfl) _ sm2
      · intro Hx sm hDx
        rw [hl, range_list, show (ds.map fun d => V.bl (freshD ps ns us d)) = (ds.map (freshD ps ns us)).map V.bl by rw [List.map_map]; rfl] at hDx
        have tx := (Kp.same (ex := fun _ => True) sm).tup to
        refine ⟨D, _, rfl, SqL.of hDx, ?_⟩
        rw [show (ds.map (freshD ps ns us)).all id = ds.all (freshD ps ns us) by rw [List.all_map]; rfl]
        have q := k Hx sm
        rw [show ownD ps ns us (.tuple ds) = (decide (ds.length ≤ 2) && (ds.all (freshD ps ns us) && decide ((strsD ds).Nodup))) from rfl, decide_eq_true h2, Bool.true_and] at q
        cases ef : ds.all (freshD ps ns us) with
        | false =>
          rw [ef] at q
          exact ⟨_, rfl, iteF q⟩
        | true =>
          rw [ef, Bool.true_and] at q
          obtain ⟨es, _⟩ := all_fresh ef
          generalize strsD ds = ow at es q
          subst es
          rw [DvL.strsI dl] at tx
          have h2 : ow.length ≤ 2 := by simpa using h2
          refine ⟨_, rfl, iteT ?_⟩
          refine ⟨_, rfl, o, ow, rfl, tx.sq, by omega, _, rfl, _, _, rfl, .inr ⟨_, tx.sq, rfl⟩, rfl, ?_⟩
          rw [show decide (V.int ((uniq ow).length : Int) = V.int ((ow.map V.str).length : Int)) = decide ow.Nodup by rw [← nodup_uniq, List.length_map]; exact decide_eq_decide.mpr ⟨fun e => by injection e, fun e => congrArg V.int e⟩]
          exact q
end
end Kx
namespace Kx
open PySem PySem.Spec PyProof.Rows L2
section
variable {X : Cx}
/-- x not in a tuple of texts, x any datum -/
def rNotInS (K : PySem.W.Frag) : R2 := fun x y H Q => ∃ (ex : Addr → Prop) (p : Addr) (zs : List Str) (d : PyData), y = .ref p ∧ SqT K H p (zs.map V.str) ∧ Dv ex H x d ∧ Q (.bl (!strInD zs d)) H
theorem op_notInS (hu : X.A.units + 1 < cLine) : OpR X (compareOp .NotIn) (rNotInS X.K) := by
  intro pins s σ H x y v u Q I rx ry h
  obtain ⟨ex, p, zs, d, rfl, hq, hd, q⟩ := h
  cases ry
  obtain ⟨its, r, pl, hz⟩ := I.tuple hq
  have hu2 : X.A.in1.units < cLine := hu
  let e : Value → Bool := fun y => match y, d with
    | .str a _, .str b => a == b
    | _, _ => false
  have each : ∀ {zs : List Str} {its : List Value}, Vals (zs.map V.str) its → (∀ y ∈ its, ∃ z t, y = Value.str z t ∧ z ∈ zs) ∧ its.any e = strInD zs d := by
    intro zs
    induction zs with
    | nil =>
      intro its r
      cases r
      refine ⟨fun y hy => (by cases hy), ?_⟩
      cases d <;> first | rfl | simp [strInD]
    | cons z zs ih =>
      intro its r
      cases r with
      | cons r1 r2 =>
        obtain ⟨t, rfl⟩ := r1
        obtain ⟨h1, h2⟩ := ih r2
        refine ⟨fun y hy => ?_, ?_⟩
        · rcases List.mem_cons.mp hy with rfl | hy
          · exact ⟨z, t, rfl, List.mem_cons_self⟩
          · obtain ⟨a, b, c, d⟩ := h1 y hy
            exact ⟨a, b, c, List.mem_cons_of_mem _ d⟩
        · rw [List.any_cons, h2]
          cases d with
          | str w =>
            show ((z == w) || decide (w ∈ zs)) = decide (w ∈ z :: zs)
            by_cases hw : z = w
            · subst hw; simp
            · have hw' : ¬ w = z := fun q => hw q.symm
              simp [hw, hw', List.mem_cons]
          | _ => rfl
  obtain ⟨h1, h2⟩ := each r
  refine SeqAt.notIn_tupleAt e pl (fun y hy => ?_) ⟨.bl _, H, I, rfl, ?_⟩
  · obtain ⟨z, t, rfl, _⟩ := h1 y (by simpa using hy)
    cases hd with
    | non => cases rx; exact SeqAt.EqAt.str_none z t
    | bl b => cases rx; exact SeqAt.EqAt.str_bool z t b
    | int i => obtain ⟨t2, rfl⟩ := rx; exact SeqAt.EqAt.str_int z t i t2
    | str w => obtain ⟨t2, rfl⟩ := rx; exact SeqAt.EqAt.str_str z t w t2
    | lst na e2 l =>
      cases rx
      obtain ⟨its2, r2, p2, _⟩ := I.list (SqL.of e2)
      exact SeqAt.EqAt.str_list z t p2.isList hu2
    | @tup a o xs ds od e2 l =>
      cases rx
      obtain ⟨its2, r2, p2, _⟩ := I.tuple (TupF.sq (K := X.K) ⟨o, od, e2⟩)
      exact SeqAt.EqAt.str_tuple z t p2 hu2
    | @dic a kvs es na e2 l =>
      cases rx
      obtain ⟨_, hne, vs, rv, o, es', ep, ho, hx, hd', _⟩ := (show ObjOk X.prog X.w H s.heap a (.dK kvs) from I.hok a _ e2)
      exact eqAt_str_dict z t ho hx.1 hd' hu2
  · rw [show its.toArray.any e = its.any e by simp, h2]
    exact q
end
def zeroD : PyData → Bool
  | .int i => decide (i = 0)
  | _ => false
def bTail (ow : List Str) : PyData → Bool
  | .tuple [_, b, c, _] => !strInD ow b || zeroD c
  | _ => true
/-- a value term of a body: behind an own name stands 0 -/
def bodyTermD (ps : List (Str × Str)) (ns us ow : List Str) (d : PyData) : Bool := amountD ps ns us ow d && bTail ow d
theorem and_l {a b : Bool} (h : (a && b) = true) : a = true := ((Bool.and_eq_true _ _).mp h).1
theorem and_r {a b : Bool} (h : (a && b) = true) : b = true := ((Bool.and_eq_true _ _).mp h).2
def heldD (ow : List Str) : PyData → Bool
  | .tuple [x, _] => strInD ow x
  | _ => false
def zAtD : PyData → Bool
  | .tuple [_, y] => zeroD y
  | _ => false
def guardPairD (ps : List (Str × Str)) (ns us ow : List Str) (a b : PyData) : Bool := placeD ps ns us ow a && (placeD ps ns us ow b && (!([a, b].filter (heldD ow)).isEmpty && ([a, b].filter (heldD ow)).all zAtD))
theorem place_pair {ps : List (Str × Str)} {ns us ow : List Str} {d : PyData} (h : placeD ps ns us ow d = true) : ∃ a i, d = .tuple [a, .int i] := by
  match d, h with
  | .tuple [a, b], h =>
    have h1 : intD b = true := ((Bool.and_eq_true_iff.mp (show (intD b && nameAtD ps ns us ow a) = true from h))).1
    cases b <;> first | exact ⟨_, _, rfl⟩ | (cases h1; done)
section
variable {P : Program} {w : World} {K : PySem.W.Frag} {mg : Str → Option Value} {base : Heap}
abbrev N_is_body_term : List Str := ["frame", "own", "value"]
abbrev P_is_body_term : List Str := ["frame", "own", "value"]
theorem sc_is_body_term : FnScope N_is_body_term P_is_body_term (defScope s_is_body_term) := ⟨rfl, rfl, rfl, by decide +kernel, rfl, by decide +kernel, by decide +kernel⟩
def spBT (C : Addr) : Sp := fun vs H Q _ => ∃ (ex : Addr → Prop) (x o : Addr) (va vp vv v : V) (d : PyData) (ps : List (Str × Str)) (ns us ow : List Str), vs = [.ref x, .ref o, v] ∧ FrameAt C H x va vp vv ps ns us ∧ TupF H o (ow.map V.str) ∧ Dv ex H v d ∧ cost d ≤ 8000000 ∧ ∀ H', Same H H' → Q (.bl (bodyTermD ps ns us ow d)) H'
theorem ok_bt (T : Bt mg) {C : Addr} (X : Fx K mg C) (h : Has K mg "is_body_term" s_is_body_term) (M2 : Me P w K mg base C 3 "has_amount" P_Frame_has_amount (spAmount C)) : Ca P w K mg base 4 "is_body_term" P_is_body_term (spBT C) := by
  obtain ⟨_, _, c_has_amount⟩ := M2
  refine cal_of h sc_is_body_term (fun _ _ _ _ _ _ us hl => match us, hl with | [_, _, _], _ => rfl) (fun vs H Q E h => ?_) (fun f cdv A outer s H vs Q E hr h => ?_)
  · obtain ⟨ex, x, o, va, vp, vv, v, d, ps, ns, us, ow, rfl, _⟩ := h
    rfl
  · obtain ⟨ex, x, o, va, vp, vv, v, d, ps, ns, us, ow, rfl, fr, to, dv, hc, k⟩ := h
    refine ⟨_, (pss_cons (ps_if (pt_not (pt_val (pe_meth (pv 0) X.cl c_has_amount.2.1 c_has_amount.1 (hr.mono (by decide)) c_has_amount.2.2 .nil pass0 (pa_cons (pv 2) (pa_cons (pv 1) pa_nil))))) (pss_one (ps_ret pe_bl)) pss_nil)
      (pss_one (ps_ret (pe_or (pe_cmpR op_eq (pe_callB call_len (by rfl) T.len (by decide +kernel) (pa_cons (pv 2) pa_nil)) pe_int (nomark _)) (pe_or (pe_cmpR (op_notInS (hu_of hr)) (pe_ix ix_tup (pv 2) pe_int (fun _ _ => rfl)) (pv 1) rfl) (pe_one (pe_cmpR op_eq (pe_ix ix_tup (pv 2) pe_int (fun _ _ => rfl)) pe_int (nomark _)))))))), ?_⟩
    obtain ⟨dx, LB, LT, KD, hx, _⟩ := fr.ob
    refine ⟨_, rfl, x, dx, _, rfl, hx, rfl, _, rfl, _, rfl, ex, x, o, va, vp, vv, _, d, ps, ns, us, ow, rfl, fr, dv, (by cases d <;> first | trivial | exact fun e he => cost_tup hc he), to, fun H1 s1 => ?_⟩
    have q : ∀ H', Same H H' → Q (.bl (amountD ps ns us ow d && bTail ow d)) H' := k
    refine ⟨_, rfl, ?_⟩
    cases e : amountD ps ns us ow d with
    | false =>
      rw [e] at q
      exact iteT (q _ s1)
    | true =>
      rw [e] at q
      have kx := Kp.same (ex := ex) s1
      clear k hc
      match d, e, dv, q with
      | .tuple [d0, d1], e, dv, q =>
        obtain ⟨a, xs, rfl, ht, dl⟩ := dv.tupI
        have hl := dl.len
        refine iteF ⟨_, rfl, _, _, rfl, .inr ⟨_, (kx.tup ht).sq, rfl⟩, rfl, ?_⟩
        rw [hl]
        exact ⟨_, rfl, iteT (q _ s1)⟩
      | .tuple [d0, d1, d2, d3], e, dv, q =>
        obtain ⟨a, xs, rfl, ht, dl⟩ := dv.tupI
        obtain ⟨a0, a1, a2, a3, rfl⟩ : ∃ a0 a1 a2 a3, xs = [a0, a1, a2, a3] := match xs, dl.len with | [_, _, _, _], _ => ⟨_, _, _, _, rfl⟩
        obtain ⟨dv0, dv1, dv2, dv3⟩ : Dv ex H a0 d0 ∧ Dv ex H a1 d1 ∧ Dv ex H a2 d2 ∧ Dv ex H a3 d3 := by
          cases dl with
          | cons q0 dl => cases dl with
            | cons q1 dl => cases dl with
              | cons q2 dl => cases dl with
                | cons q3 dl => exact ⟨q0, q1, q2, q3⟩
        have sq : SqT K H1 a [a0, a1, a2, a3] := (kx.tup ht).sq
        obtain ⟨e2, i, e3⟩ : ∃ e2 i, PyData.tuple [d1, d2] = .tuple [e2, .int i] := place_pair (and_l (and_r (show (kindD ps ns us "array" d0 && (placeD ps ns us ow (.tuple [d1, d2]) && intD d3)) = true from e)))
        cases e3
        cases dv2.intI
        refine iteF ⟨_, rfl, _, _, rfl, .inr ⟨_, sq, rfl⟩, rfl, ⟨_, rfl, iteF ?_⟩⟩
        refine ⟨_, rfl, a, _, 1, a1, rfl, rfl, sq, rfl, _, rfl, ex, o, ow, d1, rfl, (kx.tup to).sq, dv1.kp kx, _, rfl, ?_⟩
        have q' : Q (.bl (!strInD ow d1 || zeroD (.int i))) H1 := q _ s1
        cases e4 : strInD ow d1 with
        | false =>
          rw [e4] at q'
          exact iteT q'
        | true =>
          rw [e4] at q'
          refine iteF ⟨_, rfl, a, _, 2, .int i, rfl, rfl, sq, rfl, rfl, ?_⟩
          rw [show decide (V.int i = V.int 0) = decide (i = 0) from decide_eq_decide.mpr ⟨fun e => by injection e, fun e => congrArg V.int e⟩]
          exact q'
end
end Kx
namespace Kx
open PySem PySem.Spec PyProof.Rows L2
/-- the values of the data that p lets -/
def selV (p : PyData → Bool) : List V → List PyData → List V
  | v :: vs, d :: ds => if p d then v :: selV p vs ds else selV p vs ds
  | _, _ => []
def selO (p : PyData → Bool) (xs : List V) (ds : List PyData) (i : Nat) : Option V := ds[i]?.bind fun d => if p d then xs[i]? else none
theorem sel_range (p : PyData → Bool) : ∀ (xs : List V) (ds : List PyData), xs.length = ds.length → (List.range xs.length).filterMap (selO p xs ds) = selV p xs ds
  | [], [], _ => rfl
  | x :: xs, d :: ds, h => by
    have ih := sel_range p xs ds (by simpa using h)
    rw [List.length_cons, List.range_succ_eq_map, List.filterMap_cons]
    have e0 : selO p (x :: xs) (d :: ds) 0 = if p d then some x else none := rfl
    have e1 : (List.map Nat.succ (List.range xs.length)).filterMap (selO p (x :: xs) (d :: ds)) = selV p xs ds := by
      rw [List.filterMap_map, ← ih]
      rfl
    rw [e0, e1]
    show _ = (if p d then x :: selV p xs ds else selV p xs ds)
    cases p d <;> rfl
  | [], _ :: _, h => by cases h
  | _ :: _, [], h => by cases h
theorem selV_dvl {ex : Addr → Prop} {H : Hp} (p : PyData → Bool) : ∀ {xs : List V} {ds : List PyData}, DvL ex H xs ds → DvL ex H (selV p xs ds) (ds.filter p)
  | _, _, .nil => .nil
  | _, _, .cons (v := v) (d := d) (vs := vs) (ds := ds) a b => by
    show DvL ex H (if p d then v :: selV p vs ds else selV p vs ds) ((d :: ds).filter p)
    rw [List.filter_cons]
    cases p d with
    | true => exact .cons a (selV_dvl p b)
    | false => exact selV_dvl p b
section
variable {P : Program} {w : World} {K : PySem.W.Frag} {mg : Str → Option Value} {base : Heap}
theorem shp_of {d : PyData} {n : Nat} (h : cost d ≤ 8000000) : shp d := by cases d <;> first | trivial | exact fun e he => cost_tup h he
abbrev N_is_guard_pair : List Str := ["frame", "own", "one", "other", "held", "term"]
abbrev P_is_guard_pair : List Str := ["frame", "own", "one", "other"]
theorem sc_is_guard_pair : FnScope N_is_guard_pair P_is_guard_pair (defScope s_is_guard_pair) := ⟨rfl, rfl, rfl, by decide +kernel, rfl, by decide +kernel, by decide +kernel⟩
def spGP (C : Addr) : Sp := fun vs H Q _ => ∃ (ex : Addr → Prop) (x o : Addr) (va vp vv v u : V) (d e : PyData) (ps : List (Str × Str)) (ns us ow : List Str), vs = [.ref x, .ref o, v, u] ∧ FrameAt C H x va vp vv ps ns us ∧ TupF H o (ow.map V.str) ∧ Dv ex H v d ∧ cost d ≤ 8000000 ∧ Dv ex H u e ∧ cost e ≤ 8000000 ∧ ∀ H', Same H H' → Q (.bl (guardPairD ps ns us ow d e)) H'
theorem ok_gp (T : Bt mg) {C : Addr} (X : Fx K mg C) (h : Has K mg "_is_guard_pair" s_is_guard_pair) (M2 : Me P w K mg base C 2 "has_place" P_Frame_has_place (spPlace C)) : Ca P w K mg base 3 "_is_guard_pair" P_is_guard_pair (spGP C) := by
  obtain ⟨_, _, c_has_place⟩ := M2
  refine cal_of h sc_is_guard_pair (fun _ _ _ _ _ _ us hl => match us, hl with | [_, _, _, _], _ => rfl) (fun vs H Q E h => ?_) (fun f cdv A outer s H vs Q E hr h => ?_)
  · obtain ⟨ex, x, o, va, vp, vv, v, u, d, e, ps, ns, us, ow, rfl, _⟩ := h
    rfl
  · obtain ⟨ex, x, o, va, vp, vv, v, u, d, e, ps, ns, us, ow, rfl, fr, to, dv, hc, de, hce, k⟩ := h
    refine ⟨_, (pss_cons (ps_if (PW.pt (pw_or (pt_not (pt_val (pe_meth (pv 0) X.cl c_has_place.2.1 c_has_place.1 (hr.mono (by decide)) c_has_place.2.2 .nil pass0 (pa_cons (pv 2) (pa_cons (pv 1) pa_nil))))) (pw_or1 (pt_not (pt_val (pe_meth (pv 0) X.cl c_has_place.2.1 c_has_place.1 (hr.mono (by decide)) c_has_place.2.2 .nil pass0 (pa_cons (pv 3) (pa_cons (pv 1) pa_nil)))))))) (pss_one (ps_ret pe_bl)) pss_nil)
      (pss_cons (ps_setLc (i := 4) (own := [("term", 5)]) (g := (gName 5)) (by rfl) sc_is_guard_pair.nd rfl rfl (sw_true rfl rfl rfl (by decide +kernel)) (pi_tup (pe_tupF (pa_cons (pv 2) (pa_cons (pv 3) pa_nil)))) (blkOk_by (own := [("term", 5)]) (N := ["frame", "own", "one", "other", "held", "term"]) (sc := defScope s_is_guard_pair) (by decide +kernel)) (fun _ _ _ _ _ => pg_name (i := 5) sc_is_guard_pair.nd rfl (Or.inl rfl)) (fun _ _ _ _ _ => pts_one (pt_cmpR (show OpR _ (compareOp .In) (rInS K) from op_inS (hu_of hr)) (pe_ix (show IxR _ (rIxT K) from ix_tup) (pv 5) pe_int (fun _ _ => rfl)) (pv 1) rfl)) (fun _ _ _ _ _ => (pv 5)))
      (pss_one (ps_ret (pe_and (pe_cmpR op_gt (pe_callB call_len (by rfl) T.len (by decide +kernel) (pa_cons (pv 4) pa_nil)) pe_int (nomark _)) (pe_one (pe_callB (cr_all rfl) (by rfl) T.all (by decide +kernel) (pa_cons (pe_lc (own := [("term", 5)]) (g := (gName 5)) (tt := tYes) (by rfl) sc_is_guard_pair.nd (pi_list (pv 4)) (blkOk_by (own := [("term", 5)]) (N := ["frame", "own", "one", "other", "held", "term"]) (sc := defScope s_is_guard_pair) (by decide +kernel)) (fun _ _ _ _ _ => pg_name (i := 5) sc_is_guard_pair.nd rfl (Or.inl rfl)) (fun _ _ _ _ _ => pts_nil) (fun _ _ _ _ _ => (pe_cmpR op_eq (pe_ix (show IxR _ (rIxT K) from ix_tup) (pv 5) pe_int (fun _ _ => rfl)) pe_int (nomark _)))) pa_nil)))))))), ?_⟩
    obtain ⟨dx, LB, LT, KD, hx, _⟩ := fr.ob
    refine ⟨_, rfl, x, dx, _, rfl, hx, rfl, _, rfl, _, rfl, ex, x, o, va, vp, vv, _, d, ps, ns, us, ow, rfl, fr, dv, shp_of (n := 0) hc, to, fun H1 s1 => ⟨_, rfl, ?_⟩⟩
    have q : ∀ H', Same H H' → Q (.bl (placeD ps ns us ow d && (placeD ps ns us ow e && (!([d, e].filter (heldD ow)).isEmpty && ([d, e].filter (heldD ow)).all zAtD)))) H' := k
    cases e1 : placeD ps ns us ow d with
    | false =>
      rw [e1] at q
      exact iteT (iteT (q _ s1))
    | true =>
    rw [e1] at q
    refine iteF ?_
    refine ⟨_, rfl, x, dx, _, rfl, s1 _ _ hx, rfl, _, rfl, _, rfl, ex, x, o, va, vp, vv, _, e, ps, ns, us, ow, rfl, fr.same s1, de.kp (Kp.same s1), shp_of (n := 0) hce, (Kp.same (ex := ex) s1).tup to, fun H2 s2 => ⟨_, rfl, ?_⟩⟩
    have s12 := s1.trans s2
    cases e2 : placeD ps ns us ow e with
    | false =>
      rw [e2] at q
      exact iteT (q _ s12)
    | true =>
    rw [e2] at q
    refine iteF ?_
    obtain ⟨d1, i1, rfl⟩ := place_pair e1
    obtain ⟨d2, i2, rfl⟩ := place_pair e2
    obtain ⟨t1, ht1⟩ : ∃ t1, t1 = PyData.tuple [d1, .int i1] := ⟨_, rfl⟩
    obtain ⟨t2, ht2⟩ : ∃ t2, t2 = PyData.tuple [d2, .int i2] := ⟨_, rfl⟩
    rw [← ht1, ← ht2] at q
    have shape : ∀ z ∈ [t1, t2], ∃ c j, z = PyData.tuple [c, .int j] := fun z hz => by
      simp only [List.mem_cons, List.not_mem_nil, or_false] at hz
      rcases hz with rfl | rfl
      · exact ⟨_, _, ht1⟩
      · exact ⟨_, _, ht2⟩
    rw [← ht1] at dv
    rw [← ht2] at de
    clear e1 e2 ht1 ht2 hc hce k
    refine ⟨_, rfl, _, rfl, by show 2 ≤ sizeLine; decide, fun t H3 s3 ht => ⟨t, rfl, ⟨_, ht.sq⟩, fun D hD => lc_o (walk_tup (K := K) (a := t) (xs := [v, u])) (selO (heldD ow) [v, u] [t1, t2]) (show 2 < sizeLine by rw [sizeLine_eq]; decide) hD (fun Hx sm => ((Kp.same (ex := fun _ => True) sm).tup ht).sq) ?_ ?_⟩⟩
    · rintro i y Hx H' Nx hi sm hDx ⟨rfl, hy⟩ hno hyes
      have s1x := (s12.trans s3).trans sm
      have dl : DvL ex H' [v, u] [t1, t2] := .cons (dv.kp (Kp.same s1x)) (.cons (de.kp (Kp.same s1x)) .nil)
      obtain ⟨z, hz, dz⟩ := dl.get hy
      obtain ⟨c, j, rfl⟩ := shape z (List.mem_of_getElem? hz)
      obtain ⟨a, xs, rfl, ta, dla⟩ := dz.tupI
      obtain ⟨a0, a1, rfl⟩ : ∃ a0 a1, xs = [a0, a1] := match xs, dla.len with | [_, _], _ => ⟨_, _, rfl⟩
      have dc : Dv ex H' a0 c := by
        cases dla with
        | cons q0 _ => exact q0
      have sqa : SqT K H' a [a0, a1] := ta.sq
      refine ⟨rfl, _, rfl, a, _, 0, a0, rfl, rfl, sqa, rfl, _, rfl, ex, o, ow, c, rfl, ((Kp.same (ex := ex) s1x).tup to).sq, dc, _, rfl, ?_⟩
      have so : selO (heldD ow) [v, u] [t1, t2] i = if strInD ow c then some (.ref a) else none := by
        unfold selO
        rw [hz, hy]
        rfl
      cases e3 : strInD ow c with
      | true =>
        rw [e3] at so
        exact iteT ⟨_, rfl, hyes _ so _ Same.refl⟩
      | false =>
        rw [e3] at so
        exact iteF (hno so _ Same.refl)
    · intro Hx sm hDx
      rw [sel_range _ _ _ rfl] at hDx
      have s1x := (s12.trans s3).trans sm
      have dl : DvL ex Hx (selV (heldD ow) [v, u] [t1, t2]) ([t1, t2].filter (heldD ow)) := selV_dvl _ (.cons (dv.kp (Kp.same s1x)) (.cons (de.kp (Kp.same s1x)) .nil))
      have shape2 : ∀ z ∈ [t1, t2].filter (heldD ow), ∃ c j, z = PyData.tuple [c, .int j] := fun z hz => shape z ((List.mem_filter.mp hz).1)
      have len2 : ([t1, t2].filter (heldD ow)).length ≤ 2 := List.length_filter_le _ _
      generalize [t1, t2].filter (heldD ow) = ds at q dl shape2 len2
      generalize selV (heldD ow) [v, u] [t1, t2] = xs at dl hDx
      have hl := dl.len
      refine ⟨_, rfl, _, _, rfl, .inl ⟨_, SqL.of hDx, rfl⟩, _, _, rfl, rfl, ?_⟩
      have s1y := s12.trans (s3.trans sm)
      cases hx0 : xs with
      | nil =>
        have e0 : ds = [] := by
          cases ds with
          | nil => rfl
          | cons _ _ => rw [hx0] at hl; cases hl
        rw [e0] at q
        exact ⟨_, rfl, iteF (q Hx s1y)⟩
      | cons x0 xr =>
        rw [← hx0]
        have hpos : (0 : Int) < (xs.length : Int) := by rw [hx0]; simp only [List.length_cons]; omega
        have e0 : (!ds.isEmpty) = true := by
          cases ds with
          | nil => rw [hx0] at hl; cases hl
          | cons _ _ => rfl
        rw [e0] at q
        refine ⟨_, congrArg V.bl (decide_eq_true hpos), iteT ?_⟩
        refine ⟨_, rfl, D, rfl, ⟨_, SqL.of hDx⟩, fun D2 hD2 => lc_o (walk_list (K := K) (a := D) (xs := xs)) (fun i => ds[i]?.map fun d => V.bl (zAtD d)) (by rw [sizeLine_eq]; omega) hD2 (fun Hy sm2 => SqL.of (sm2 _ _ hDx)) ?_ ?_⟩
        · rintro i y Hy H' Nx hi sm2 hDy ⟨rfl, hy⟩ hno hyes
          obtain ⟨z, hz, dz⟩ := dl.get hy
          have dz := dz.kp (Kp.same sm2)
          obtain ⟨c, j, rfl⟩ := shape2 z (List.mem_of_getElem? hz)
          obtain ⟨a, ys, rfl, ta, dla⟩ := dz.tupI
          obtain ⟨a0, a1, rfl⟩ : ∃ a0 a1, ys = [a0, a1] := match ys, dla.len with | [_, _], _ => ⟨_, _, rfl⟩
          have da : a1 = V.int j := by
            cases dla with
            | cons q0 r => cases r with
              | cons q1 _ => exact q1.intI
          subst da
          have sqa : SqT K H' a [a0, .int j] := ta.sq
          refine ⟨rfl, yes ⟨_, rfl, a, _, 1, .int j, rfl, rfl, sqa, rfl, rfl, hyes _ ?_ _ Same.refl⟩⟩
          rw [hz]
          exact congrArg (fun b => some (V.bl b)) (show decide (j = 0) = decide (V.int j = V.int 0) from decide_eq_decide.mpr ⟨fun e => congrArg V.int e, fun e => by injection e⟩)
        · intro Hy sm2 hDy
          rw [hl, range_list, show (ds.map fun d => V.bl (zAtD d)) = (ds.map zAtD).map V.bl by rw [List.map_map]; rfl] at hDy
          refine ⟨D2, _, rfl, SqL.of hDy, ?_⟩
          rw [show (ds.map zAtD).all id = ds.all zAtD by rw [List.all_map]; rfl]
          exact q Hy (s1y.trans sm2)
end
end Kx
namespace Kx
open PySem PySem.Spec PyProof.Rows L2
def gops : List Str := ["<=", "=="]
def cops : List Str := ["<=", "<", "=="]
/-- the tuples of the module, its number -/
structure Sh (K : PySem.W.Frag) (mg : Str → Option Value) (G1 G2 : Addr) : Prop where
  g1 : mg "GUARD_OPS" = some (.ref G1)
  s1 : ∀ H, SqT K H G1 (gops.map V.str)
  g2 : mg "OPS" = some (.ref G2)
  s2 : ∀ H, SqT K H G2 (cops.map V.str)
  gM : ∃ t, mg "MAX_DEPTH" = some (.int 12 t)
def atomD (ps : List (Str × Str)) (ns us : List Str) (role : Str) (ow : List Str) (w op a b : PyData) : Bool :=
  if role = "guard" then eqS "pos" w && (strInD gops op && guardPairD ps ns us ow a b)
  else if strInD cops op then (if eqS "val" w then bodyTermD ps ns us ow a && bodyTermD ps ns us ow b else decide (role = "claim") && (eqS "pos" w && (placeD ps ns us [] a && placeD ps ns us [] b)))
  else false
theorem DvL.four {ex : Addr → Prop} {H : Hp} {xs : List V} {d0 d1 d2 d3 : PyData} (h : DvL ex H xs [d0, d1, d2, d3]) : ∃ a0 a1 a2 a3, xs = [a0, a1, a2, a3] ∧ Dv ex H a0 d0 ∧ Dv ex H a1 d1 ∧ Dv ex H a2 d2 ∧ Dv ex H a3 d3 := by
  cases h with
  | cons q0 h => cases h with
    | cons q1 h => cases h with
      | cons q2 h => cases h with
        | cons q3 h => cases h; exact ⟨_, _, _, _, rfl, q0, q1, q2, q3⟩
theorem DvL.two {ex : Addr → Prop} {H : Hp} {xs : List V} {d0 d1 : PyData} (h : DvL ex H xs [d0, d1]) : ∃ a0 a1, xs = [a0, a1] ∧ Dv ex H a0 d0 ∧ Dv ex H a1 d1 := by
  cases h with
  | cons q0 h => cases h with
    | cons q1 h => cases h; exact ⟨_, _, rfl, q0, q1⟩
section
variable {P : Program} {w : World} {K : PySem.W.Frag} {mg : Str → Option Value} {base : Heap}
abbrev N_is_atom : List Str := ["frame", "role", "own", "value", "word", "op", "one", "other"]
abbrev P_is_atom : List Str := ["frame", "role", "own", "value"]
theorem sc_is_atom : FnScope N_is_atom P_is_atom (defScope s_is_atom) := ⟨rfl, rfl, rfl, by decide +kernel, rfl, by decide +kernel, by decide +kernel⟩
def spAtom (C : Addr) : Sp := fun vs H Q _ => ∃ (ex : Addr → Prop) (x o : Addr) (va vp vv v : V) (role : Str) (d0 d1 d2 d3 : PyData) (ps : List (Str × Str)) (ns us ow : List Str), vs = [.ref x, .str role, .ref o, v] ∧ FrameAt C H x va vp vv ps ns us ∧ TupF H o (ow.map V.str) ∧ Dv ex H v (.tuple [d0, d1, d2, d3]) ∧ cost (.tuple [d0, d1, d2, d3]) ≤ 8000000 ∧ ∀ H', Same H H' → Q (.bl (atomD ps ns us role ow d0 d1 d2 d3)) H'
theorem ok_atom (T : Bt mg) {C G1 G2 : Addr} (X : Fx K mg C) (S : Sh K mg G1 G2) (h : Has K mg "_is_atom" s_is_atom) (C1 : Ca P w K mg base 3 "_is_guard_pair" P_is_guard_pair (spGP C)) (C2 : Ca P w K mg base 4 "is_body_term" P_is_body_term (spBT C))
    (M2 : Me P w K mg base C 2 "has_place" P_Frame_has_place (spPlace C)) : Ca P w K mg base 5 "_is_atom" P_is_atom (spAtom C) := by
  obtain ⟨_, _, c__is_guard_pair⟩ := C1
  obtain ⟨_, _, c_is_body_term⟩ := C2
  obtain ⟨_, _, c_has_place⟩ := M2
  refine cal_of h sc_is_atom (fun _ _ _ _ _ _ us hl => match us, hl with | [_, _, _, _], _ => rfl) (fun vs H Q E h => ?_) (fun f cdv A outer s H vs Q E hr h => ?_)
  · obtain ⟨ex, x, o, va, vp, vv, v, role, d0, d1, d2, d3, ps, ns, us, ow, rfl, _⟩ := h
    rfl
  · obtain ⟨ex, x, o, va, vp, vv, v, role, d0, d1, d2, d3, ps, ns, us, ow, rfl, fr, to, dv, hc, k⟩ := h
    refine ⟨_, (pss_cons (ps_asg (pv 3) (pg_tup (by rfl) (pgs_cons (pg_name (i := 4) sc_is_atom.nd rfl (.inl rfl)) (pgs_cons (pg_name (i := 5) sc_is_atom.nd rfl (.inl rfl)) (pgs_cons (pg_name (i := 6) sc_is_atom.nd rfl (.inl rfl)) (pgs_cons (pg_name (i := 7) sc_is_atom.nd rfl (.inl rfl)) pgs_nil))))))
      (pss_cons (ps_if (pt_cmpR op_eq (pv 1) pe_str (nomark _)) (pss_one (ps_ret (pe_and (pe_cmpR (op_eqA (hu_of hr)) (pv 4) pe_str (nomark _)) (pe_and (pe_cmpR (op_inS (hu_of hr)) (pv 5) (pe_glob (v := .ref G1) rfl S.g1 rfl) rfl) (pe_one (pe_call c__is_guard_pair.1 (hr.mono (by decide)) rfl c__is_guard_pair.2.1 c__is_guard_pair.2.2.1 c__is_guard_pair.2.2.2 .nil pass0 (pa_cons (pv 0) (pa_cons (pv 2) (pa_cons (pv 6) (pa_cons (pv 7) pa_nil)))))))))) pss_nil)
      (pss_cons (ps_if (pt_cmpR (op_notInS (hu_of hr)) (pv 5) (pe_glob (v := .ref G2) rfl S.g2 rfl) rfl) (pss_one (ps_ret pe_bl)) pss_nil)
      (pss_cons (ps_if (pt_cmpR (op_eqA (hu_of hr)) (pv 4) pe_str (nomark _)) (pss_one (ps_ret (pe_and (pe_call c_is_body_term.1 (hr.mono (by decide)) rfl c_is_body_term.2.1 c_is_body_term.2.2.1 c_is_body_term.2.2.2 .nil pass0 (pa_cons (pv 0) (pa_cons (pv 2) (pa_cons (pv 6) pa_nil)))) (pe_one (pe_call c_is_body_term.1 (hr.mono (by decide)) rfl c_is_body_term.2.1 c_is_body_term.2.2.1 c_is_body_term.2.2.2 .nil pass0 (pa_cons (pv 0) (pa_cons (pv 2) (pa_cons (pv 7) pa_nil)))))))) pss_nil)
      (pss_one (ps_ret (pe_and (pe_cmpR op_eq (pv 1) pe_str (nomark _)) (pe_and (pe_cmpR (op_eqA (hu_of hr)) (pv 4) pe_str (nomark _)) (pe_and (pe_meth (pv 0) X.cl c_has_place.2.1 c_has_place.1 (hr.mono (by decide)) c_has_place.2.2 .nil pass0 (pa_cons (pv 6) (pa_cons (pe_tupF pa_nil) pa_nil))) (pe_one (pe_meth (pv 0) X.cl c_has_place.2.1 c_has_place.1 (hr.mono (by decide)) c_has_place.2.2 .nil pass0 (pa_cons (pv 7) (pa_cons (pe_tupF pa_nil) pa_nil))))))))))))), ?_⟩
    have hc2 : cost d2 ≤ 8000000 := cost_tup hc (by simp)
    have hc3 : cost d3 ≤ 8000000 := cost_tup hc (by simp)
    obtain ⟨a, xs, rfl, ht, dl⟩ := dv.tupI
    obtain ⟨a0, a1, a2, a3, rfl, v0, v1, v2, v3⟩ := dl.four
    obtain ⟨dx, LB, LT, KD, hx, _⟩ := fr.ob
    refine ⟨_, rfl, a, _, rfl, ht.sq, rfl, ?_⟩
    refine ⟨_, _, rfl, _, _, rfl, _, _, rfl, _, _, rfl, rfl, ?_⟩
    refine ⟨_, rfl, rfl, _, rfl, ?_⟩
    have q : ∀ H', Same H H' → Q (.bl (if role = "guard" then eqS "pos" d0 && (strInD gops d1 && guardPairD ps ns us ow d2 d3)
      else if strInD cops d1 then (if eqS "val" d0 then bodyTermD ps ns us ow d2 && bodyTermD ps ns us ow d3 else decide (role = "claim") && (eqS "pos" d0 && (placeD ps ns us [] d2 && placeD ps ns us [] d3)))
      else false)) H' := k
    refine ite2 (fun hb => ?_) (fun hb => ?_)
    · have hg : role = "guard" := by
        have := of_decide_eq_true hb
        injection this
      rw [if_pos hg] at q
      refine ⟨_, rfl, ex, d0, _, rfl, v0, _, rfl, ?_⟩
      cases e0 : eqS "pos" d0 with
      | false =>
        rw [e0] at q
        exact iteF (q _ Same.refl)
      | true =>
        rw [e0] at q
        refine iteT ⟨_, rfl, ex, G1, gops, d1, rfl, S.s1 _, v1, _, rfl, ?_⟩
        cases e1 : strInD gops d1 with
        | false =>
          rw [e1] at q
          exact iteF (q _ Same.refl)
        | true =>
          rw [e1] at q
          exact iteT ⟨_, rfl, _, rfl, _, rfl, _, rfl, ex, x, o, va, vp, vv, a2, a3, d2, d3, ps, ns, us, ow, rfl, fr, to, v2, hc2, v3, hc3, fun H1 s1 => q _ s1⟩
    · have hg : ¬ role = "guard" := fun e => hb (decide_eq_true (congrArg V.str e))
      rw [if_neg hg] at q
      refine ⟨_, rfl, ex, G2, cops, d1, rfl, S.s2 _, v1, _, rfl, ?_⟩
      cases e1 : strInD cops d1 with
      | false =>
        rw [e1] at q
        exact iteT (q _ Same.refl)
      | true =>
        rw [e1, if_pos rfl] at q
        refine iteF ⟨_, rfl, ex, d0, _, rfl, v0, _, rfl, ?_⟩
        cases e2 : eqS "val" d0 with
        | true =>
          rw [e2, if_pos rfl] at q
          refine iteT ⟨_, rfl, _, rfl, _, rfl, ex, x, o, va, vp, vv, a2, d2, ps, ns, us, ow, rfl, fr, to, v2, hc2, fun H1 s1 => ⟨_, rfl, ?_⟩⟩
          cases e3 : bodyTermD ps ns us ow d2 with
          | false =>
            rw [e3] at q
            exact iteF (q _ s1)
          | true =>
            rw [e3] at q
            exact iteT ⟨_, rfl, _, rfl, _, rfl, ex, x, o, va, vp, vv, a3, d3, ps, ns, us, ow, rfl, fr.same s1, (Kp.same (ex := ex) s1).tup to, v3.kp (Kp.same s1), hc3, fun H2 s2 => q _ (s1.trans s2)⟩
        | false =>
          rw [e2, if_neg (by decide)] at q
          refine iteF ⟨_, rfl, rfl, _, rfl, ?_⟩
          refine ite2 (fun hb2 => ?_) (fun hb2 => ?_)
          · have hcl : role = "claim" := by
              have := of_decide_eq_true hb2
              injection this
            rw [decide_eq_true hcl] at q
            refine ⟨_, rfl, ex, d0, _, rfl, v0, _, rfl, ?_⟩
            cases e3 : eqS "pos" d0 with
            | false =>
              rw [e3] at q
              exact iteF (q _ Same.refl)
            | true =>
              rw [e3] at q
              refine iteT ⟨_, rfl, x, dx, _, rfl, hx, rfl, _, rfl, by show 0 ≤ sizeLine; exact Nat.zero_le _, fun o1 H1 s1 h1 => ?_⟩
              refine ⟨ex, x, o1, va, vp, vv, _, d2, ps, ns, us, [], rfl, fr.same s1, v2.kp (Kp.same s1), shp_of (n := 0) hc2, h1, fun H2 s2 => ⟨_, rfl, ?_⟩⟩
              have s12 := s1.trans s2
              cases e4 : placeD ps ns us [] d2 with
              | false =>
                rw [e4] at q
                exact iteF (q _ s12)
              | true =>
                rw [e4] at q
                refine iteT ⟨_, rfl, x, dx, _, rfl, s12 _ _ hx, rfl, _, rfl, by show 0 ≤ sizeLine; exact Nat.zero_le _, fun o2 H3 s3 h3 => ?_⟩
                have s13 := s12.trans s3
                exact ⟨ex, x, o2, va, vp, vv, _, d3, ps, ns, us, [], rfl, fr.same s13, v3.kp (Kp.same s13), shp_of (n := 0) hc3, h3, fun H4 s4 => q _ (s13.trans s4)⟩
          · have hcl : ¬ role = "claim" := fun e => hb2 (decide_eq_true (congrArg V.str e))
            rw [decide_eq_false hcl] at q
            exact q _ Same.refl
end
end Kx
namespace Kx
open PySem PySem.Spec PyProof.Rows L2
theorem dupP {T G : Prop} (main : T → G) (body : T) : G := main body
/-- a comprehension whose i-th item stands in R, and may be made on the way -/
theorem lc_rel {J : It} {n : Nat} {G : Hp → Prop} {Y : Nat → Hp → V → Hp → Prop} (w : Walk J n G Y) {g : TG} {tt : TT} {te : TE} {vs : List Nat} {σ : L2.St} {H1 : Hp} {D : Addr} {Qd : Hp → Prop} (R : Nat → Hp → V → Prop)
    (hR : ∀ i y H H', Kp (fun a => a = D) H H' → R i H y → R i H' y) (hn : n < sizeLine) (hD : H1 D = none) (hG : ∀ H, Same H1 H → G H)
    (hs : ∀ i x H H' (Nx : Hp → Prop), i < n → Same H1 H → H D ≠ none → Y i H x H' → (∀ y H4, Same H H4 → R i H4 y → ∃ acc, H4 D = some (.lst acc) ∧ acc.length < sizeLine ∧ Nx (upd H4 D (.lst (acc ++ [y])))) →
      g x (wipe σ vs) H' fun σ2 H2 => wipe σ2 vs = wipe σ vs ∧ tt σ2 H2 fun b H3 => if b = true then te σ2 H3 fun y H4 => ∃ acc, H4 D = some (.lst acc) ∧ acc.length < sizeLine ∧ Nx (upd H4 D (.lst (acc ++ [y]))) else Nx H3)
    (hd : ∀ H xs, Same H1 H → H D = some (.lst xs) → xs.length = n → (∀ i y, xs[i]? = some y → R i H y) → Qd H) :
    ∃ W : Nat → Nat → Hp → Prop, (∃ m, W 0 m (upd H1 D (.lst []))) ∧ ∀ i m H, W i m H →
      (J.stop i H ∧ Qd H) ∨ (J.go i H ∧ ∃ Nx : Hp → Prop, (∀ H', Nx H' → ∃ m', m' < m ∧ W (i + 1) m' H') ∧ ∀ x H', J.yld i H x H' → g x (wipe σ vs) H' fun σ2 H2 => wipe σ2 vs = wipe σ vs ∧ tt σ2 H2 fun b H3 =>
        if b = true then te σ2 H3 fun y H4 => ∃ acc, H4 D = some (.lst acc) ∧ acc.length < sizeLine ∧ Nx (upd H4 D (.lst (acc ++ [y]))) else Nx H3) := by
  have off : ∀ {H : Hp} {xs : List V}, Same H1 H → Same H1 (upd H D (.lst xs)) := fun {H xs} h b u e => by
    rw [upd_ne (ne_of_none e hD)]
    exact h b u e
  refine lc_it w (fun i H => Same H1 H ∧ ∃ xs, H D = some (.lst xs) ∧ xs.length = i ∧ ∀ j y, xs[j]? = some y → R j H y) ⟨Same.upd hD, [], upd_same, rfl, fun j y h => by simp at h⟩ (fun i H _ h => hG H h.1) (fun i x H H' hi h y => ?_) (fun H h => ?_)
  · obtain ⟨sm, xs, hx, hl, hr⟩ := h
    refine hs i x H H' _ hi sm (by rw [hx]; simp) y (fun z H4 k rz => ⟨xs, k _ _ hx, by omega, off (sm.trans k), xs ++ [z], upd_same, by rw [List.length_append, hl]; rfl, fun j v hj => ?_⟩)
    have kd : Kp (fun a => a = D) H4 (upd H4 D (.lst (xs ++ [z]))) := Kp.at rfl (k _ _ hx)
    by_cases hlt : j < xs.length
    · rw [List.getElem?_append_left hlt] at hj
      exact hR _ _ _ _ kd (hR _ _ _ _ (Kp.same k) (hr j v hj))
    · have hge : xs.length ≤ j := by omega
      rw [List.getElem?_append_right hge] at hj
      have e0 : j - xs.length = 0 := by
        cases q : j - xs.length with
        | zero => rfl
        | succ m => rw [q] at hj; simp at hj
      rw [e0] at hj
      cases hj
      have ej : j = i := by omega
      rw [ej]
      exact hR _ _ _ _ kd rz
  · obtain ⟨sm, xs, hx, hl, hr⟩ := h
    exact hd H xs sm hx hl hr
/-- a claim, a guard or a body that is still to be looked at -/
structure Nd where
  role : Str
  ow : List Str
  d : PyData
def itemsD : PyData → List PyData
  | .tuple ds => ds
  | _ => []
def needTwo (role : Str) (ow : List Str) (a b : PyData) : Option (List Nd) :=
  if eqS "not" a && decide (role ≠ "guard") then some [⟨role, ow, b⟩]
  else if strInD ["and", "or"] a && isTupD b then some ((itemsD b).map fun p => ⟨role, ow, p⟩)
  else none
def needFour (ps : List (Str × Str)) (ns us : List Str) (role : Str) (ow : List Str) (w a b c : PyData) : Option (List Nd) :=
  if eqS "all" w then (if decide (role = "claim") && (ownD ps ns us a && !(itemsD a).isEmpty) then some [⟨"guard", strsD (itemsD a), b⟩, ⟨"body", strsD (itemsD a), c⟩] else none)
  else if atomD ps ns us role ow w a b c then some [] else none
def needD (ps : List (Str × Str)) (ns us : List Str) (n : Nd) : Option (List Nd) := match n.d with
  | .tuple [a, b] => needTwo n.role n.ow a b
  | .tuple [a, b, c, e] => needFour ps ns us n.role n.ow a b c e
  | _ => none
/-- what stands for it in the heap -/
def NdAt (ex : Addr → Prop) (H : Hp) (v : V) (n : Nd) : Prop := ∃ (t o : Addr) (u : V), v = .ref t ∧ TupF H t [.str n.role, .ref o, u] ∧ TupF H o (n.ow.map V.str) ∧ Dv ex H u n.d ∧ cost n.d ≤ 8000000
theorem NdAt.kp {ex : Addr → Prop} {H H' : Hp} {v : V} {n : Nd} (h : NdAt ex H v n) (k : Same H H') : NdAt ex H' v n := by
  obtain ⟨t, o, u, e, h1, h2, h3, h4⟩ := h
  exact ⟨t, o, u, e, (Kp.same (ex := ex) k).tup h1, (Kp.same (ex := ex) k).tup h2, h3.kp (Kp.same k), h4⟩
inductive NdsAt (ex : Addr → Prop) (H : Hp) : List V → List Nd → Prop
  | nil : NdsAt ex H [] []
  | cons {v : V} {n : Nd} {vs : List V} {ns : List Nd} : NdAt ex H v n → NdsAt ex H vs ns → NdsAt ex H (v :: vs) (n :: ns)
theorem NdsAt.kp {ex : Addr → Prop} {H H' : Hp} (k : Same H H') : ∀ {vs : List V} {ns : List Nd}, NdsAt ex H vs ns → NdsAt ex H' vs ns
  | _, _, .nil => .nil
  | _, _, .cons a b => .cons (a.kp k) (b.kp k)
theorem NdsAt.len {ex : Addr → Prop} {H : Hp} : ∀ {vs : List V} {ns : List Nd}, NdsAt ex H vs ns → vs.length = ns.length
  | _, _, .nil => rfl
  | _, _, .cons _ b => congrArg (· + 1) b.len
theorem NdsAt.get {ex : Addr → Prop} {H : Hp} : ∀ {vs : List V} {ns : List Nd} {i : Nat} {x : V}, NdsAt ex H vs ns → vs[i]? = some x → ∃ n, ns[i]? = some n ∧ NdAt ex H x n
  | _, _, 0, _, .cons a _, h => ⟨_, rfl, by cases h; exact a⟩
  | _, _, i + 1, _, .cons _ b, h => NdsAt.get (i := i) b h
  | _, _, _, _, .nil, h => by simp at h
theorem NdsAt.app {ex : Addr → Prop} {H : Hp} : ∀ {vs us : List V} {ns ms : List Nd}, NdsAt ex H vs ns → NdsAt ex H us ms → NdsAt ex H (vs ++ us) (ns ++ ms)
  | _, _, _, _, .nil, h => h
  | _, _, _, _, .cons a b, h => .cons a (b.app h)
/-- what _needed_parts gives -/
def NeedAt (ex : Addr → Prop) (H : Hp) (v : V) : Option (List Nd) → Prop
  | none => v = .non
  | some l => ∃ (t : Addr) (xs : List V), v = .ref t ∧ H t = some (.lst xs) ∧ NdsAt ex H xs l
theorem NeedAt.kp {ex : Addr → Prop} {H H' : Hp} {v : V} {o : Option (List Nd)} (h : NeedAt ex H v o) (k : Same H H') : NeedAt ex H' v o := by
  cases o with
  | none => exact h
  | some l =>
    obtain ⟨t, xs, e, h1, h2⟩ := h
    exact ⟨t, xs, e, k _ _ h1, h2.kp k⟩
/-- an object that was not there -/
def NewV (H : Hp) (v : V) : Prop := ∀ t, v = .ref t → H t = none
theorem NewV.non {H : Hp} : NewV H .non := fun t e => by cases e
theorem NewV.of {H : Hp} {t : Addr} (h : H t = none) : NewV H (.ref t) := fun t2 e => by cases e; exact h
theorem newS {H H' : Hp} {t : Addr} (k : Same H H') (h : H' t = none) : H t = none := by
  cases e : H t with
  | none => rfl
  | some o => rw [k _ _ e] at h; cases h
section
variable {P : Program} {w : World} {K : PySem.W.Frag} {mg : Str → Option Value} {base : Heap}
abbrev N_needed_of_two : List Str := ["role", "own", "value", "word", "inner", "part"]
abbrev P_needed_of_two : List Str := ["role", "own", "value"]
theorem sc_needed_of_two : FnScope N_needed_of_two P_needed_of_two (defScope s_needed_of_two) := ⟨rfl, rfl, rfl, by decide +kernel, rfl, by decide +kernel, by decide +kernel⟩
def spNT : Sp := fun vs H Q _ => ∃ (ex : Addr → Prop) (o : Addr) (v : V) (role : Str) (d0 d1 : PyData) (ow : List Str), vs = [.str role, .ref o, v] ∧ TupF H o (ow.map V.str) ∧ Dv ex H v (.tuple [d0, d1]) ∧ cost (.tuple [d0, d1]) ≤ 8000000 ∧ ∀ v' H', Same H H' → NewV H v' → NeedAt ex H' v' (needTwo role ow d0 d1) → Q v' H'
theorem ok_nt (T : Bt mg) (h : Has K mg "_needed_of_two" s_needed_of_two) : Ca P w K mg base 1 "_needed_of_two" P_needed_of_two spNT := by
  refine cal_of h sc_needed_of_two (fun _ _ _ _ _ _ us hl => match us, hl with | [_, _, _], _ => rfl) (fun vs H Q E h => ?_) (fun f cdv A outer s H vs Q E hr h => ?_)
  · obtain ⟨ex, o, v, role, d0, d1, ow, rfl, _⟩ := h
    rfl
  · obtain ⟨ex, o, v, role, d0, d1, ow, rfl, to, dv, hc, k⟩ := h
    refine ⟨_, (pss_cons (ps_asg (pv 2) (pg_tup (by rfl) (pgs_cons (pg_name (i := 3) sc_needed_of_two.nd rfl (.inl rfl)) (pgs_cons (pg_name (i := 4) sc_needed_of_two.nd rfl (.inl rfl)) pgs_nil))))
      (pss_cons (ps_if (PW.pt (pw_and (pt_cmpR (op_eqA (hu_of hr)) (pv 3) pe_str (nomark _)) (pw_and1 (pt_cmpR op_ne (pv 0) pe_str (nomark _))))) (pss_one (ps_ret (pe_lst (pa_cons (pe_tupF (pa_cons (pv 0) (pa_cons (pv 1) (pa_cons (pv 4) pa_nil)))) pa_nil)))) pss_nil)
      (pss_cons (ps_if (PW.pt (pw_and (pt_cmpR (op_inS (hu_of hr)) (pv 3) (pe_tupF (pa_cons pe_str (pa_cons pe_str pa_nil))) rfl) (pw_and1 (pt_val (pe_callB call_isi (by rfl) T.isinstance (by decide +kernel) (pa_cons (pv 4) (pa_cons (pe_bltn (v := .ty "tuple") (by rfl) T.tuple (by decide +kernel) rfl) pa_nil))))))) (pss_one (ps_ret (pe_lc (own := [("part", 5)]) (g := (gName 5)) (tt := tYes) (by rfl) sc_needed_of_two.nd (pi_tup (pv 4)) (blkOk_by (own := [("part", 5)]) (N := ["role", "own", "value", "word", "inner", "part"]) (sc := defScope s_needed_of_two) (by decide +kernel)) (fun _ _ _ _ _ => pg_name (i := 5) sc_needed_of_two.nd rfl (Or.inl rfl)) (fun _ _ _ _ _ => pts_nil) (fun _ _ _ _ _ => (pe_tupF (pa_cons (pv 0) (pa_cons (pv 1) (pa_cons (pv 5) pa_nil)))))))) pss_nil)
      (pss_one (ps_ret pe_non))))), ?_⟩
    have hc1 : cost d1 ≤ 8000000 := cost_tup hc (by simp)
    obtain ⟨a, xs, rfl, ht, dl⟩ := dv.tupI
    obtain ⟨a0, a1, rfl, v0, v1⟩ := dl.two
    refine ⟨_, rfl, a, _, rfl, ht.sq, rfl, ?_⟩
    refine ⟨_, _, rfl, _, _, rfl, rfl, ?_⟩
    refine ⟨_, rfl, ex, d0, _, rfl, v0, _, rfl, ?_⟩
    have q : ∀ v' H', Same H H' → NewV H v' → NeedAt ex H' v' (if eqS "not" d0 && decide (role ≠ "guard") then some [⟨role, ow, d1⟩]
      else if strInD ["and", "or"] d0 && isTupD d1 then some ((itemsD d1).map fun p => ⟨role, ow, p⟩) else none) → Q v' H' := k
    by_cases hn : (eqS "not" d0 && decide (role ≠ "guard")) = true
    · rw [if_pos hn] at q
      have hg : role ≠ "guard" := of_decide_eq_true (and_r hn)
      rw [and_l hn]
      refine iteT ⟨_, rfl, rfl, _, rfl, ite2 (fun hb => ?_) (fun hb => ?_)⟩
      · refine ⟨_, rfl, _, rfl, _, rfl, by show 3 ≤ sizeLine; decide, fun t H1 s1 h1 => ⟨by show 1 ≤ sizeLine; decide, fun L hL => ?_⟩⟩
        have f1 : Same H1 (upd H1 L (.lst [.ref t])) := Same.upd hL
        have s2 := s1.trans f1
        exact q _ _ s2 (NewV.of (newS s1 hL)) ⟨L, _, rfl, upd_same, .cons ⟨t, o, a1, rfl, (Kp.same (ex := ex) f1).tup h1, (Kp.same (ex := ex) s2).tup to, v1.kp (Kp.same s2), hc1⟩ .nil⟩
      · refine absurd ?_ hb
        rw [decide_eq_false (fun e : V.str role = V.str "guard" => hg (by injection e))]
        rfl
    rw [if_neg hn] at q
    apply dupP
    · intro rest
      cases e0 : eqS "not" d0 with
      | false => exact iteF rest
      | true =>
        rw [e0] at hn
        have hg : role = "guard" := by
          by_cases hg : role = "guard"
          · exact hg
          · exact absurd (by rw [decide_eq_true hg]; rfl) hn
        refine iteT ⟨_, rfl, rfl, _, rfl, ite2 (fun hb => ?_) (fun hb => rest)⟩
        rw [decide_eq_true (congrArg V.str hg)] at hb
        cases hb
    · refine ⟨_, rfl, by show 2 ≤ sizeLine; decide, fun t1 H1 s1 h1 => ?_⟩
      have h1' : TupF H1 t1 ((["and", "or"] : List Str).map V.str) := h1
      refine ⟨ex, t1, _, d0, rfl, h1'.sq, v0.kp (Kp.same s1), _, rfl, ?_⟩
      cases e1 : strInD ["and", "or"] d0 with
      | false =>
        rw [e1] at q
        exact iteF (iteF (q _ _ s1 NewV.non rfl))
      | true =>
        rw [e1] at q
        refine iteT ⟨_, rfl, _, _, _, _, _, rfl, .ty _, (v1.kp (Kp.same s1)).ty, kitT d1, _, rfl, ?_⟩
        cases e2 : isTupD d1 with
        | false =>
          rw [e2] at q
          exact iteF (q _ _ s1 NewV.non rfl)
        | true =>
          rw [e2] at q
          obtain ⟨ds, rfl⟩ : ∃ ds, d1 = .tuple ds := by cases d1 <;> first | exact ⟨_, rfl⟩ | (cases e2; done)
          have q : ∀ v' H', Same H H' → NewV H v' → NeedAt ex H' v' (some (ds.map fun p => (⟨role, ow, p⟩ : Nd))) → Q v' H' := q
          obtain ⟨b, ys, rfl, tb, dlb⟩ := v1.tupI
          have hcb : ∀ d ∈ ds, cost d ≤ 8000000 := fun d hd => cost_tup hc1 hd
          have ln := dlb.len
          have lz : ds.length < sizeLine := by
            have := costL_len ds
            simp only [cost] at hc1
            rw [sizeLine_eq]
            omega
          refine iteT ⟨_, rfl, b, rfl, ⟨_, ((Kp.same (ex := ex) s1).tup tb).sq⟩, fun D hD => lc_rel (walk_tup (K := K) (a := b) (xs := ys)) (fun i Hx y => ∃ d, ds[i]? = some d ∧ NdAt (fun a => ex a ∨ a = D) Hx y ⟨role, ow, d⟩) ?_ (by rw [ln]; exact lz) hD (fun Hx sm => ((Kp.same (ex := fun _ => True) (s1.trans sm)).tup tb).sq) ?_ ?_⟩
          · rintro i y Hx Hy kk ⟨d, hd, t, o2, u, e, h1, h2, h3, h4⟩
            exact ⟨d, hd, t, o2, u, e, kk.tup h1, kk.tup h2, h3.kp (fun a oo ha hx => kk a oo ha fun e => hx (.inr e)), h4⟩
          · rintro i y Hx H' Nx hi sm hDx ⟨rfl, hy⟩ hyes
            obtain ⟨d, hd, dvd⟩ := dlb.get hy
            refine ⟨rfl, yes ⟨_, rfl, _, rfl, _, rfl, by show 3 ≤ sizeLine; decide, fun t H4 s4 h4 => hyes _ _ s4 ?_⟩⟩
            have hDn : H D = none := by
              cases e : H D with
              | none => rfl
              | some o => rw [s1 _ _ e] at hD; cases hD
            have s5 := (s1.trans sm).trans s4
            exact ⟨d, hd, t, o, y, rfl, h4, (Kp.same (ex := ex) s5).tup to, (dvd.off hDn).kp (Kp.same s5), hcb d (List.mem_of_getElem? hd)⟩
          · intro Hx xs sm hDx hl hr
            have s5 := s1.trans sm
            refine q _ _ s5 (NewV.of (newS s1 hD)) ⟨D, xs, rfl, hDx, ?_⟩
            have : ∀ (ds' : List PyData) (xs' : List V), xs'.length = ds'.length → (∀ (i : Nat) (y : V), xs'[i]? = some y → ∃ d, ds'[i]? = some d ∧ NdAt ex Hx y ⟨role, ow, d⟩) → NdsAt ex Hx xs' (ds'.map fun p => (⟨role, ow, p⟩ : Nd)) := by
              intro ds'
              induction ds' with
              | nil =>
                intro xs' h _
                cases xs' with
                | nil => exact .nil
                | cons _ _ => cases h
              | cons d r ih =>
                intro xs' h hh
                cases xs' with
                | nil => cases h
                | cons x0 xr =>
                  obtain ⟨d', e1, e2⟩ := hh 0 x0 rfl
                  cases e1
                  exact .cons e2 (ih xr (by simpa using h) fun i y hy => hh (i + 1) y hy)
            refine this ds xs (by rw [hl, ln]) fun i y hy => ?_
            obtain ⟨d, hd, t, o2, u, e, h1, h2, h3, h4⟩ := hr i y hy
            exact ⟨d, hd, t, o2, u, e, h1, h2, h3.mono Kp.refl fun a h => .inl h, h4⟩
end
end Kx
namespace Kx
open PySem PySem.Spec PyProof.Rows L2
theorem own_names {ps : List (Str × Str)} {ns us : List Str} {d : PyData} (h : ownD ps ns us d = true) : ∃ ds, d = .tuple ds ∧ ds = (strsD ds).map .str ∧ ds.length ≤ 2 ∧ (strsD ds).Nodup ∧ ∀ z ∈ strsD ds, NameS z ∧ ¬ z ∈ allN ps ns us := by
  cases d with
  | tuple ds =>
    have h : (decide (ds.length ≤ 2) && (ds.all (freshD ps ns us) && decide ((strsD ds).Nodup))) = true := h
    obtain ⟨e, hz⟩ := all_fresh (and_l (and_r h))
    exact ⟨ds, rfl, e, of_decide_eq_true (and_l h), of_decide_eq_true (and_r (and_r h)), hz⟩
  | _ => cases h
section
variable {P : Program} {w : World} {K : PySem.W.Frag} {mg : Str → Option Value} {base : Heap}
abbrev N_needed_of_four : List Str := ["frame", "role", "own", "value", "names"]
abbrev P_needed_of_four : List Str := ["frame", "role", "own", "value"]
theorem sc_needed_of_four : FnScope N_needed_of_four P_needed_of_four (defScope s_needed_of_four) := ⟨rfl, rfl, rfl, by decide +kernel, rfl, by decide +kernel, by decide +kernel⟩
def spNF (C : Addr) : Sp := fun vs H Q _ => ∃ (ex : Addr → Prop) (x o : Addr) (va vp vv v : V) (role : Str) (d0 d1 d2 d3 : PyData) (ps : List (Str × Str)) (ns us ow : List Str), vs = [.ref x, .str role, .ref o, v] ∧ FrameAt C H x va vp vv ps ns us ∧ TupF H o (ow.map V.str) ∧ Dv ex H v (.tuple [d0, d1, d2, d3]) ∧ cost (.tuple [d0, d1, d2, d3]) ≤ 8000000 ∧ ∀ v' H', Same H H' → NewV H v' → NeedAt ex H' v' (needFour ps ns us role ow d0 d1 d2 d3) → Q v' H'
theorem ok_nf (T : Bt mg) {C : Addr} (h : Has K mg "_needed_of_four" s_needed_of_four) (C1 : Ca P w K mg base 5 "_is_atom" P_is_atom (spAtom C)) (C2 : Ca P w K mg base 3 "are_own_names" P_are_own_names (spOwnD C)) : Ca P w K mg base 6 "_needed_of_four" P_needed_of_four (spNF C) := by
  obtain ⟨_, _, c__is_atom⟩ := C1
  obtain ⟨_, _, c_are_own_names⟩ := C2
  refine cal_of h sc_needed_of_four (fun _ _ _ _ _ _ us hl => match us, hl with | [_, _, _, _], _ => rfl) (fun vs H Q E h => ?_) (fun f cdv A outer s H vs Q E hr h => ?_)
  · obtain ⟨ex, x, o, va, vp, vv, v, role, d0, d1, d2, d3, ps, ns, us, ow, rfl, _⟩ := h
    rfl
  · obtain ⟨ex, x, o, va, vp, vv, v, role, d0, d1, d2, d3, ps, ns, us, ow, rfl, fr, to, dv, hc, k⟩ := h
    refine ⟨_, (pss_cons (ps_if (pt_cmpR (op_neA (hu_of hr)) (pe_ix ix_tup (pv 3) pe_int (fun _ _ => rfl)) pe_str (nomark _)) (pss_one (ps_ret (pe_ifExp (pt_val (pe_call c__is_atom.1 (hr.mono (by decide)) rfl c__is_atom.2.1 c__is_atom.2.2.1 c__is_atom.2.2.2 .nil pass0 (pa_cons (pv 0) (pa_cons (pv 1) (pa_cons (pv 2) (pa_cons (pv 3) pa_nil)))))) (pe_lst pa_nil) pe_non))) pss_nil)
      (pss_cons (ps_set (i := 4) sc_needed_of_four.nd rfl (.inl rfl) (pe_ix ix_tup (pv 3) pe_int (fun _ _ => rfl)))
      (pss_cons (ps_if (PW.pt (pw_or (pt_cmpR op_ne (pv 1) pe_str (nomark _)) (pw_or (pt_not (pt_val (pe_call c_are_own_names.1 (hr.mono (by decide)) rfl c_are_own_names.2.1 c_are_own_names.2.2.1 c_are_own_names.2.2.2 .nil pass0 (pa_cons (pv 0) (pa_cons (pv 4) pa_nil))))) (pw_or1 (pt_cmpR op_eq (pe_callB call_len (by rfl) T.len (by decide +kernel) (pa_cons (pv 4) pa_nil)) pe_int (nomark _)))))) (pss_one (ps_ret pe_non)) pss_nil)
      (pss_one (ps_ret (pe_lst (pa_cons (pe_tupF (pa_cons pe_str (pa_cons (pv 4) (pa_cons (pe_ix ix_tup (pv 3) pe_int (fun _ _ => rfl)) pa_nil)))) (pa_cons (pe_tupF (pa_cons pe_str (pa_cons (pv 4) (pa_cons (pe_ix ix_tup (pv 3) pe_int (fun _ _ => rfl)) pa_nil)))) pa_nil)))))))), ?_⟩
    have hc1 : cost d1 ≤ 8000000 := cost_tup hc (by simp)
    have hc2 : cost d2 ≤ 8000000 := cost_tup hc (by simp)
    have hc3 : cost d3 ≤ 8000000 := cost_tup hc (by simp)
    have dv' := dv
    obtain ⟨a, xs, rfl, ht, dl⟩ := dv.tupI
    obtain ⟨a0, a1, a2, a3, rfl, v0, v1, v2, v3⟩ := dl.four
    have sq : SqT K H a [a0, a1, a2, a3] := ht.sq
    have q : ∀ v' H', Same H H' → NewV H v' → NeedAt ex H' v' (if eqS "all" d0 then (if decide (role = "claim") && (ownD ps ns us d1 && !(itemsD d1).isEmpty) then some [⟨"guard", strsD (itemsD d1), d2⟩, ⟨"body", strsD (itemsD d1), d3⟩] else none)
      else if atomD ps ns us role ow d0 d1 d2 d3 then some [] else none) → Q v' H' := k
    refine ⟨_, rfl, a, _, 0, a0, rfl, rfl, sq, rfl, ex, d0, _, rfl, v0, _, rfl, ?_⟩
    cases e0 : eqS "all" d0 with
    | false =>
      rw [e0, if_neg (by decide)] at q
      refine iteT ⟨_, rfl, _, rfl, _, rfl, _, rfl, ex, x, o, va, vp, vv, .ref a, role, d0, d1, d2, d3, ps, ns, us, ow, rfl, fr, to, dv', hc, fun H1 s1 => ⟨_, rfl, ?_⟩⟩
      cases e1 : atomD ps ns us role ow d0 d1 d2 d3 with
      | true =>
        rw [e1, if_pos rfl] at q
        refine iteT ⟨by show 0 ≤ sizeLine; exact Nat.zero_le _, fun L hL => ?_⟩
        exact q _ _ (s1.trans (Same.upd hL)) (NewV.of (newS s1 hL)) ⟨L, [], rfl, upd_same, .nil⟩
      | false =>
        rw [e1, if_neg (by decide)] at q
        exact iteF (q _ _ s1 NewV.non rfl)
    | true =>
      rw [e0, if_pos rfl] at q
      refine iteF ⟨_, rfl, a, _, 1, a1, rfl, rfl, sq, rfl, ?_⟩
      refine ⟨_, rfl, rfl, _, rfl, ?_⟩
      by_cases hcl : role = "claim"
      case neg =>
        rw [decide_eq_false hcl] at q
        rw [decide_eq_false (fun e : V.str role = V.str "claim" => hcl (by injection e))]
        exact iteT (iteT (q _ _ Same.refl NewV.non rfl))
      rw [decide_eq_true hcl] at q
      rw [decide_eq_true (congrArg V.str hcl)]
      refine iteF ⟨_, rfl, _, rfl, ex, x, va, vp, vv, a1, d1, ps, ns, us, rfl, fr, v1, hc1, fun H1 s1 => ⟨_, rfl, ?_⟩⟩
      cases e1 : ownD ps ns us d1 with
      | false =>
        rw [e1] at q
        exact iteT (iteT (q _ _ s1 NewV.non rfl))
      | true =>
      rw [e1] at q
      obtain ⟨ds, rfl, es, h2, nd, hz⟩ := own_names e1
      have q : ∀ v' H', Same H H' → NewV H v' → NeedAt ex H' v' (if !ds.isEmpty then some [⟨"guard", strsD ds, d2⟩, ⟨"body", strsD ds, d3⟩] else none) → Q v' H' := q
      obtain ⟨b, ys, rfl, tb, dlb⟩ := v1.tupI
      have ey : ys = (strsD ds).map V.str := DvL.strsI (es ▸ dlb)
      subst ey
      have kx := Kp.same (ex := ex) s1
      have ll : ((strsD ds).map V.str).length = ds.length := by rw [List.length_map]; exact (congrArg List.length es).trans (List.length_map ..) |>.symm
      refine iteF ⟨_, rfl, _, _, rfl, .inr ⟨_, (kx.tup tb).sq, rfl⟩, rfl, ?_⟩
      rw [ll]
      cases e2 : ds.isEmpty with
      | true =>
        have e3 : ds = [] := List.isEmpty_iff.mp e2
        rw [e2] at q
        subst e3
        rw [decide_eq_true (show V.int ((([] : List PyData).length : Nat) : Int) = V.int 0 from rfl)]
        exact ⟨_, rfl, iteT (q _ _ s1 NewV.non rfl)⟩
      | false =>
        rw [e2] at q
        have hpos : ¬ V.int (ds.length : Int) = V.int 0 := fun e => by
          injection e with e
          cases ds with
          | nil => cases e2
          | cons _ _ => simp only [List.length_cons] at e; omega
        rw [decide_eq_false hpos]
        have sq1 : SqT K H1 a [a0, .ref b, a2, a3] := (kx.tup ht).sq
        refine ⟨_, rfl, iteF ⟨_, rfl, _, rfl, a, _, 2, a2, rfl, rfl, sq1, rfl, by show 3 ≤ sizeLine; decide, fun t1 H2 s2 h2 => ?_⟩⟩
        have s12 := s1.trans s2
        have sq2 : SqT K H2 a [a0, .ref b, a2, a3] := ((Kp.same (ex := ex) s12).tup ht).sq
        refine ⟨_, rfl, _, rfl, a, _, 3, a3, rfl, rfl, sq2, rfl, by show 3 ≤ sizeLine; decide, fun t2 H3 s3 h3 => ⟨by show 2 ≤ sizeLine; decide, fun L hL => ?_⟩⟩
        have s4 := (s12.trans s3).trans (Same.upd hL (o := .lst [.ref t1, .ref t2]))
        refine q _ _ s4 (NewV.of (newS (s12.trans s3) hL)) ⟨L, _, rfl, upd_same, .cons ⟨t1, b, a2, rfl, (Kp.same (ex := ex) (s3.trans (Same.upd hL))).tup h2, (Kp.same (ex := ex) s4).tup tb, v2.kp (Kp.same s4), hc2⟩ (.cons ⟨t2, b, a3, rfl, (Kp.same (ex := ex) (Same.upd hL)).tup h3, (Kp.same (ex := ex) s4).tup tb, v3.kp (Kp.same s4), hc3⟩ .nil)⟩
abbrev N_needed_parts : List Str := ["frame", "role", "own", "value"]
abbrev P_needed_parts : List Str := ["frame", "role", "own", "value"]
theorem sc_needed_parts : FnScope N_needed_parts P_needed_parts (defScope s_needed_parts) := ⟨rfl, rfl, rfl, by decide +kernel, rfl, by decide +kernel, by decide +kernel⟩
def spNP (C : Addr) : Sp := fun vs H Q _ => ∃ (ex : Addr → Prop) (x o : Addr) (va vp vv v : V) (role : Str) (d : PyData) (ps : List (Str × Str)) (ns us ow : List Str), vs = [.ref x, .str role, .ref o, v] ∧ FrameAt C H x va vp vv ps ns us ∧ TupF H o (ow.map V.str) ∧ Dv ex H v d ∧ cost d ≤ 8000000 ∧ ∀ v' H', Same H H' → NewV H v' → NeedAt ex H' v' (needD ps ns us ⟨role, ow, d⟩) → Q v' H'
theorem ok_np (T : Bt mg) {C : Addr} (h : Has K mg "_needed_parts" s_needed_parts) (C1 : Ca P w K mg base 1 "_needed_of_two" P_needed_of_two spNT) (C2 : Ca P w K mg base 6 "_needed_of_four" P_needed_of_four (spNF C)) : Ca P w K mg base 7 "_needed_parts" P_needed_parts (spNP C) := by
  obtain ⟨_, _, c__needed_of_two⟩ := C1
  obtain ⟨_, _, c__needed_of_four⟩ := C2
  refine cal_of h sc_needed_parts (fun _ _ _ _ _ _ us hl => match us, hl with | [_, _, _, _], _ => rfl) (fun vs H Q E h => ?_) (fun f cdv A outer s H vs Q E hr h => ?_)
  · obtain ⟨ex, x, o, va, vp, vv, v, role, d, ps, ns, us, ow, rfl, _⟩ := h
    rfl
  · obtain ⟨ex, x, o, va, vp, vv, v, role, d, ps, ns, us, ow, rfl, fr, to, dv, hc, k⟩ := h
    refine ⟨_, (pss_cons (ps_if (PW.pt (pw_and (pt_val (pe_callB call_isi (by rfl) T.isinstance (by decide +kernel) (pa_cons (pv 3) (pa_cons (pe_bltn (v := .ty "tuple") (by rfl) T.tuple (by decide +kernel) rfl) pa_nil)))) (pw_and1 (pt_cmpR op_eq (pe_callB call_len (by rfl) T.len (by decide +kernel) (pa_cons (pv 3) pa_nil)) pe_int (nomark _))))) (pss_one (ps_ret (pe_call c__needed_of_two.1 (hr.mono (by decide)) rfl c__needed_of_two.2.1 c__needed_of_two.2.2.1 c__needed_of_two.2.2.2 .nil pass0 (pa_cons (pv 1) (pa_cons (pv 2) (pa_cons (pv 3) pa_nil)))))) pss_nil)
      (pss_cons (ps_if (PW.pt (pw_and (pt_val (pe_callB call_isi (by rfl) T.isinstance (by decide +kernel) (pa_cons (pv 3) (pa_cons (pe_bltn (v := .ty "tuple") (by rfl) T.tuple (by decide +kernel) rfl) pa_nil)))) (pw_and1 (pt_cmpR op_eq (pe_callB call_len (by rfl) T.len (by decide +kernel) (pa_cons (pv 3) pa_nil)) pe_int (nomark _))))) (pss_one (ps_ret (pe_call c__needed_of_four.1 (hr.mono (by decide)) rfl c__needed_of_four.2.1 c__needed_of_four.2.2.1 c__needed_of_four.2.2.2 .nil pass0 (pa_cons (pv 0) (pa_cons (pv 1) (pa_cons (pv 2) (pa_cons (pv 3) pa_nil))))))) pss_nil)
      (pss_one (ps_ret pe_non)))), ?_⟩
    refine ⟨_, rfl, _, _, _, _, _, rfl, .ty _, dv.ty, kitT d, _, rfl, ?_⟩
    cases e : isTupD d with
    | false =>
      have no : needD ps ns us ⟨role, ow, d⟩ = none := by cases d <;> first | rfl | (cases e; done)
      refine iteF (iteF ⟨_, rfl, _, _, _, _, _, rfl, .ty _, dv.ty, kitT d, _, rfl, ?_⟩)
      rw [e]
      exact iteF (iteF (k _ _ Same.refl NewV.non (by rw [no]; rfl)))
    | true =>
      obtain ⟨ds, rfl⟩ : ∃ ds, d = .tuple ds := by cases d <;> first | exact ⟨_, rfl⟩ | (cases e; done)
      have dv' := dv
      obtain ⟨a, xs, rfl, ht, dl⟩ := dv.tupI
      have hl := dl.len
      refine iteT ⟨_, rfl, _, _, rfl, .inr ⟨_, ht.sq, rfl⟩, rfl, ?_⟩
      by_cases h2 : ds.length = 2
      · obtain ⟨d0, d1, rfl⟩ : ∃ d0 d1, ds = [d0, d1] := match ds, h2 with | [_, _], _ => ⟨_, _, rfl⟩
        have e22 : V.int (xs.length : Int) = V.int 2 := by rw [hl]; rfl
        rw [decide_eq_true e22]
        exact ⟨_, rfl, iteT ⟨_, rfl, _, rfl, _, rfl, ex, o, .ref a, role, d0, d1, ow, rfl, to, dv', hc, fun v' H' s' w' n => k v' H' s' w' n⟩⟩
      · rw [decide_eq_false (fun q : V.int (xs.length : Int) = V.int 2 => h2 (by injection q with q; omega))]
        refine ⟨_, rfl, iteF ⟨_, rfl, _, _, _, _, _, rfl, .ty _, dv'.ty, kitT _, _, rfl, ?_⟩⟩
        refine iteT ⟨_, rfl, _, _, rfl, .inr ⟨_, ht.sq, rfl⟩, rfl, ?_⟩
        by_cases h4 : ds.length = 4
        · obtain ⟨d0, d1, d2, d3, rfl⟩ : ∃ d0 d1 d2 d3, ds = [d0, d1, d2, d3] := match ds, h4 with | [_, _, _, _], _ => ⟨_, _, _, _, rfl⟩
          have e44 : V.int (xs.length : Int) = V.int 4 := by rw [hl]; rfl
          rw [decide_eq_true e44]
          exact ⟨_, rfl, iteT ⟨_, rfl, _, rfl, _, rfl, _, rfl, ex, x, o, va, vp, vv, .ref a, role, d0, d1, d2, d3, ps, ns, us, ow, rfl, fr, to, dv', hc, fun v' H' s' w' n => k v' H' s' w' n⟩⟩
        · rw [decide_eq_false (fun q : V.int (xs.length : Int) = V.int 4 => h4 (by injection q with q; omega))]
          have no : needD ps ns us ⟨role, ow, .tuple ds⟩ = none := match ds, h2, h4 with
            | [], _, _ => rfl
            | [_], _, _ => rfl
            | [_, _], h, _ => absurd rfl h
            | [_, _, _], _, _ => rfl
            | [_, _, _, _], _, h => absurd rfl h
            | _ :: _ :: _ :: _ :: _ :: _, _, _ => rfl
          exact ⟨_, rfl, iteF (k _ _ Same.refl NewV.non (by rw [no]; rfl))⟩
end
end Kx
namespace Kx
open PySem PySem.Spec PyProof.Rows L2
def isNonV : V → Bool
  | .non => true
  | _ => false
section
variable {X : Cx}
/-- None in a list of lists and Nones -/
def rNonIn (K : PySem.W.Frag) : R2 := fun x y H Q => ∃ (a : Addr) (xs : List V), x = .non ∧ y = .ref a ∧ SqL K H a xs ∧ (∀ z ∈ xs, z = .non ∨ ∃ t ys, z = .ref t ∧ SqL K H t ys) ∧ Q (.bl (xs.any isNonV)) H
theorem op_nonIn (hu : X.A.units + 1 < cLine) : OpR X (compareOp .In) (rNonIn X.K) := by
  intro pins s σ H x y v u Q I rx ry h
  obtain ⟨a, xs, rfl, rfl, hq, hz, q⟩ := h
  cases rx
  cases ry
  obtain ⟨its, r, pl, hzz⟩ := I.list hq
  have hu2 : X.A.in1.units < cLine := hu
  let e : Value → Bool := fun y => match y with
    | .none => true
    | _ => false
  have each : ∀ {xs : List V} {its : List Value}, Vals xs its → (∀ z ∈ xs, z = .non ∨ ∃ t ys, z = .ref t ∧ SqL X.K H t ys) → (∀ y ∈ its, y = .none ∨ ∃ t, y = .ref t ∧ ∃ ys, SqL X.K H t ys) ∧ its.any e = xs.any isNonV := by
    intro xs
    induction xs with
    | nil =>
      intro its r _
      cases r
      exact ⟨fun y hy => (by cases hy), rfl⟩
    | cons z xs ih =>
      intro its r hz
      cases r with
      | cons r1 r2 =>
        obtain ⟨h1, h2⟩ := ih r2 fun z h => hz z (List.mem_cons_of_mem _ h)
        rcases hz z List.mem_cons_self with rfl | ⟨t, ys, rfl, hs⟩
        · cases r1
          exact ⟨fun y hy => by
            rcases List.mem_cons.mp hy with rfl | hy
            · exact .inl rfl
            · exact h1 y hy, by rw [List.any_cons, List.any_cons, h2]; rfl⟩
        · cases r1
          exact ⟨fun y hy => by
            rcases List.mem_cons.mp hy with rfl | hy
            · exact .inr ⟨t, rfl, ys, hs⟩
            · exact h1 y hy, by rw [List.any_cons, List.any_cons, h2]; rfl⟩
  obtain ⟨h1, h2⟩ := each r hz
  refine SeqAt.in_listAt e pl.isList (fun y hy => ?_) ⟨.bl _, H, I, rfl, ?_⟩
  · rcases h1 y (by simpa using hy) with rfl | ⟨t, rfl, ys, hs⟩
    · exact SeqAt.EqAt.same _
    · obtain ⟨its2, r2, p2, _⟩ := I.list hs
      exact SeqAt.EqAt.list_none p2.isList hu2
  · rw [show its.toArray.any e = its.any e by simp, h2]
    exact q
end
/-- the inner walk of a comprehension with two fors -/
theorem in_it {J1 : It} {n : Nat} {G : Hp → Prop} {Y : Nat → Hp → V → Hp → Prop} (w : Walk J1 n G Y) {g1 : TG} {tt1 : TT} {te : TE} {vs1 : List Nat} {σ2 : L2.St} {H4 : Hp} {D : Addr} {Nx : Hp → Prop} (Pv : Nat → Hp → Prop) (h0 : Pv 0 H4) (hG : ∀ i H, i ≤ n → Pv i H → G H)
    (hs : ∀ i x H H', i < n → Pv i H → Y i H x H' → g1 x (wipe σ2 vs1) H' fun σ3 H5 => wipe σ3 vs1 = wipe σ2 vs1 ∧ tt1 σ3 H5 fun b H6 => if b = true then te σ3 H6 fun y H7 => ∃ acc, H7 D = some (.lst acc) ∧ acc.length < sizeLine ∧ Pv (i + 1) (upd H7 D (.lst (acc ++ [y]))) else Pv (i + 1) H6)
    (hd : ∀ H, Pv n H → Nx H) :
    ∃ W1 : Nat → Nat → Hp → Prop, (∃ m, W1 0 m H4) ∧ ∀ j k H, W1 j k H →
      (J1.stop j H ∧ Nx H) ∨ (J1.go j H ∧ ∃ Nx1 : Hp → Prop, (∀ H', Nx1 H' → ∃ k', k' < k ∧ W1 (j + 1) k' H') ∧ ∀ x H', J1.yld j H x H' → g1 x (wipe σ2 vs1) H' fun σ3 H5 => wipe σ3 vs1 = wipe σ2 vs1 ∧ tt1 σ3 H5 fun b H6 =>
        if b = true then te σ3 H6 fun y H7 => ∃ acc, H7 D = some (.lst acc) ∧ acc.length < sizeLine ∧ Nx1 (upd H7 D (.lst (acc ++ [y]))) else Nx1 H6) := by
  refine ⟨fun j k H => k + j = n ∧ Pv j H, ⟨n, rfl, h0⟩, fun j k H hw => ?_⟩
  obtain ⟨hk, hp⟩ := hw
  have hg := hG j H (by omega) hp
  cases k with
  | zero =>
    have ej : j = n := by omega
    subst ej
    exact .inl ⟨w.stops H hg, hd H hp⟩
  | succ k =>
    have hj : j < n := by omega
    exact .inr ⟨w.goes j H hj hg, Pv (j + 1), fun H' hp' => ⟨k, by omega, by omega, hp'⟩, fun x H' hy => hs j x H H' hj hp (w.yields j H x H' hj hg hy)⟩
/-- the outer one -/
theorem out_it {J : It} {n : Nat} {G : Hp → Prop} {Y : Nat → Hp → V → Hp → Prop} (w : Walk J n G Y) {B : Nat → V → Hp → (Hp → Prop) → Prop} {H1 : Hp} {D : Addr} {Qd : Hp → Prop} (Pv : Nat → Hp → Prop) (h0 : Pv 0 (upd H1 D (.lst []))) (hG : ∀ i H, i ≤ n → Pv i H → G H)
    (hs : ∀ i x H H' (Nx : Hp → Prop), i < n → Pv i H → Y i H x H' → (∀ H3, Pv (i + 1) H3 → Nx H3) → B i x H' Nx) (hd : ∀ H, Pv n H → Qd H) {B' : V → Hp → (Hp → Prop) → Prop} (hB : ∀ i x H Nx, B i x H Nx → B' x H Nx) :
    ∃ W : Nat → Nat → Hp → Prop, (∃ m, W 0 m (upd H1 D (.lst []))) ∧ ∀ i m H, W i m H →
      (J.stop i H ∧ Qd H) ∨ (J.go i H ∧ ∃ Nx : Hp → Prop, (∀ H', Nx H' → ∃ m', m' < m ∧ W (i + 1) m' H') ∧ ∀ x H', J.yld i H x H' → B' x H' Nx) := by
  refine ⟨fun i m H => m + i = n ∧ Pv i H, ⟨n, rfl, h0⟩, fun i m H hw => ?_⟩
  obtain ⟨hm, hp⟩ := hw
  have hg := hG i H (by omega) hp
  cases m with
  | zero =>
    have ei : i = n := by omega
    subst ei
    exact .inl ⟨w.stops H hg, hd H hp⟩
  | succ m =>
    have hi : i < n := by omega
    exact .inr ⟨w.goes i H hi hg, Pv (i + 1), fun H' hp' => ⟨m, by omega, by omega, hp'⟩, fun x H' hy => hB i x H' _ (hs i x H H' _ hi hp (w.yields i H x H' hi hg hy) fun H3 h3 => h3)⟩
/-! ### rightness, level by level -/
/-- right within so many levels -/
def okN (ps : List (Str × Str)) (ns us : List Str) : Nat → Nd → Bool
  | 0, _ => false
  | k + 1, n => match needD ps ns us n with
    | none => false
    | some l => l.all (okN ps ns us k)
end Kx
namespace Kx
open PySem PySem.Spec PyProof.Rows L2
section
variable {ps : List (Str × Str)} {ns us : List Str}
def nxt (ps : List (Str × Str)) (ns us : List Str) (ls : List Nd) : List Nd := ls.flatMap fun n => (needD ps ns us n).getD []
theorem all_none {ls : List Nd} {k : Nat} (h : (ls.any fun n => (needD ps ns us n).isNone) = true) : ls.all (okN ps ns us (k + 1)) = false := by
  induction ls with
  | nil => cases h
  | cons n r ih =>
    rw [List.all_cons]
    rcases (Bool.or_eq_true _ _).mp (show ((needD ps ns us n).isNone || r.any fun n => (needD ps ns us n).isNone) = true from h) with h | h
    · have e : okN ps ns us (k + 1) n = false := by
        show (match needD ps ns us n with | none => false | some l => l.all (okN ps ns us k)) = false
        cases q : needD ps ns us n with
        | none => rfl
        | some l => rw [q] at h; cases h
      rw [e]; rfl
    · rw [ih h, Bool.and_false]
theorem all_step {ls : List Nd} {k : Nat} (h : (ls.any fun n => (needD ps ns us n).isNone) = false) : ls.all (okN ps ns us (k + 1)) = (nxt ps ns us ls).all (okN ps ns us k) := by
  induction ls with
  | nil => rfl
  | cons n r ih =>
    obtain ⟨h1, h2⟩ := (Bool.or_eq_false_iff).mp (show ((needD ps ns us n).isNone || r.any fun n => (needD ps ns us n).isNone) = false from h)
    rw [List.all_cons, ih h2]
    unfold nxt
    rw [List.flatMap_cons, List.all_append]
    have e : okN ps ns us (k + 1) n = ((needD ps ns us n).getD []).all (okN ps ns us k) := by
      show (match needD ps ns us n with | none => false | some l => l.all (okN ps ns us k)) = _
      cases q : needD ps ns us n with
      | none => rw [q] at h1; cases h1
      | some l => rfl
    rw [e]
theorem depth_mem : ∀ {ds : List PyData} {d : PyData}, d ∈ ds → d.depth ≤ PyData.depthAll ds
  | x :: r, d, h => by
    simp only [PyData.depthAll]
    rcases List.mem_cons.mp h with rfl | h
    · omega
    · have := depth_mem h
      omega
theorem depth_tup {ds : List PyData} {d : PyData} (h : d ∈ ds) : d.depth < (PyData.tuple ds).depth := by
  have := depth_mem h
  simp only [PyData.depth]
  omega
theorem need_depth {n : Nd} {l : List Nd} (h : needD ps ns us n = some l) : ∀ c ∈ l, c.d.depth < n.d.depth := by
  obtain ⟨role, ow, d⟩ := n
  unfold needD at h
  dsimp only at h
  split at h
  · rename_i a b
    unfold needTwo at h
    have hb : b.depth < (PyData.tuple [a, b]).depth := depth_tup (by simp)
    split at h
    · cases h
      intro c hc
      rw [List.mem_singleton.mp hc]
      exact hb
    · split at h
      · rename_i h2
        cases h
        intro c hc
        obtain ⟨p, hp, rfl⟩ := List.mem_map.mp hc
        obtain ⟨ds, rfl⟩ : ∃ ds, b = .tuple ds := by
          have := and_r h2
          cases b <;> first | exact ⟨_, rfl⟩ | (cases this; done)
        exact Nat.lt_trans (depth_tup hp) hb
      · cases h
  · rename_i a b c e
    unfold needFour at h
    split at h
    · split at h
      · cases h
        intro z hz
        simp only [List.mem_cons, List.not_mem_nil, or_false] at hz
        rcases hz with rfl | rfl
        · exact depth_tup (by simp)
        · exact depth_tup (by simp)
      · cases h
    · split at h
      · cases h
        intro z hz
        cases hz
      · cases h
  · cases h
def costN : List Nd → Nat
  | [] => 0
  | n :: r => cost n.d + 2 + costN r
theorem costN_app : ∀ (a b : List Nd), costN (a ++ b) = costN a + costN b
  | [], b => by simp [costN]
  | n :: r, b => by
    rw [List.cons_append]
    simp only [costN, costN_app r b]
    omega
theorem costN_map (role : Str) (ow : List Str) : ∀ ds : List PyData, costN (ds.map fun p => (⟨role, ow, p⟩ : Nd)) = costL ds
  | [] => rfl
  | d :: r => by
    rw [List.map_cons]
    simp only [costN, costL, costN_map role ow r]
theorem need_cost {n : Nd} {l : List Nd} (h : needD ps ns us n = some l) : costN l ≤ cost n.d + 2 := by
  obtain ⟨role, ow, d⟩ := n
  unfold needD at h
  dsimp only at h
  split at h
  · rename_i a b
    unfold needTwo at h
    split at h
    · cases h
      simp only [costN, cost, costL]
      omega
    · split at h
      · rename_i h2
        cases h
        obtain ⟨ds, rfl⟩ : ∃ ds, b = .tuple ds := by
          have := and_r h2
          cases b <;> first | exact ⟨_, rfl⟩ | (cases this; done)
        rw [show itemsD (.tuple ds) = ds from rfl, costN_map]
        simp only [cost, costL]
        omega
      · cases h
  · rename_i a b c e
    unfold needFour at h
    split at h
    · split at h
      · cases h
        simp only [costN, cost, costL]
        omega
      · cases h
    · split at h
      · cases h
        simp only [costN]
        omega
      · cases h
  · cases h
theorem nxt_cost : ∀ ls : List Nd, costN (nxt ps ns us ls) ≤ costN ls
  | [] => Nat.le_refl _
  | n :: r => by
    unfold nxt
    rw [List.flatMap_cons, costN_app]
    have ih := nxt_cost r
    unfold nxt at ih
    simp only [costN]
    cases q : needD ps ns us n with
    | none =>
      simp only [Option.getD_none, costN]
      omega
    | some l =>
      have := need_cost q
      simp only [Option.getD_some]
      omega
theorem costN_len : ∀ ls : List Nd, 2 * ls.length ≤ costN ls
  | [] => Nat.le_refl _
  | n :: r => by
    have := costN_len r
    simp only [costN, List.length_cons]
    omega
theorem nxt_depth {ls : List Nd} {f : Nat} (h : ∀ n ∈ ls, n.d.depth < f + 1) : ∀ n ∈ nxt ps ns us ls, n.d.depth < f := by
  intro c hc
  obtain ⟨n, hn, hc⟩ := List.mem_flatMap.mp hc
  have := h n hn
  cases q : needD ps ns us n with
  | none => rw [q] at hc; cases hc
  | some l =>
    rw [q] at hc
    have := need_depth q c hc
    omega
end
theorem NdAt.weak {ex ey : Addr → Prop} {H : Hp} {v : V} {n : Nd} (hy : ∀ a, ey a → ex a) (h : NdAt ex H v n) : NdAt ey H v n := by
  obtain ⟨t, o, u, e, h1, h2, h3, h4⟩ := h
  exact ⟨t, o, u, e, h1, h2, h3.mono Kp.refl hy, h4⟩
theorem NdsAt.weak {ex ey : Addr → Prop} {H : Hp} (hy : ∀ a, ey a → ex a) : ∀ {vs : List V} {ls : List Nd}, NdsAt ex H vs ls → NdsAt ey H vs ls
  | _, _, .nil => .nil
  | _, _, .cons a b => .cons (a.weak hy) (b.weak hy)
theorem NdAt.off {ex : Addr → Prop} {H : Hp} {D : Addr} {v : V} {n : Nd} (hD : H D = none) (h : NdAt ex H v n) : NdAt (fun a => ex a ∨ a = D) H v n := by
  obtain ⟨t, o, u, e, h1, h2, h3, h4⟩ := h
  exact ⟨t, o, u, e, h1, h2, h3.off hD, h4⟩
/-- the lists of what is needed, one by one -/
theorem needs_flat {ps : List (Str × Str)} {ns us : List Str} {ex : Addr → Prop} {H : Hp} : ∀ {ls : List Nd} {xs : List V}, xs.length = ls.length → (∀ (i : Nat) (y : V), xs[i]? = some y → ∃ n, ls[i]? = some n ∧ NeedAt ex H y (needD ps ns us n)) → (ls.any fun n => (needD ps ns us n).isNone) = false →
    ∃ yss : List (List V), yss.length = xs.length ∧ (∀ (i : Nat) (y : V), xs[i]? = some y → ∃ t ys, y = .ref t ∧ yss[i]? = some ys ∧ H t = some (.lst ys)) ∧ NdsAt ex H yss.flatten (nxt ps ns us ls)
  | [], [], _, _, _ => ⟨[], rfl, fun i y h => by simp at h, .nil⟩
  | n :: r, x :: xr, hl, h, ha => by
    obtain ⟨h1, h2⟩ := (Bool.or_eq_false_iff).mp (show ((needD ps ns us n).isNone || r.any fun n => (needD ps ns us n).isNone) = false from ha)
    obtain ⟨yss, e1, e2, e3⟩ := needs_flat (ls := r) (xs := xr) (by simpa using hl) (fun i y hy => h (i + 1) y hy) h2
    obtain ⟨n', hn, na⟩ := h 0 x rfl
    cases hn
    cases q : needD ps ns us n with
    | none => rw [q] at h1; cases h1
    | some l =>
      rw [q] at na
      obtain ⟨t, ys, rfl, ht, hy⟩ := na
      refine ⟨ys :: yss, by rw [List.length_cons, List.length_cons, e1], fun i y hi => ?_, ?_⟩
      · cases i with
        | zero => cases hi; exact ⟨t, ys, rfl, rfl, ht⟩
        | succ j => exact e2 j y hi
      · unfold nxt
        rw [List.flatMap_cons, q, List.flatten_cons]
        exact hy.app e3
  | [], _ :: _, hl, _, _ => by cases hl
  | _ :: _, [], hl, _, _ => by cases hl
theorem need_any {ps : List (Str × Str)} {ns us : List Str} {ex : Addr → Prop} {H : Hp} : ∀ {ls : List Nd} {xs : List V}, xs.length = ls.length → (∀ (i : Nat) (y : V), xs[i]? = some y → ∃ n, ls[i]? = some n ∧ NeedAt ex H y (needD ps ns us n)) → xs.any isNonV = (ls.any fun n => (needD ps ns us n).isNone)
  | [], [], _, _ => rfl
  | n :: r, x :: xr, hl, h => by
    have ih := need_any (ls := r) (xs := xr) (by simpa using hl) (fun i y hy => h (i + 1) y hy)
    obtain ⟨n', hn, na⟩ := h 0 x rfl
    cases hn
    rw [List.any_cons, List.any_cons, ih]
    cases q : needD ps ns us n with
    | none =>
      rw [q] at na
      cases (show x = .non from na)
      rfl
    | some l =>
      rw [q] at na
      obtain ⟨t, ys, rfl, _⟩ := na
      rfl
  | [], _ :: _, hl, _ => by cases hl
  | _ :: _, [], hl, _ => by cases hl
end Kx
namespace Kx
open PySem PySem.Spec PyProof.Rows L2
theorem NdAt.kpx {ex : Addr → Prop} {H H' : Hp} {v : V} {n : Nd} (k : Kp ex H H') (h : NdAt ex H v n) : NdAt ex H' v n := by
  obtain ⟨t, o, u, e, h1, h2, h3, h4⟩ := h
  exact ⟨t, o, u, e, k.tup h1, k.tup h2, h3.kp k, h4⟩
theorem NdsAt.kpx {ex : Addr → Prop} {H H' : Hp} (k : Kp ex H H') : ∀ {vs : List V} {ls : List Nd}, NdsAt ex H vs ls → NdsAt ex H' vs ls
  | _, _, .nil => .nil
  | _, _, .cons a b => .cons (a.kpx k) (b.kpx k)
theorem NeedAt.weak {ex ey : Addr → Prop} {H : Hp} {v : V} {o : Option (List Nd)} (hy : ∀ a, ey a → ex a) (h : NeedAt ex H v o) : NeedAt ey H v o := by
  cases o with
  | none => exact h
  | some l =>
    obtain ⟨t, xs, e, h1, h2⟩ := h
    exact ⟨t, xs, e, h1, h2.weak hy⟩
section
variable {P : Program} {w : World} {K : PySem.W.Frag} {mg : Str → Option Value} {base : Heap}
abbrev N_is_right : List Str := ["frame", "role", "own", "value", "most", "level", "depth", "needed", "part_role", "part_own", "part", "parts", "told"]
abbrev P_is_right : List Str := ["frame", "role", "own", "value", "most"]
theorem sc_is_right : FnScope N_is_right P_is_right (defScope s_is_right) := ⟨rfl, rfl, rfl, by decide +kernel, rfl, by decide +kernel, by decide +kernel⟩
def spIR (C : Addr) : Sp := fun vs H Q _ => ∃ (ex : Addr → Prop) (x o : Addr) (va vp vv v mv : V) (role : Str) (d : PyData) (ps : List (Str × Str)) (ns us ow : List Str) (B : Nat), vs = [.ref x, .str role, .ref o, v, mv] ∧ FrameAt C H x va vp vv ps ns us ∧ TupF H o (ow.map V.str) ∧ Dv ex H v d ∧ cost d ≤ 8000000 ∧
  ((mv = .non ∧ B = d.depth + 1) ∨ mv = .int (B : Int)) ∧ ∀ H', Same H H' → Q (.bl (okN ps ns us B ⟨role, ow, d⟩)) H'
theorem ok_ir (T : Bt mg) {C : Addr} (h : Has K mg "is_right" s_is_right) (C1 : Ca P w K mg base 7 "_needed_parts" P_needed_parts (spNP C)) : Ca P w K mg base 8 "is_right" P_is_right (spIR C) := by
  obtain ⟨_, _, c__needed_parts⟩ := C1
  refine cal_of h sc_is_right (fun _ _ _ _ _ _ us hl => match us, hl with | [_, _, _, _, _], _ => rfl) (fun vs H Q E h => ?_) (fun f cdv A outer s H vs Q E hr h => ?_)
  · obtain ⟨ex, x, o, va, vp, vv, v, mv, role, d, ps, ns, us, ow, B, rfl, _⟩ := h
    rfl
  · obtain ⟨ex, x, o, va, vp, vv, v, mv, role, d, ps, ns, us, ow, B, rfl, fr, to, dv, hc, hm, k⟩ := h
    refine ⟨_, (pss_cons (ps_set (i := 5) sc_is_right.nd rfl (.inl rfl) (pe_lst (pa_cons (pe_tupF (pa_cons (pv 1) (pa_cons (pv 2) (pa_cons (pv 3) pa_nil)))) pa_nil)))
      (pss_cons (ps_set (i := 6) sc_is_right.nd rfl (.inl rfl) pe_int)
      (pss_cons (ps_while PassesOwn.never (pt_truth (pv 5) (by intro _; rfl))
        (pss_cons (ps_aug (i := 6) sc_is_right.nd rfl (.inl rfl) pe_int ip_add)
        (pss_cons (ps_if (PW.pt (pw_and (pt_cmpR op_notN (pv 4) pe_non (nomark _)) (pw_and1 (pt_cmpR op_gt (pv 6) (pv 4) (nomark _))))) (pss_one (ps_ret pe_bl)) pss_nil)
        (pss_cons (ps_setLc (i := 7) (own := [("part_role", 8), ("part_own", 9), ("part", 10)]) (g := (gTup K 3 (gCons (gName 8) (gCons (gName 9) (gCons (gName 10) gNil))))) (tt := tYes) (by rfl) sc_is_right.nd rfl rfl (sw_true rfl rfl rfl (by decide +kernel)) (pi_list (pv 5)) (blkOk_by (own := [("part_role", 8), ("part_own", 9), ("part", 10)]) (N := ["frame", "role", "own", "value", "most", "level", "depth", "needed", "part_role", "part_own", "part", "parts", "told"]) (sc := defScope s_is_right) (by decide +kernel)) (fun _ _ _ _ _ => pg_tup (by rfl) (pgs_cons (pg_name (i := 8) sc_is_right.nd rfl (Or.inl rfl)) (pgs_cons (pg_name (i := 9) sc_is_right.nd rfl (Or.inl rfl)) (pgs_cons (pg_name (i := 10) sc_is_right.nd rfl (Or.inl rfl)) pgs_nil)))) (fun _ _ _ _ _ => pts_nil) (fun _ _ _ _ _ => (pe_call c__needed_parts.1 (hr.mono (by decide)) rfl c__needed_parts.2.1 c__needed_parts.2.2.1 c__needed_parts.2.2.2 .nil pass0 (pa_cons (pv 0) (pa_cons (pv 8) (pa_cons (pv 9) (pa_cons (pv 10) pa_nil)))))))
        (pss_cons (ps_if (pt_cmpR (op_nonIn (hu_of hr)) pe_non (pv 7) rfl) (pss_one (ps_ret pe_bl)) pss_nil)
        (pss_one (ps_setLc2 (i := 5) (own := [("parts", 11), ("told", 12)]) (vs1 := [12]) (g := gName 11) (g1 := gName 12) (tt := tYes) (tt1 := tYes) (by rfl) sc_is_right.nd rfl rfl (sw_true rfl rfl rfl (by decide +kernel)) (pi_list (pv 7)) (blkOk_by (own := [("parts", 11), ("told", 12)]) (N := ["frame", "role", "own", "value", "most", "level", "depth", "needed", "part_role", "part_own", "part", "parts", "told"]) (sc := defScope s_is_right) (by decide +kernel)) (by decide) (fun _ _ _ _ _ => pg_name (i := 11) sc_is_right.nd rfl (Or.inl rfl)) (fun _ _ _ _ _ => pts_nil) (fun _ _ _ _ _ => (show PI _ _ _ (iList K (tVar 11)) from pi_list (pv 11))) (fun _ _ _ _ _ => pg_name (i := 12) sc_is_right.nd rfl (Or.inl rfl)) (fun _ _ _ _ _ => pts_nil) (fun _ _ _ _ _ => pv 12))))))))
      (pss_one (ps_ret pe_bl))))), ?_⟩
    refine ⟨_, rfl, _, rfl, _, rfl, by show 3 ≤ sizeLine; decide, fun t H1 s1 h1 => ⟨by show 1 ≤ sizeLine; decide, fun L hL => ?_⟩⟩
    have f1 : Same H1 (upd H1 L (.lst [.ref t])) := Same.upd hL
    have s2 := s1.trans f1
    have hL2 : (upd H1 L (.lst [.ref t])) L = some (.lst [.ref t]) := upd_same
    have nd0 : NdsAt ex (upd H1 L (.lst [.ref t])) [.ref t] [⟨role, ow, d⟩] := .cons ⟨t, o, v, rfl, (Kp.same (ex := ex) f1).tup h1, (Kp.same (ex := ex) s2).tup to, dv.kp (Kp.same s2), hc⟩ .nil
    generalize upd H1 L (.lst [.ref t]) = H2 at s2 hL2 nd0 ⊢
    clear f1 h1 hL s1
    refine ⟨fun fu σ G => ∃ (L : Addr) (xs : List V) (ls : List Nd) (kd : Nat) (j : Option V), σ = [some (.ref x), some (.str role), some (.ref o), some v, some mv, some (.ref L), some (.int kd), j, none, none, none, none, none] ∧ Same H G ∧ G L = some (.lst xs) ∧ NdsAt ex G xs ls ∧ costN ls ≤ 8000002 ∧ ls.all (okN ps ns us fu) = okN ps ns us B ⟨role, ow, d⟩ ∧ ((mv = .non ∧ ∀ n ∈ ls, n.d.depth < fu) ∨ (mv = .int (B : Int) ∧ fu + kd = B)),
      ⟨B, L, _, _, 0, none, rfl, s2, hL2, nd0, by simp only [costN]; omega, by rw [List.all_cons, List.all_nil, Bool.and_true], ?_⟩, ?_⟩
    · rcases hm with ⟨rfl, rfl⟩ | rfl
      · exact .inl ⟨rfl, fun n hn => by rw [List.mem_singleton.mp hn]; exact Nat.lt_succ_self _⟩
      · exact .inr ⟨rfl, rfl⟩
    rintro fu σ G ⟨L, xs, ls, kd, j, rfl, sG, hLs, nds, hcs, hall, hmv⟩
    have hlen := nds.len
    refine ⟨_, rfl, _, .inl ⟨xs, SqL.of hLs, rfl⟩, ?_⟩
    cases hxs : xs with
    | nil =>
      rw [hxs] at hlen
      have e0 : ls = [] := List.length_eq_zero_iff.mp hlen.symm
      rw [e0] at hall
      have := k G sG
      rw [← hall] at this
      exact iteF this
    | cons x0 xr =>
      rw [← hxs]
      have hne : ls ≠ [] := fun e => by rw [e, hxs] at hlen; cases hlen
      rw [show (!xs.isEmpty) = true by rw [hxs]; rfl]
      refine iteT ⟨_, fun σ' H' hN => hN, ?_⟩
      have hpos : 0 < ls.length := List.length_pos_iff.mpr hne
      by_cases hf0 : fu = 0
      · subst hf0
        obtain ⟨hmv1, hk⟩ : mv = .int (B : Int) ∧ 0 + kd = B := by
          rcases hmv with ⟨_, hd⟩ | h
          · cases ls with
            | nil => exact absurd rfl hne
            | cons n r => exact absurd (hd n List.mem_cons_self) (Nat.not_lt_zero _)
          · exact h
        have hall0 : ls.all (okN ps ns us 0) = false := by
          cases ls with
          | nil => exact absurd rfl hne
          | cons n r => rfl
        have q := k G sG
        rw [← hall, hall0] at q
        refine ⟨_, rfl, _, _, rfl, rfl, ⟨_, rfl, rfl, _, rfl, ?_⟩⟩
        rw [show (!decide (mv = V.non)) = true by rw [hmv1, decide_eq_false (fun e => by cases e)]; rfl]
        refine iteT ⟨_, rfl, _, rfl, _, _, rfl, hmv1, _, rfl, ?_⟩
        rw [decide_eq_true (by omega : (B : Int) < (kd : Int) + 1)]
        exact iteT q
      obtain ⟨f', rfl⟩ := Nat.exists_eq_succ_of_ne_zero hf0
      refine ⟨_, rfl, _, _, rfl, rfl, ⟨_, rfl, rfl, _, rfl, ?_⟩⟩
      apply dupP
      · intro rest
        rcases hmv with ⟨hmv1, _⟩ | ⟨hmv1, hk⟩
        · rw [show (!decide (mv = V.non)) = false by rw [hmv1]; decide]
          exact iteF (iteF rest)
        · rw [show (!decide (mv = V.non)) = true by rw [hmv1, decide_eq_false (fun e => by cases e)]; rfl]
          refine iteT ⟨_, rfl, _, rfl, _, _, rfl, hmv1, _, rfl, ?_⟩
          rw [decide_eq_false (by omega : ¬ (B : Int) < (kd : Int) + 1)]
          exact iteF rest
      have lsz : xs.length < sizeLine := by
        have := costN_len ls
        rw [sizeLine_eq]
        omega
      refine ⟨_, rfl, L, rfl, ⟨_, SqL.of hLs⟩, fun D hD => lc_rel (walk_list (K := K) (a := L) (xs := xs)) (fun i Hx y => ∃ n, ls[i]? = some n ∧ NeedAt (fun a => ex a ∨ a = D) Hx y (needD ps ns us n) ∧ ∀ t, y = .ref t → t ≠ D) ?_ lsz hD (fun Hx sm => SqL.of (sm _ _ hLs)) ?_ ?_⟩
      · rintro i y Ha Hb kk ⟨n, hn, na, ht⟩
        refine ⟨n, hn, ?_, ht⟩
        cases q : needD ps ns us n with
        | none => rw [q] at na; exact na
        | some l =>
          rw [q] at na
          obtain ⟨t, ys, rfl, e1, e2⟩ := na
          exact ⟨t, ys, rfl, kk t _ e1 (fun e => absurd e (ht t rfl)), e2.kpx (kk.weak fun b h => .inr h)⟩
      · rintro i y Hx H' Nx hi sm hDx ⟨rfl, hy⟩ hyes
        obtain ⟨n, hn, na⟩ := nds.get hy
        obtain ⟨t, o2, u, rfl, h1, h2, h3, h4⟩ := (na.off hD).kp sm
        refine ⟨t, _, rfl, h1.sq, rfl, ⟨_, _, rfl, _, _, rfl, _, _, rfl, rfl, rfl, yes ?_⟩⟩
        refine ⟨_, rfl, _, rfl, _, rfl, _, rfl, (fun a => ex a ∨ a = D), x, o2, va, vp, vv, u, n.role, n.d, ps, ns, us, n.ow, rfl, fr.same (sG.trans sm), h2, h3, h4, fun v' H4 s4 nw na' => hyes v' H4 s4 ⟨n, hn, na', fun t2 e e2 => ?_⟩⟩
        have := nw t2 e
        rw [e2] at this
        exact hDx this
      · intro Hx xs2 sm hDx hl2 hr2
        have sx := sG.trans sm
        have hN : ∀ (i : Nat) (y : V), xs2[i]? = some y → ∃ n, ls[i]? = some n ∧ NeedAt ex Hx y (needD ps ns us n) := fun i y hy => by
          obtain ⟨n, hn, na, _⟩ := hr2 i y hy
          exact ⟨n, hn, na.weak fun a h => .inl h⟩
        have hl3 : xs2.length = ls.length := by omega
        have hany := need_any hl3 hN
        refine ⟨_, rfl, D, xs2, rfl, rfl, SqL.of hDx, fun z hz => ?_, _, rfl, ?_⟩
        · obtain ⟨i, hi, e⟩ := List.mem_iff_getElem.mp hz
          obtain ⟨n, hn, na⟩ := hN i z (by rw [List.getElem?_eq_getElem hi, e])
          cases q : needD ps ns us n with
          | none => rw [q] at na; exact .inl na
          | some l =>
            rw [q] at na
            obtain ⟨t, ys, e, e1, _⟩ := na
            exact .inr ⟨t, ys, e, SqL.of e1⟩
        rw [hany]
        cases ha : ls.any fun n => (needD ps ns us n).isNone with
        | true =>
          have q := k Hx sx
          rw [← hall, all_none ha] at q
          exact iteT q
        | false =>
          obtain ⟨yss, y1, y2, y3⟩ := needs_flat hl3 hN ha
          have ly := y3.len
          have lc := costN_len (nxt ps ns us ls)
          have nc := nxt_cost (ps := ps) (ns := ns) (us := us) ls
          have short : ∀ i : Nat, ((yss.take i).flatten).length ≤ yss.flatten.length := fun i => by
            have e : yss.flatten = (yss.take i).flatten ++ (yss.drop i).flatten := by rw [← List.flatten_append, List.take_append_drop]
            rw [e, List.length_append]
            omega
          refine iteF ⟨_, rfl, D, rfl, ⟨_, SqL.of hDx⟩, fun D2 hD2 => out_it (walk_list (K := K) (a := D) (xs := xs2)) (fun i H => Same Hx H ∧ H D2 = some (.lst (yss.take i).flatten)) ⟨Same.upd hD2, upd_same⟩ (fun i H _ h => SqL.of (h.1 _ _ hDx)) ?_ ?_ (fun _ _ _ _ h => h)⟩
          · rintro i y Ha Hb Nx hi ⟨sa, hDa⟩ ⟨rfl, hy⟩ hnx
            obtain ⟨t, ys, rfl, hys, ht⟩ := y2 i y hy
            have e1 : (yss.take (i + 1)).flatten = (yss.take i).flatten ++ ys := by
              rw [List.take_succ, hys]
              simp
            refine ⟨rfl, yes ⟨_, rfl, t, rfl, ⟨_, SqL.of (sa _ _ ht)⟩, in_it (walk_list (K := K) (a := t) (xs := ys)) (fun j H => Same Hx H ∧ H D2 = some (.lst ((yss.take i).flatten ++ ys.take j))) ⟨sa, by rw [hDa]; simp⟩ (fun j H _ h => SqL.of (h.1 _ _ ht)) ?_ ?_⟩⟩
            · rintro j z Hc Hd hj ⟨sc, hDc⟩ ⟨rfl, hz⟩
              refine ⟨rfl, yes ⟨_, rfl, _, hDc, ?_, ?_, ?_⟩⟩
              · have h1 := short (i + 1)
                rw [e1, List.length_append] at h1
                rw [List.length_append, List.length_take, sizeLine_eq]
                omega
              · intro b oo e
                rw [upd_ne (ne_of_none e hD2)]
                exact sc b oo e
              · rw [upd_same, List.take_succ, hz]
                simp
            · rintro H5 ⟨s5, hD5⟩
              refine hnx H5 ⟨s5, ?_⟩
              rw [hD5, e1, List.take_length]
          · rintro H5 ⟨s5, hD5⟩
            have e2 : (yss.take xs2.length).flatten = yss.flatten := by rw [← y1, List.take_length]
            rw [e2] at hD5
            refine ⟨f', Nat.lt_succ_self _, D2, yss.flatten, nxt ps ns us ls, kd + 1, some (.ref D), rfl, sx.trans s5, hD5, y3.kp s5, by omega, ?_, ?_⟩
            · rw [← hall]
              exact (all_step ha).symm
            · rcases hmv with ⟨e, hd⟩ | ⟨e, hk⟩
              · exact .inl ⟨e, nxt_depth hd⟩
              · exact .inr ⟨e, by omega⟩
end
end Kx
namespace Kx
open PySem PySem.Spec PyProof.Rows L2
theorem costL_app : ∀ xs ys : List PyData, costL (xs ++ ys) = costL xs + costL ys
  | [], _ => by simp [costL]
  | x :: r, ys => by
    have := costL_app r ys
    simp only [List.cons_append, costL]; omega
theorem okS_app {a b : Str} (ha : okS a) (hb : okS b) : okS (a ++ b) := fun c hc => by
  have hc' : c ∈ (a.cps ++ b.cps).toList := hc
  rw [Array.toList_append] at hc'
  rcases List.mem_append.mp hc' with q | q
  · exact ha c q
  · exact hb c q
theorem cutS_le (a : Str) (lo hi : Option Int) : (cutS a lo hi).length ≤ a.length := by
  show (cutS a lo hi).cps.size ≤ a.cps.size
  unfold cutS
  rw [List.size_toArray, List.length_take, List.length_drop, Array.length_toList]
  omega
theorem okS_cut {a : Str} (ha : okS a) (lo hi : Option Int) : okS (cutS a lo hi) := fun c hc => by
  unfold cutS at hc
  exact ha c (List.mem_of_mem_drop (List.mem_of_mem_take (by simpa using hc)))
theorem okS_name {z : Str} (h : NameS z) : okS z := fun c hc => Nat.lt_of_le_of_lt (h.2.2 c hc).2 (by decide)
theorem upper_abc : ∀ c, 97 ≤ c → c ≤ 122 → ∀ d ∈ Unicode.upperOf c, d < 16 ^ 8 := by
  have key : ((List.range 26).all fun i => (Unicode.upperOf (i + 97)).all fun d => decide (d < 16 ^ 8)) = true := by decide +kernel
  intro c h1 h2 d hd
  have := List.all_eq_true.mp key (c - 97) (List.mem_range.mpr (by omega))
  rw [show c - 97 + 97 = c by omega] at this
  exact of_decide_eq_true (List.all_eq_true.mp this d hd)
theorem okS_upper {z : Str} (h : NameS z) : okS (Txt.upper z) := fun c hc => by
  have hc' : c ∈ ((z.cps.mapIdx fun _ c => (Unicode.upperOf c).toArray).flatten).toList := hc
  rw [Array.mem_toList_iff, Array.mem_flatten] at hc'
  obtain ⟨l, hl, hcl⟩ := hc'
  obtain ⟨i, hi, rfl⟩ := Array.mem_mapIdx.mp hl
  have hz := h.2.2 (z.cps[i]) (by rw [Array.mem_toList_iff]; exact Array.getElem_mem hi)
  exact upper_abc _ hz.1 hz.2 c (by simpa using hcl)
/-- v shows a small datum -/
def Sm (ex : Addr → Prop) (H : Hp) (n : Nat) (v : V) : Prop := ∃ d, Dv ex H v d ∧ cost d ≤ n ∧ okD d ∧ 4000 * d.depth ≤ n
theorem Sm.str {ex : Addr → Prop} {H : Hp} {n : Nat} {z : Str} (h : okS z) (hl : 10 * z.length + 2 ≤ n) : Sm ex H n (.str z) := ⟨_, .str z, by simp only [cost]; exact hl, by simp only [okD]; exact h, by simp only [PyData.depth]; omega⟩
theorem Sm.kp {ex : Addr → Prop} {H H' : Hp} {n : Nat} {v : V} (h : Sm ex H n v) (k : Kp ex H H') : Sm ex H' n v := let ⟨d, a, b⟩ := h; ⟨d, a.kp k, b⟩
theorem fresh_old {p : Addr} {H G : Hp} {n : Nat} {a : Addr} (k : KpP p H G) (hp : PotAt G p n) (ha : G a = none) : ¬ H a ≠ none := fun z => by
  cases e : H a with
  | none => exact z e
  | some o =>
    have := k a o e fun q => absurd q (hp.ne ha)
    rw [ha] at this
    cases this
theorem Same.upd2 {H : Hp} {p : Addr} {o o2 : HO} (h : H p = none) : Same H (L2.upd (L2.upd H p o) p o2) := fun a u e => by
  rw [upd_ne (ne_of_none e h), upd_ne (ne_of_none e h)]; exact e
theorem PotAt.old {H : Hp} {p : Addr} {n : Nat} (h : PotAt H p n) : H p ≠ none := by
  obtain ⟨a, b, c, e, _⟩ := h
  rw [e]; exact fun z => by cases z
theorem KpP.old {p : Addr} {n : Nat} {H G G' : Hp} (h : PotAt H p n) (k : KpP p G G') : Kp (fun a => H a ≠ none) G G' := k.weak fun b e => by rw [e]; exact h.old
abbrev Old (H : Hp) : Addr → Prop := fun a => H a ≠ none
def Sms (ex : Addr → Prop) (H : Hp) (n : Nat) (vs : List V) : Prop := ∃ ds, DvL ex H vs ds ∧ costL ds ≤ n ∧ okL ds ∧ 4000 * PyData.depthAll ds ≤ n
theorem okL_app : ∀ {xs ys : List PyData}, okL xs → okL ys → okL (xs ++ ys)
  | [], _, _, h => h
  | x :: r, ys, a, b => by
    have a' : okD x ∧ okL r := by simpa only [okL] using a
    have : okD x ∧ okL (r ++ ys) := ⟨a'.1, okL_app a'.2 b⟩
    simpa only [List.cons_append, okL] using this
theorem okL_mem : ∀ {xs : List PyData}, okL xs ↔ ∀ x ∈ xs, okD x
  | [] => by simp [okL]
  | x :: r => by
    have := okL_mem (xs := r)
    simp only [okL, List.mem_cons, forall_eq_or_imp, this]
section
variable {ex ey : Addr → Prop} {H H' : Hp} {n m : Nat}
theorem dAll_app : ∀ xs ys : List PyData, PyData.depthAll (xs ++ ys) = max (PyData.depthAll xs) (PyData.depthAll ys)
  | [], ys => by simp [PyData.depthAll]
  | x :: r, ys => by
    have := dAll_app r ys
    simp only [List.cons_append, PyData.depthAll]; omega
theorem dAll_mem : ∀ {xs : List PyData} {x : PyData}, x ∈ xs → x.depth ≤ PyData.depthAll xs
  | y :: r, x, h => by
    rcases List.mem_cons.mp h with rfl | h
    · simp only [PyData.depthAll]; omega
    · have := dAll_mem h
      simp only [PyData.depthAll]; omega
theorem Sms.nil : Sms ex H n [] := ⟨[], .nil, by simp [costL], by simp only [okL], by simp [PyData.depthAll]⟩
theorem Sms.cons {v : V} {vs : List V} (a : Sm ex H n v) (b : Sms ex H m vs) : Sms ex H (n + 2 + m) (v :: vs) := by
  obtain ⟨d, h1, h2, h3, h4⟩ := a
  obtain ⟨ds, g1, g2, g3, g4⟩ := b
  exact ⟨d :: ds, .cons h1 g1, by simp only [costL]; omega, by simp only [okL]; exact ⟨h3, g3⟩, by simp only [PyData.depthAll]; omega⟩
theorem Sms.app {v w : List V} (a : Sms ex H n v) (b : Sms ex H m w) : Sms ex H (n + m) (v ++ w) := by
  obtain ⟨ds, h1, h2, h3, h4⟩ := a
  obtain ⟨es, g1, g2, g3, g4⟩ := b
  exact ⟨ds ++ es, h1.app g1, by rw [costL_app]; omega, okL_app h3 g3, by rw [dAll_app]; omega⟩
theorem costL_take (k : Nat) (xs : List PyData) : costL (xs.take k) ≤ costL xs := by
  have := costL_app (xs.take k) (xs.drop k)
  rw [List.take_append_drop] at this
  omega
theorem costL_drop (k : Nat) (xs : List PyData) : costL (xs.drop k) ≤ costL xs := by
  have := costL_app (xs.take k) (xs.drop k)
  rw [List.take_append_drop] at this
  omega
theorem costL_rev : ∀ xs : List PyData, costL xs.reverse = costL xs
  | [] => rfl
  | x :: r => by
    rw [List.reverse_cons, costL_app, costL_rev r]
    simp only [costL]; omega
theorem dAll_rev : ∀ xs : List PyData, PyData.depthAll xs.reverse = PyData.depthAll xs
  | [] => rfl
  | x :: r => by
    rw [List.reverse_cons, dAll_app, dAll_rev r]
    simp only [PyData.depthAll]; omega
theorem Sms.take {v : List V} (k : Nat) (a : Sms ex H n v) : Sms ex H n (v.take k) := by
  obtain ⟨ds, h1, h2, h3, h4⟩ := a
  have := dAll_app (ds.take k) (ds.drop k)
  rw [List.take_append_drop] at this
  exact ⟨ds.take k, h1.take k, Nat.le_trans (costL_take k ds) h2, okL_mem.mpr fun x hx => okL_mem.mp h3 x (List.mem_of_mem_take hx), by omega⟩
theorem Sms.drop {v : List V} (k : Nat) (a : Sms ex H n v) : Sms ex H n (v.drop k) := by
  obtain ⟨ds, h1, h2, h3, h4⟩ := a
  have := dAll_app (ds.take k) (ds.drop k)
  rw [List.take_append_drop] at this
  exact ⟨ds.drop k, h1.drop k, Nat.le_trans (costL_drop k ds) h2, okL_mem.mpr fun x hx => okL_mem.mp h3 x (List.mem_of_mem_drop hx), by omega⟩
theorem Sms.rev {v : List V} (a : Sms ex H n v) : Sms ex H n v.reverse := by
  obtain ⟨ds, h1, h2, h3, h4⟩ := a
  exact ⟨ds.reverse, h1.rev, by rw [costL_rev]; exact h2, okL_mem.mpr fun x hx => okL_mem.mp h3 x (List.mem_reverse.mp hx), by rw [dAll_rev]; exact h4⟩
theorem Sms.tup {a : Addr} {v : List V} (h : Sms ex H n v) (t : TupF H a v) : Sm ex H (n + 4000) (.ref a) := by
  obtain ⟨ds, h1, h2, h3, h4⟩ := h
  exact ⟨_, Dv.tupM t h1, by simp only [cost]; omega, by simp only [okD]; exact h3, by simp only [PyData.depth]; omega⟩
theorem Sms.lst {a : Addr} {v : List V} (h : Sms ex H n v) (na : ¬ ex a) (t : H a = some (.lst v)) : Sm ex H (n + 4000) (.ref a) := by
  obtain ⟨ds, h1, h2, h3, h4⟩ := h
  exact ⟨_, Dv.lst na t h1, by simp only [cost]; omega, by simp only [okD]; exact h3, by simp only [PyData.depth]; omega⟩
theorem Sms.kp {v : List V} (h : Sms ex H n v) (k : Kp ex H H') : Sms ex H' n v := let ⟨d, a, b⟩ := h; ⟨d, a.kp k, b⟩
theorem Sms.le {v : List V} (h : Sms ex H n v) (k : n ≤ m) : Sms ex H m v := let ⟨d, a, b, c, e⟩ := h; ⟨d, a, Nat.le_trans b k, c, Nat.le_trans e k⟩
theorem Sm.le {v : V} (h : Sm ex H n v) (k : n ≤ m) : Sm ex H m v := let ⟨d, a, b, c, e⟩ := h; ⟨d, a, Nat.le_trans b k, c, Nat.le_trans e k⟩
theorem Sms.mem {vs : List V} {i : Nat} {v : V} (h : Sms ex H n vs) (hv : vs[i]? = some v) : Sm ex H n v := by
  obtain ⟨ds, h1, h2, h3, h4⟩ := h
  obtain ⟨e, he, de⟩ := h1.get hv
  have := cost_mem (List.mem_of_getElem? he)
  have := dAll_mem (List.mem_of_getElem? he)
  exact ⟨e, de, by omega, okL_mem.mp h3 e (List.mem_of_getElem? he), by omega⟩
theorem sms_strs {zs : List Str} (h : ∀ z ∈ zs, NameS z) : Sms ex H (84 * zs.length) (zs.map V.str) := by
  induction zs with
  | nil => exact .nil
  | cons z r ih =>
    have hz := h z List.mem_cons_self
    have := Sms.cons (ex := ex) (H := H) (Sm.str (n := 82) (okS_name hz) (by have := hz.2.1; omega)) (ih fun y hy => h y (List.mem_cons_of_mem _ hy))
    exact this.le (by rw [List.length_cons]; omega)
theorem sms_pairs {ps : List (Str × Str)} {vs : List V} (h : DvL ex H vs (ps.map pairD)) (hq : ∀ q ∈ ps, NameS q.1 ∧ NameS q.2) : Sms ex H (max (173 * ps.length) 4000) vs := by
  refine ⟨_, h, ?_, ?_, ?_⟩
  · clear h
    have : costL (ps.map pairD) ≤ 173 * ps.length := by
      induction ps with
      | nil => simp [costL]
      | cons q r ih =>
        have h1 := hq q List.mem_cons_self
        have l1 := h1.1.2.1
        have l2 := h1.2.2.1
        have := ih fun y hy => hq y (List.mem_cons_of_mem _ hy)
        simp only [List.map_cons, costL, pairD, cost, List.length_cons]; omega
    omega
  · refine okL_mem.mpr fun x hx => ?_
    obtain ⟨q, hq', rfl⟩ := List.mem_map.mp hx
    have h1 := hq q hq'
    simp only [pairD, okD, okL]
    exact ⟨okS_name h1.1, okS_name h1.2, trivial⟩
  · have : PyData.depthAll (ps.map pairD) ≤ 1 := by
      clear h hq
      induction ps with
      | nil => simp [PyData.depthAll]
      | cons q r ih => simp only [List.map_cons, PyData.depthAll, pairD, PyData.depth]; omega
    omega
end
abbrev All : Addr → Prop := fun _ => True
theorem Sms.any {ex : Addr → Prop} {H : Hp} {n : Nat} {vs : List V} (h : Sms All H n vs) : Sms ex H n vs := let ⟨d, a, b⟩ := h; ⟨d, a.mono Kp.refl fun _ _ => trivial, b⟩
theorem Sm.any {ex : Addr → Prop} {H : Hp} {n : Nat} {v : V} (h : Sm All H n v) : Sm ex H n v := let ⟨d, a, b⟩ := h; ⟨d, a.mono Kp.refl fun _ _ => trivial, b⟩
theorem Kp.all {ex : Addr → Prop} {H H' : Hp} (k : Kp ex H H') : Kp All H H' := k.weak fun _ _ => trivial
/-- a row of the three parts -/
def Row (H : Hp) (k : Int) (v : V) : Prop := ∃ a vs, v = .ref a ∧ TupF H a vs ∧ vs.length ≤ 12 ∧ Sms All H 4000 vs ∧
  (k = 0 → ∃ ps : List (Str × Str), DvL All H vs (ps.map pairD) ∧ ∀ q ∈ ps, NameS q.1 ∧ NameS q.2) ∧ (k ≠ 0 → ∃ zs : List Str, vs = zs.map V.str ∧ ∀ z ∈ zs, NameS z)
theorem Row.kp {H H' : Hp} {k : Int} {v : V} {ex : Addr → Prop} (h : Row H k v) (kk : Kp ex H H') : Row H' k v := by
  obtain ⟨a, vs, rfl, t, l, s, p1, p2⟩ := h
  exact ⟨a, vs, rfl, kk.tup t, l, s.kp kk.all, fun z => let ⟨ps, d, h⟩ := p1 z; ⟨ps, d.kp kk.all, h⟩, p2⟩
theorem row_pairs {H : Hp} {v : V} {ps : List (Str × Str)} (h : Dv All H v (.tuple (ps.map pairD))) (hl : ps.length ≤ 12) (hn : ∀ q ∈ ps, NameS q.1 ∧ NameS q.2) : Row H 0 v := by
  obtain ⟨a, vs, rfl, t, l⟩ := h.tupI
  have ll := l.len
  rw [List.length_map] at ll
  exact ⟨a, vs, rfl, t, by omega, (sms_pairs l hn).le (by omega), fun _ => ⟨ps, l, hn⟩, fun z => absurd rfl z⟩
theorem row_strs {H : Hp} {v : V} {zs : List Str} {k : Int} (hk : k ≠ 0) (h : Dv All H v (.tuple (zs.map .str))) (hl : zs.length ≤ 12) (hn : ∀ z ∈ zs, NameS z) : Row H k v := by
  obtain ⟨a, vs, rfl, t, l⟩ := h.tupI
  have e := l.strE
  subst e
  exact ⟨a, _, rfl, t, by rw [List.length_map]; exact hl, (sms_strs hn).le (by omega), fun z => absurd z hk, fun _ => ⟨zs, rfl, hn⟩⟩
theorem dupH {S : Hp → Prop} {T : Hp → Prop} {goal : Prop} (main : (∀ G, S G → T G) → goal) (body : ∀ G, S G → T G) : goal := main body
theorem takesF {X : Cx} : L2N.Takes X (fun _ _ _ _ => False) := fun _ _ ⟨_, _, _, _, _, _, _, _, _, _, _, _, _, _, _, _, w⟩ => w.elim
section
variable {X : Cx}
def rRepr2 : List V → Hp → VK → Prop := fun xs H Q => ∃ a d, xs = [.ref a] ∧ Dv (fun _ => False) H (.ref a) d ∧ okD d ∧ d.depth ≤ 60 ∧ cost d ≤ sizeLine ∧ Q (.str d.shown) H
theorem call_repr2 {om : Obj} (hK : X.K.lookup sysModules = some om) (hg : X.A.guards = some []) (hu : X.A.units + 64 < cLine) : CallR X (.builtin "repr") rRepr2 := by
  intro pins s σ H xs us Q I r h
  obtain ⟨a, d, rfl, dv, ok, hd, hc, q⟩ := h
  have hsm : H sysModules = none := (I.bs _ _ (I.ok.mod.kin _ _ hK)).2
  obtain ⟨u, rfl, rx⟩ := vals1 r
  obtain ⟨as, hr, hs⟩ := Dv.reads I hsm d _ _ dv rx
  cases rx
  refine repr_of_reads' hr (okD_showable d ok) (fun _ => hs) hg (by omega) (fun _ _ e => e) (fun h' u tk hk => ?_) (Nat.le_trans (shown_le d ok) hc)
  exact ⟨.str d.shown, H, I.kept hk, ⟨u, rfl⟩, q⟩
def tJoinK (K : PySem.W.Frag) (to te : TE) : TE := tM1 (fun x xs H Q => ∃ a p, ∃ ys : List Str, x = .str a ∧ xs = [.ref p] ∧ (SqL K H p (ys.map V.str) ∨ SqT K H p (ys.map V.str)) ∧ (ys.map (·.length)).sum + ys.length * a.length ≤ 16777216 ∧ Q (.str (Txt.join a ys)) H) to te
theorem pe_joinK {o e : Expr} {to te : TE} {apos pos : Pos} (ho : PE X o to) (he : PE X e te) (hs : starEach [e] X.env = [(false, eval e X.env)] := by rfl) (hbase : attributeBase o "join" X.env (eval o X.env) = eval o X.env := by rfl) (hline : (apos.endLine == pos.line) = true := by rfl) :
    PE X (.Call (.Attribute o "join" apos) [e] [] pos) (tJoinK X.K to te) := pe_join ho he hs hbase hline
/-- over a list or a tuple -/
def iSeq (K : PySem.W.Frag) (tl : TE) : TI := fun σ H R => tl σ H fun x H1 => ∃ a, x = .ref a ∧ (((∃ xs, SqL K H1 a xs) ∧ R (Itl K a) H1) ∨ ((∃ xs, SqT K H1 a xs) ∧ R (Itt K a) H1))
theorem pi_seq {tg l : Expr} {tl : TE} (hl : PE X l tl) : PI X tg l (iSeq X.K tl) := by
  refine ⟨fun pins s σ H R I h => thn (hl.run pins s σ H _ I h) fun v t ⟨x, H1, I1, r1, a, ex, q⟩ => ?_⟩
  subst ex
  cases r1
  have fp : ∀ b ∈ [t.heap.objs.size], FpOk X pins H1 b := fun b hb => by
    rw [List.mem_singleton.mp hb]
    exact I1.fpOk (Nat.le_refl _) (I1.hok.fresh (Nat.le_refl _))
  rcases q with ⟨⟨xs, hq⟩, q⟩ | ⟨⟨xs, hq⟩, q⟩
  · obtain ⟨its, rv, p, hz⟩ := I1.list hq
    exact wpAny_pyIter_list p.isList ⟨t.heap.objs.size, [t.heap.objs.size], _, _, H1, rfl, I1.kept (t' := t.toks) fun b o e => Heap.get?_push_of_some _ e, turn_list a _, ⟨_, Heap.get?_push_size _ rfl, rfl, rfl⟩, fp, q⟩
  · obtain ⟨its, rv, p, hz⟩ := I1.tuple hq
    exact wpAny_pyIter_tuple (show t.heap.IsTuple a its.toArray from p) ⟨t.heap.objs.size, [t.heap.objs.size], _, _, H1, rfl, I1.kept (t' := t.toks) fun b o e => Heap.get?_push_of_some _ e, turn_tuple a _, ⟨_, Heap.get?_push_size _ rfl, rfl, rfl⟩, fp, q⟩
end
theorem sqL_same {K : PySem.W.Frag} {H H' : Hp} {a : Addr} {xs : List V} (h : SqL K H a xs) (e : Same H H') : SqL K H' a xs := h.elim (fun h => .inl (h.elim (fun h => .inl (e _ _ h)) fun ⟨o, h⟩ => .inr ⟨o, e _ _ h⟩)) fun h => .inr h
theorem sqT_same {K : PySem.W.Frag} {H H' : Hp} {a : Addr} {xs : List V} (h : SqT K H a xs) (e : Same H H') : SqT K H' a xs := h.elim (fun h => .inl (h.elim (fun h => .inl (e _ _ h)) fun ⟨o, h⟩ => .inr ⟨o, e _ _ h⟩)) fun h => .inr h
def three (ps : List (Str × Str)) (ns us : List Str) : PyData := .list [.tuple (ps.map pairD), .tuple (ns.map .str), .tuple (us.map .str)]
theorem strs_cost {zs : List Str} (h : ∀ z ∈ zs, NameS z) : costL (zs.map .str) ≤ 84 * zs.length := by
  induction zs with
  | nil => simp [costL]
  | cons z r ih =>
    have := (h z List.mem_cons_self).2.1
    have := ih fun y hy => h y (List.mem_cons_of_mem _ hy)
    simp only [List.map_cons, costL, cost, List.length_cons]; omega
theorem strs_ok {zs : List Str} (h : ∀ z ∈ zs, NameS z) : okL (zs.map .str) := okL_mem.mpr fun x hx => by
  obtain ⟨z, hz, rfl⟩ := List.mem_map.mp hx
  simp only [okD]; exact okS_name (h z hz)
theorem strs_dep (zs : List Str) : PyData.depthAll (zs.map .str) = 0 := by
  induction zs with
  | nil => rfl
  | cons z r ih => simp only [List.map_cons, PyData.depthAll, PyData.depth, ih]; rfl
theorem strs_lay {zs : List Str} (h : ∀ z ∈ zs, NameS z) : PyData.canLayAll0 (zs.map .str) = true := by
  induction zs with
  | nil => simp [PyData.canLayAll0]
  | cons z r ih =>
    have hz : PyData.strOk z = true := by
      unfold PyData.strOk
      rw [Array.all_eq_true]
      intro i hi
      have := (h z List.mem_cons_self).2.2 z.cps[i] (by rw [Array.mem_toList_iff]; exact Array.getElem_mem hi)
      exact decide_eq_true (by omega)
    simp only [List.map_cons, PyData.canLayAll0, PyData.canLay0, ih fun y hy => h y (List.mem_cons_of_mem _ hy), hz, Bool.and_self]
theorem FrameAt.nP {C x : Addr} {H : Hp} {va vp vv : V} {ps : List (Str × Str)} {ns us : List Str} (h : FrameAt C H x va vp vv ps ns us) : (∀ q ∈ ps, NameS q.1 ∧ NameS q.2) ∧ (∀ z ∈ ns, NameS z) ∧ ∀ z ∈ us, NameS z :=
  ⟨fun q hq => ⟨h.ok q.1 (List.mem_append.mpr (.inl (List.mem_map.mpr ⟨q, hq, rfl⟩))), h.ok q.2 (List.mem_append.mpr (.inr (List.mem_append.mpr (.inl (List.mem_map.mpr ⟨q, hq, rfl⟩)))))⟩,
   fun z hz => h.ok z (List.mem_append.mpr (.inr (List.mem_append.mpr (.inr (List.mem_append.mpr (.inl hz)))))), fun z hz => h.ok z (List.mem_append.mpr (.inr (List.mem_append.mpr (.inr (List.mem_append.mpr (.inr hz))))))⟩
theorem three_ok {ps : List (Str × Str)} {ns us : List Str} (l1 : ps.length ≤ 12) (l2 : ns.length ≤ 6) (l3 : us.length ≤ 6) (h : (∀ q ∈ ps, NameS q.1 ∧ NameS q.2) ∧ (∀ z ∈ ns, NameS z) ∧ ∀ z ∈ us, NameS z) :
    okD (three ps ns us) ∧ (three ps ns us).depth ≤ 60 ∧ cost (three ps ns us) ≤ sizeLine := by
  obtain ⟨h1, h2, h3⟩ := h
  have c2 := strs_cost h2
  have c3 := strs_cost h3
  have c1 : costL (ps.map pairD) ≤ 173 * ps.length := by
    clear l1 l2 l3 c2 c3
    induction ps with
    | nil => simp [costL]
    | cons q r ih =>
      have a := h1 q List.mem_cons_self
      have := a.1.2.1
      have := a.2.2.1
      have := ih fun y hy => h1 y (List.mem_cons_of_mem _ hy)
      simp only [List.map_cons, costL, pairD, cost, List.length_cons]; omega
  have d1 : PyData.depthAll (ps.map pairD) ≤ 1 := by
    clear l1 l2 l3 c1 c2 c3 h1
    induction ps with
    | nil => simp [PyData.depthAll]
    | cons q r ih => simp only [List.map_cons, PyData.depthAll, pairD, PyData.depth]; omega
  refine ⟨?_, ?_, ?_⟩
  · unfold three
    simp only [okD, okL]
    refine ⟨okL_mem.mpr fun x hx => ?_, strs_ok h2, strs_ok h3, trivial⟩
    obtain ⟨q, hq, rfl⟩ := List.mem_map.mp hx
    simp only [pairD, okD, okL]
    exact ⟨okS_name (h1 q hq).1, okS_name (h1 q hq).2, trivial⟩
  · unfold three
    simp only [PyData.depth, PyData.depthAll, strs_dep]; omega
  · unfold three
    rw [sizeLine_eq]
    simp only [cost, costL]; omega
theorem join3 (s a b c : Str) : Txt.join s [a, b, c] = a ++ s ++ b ++ s ++ c := by
  have e : TL.tl (Txt.join s [a, b, c]) = TL.tl (a ++ s ++ b ++ s ++ c) := by
    rw [TL.join_eq, TL.tl_join]
    show (a.cps.toList ++ (s.cps.toList ++ (b.cps.toList ++ (s.cps.toList ++ c.cps.toList)))) = (a.cps ++ s.cps ++ b.cps ++ s.cps ++ c.cps).toList
    simp only [Array.toList_append, List.append_assoc]
  exact Str.ext' (Array.toList_inj.mp e)
abbrev Pr (P : Program) (w : World) (K : PySem.W.Frag) (mg : Str → Option Value) (base : Heap) (C : Addr) (f a : Str) : Prop := ∃ p g fd, PropOf K C f p g ∧ FnOk P w K mg base CX0 1 g fd ["self"] (getSp C a) ∧ Binds K fd ["self"] []
abbrev CaG (P : Program) (w : World) (K : PySem.W.Frag) (mg : Str → Option Value) (base : Heap) (k : Nat) (x : Str) (ps : List Str) (sp : Sp) : Prop := ∃ f fd, FnOkG P w K mg base CX0 k f fd ps sp ∧ mg x = some (.ref f) ∧ PySem.W.keepIn K (.ref f) = true ∧ Binds K fd ps []
section
variable {P : Program} {w : World} {K : PySem.W.Frag} {mg : Str → Option Value} {base : Heap}
theorem calG_of {x : Str} {st : Stmt} {N ps : List Str} {k : Nat} {sp : Sp} (h : Has K mg x st) (S : FnScope N ps (defScope st))
    (bd : ∀ (kV doc pm : Value) (an : Option Addr) (cdv ct : Value) (us : List Value), us.length = ps.length → bindArgs (PySem.W.fnOf x x (defArgs st) (defBody st) (defScope st) .none kV doc pm an cdv ct) ⟨us, []⟩ = pure (ps.zip us))
    (len : ∀ vs H Q E, sp vs H Q E → vs.length = ps.length)
    (body : ∀ (f : Addr) (cdv : Value) (A : Around) (outer : List Env) (s : Shared) (H : Hp) (vs : List V) (Q : VK) (E : XK), (A.deeper (envOfC x (defScope st) s.heap.objs.size f cdv)).guards = some [] → Room k (A.deeper (envOfC x (defScope st) s.heap.objs.size f cdv)) → sp vs H Q E →
      ∃ t, PSs (cxOf CX0 P w K mg base N x (defScope st) f cdv A outer s H E).nox (defBody st) t ∧ t { nx := fun _ H' => Q .non H', rt := Q } (start N vs) H) : CaG P w K mg base (k + 1) x ps sp := by
  obtain ⟨f, fd, F, g⟩ := h
  exact ⟨f, fd, okG F S len (fun cdv A outer s H vs Q E hgd hr h => let ⟨t, ht, q⟩ := body f cdv A outer s H vs Q E hgd hr h; ⟨t, PSs.nox ht, q⟩), g, F.kp, F.bindsN bd⟩
end
theorem ps_map (ps : List (Str × Str)) : psOf (.tuple (ps.map pairD)) = ps := by
  show (ps.map pairD).filterMap pairOf = ps
  induction ps with
  | nil => rfl
  | cons q r ih => rw [List.map_cons, List.filterMap_cons]; show q :: _ = _; rw [ih]
theorem ns_map (ns : List Str) : nsOf (.tuple (ns.map .str)) = ns := by
  show (ns.map PyData.str).filterMap strOf = ns
  induction ns with
  | nil => rfl
  | cons q r ih => rw [List.map_cons, List.filterMap_cons]; show q :: _ = _; rw [ih]
theorem frameD_good {ps : List (Str × Str)} {ns us : List Str} (h : Good ps ns us) : frameD (.tuple (ps.map pairD)) (.tuple (ns.map .str)) (.tuple (us.map .str)) = true := by
  obtain ⟨l1, l2, l3, ok, nd⟩ := h
  have strsN : ∀ zs : List Str, (∀ z ∈ zs, NameS z) → (zs.map PyData.str).all nameD = true := fun zs hz => by
    rw [List.all_eq_true]
    intro d hd
    obtain ⟨z, h1, rfl⟩ := List.mem_map.mp hd
    exact decide_eq_true (hz z h1)
  have n1 : namesD 6 (.tuple (ns.map .str)) = true := by
    unfold namesD; dsimp only
    rw [strsN ns fun z hz => ok z (List.mem_append.mpr (.inr (List.mem_append.mpr (.inr (List.mem_append.mpr (.inl hz)))))), decide_eq_true (by rw [List.length_map]; exact l2)]; rfl
  have n2 : namesD 6 (.tuple (us.map .str)) = true := by
    unfold namesD; dsimp only
    rw [strsN us fun z hz => ok z (List.mem_append.mpr (.inr (List.mem_append.mpr (.inr (List.mem_append.mpr (.inr hz)))))), decide_eq_true (by rw [List.length_map]; exact l3)]; rfl
  have n3 : arrsD (.tuple (ps.map pairD)) = true := by
    have : (ps.map pairD).all pairOkD = true := by
      rw [List.all_eq_true]
      intro d hd
      obtain ⟨q, h1, rfl⟩ := List.mem_map.mp hd
      show (nameD (.str q.1) && nameD (.str q.2)) = true
      rw [show nameD (.str q.1) = true from decide_eq_true (ok q.1 (List.mem_append.mpr (.inl (List.mem_map.mpr ⟨q, h1, rfl⟩)))), show nameD (.str q.2) = true from decide_eq_true (ok q.2 (List.mem_append.mpr (.inr (List.mem_append.mpr (.inl (List.mem_map.mpr ⟨q, h1, rfl⟩))))))]; rfl
    unfold arrsD; dsimp only
    rw [this, decide_eq_true (by rw [List.length_map]; exact l1)]; rfl
  unfold frameD
  rw [n1, n2, n3, ps_map, ns_map, ns_map, decide_eq_true nd]; rfl
theorem pairs_cost {ps : List (Str × Str)} (h : ∀ q ∈ ps, NameS q.1 ∧ NameS q.2) : costL (ps.map pairD) ≤ 173 * ps.length := by
  induction ps with
  | nil => simp [costL]
  | cons q r ih =>
    have a := h q List.mem_cons_self
    have := a.1.2.1
    have := a.2.2.1
    have := ih fun y hy => h y (List.mem_cons_of_mem _ hy)
    simp only [List.map_cons, costL, pairD, cost, List.length_cons]; omega
end Kx
namespace Kx
open PySem PySem.Spec PyProof.Rows L2
/-! ### equal frames -/
def trip (ps : List (Str × Str)) (ns us : List Str) : PyData := .tuple [.tuple (ps.map pairD), .tuple (ns.map .str), .tuple (us.map .str)]
abbrev same3 (ps : List (Str × Str)) (ns us : List Str) (qs : List (Str × Str)) (ms ts : List Str) : Bool := decide (ps = qs ∧ ns = ms ∧ us = ts)
theorem eqv_strs : ∀ xs ys : List Str, PyData.eqvAll (xs.map .str) (ys.map .str) = decide (xs = ys)
  | [], [] => rfl
  | [], _ :: _ => rfl
  | _ :: _, [] => rfl
  | x :: xs, y :: ys => by
    show (x == y && PyData.eqvAll (xs.map .str) (ys.map .str)) = _
    rw [eqv_strs xs ys]
    by_cases h : x = y
    · subst h; simp
    · simp [h]
theorem eqv_pairs : ∀ xs ys : List (Str × Str), PyData.eqvAll (xs.map pairD) (ys.map pairD) = decide (xs = ys)
  | [], [] => rfl
  | [], _ :: _ => rfl
  | _ :: _, [] => rfl
  | (a, b) :: xs, (c, d) :: ys => by
    show ((a == c && (b == d && true)) && PyData.eqvAll (xs.map pairD) (ys.map pairD)) = _
    rw [eqv_pairs xs ys]
    by_cases h : a = c
    · by_cases h2 : b = d
      · subst h h2; simp
      · simp [h2]
    · simp [h]
theorem eqv_trip (ps : List (Str × Str)) (ns us : List Str) (qs : List (Str × Str)) (ms ts : List Str) : PyData.eqv (trip ps ns us) (trip qs ms ts) = same3 ps ns us qs ms ts := by
  show (PyData.eqvAll (ps.map pairD) (qs.map pairD) && (PyData.eqvAll (ns.map .str) (ms.map .str) && (PyData.eqvAll (us.map .str) (ts.map .str) && true))) = _
  rw [eqv_pairs, eqv_strs, eqv_strs, Bool.and_true]
  by_cases h1 : ps = qs <;> by_cases h2 : ns = ms <;> by_cases h3 : us = ts <;> simp [h1, h2, h3]
theorem eqv_three (ps : List (Str × Str)) (ns us : List Str) (qs : List (Str × Str)) (ms ts : List Str) : PyData.eqv (three ps ns us) (three qs ms ts) = same3 ps ns us qs ms ts := eqv_trip ps ns us qs ms ts
theorem pairs_lay {ps : List (Str × Str)} (h : ∀ q ∈ ps, NameS q.1 ∧ NameS q.2) : PyData.canLayAll0 (ps.map pairD) = true := by
  induction ps with
  | nil => rfl
  | cons q r ih =>
    have a := h q List.mem_cons_self
    have e := strs_lay (zs := [q.1, q.2]) (fun z hz => by
      rcases List.mem_cons.mp hz with rfl | hz
      · exact a.1
      · rw [List.mem_singleton.mp hz]; exact a.2)
    show (PyData.canLayAll0 ([q.1, q.2].map .str) && PyData.canLayAll0 (r.map pairD)) = true
    rw [e, ih fun y hy => h y (List.mem_cons_of_mem _ hy)]; rfl
theorem pairs_dep (ps : List (Str × Str)) : PyData.depthAll (ps.map pairD) ≤ 1 := by
  induction ps with
  | nil => simp [PyData.depthAll]
  | cons q r ih => simp only [List.map_cons, PyData.depthAll, pairD, PyData.depth]; omega
abbrev Names (ps : List (Str × Str)) (ns us : List Str) : Prop := (∀ q ∈ ps, NameS q.1 ∧ NameS q.2) ∧ (∀ z ∈ ns, NameS z) ∧ ∀ z ∈ us, NameS z
theorem shaped_trip {ps : List (Str × Str)} {ns us : List Str} (h : Names ps ns us) : SeqAt.shaped (trip ps ns us) = true := by
  obtain ⟨h1, h2, h3⟩ := h
  have hd := pairs_dep ps
  show (PyData.canLay0 (trip ps ns us) && decide ((trip ps ns us).depth ≤ 64)) = true
  rw [Bool.and_eq_true]
  refine ⟨?_, decide_eq_true ?_⟩
  · show (PyData.canLayAll0 (ps.map pairD) && (PyData.canLayAll0 (ns.map .str) && (PyData.canLayAll0 (us.map .str) && true))) = true
    rw [pairs_lay h1, strs_lay h2, strs_lay h3]; rfl
  · unfold trip
    simp only [PyData.depth, PyData.depthAll, strs_dep]; omega
theorem shaped_three {ps : List (Str × Str)} {ns us : List Str} (h : Names ps ns us) : SeqAt.shaped (three ps ns us) = true := by
  obtain ⟨h1, h2, h3⟩ := h
  have hd := pairs_dep ps
  show (PyData.canLay0 (three ps ns us) && decide ((three ps ns us).depth ≤ 64)) = true
  rw [Bool.and_eq_true]
  refine ⟨?_, decide_eq_true ?_⟩
  · show (PyData.canLayAll0 (ps.map pairD) && (PyData.canLayAll0 (ns.map .str) && (PyData.canLayAll0 (us.map .str) && true))) = true
    rw [pairs_lay h1, strs_lay h2, strs_lay h3]; rfl
  · unfold three
    simp only [PyData.depth, PyData.depthAll, strs_dep]; omega
structure Fi (K : PySem.W.Frag) (C : Addr) : Prop where
  ha : PySem.W.findIn K (.ref C) "__class__" = some (some (.builtin "object.__class__"))
  hn : PySem.W.specialIn K (.builtin "object.__class__") "__get__" = some (some (.builtin "getset_descriptor.__get__"))
  ht : PySem.W.takesIn K (.builtin "object.__class__") = some true
  hm : PySem.W.mroIn K C (.type "object") = some true
  k2 : PySem.W.kitOne K (.type "list") (.ref C) = some false
  nf : PySem.W.notFirst K C (.type "list") = true
  ne : PySem.W.findIn K (.ref C) "__ne__" = some (some (.builtin "object.__ne__"))
theorem Fi.k1 {K : PySem.W.Frag} {C : Addr} : PySem.W.kitOne K (.ref C) (.ref C) = some true := by
  unfold PySem.W.kitOne
  rw [if_pos (by simp)]
section
variable {P : Program} {w : World} {K : PySem.W.Frag} {mg : Str → Option Value} {base : Heap}
abbrev N_Frame_eq : List Str := ["self", "other"]
abbrev P_Frame_eq : List Str := ["self", "other"]
theorem sc_Frame_eq : FnScope N_Frame_eq P_Frame_eq (defScope s_Frame_eq) := ⟨rfl, rfl, rfl, by decide +kernel, rfl, by decide +kernel, by decide +kernel⟩
def spEqF (C : Addr) : Sp := fun vs H Q _ => ∃ (x y : Addr) (va vp vv : V) (ps : List (Str × Str)) (ns us : List Str), vs = [.ref x, .ref y] ∧ FrameAt C H x va vp vv ps ns us ∧
  ((∃ (wa wp wv : V) (qs : List (Str × Str)) (ms ts : List Str), FrameAt C H y wa wp wv qs ms ts ∧ ∀ H', Same H H' → Q (.bl (same3 ps ns us qs ms ts)) H') ∨ ∃ ys, H y = some (.lst ys) ∧ Q (.bl false) H)
theorem ok_eq {om : Obj} (hK : K.lookup sysModules = some om) (T : Bt mg) {C : Addr} (X : Fx K mg C) (I : Fi K C) (h : HasM K C "__eq__" "Frame.__eq__" s_Frame_eq) : Me P w K mg base C 1 "__eq__" P_Frame_eq (spEqF C) := by
  refine met_of h sc_Frame_eq (fun _ _ _ _ _ _ us hl => match us, hl with | [_, _], _ => rfl) (fun vs H Q E h => ?_) (fun f cdv A outer s H vs Q E hr h => ?_)
  · obtain ⟨x, y, va, vp, vv, ps, ns, us, rfl, _⟩ := h
    rfl
  · obtain ⟨x, y, va, vp, vv, ps, ns, us, rfl, fx, hy⟩ := h
    refine ⟨_, (pss_cons (ps_if (pt_not (pt_val (pe_callB call_isi (by rfl) T.isinstance (by decide +kernel) (pa_cons (pv 1) (pa_cons (pe_glob (v := .ref C) rfl X.mgC rfl) pa_nil))))) (pss_one (ps_ret pe_bl)) pss_nil)
      (pss_one (ps_ret (pe_cmpR (op_eqDv hK hr.units) (pe_tupF (pa_cons (pe_fld (pv 0) rfl) (pa_cons (pe_fld (pv 0) rfl) (pa_cons (pe_fld (pv 0) rfl) pa_nil)))) (pe_tupF (pa_cons (pe_fld (pv 1) rfl) (pa_cons (pe_fld (pv 1) rfl) (pa_cons (pe_fld (pv 1) rfl) pa_nil)))) (nomark _))))), ?_⟩
    rcases hy with ⟨wa, wp, wv, qs, ms, ts, fy, q⟩ | ⟨ys, hy, q⟩
    · obtain ⟨dx, LB, LT, KD, hx, _⟩ := id fx.ob
      obtain ⟨dy, LB2, LT2, KD2, hy, _⟩ := id fy.ob
      refine ⟨_, rfl, _, _, _, _, _, rfl, .own C, .base (.ins hy X.cl I.ha I.hn I.ht I.hm), Fi.k1, _, rfl, iteF ?_⟩
      refine ⟨_, rfl, x, C, dx, _, _, rfl, hx, X.cl, X.n1, rfl, _, rfl, x, C, dx, _, _, rfl, hx, X.cl, X.n2, rfl, _, rfl, x, C, dx, _, _, rfl, hx, X.cl, X.n3, rfl, by show 3 ≤ sizeLine; decide, fun t1 H1 s1 h1 => ?_⟩
      have hy1 := s1 _ _ hy
      refine ⟨_, rfl, y, C, dy, _, _, rfl, hy1, X.cl, X.n1, rfl, _, rfl, y, C, dy, _, _, rfl, hy1, X.cl, X.n2, rfl, _, rfl, y, C, dy, _, _, rfl, hy1, X.cl, X.n3, rfl, by show 3 ≤ sizeLine; decide, fun t2 H2 s2 h2 => ?_⟩
      have kx := Kp.same (ex := fun _ => True) (s1.trans s2)
      refine ⟨fun _ => True, fun _ => True, trip ps ns us, trip qs ms ts, Dv.tupM ((Kp.same (ex := fun _ => True) s2).tup h1) (.cons (fx.da.kp kx) (.cons (fx.dp.kp kx) (.cons (fx.dv.kp kx) .nil))),
        Dv.tupM h2 (.cons (fy.da.kp kx) (.cons (fy.dp.kp kx) (.cons (fy.dv.kp kx) .nil))), shaped_trip fx.nP, shaped_trip fy.nP, ?_⟩
      rw [eqv_trip]
      exact q H2 (s1.trans s2)
    · refine ⟨_, rfl, _, _, _, _, _, rfl, .own C, .base (.lst hy), I.k2, _, rfl, iteT ?_⟩
      exact q
end
end Kx
namespace Kx
open PySem PySem.Spec PyProof.Rows L2
section
variable {P : Program} {w : World} {K : PySem.W.Frag} {mg : Str → Option Value} {base : Heap}
abbrev N_check_frame : List Str := ["frame"]
abbrev P_check_frame : List Str := ["frame"]
theorem sc_check_frame : FnScope N_check_frame P_check_frame (defScope s_check_frame) := ⟨rfl, rfl, rfl, by decide +kernel, rfl, by decide +kernel, by decide +kernel⟩
def spCF (C : Addr) : Sp := fun vs H Q _ => ∃ (x : Addr) (va vp vv : V) (ps : List (Str × Str)) (ns us : List Str), vs = [.ref x] ∧ FrameAt C H x va vp vv ps ns us ∧ Q .non H
theorem ok_cf (T : Bt mg) {C : Addr} (X : Fx K mg C) (I : Fi K C) (h : Has K mg "check_frame" s_check_frame) : Ca P w K mg base 1 "check_frame" P_check_frame (spCF C) := by
  refine cal_of h sc_check_frame (fun _ _ _ _ _ _ us hl => match us, hl with | [_], _ => rfl) (fun vs H Q E h => ?_) (fun f cdv A outer s H vs Q E hr h => ?_)
  · obtain ⟨x, va, vp, vv, ps, ns, us, rfl, _⟩ := h
    rfl
  · obtain ⟨x, va, vp, vv, ps, ns, us, rfl, fx, q⟩ := h
    refine ⟨_, (pss_one (ps_if (pt_not (pt_val (pe_callB call_isi (by rfl) T.isinstance (by decide +kernel) (pa_cons (pv 0) (pa_cons (pe_glob (v := .ref C) rfl X.mgC rfl) pa_nil))))) (pss_one ps_never) pss_nil)), ?_⟩
    obtain ⟨dx, LB, LT, KD, hx, _⟩ := id fx.ob
    refine ⟨_, rfl, _, _, _, _, _, rfl, .own C, .base (.ins hx X.cl I.ha I.hn I.ht I.hm), Fi.k1, _, rfl, iteF ?_⟩
    exact q
abbrev N_check_own_of_all : List Str := ["frame", "own"]
abbrev P_check_own_of_all : List Str := ["frame", "own"]
theorem sc_check_own_of_all : FnScope N_check_own_of_all P_check_own_of_all (defScope s_check_own_of_all) := ⟨rfl, rfl, rfl, by decide +kernel, rfl, by decide +kernel, by decide +kernel⟩
theorem strsD_map : ∀ ow : List Str, strsD (ow.map .str) = ow
  | [] => rfl
  | x :: r => by
    show x :: strsD (r.map .str) = x :: r
    rw [strsD_map r]
def OwnTup (ps : List (Str × Str)) (ns us ow : List Str) : Prop := ow ≠ [] ∧ ow.length ≤ 2 ∧ ow.Nodup ∧ ∀ z ∈ ow, NameS z ∧ ¬ z ∈ allN ps ns us
theorem OwnTup.own {ps : List (Str × Str)} {ns us ow : List Str} (h : OwnTup ps ns us ow) : ownD ps ns us (.tuple (ow.map .str)) = true := by
  obtain ⟨_, h1, h2, h3⟩ := h
  show (decide ((ow.map PyData.str).length ≤ 2) && ((ow.map PyData.str).all (freshD ps ns us) && decide ((strsD (ow.map .str)).Nodup))) = true
  have e := strsD_map ow
  rw [e, decide_eq_true h2, List.length_map, decide_eq_true h1, Bool.and_true, Bool.true_and, List.all_map]
  refine List.all_eq_true.mpr fun z hz => ?_
  show (decide (NameS z) && !decide (z ∈ allN ps ns us)) = true
  rw [decide_eq_true (h3 z hz).1, decide_eq_false (h3 z hz).2]
  rfl
theorem own_cost {ps : List (Str × Str)} {ns us ow : List Str} (h : OwnTup ps ns us ow) : cost (.tuple (ow.map .str)) ≤ 8000000 := by
  have := strs_cost fun z hz => (h.2.2.2 z hz).1
  have := h.2.1
  simp only [cost]
  omega
def spCO (C : Addr) : Sp := fun vs H Q _ => ∃ (x o : Addr) (va vp vv : V) (ps : List (Str × Str)) (ns us ow : List Str), vs = [.ref x, .ref o] ∧ FrameAt C H x va vp vv ps ns us ∧ TupF H o (ow.map V.str) ∧ OwnTup ps ns us ow ∧ ∀ H', Same H H' → Q .non H'
theorem ok_co (T : Bt mg) {C : Addr} (h : Has K mg "_check_own_of_all" s_check_own_of_all) (C2 : Ca P w K mg base 3 "are_own_names" P_are_own_names (spOwnD C)) : Ca P w K mg base 4 "_check_own_of_all" P_check_own_of_all (spCO C) := by
  obtain ⟨_, _, c_are_own_names⟩ := C2
  refine cal_of h sc_check_own_of_all (fun _ _ _ _ _ _ us hl => match us, hl with | [_, _], _ => rfl) (fun vs H Q E h => ?_) (fun f cdv A outer s H vs Q E hr h => ?_)
  · obtain ⟨x, o, va, vp, vv, ps, ns, us, ow, rfl, _⟩ := h
    rfl
  · obtain ⟨x, o, va, vp, vv, ps, ns, us, ow, rfl, fr, to, hw, k⟩ := h
    refine ⟨_, (pss_one (ps_if (PW.pt (pw_or (pt_not (pt_val (pe_call c_are_own_names.1 (hr.mono (by decide)) rfl c_are_own_names.2.1 c_are_own_names.2.2.1 c_are_own_names.2.2.2 .nil pass0 (pa_cons (pv 0) (pa_cons (pv 1) pa_nil))))) (pw_or1 (pt_cmpR op_eq (pe_callB call_len (by rfl) T.len (by decide +kernel) (pa_cons (pv 1) pa_nil)) pe_int (nomark _))))) (pss_one ps_never) pss_nil)), ?_⟩
    have dt : Dv (fun _ => False) H (.ref o) (.tuple (ow.map .str)) := Dv.tupM to (DvL.strs ow)
    refine ⟨_, rfl, _, rfl, (fun _ => False), x, va, vp, vv, _, _, ps, ns, us, rfl, fr, dt, own_cost hw, fun H1 s1 => ⟨_, rfl, ?_⟩⟩
    rw [hw.own]
    refine iteF ⟨_, rfl, _, _, rfl, .inr ⟨_, ((Kp.same (ex := fun _ => True) s1).tup to).sq, rfl⟩, rfl, _, rfl, ?_⟩
    have hne : ¬ V.int (((ow.map V.str).length : Nat) : Int) = V.int 0 := fun e => by
      injection e with e
      rw [List.length_map] at e
      exact hw.1 (List.length_eq_zero_iff.mp (by omega))
    rw [decide_eq_false hne]
    exact iteF (k _ s1)
abbrev N_is_claim : List Str := ["frame", "value"]
abbrev P_is_claim : List Str := ["frame", "value"]
theorem sc_is_claim : FnScope N_is_claim P_is_claim (defScope s_is_claim) := ⟨rfl, rfl, rfl, by decide +kernel, rfl, by decide +kernel, by decide +kernel⟩
def spIC (C : Addr) : Sp := fun vs H Q _ => ∃ (ex : Addr → Prop) (x : Addr) (va vp vv v : V) (d : PyData) (ps : List (Str × Str)) (ns us : List Str), vs = [.ref x, v] ∧ FrameAt C H x va vp vv ps ns us ∧ Dv ex H v d ∧ cost d ≤ 8000000 ∧ ∀ H', Same H H' → Q (.bl (okN ps ns us 12 ⟨"claim", [], d⟩)) H'
theorem ok_ic (T : Bt mg) {C G1 G2 : Addr} (S : Sh K mg G1 G2) (h : Has K mg "is_claim" s_is_claim) (C1 : Ca P w K mg base 1 "check_frame" P_check_frame (spCF C)) (C2 : Ca P w K mg base 8 "is_right" P_is_right (spIR C)) : Ca P w K mg base 9 "is_claim" P_is_claim (spIC C) := by
  obtain ⟨_, _, c_check_frame⟩ := C1
  obtain ⟨_, _, c_is_right⟩ := C2
  obtain ⟨_, gM⟩ := S.gM
  refine cal_of h sc_is_claim (fun _ _ _ _ _ _ us hl => match us, hl with | [_, _], _ => rfl) (fun vs H Q E h => ?_) (fun f cdv A outer s H vs Q E hr h => ?_)
  · obtain ⟨ex, x, va, vp, vv, v, d, ps, ns, us, rfl, _⟩ := h
    rfl
  · obtain ⟨ex, x, va, vp, vv, v, d, ps, ns, us, rfl, fr, dv, hc, k⟩ := h
    refine ⟨_, (pss_cons (ps_expr (pe_call c_check_frame.1 (hr.mono (by decide)) rfl c_check_frame.2.1 c_check_frame.2.2.1 c_check_frame.2.2.2 .nil pass0 (pa_cons (pv 0) pa_nil)))
      (pss_one (ps_ret (pe_call c_is_right.1 (hr.mono (by decide)) rfl c_is_right.2.1 c_is_right.2.2.1 c_is_right.2.2.2 .nil pass0 (pa_cons (pv 0) (pa_cons pe_str (pa_cons (pe_tupF pa_nil) (pa_cons (pv 1) (pa_cons (pe_glob (v := .int 12) rfl gM ⟨_, rfl⟩) pa_nil))))))))), ?_⟩
    refine ⟨_, rfl, x, va, vp, vv, ps, ns, us, rfl, fr, ?_⟩
    refine ⟨_, rfl, by show 0 ≤ sizeLine; exact Nat.zero_le _, fun o H1 s1 h1 => ⟨_, rfl, ?_⟩⟩
    exact ⟨ex, x, o, va, vp, vv, v, .int 12, "claim", d, ps, ns, us, [], 12, rfl, fr.same s1, h1, dv.kp (Kp.same s1), hc, .inr rfl, fun H2 s2 => k _ (s1.trans s2)⟩
abbrev N_is_guard : List Str := ["frame", "own", "value"]
abbrev P_is_guard : List Str := ["frame", "own", "value"]
theorem sc_is_guard : FnScope N_is_guard P_is_guard (defScope s_is_guard) := ⟨rfl, rfl, rfl, by decide +kernel, rfl, by decide +kernel, by decide +kernel⟩
def spIG (C : Addr) (role : Str) : Sp := fun vs H Q _ => ∃ (ex : Addr → Prop) (x o : Addr) (va vp vv v : V) (d : PyData) (ps : List (Str × Str)) (ns us ow : List Str), vs = [.ref x, .ref o, v] ∧ FrameAt C H x va vp vv ps ns us ∧ TupF H o (ow.map V.str) ∧ OwnTup ps ns us ow ∧ Dv ex H v d ∧ cost d ≤ 8000000 ∧ ∀ H', Same H H' → Q (.bl (okN ps ns us (d.depth + 1) ⟨role, ow, d⟩)) H'
theorem ok_ig (T : Bt mg) {C : Addr} (h : Has K mg "is_guard" s_is_guard) (C1 : Ca P w K mg base 1 "check_frame" P_check_frame (spCF C)) (C3 : Ca P w K mg base 4 "_check_own_of_all" P_check_own_of_all (spCO C)) (C2 : Ca P w K mg base 8 "is_right" P_is_right (spIR C)) : Ca P w K mg base 9 "is_guard" P_is_guard (spIG C "guard") := by
  obtain ⟨_, _, c_check_frame⟩ := C1
  obtain ⟨_, _, c_is_right⟩ := C2
  obtain ⟨_, _, c__check_own_of_all⟩ := C3
  refine cal_of h sc_is_guard (fun _ _ _ _ _ _ us hl => match us, hl with | [_, _, _], _ => rfl) (fun vs H Q E h => ?_) (fun f cdv A outer s H vs Q E hr h => ?_)
  · obtain ⟨ex, x, o, va, vp, vv, v, d, ps, ns, us, ow, rfl, _⟩ := h
    rfl
  · obtain ⟨ex, x, o, va, vp, vv, v, d, ps, ns, us, ow, rfl, fr, to, hw, dv, hc, k⟩ := h
    refine ⟨_, (pss_cons (ps_expr (pe_call c_check_frame.1 (hr.mono (by decide)) rfl c_check_frame.2.1 c_check_frame.2.2.1 c_check_frame.2.2.2 .nil pass0 (pa_cons (pv 0) pa_nil)))
      (pss_cons (ps_expr (pe_call c__check_own_of_all.1 (hr.mono (by decide)) rfl c__check_own_of_all.2.1 c__check_own_of_all.2.2.1 c__check_own_of_all.2.2.2 .nil pass0 (pa_cons (pv 0) (pa_cons (pv 1) pa_nil))))
      (pss_one (ps_ret (pe_call c_is_right.1 (hr.mono (by decide)) rfl c_is_right.2.1 c_is_right.2.2.1 c_is_right.2.2.2 .nil pass0 (pa_cons (pv 0) (pa_cons pe_str (pa_cons (pv 1) (pa_cons (pv 2) (pa_cons pe_non pa_nil)))))))))), ?_⟩
    refine ⟨_, rfl, x, va, vp, vv, ps, ns, us, rfl, fr, ?_⟩
    refine ⟨_, rfl, _, rfl, x, o, va, vp, vv, ps, ns, us, ow, rfl, fr, to, hw, fun H1 s1 => ?_⟩
    refine ⟨_, rfl, _, rfl, _, rfl, ?_⟩
    exact ⟨ex, x, o, va, vp, vv, v, .non, "guard", d, ps, ns, us, ow, _, rfl, fr.same s1, (Kp.same (ex := ex) s1).tup to, dv.kp (Kp.same s1), hc, .inl ⟨rfl, rfl⟩, fun H2 s2 => k _ (s1.trans s2)⟩
abbrev N_is_body : List Str := ["frame", "own", "value"]
abbrev P_is_body : List Str := ["frame", "own", "value"]
theorem sc_is_body : FnScope N_is_body P_is_body (defScope s_is_body) := ⟨rfl, rfl, rfl, by decide +kernel, rfl, by decide +kernel, by decide +kernel⟩
theorem ok_ib (T : Bt mg) {C : Addr} (h : Has K mg "is_body" s_is_body) (C1 : Ca P w K mg base 1 "check_frame" P_check_frame (spCF C)) (C3 : Ca P w K mg base 4 "_check_own_of_all" P_check_own_of_all (spCO C)) (C2 : Ca P w K mg base 8 "is_right" P_is_right (spIR C)) : Ca P w K mg base 9 "is_body" P_is_body (spIG C "body") := by
  obtain ⟨_, _, c_check_frame⟩ := C1
  obtain ⟨_, _, c_is_right⟩ := C2
  obtain ⟨_, _, c__check_own_of_all⟩ := C3
  refine cal_of h sc_is_body (fun _ _ _ _ _ _ us hl => match us, hl with | [_, _, _], _ => rfl) (fun vs H Q E h => ?_) (fun f cdv A outer s H vs Q E hr h => ?_)
  · obtain ⟨ex, x, o, va, vp, vv, v, d, ps, ns, us, ow, rfl, _⟩ := h
    rfl
  · obtain ⟨ex, x, o, va, vp, vv, v, d, ps, ns, us, ow, rfl, fr, to, hw, dv, hc, k⟩ := h
    refine ⟨_, (pss_cons (ps_expr (pe_call c_check_frame.1 (hr.mono (by decide)) rfl c_check_frame.2.1 c_check_frame.2.2.1 c_check_frame.2.2.2 .nil pass0 (pa_cons (pv 0) pa_nil)))
      (pss_cons (ps_expr (pe_call c__check_own_of_all.1 (hr.mono (by decide)) rfl c__check_own_of_all.2.1 c__check_own_of_all.2.2.1 c__check_own_of_all.2.2.2 .nil pass0 (pa_cons (pv 0) (pa_cons (pv 1) pa_nil))))
      (pss_one (ps_ret (pe_call c_is_right.1 (hr.mono (by decide)) rfl c_is_right.2.1 c_is_right.2.2.1 c_is_right.2.2.2 .nil pass0 (pa_cons (pv 0) (pa_cons pe_str (pa_cons (pv 1) (pa_cons (pv 2) (pa_cons pe_non pa_nil)))))))))), ?_⟩
    refine ⟨_, rfl, x, va, vp, vv, ps, ns, us, rfl, fr, ?_⟩
    refine ⟨_, rfl, _, rfl, x, o, va, vp, vv, ps, ns, us, ow, rfl, fr, to, hw, fun H1 s1 => ?_⟩
    refine ⟨_, rfl, _, rfl, _, rfl, ?_⟩
    exact ⟨ex, x, o, va, vp, vv, v, .non, "body", d, ps, ns, us, ow, _, rfl, fr.same s1, (Kp.same (ex := ex) s1).tup to, dv.kp (Kp.same s1), hc, .inl ⟨rfl, rfl⟩, fun H2 s2 => k _ (s1.trans s2)⟩
abbrev N_check_claim : List Str := ["frame", "claim"]
abbrev P_check_claim : List Str := ["frame", "claim"]
theorem sc_check_claim : FnScope N_check_claim P_check_claim (defScope s_check_claim) := ⟨rfl, rfl, rfl, by decide +kernel, rfl, by decide +kernel, by decide +kernel⟩
def spCC (C : Addr) : Sp := fun vs H Q _ => ∃ (ex : Addr → Prop) (x : Addr) (va vp vv v : V) (d : PyData) (ps : List (Str × Str)) (ns us : List Str), vs = [.ref x, v] ∧ FrameAt C H x va vp vv ps ns us ∧ Dv ex H v d ∧ cost d ≤ 8000000 ∧ okN ps ns us 12 ⟨"claim", [], d⟩ = true ∧ ∀ H', Same H H' → Q .non H'
theorem ok_cc (T : Bt mg) {C G1 G2 : Addr} (S : Sh K mg G1 G2) (h : Has K mg "check_claim" s_check_claim) (C2 : Ca P w K mg base 8 "is_right" P_is_right (spIR C)) : Ca P w K mg base 9 "check_claim" P_check_claim (spCC C) := by
  obtain ⟨_, _, c_is_right⟩ := C2
  obtain ⟨_, gM⟩ := S.gM
  refine cal_of h sc_check_claim (fun _ _ _ _ _ _ us hl => match us, hl with | [_, _], _ => rfl) (fun vs H Q E h => ?_) (fun f cdv A outer s H vs Q E hr h => ?_)
  · obtain ⟨ex, x, va, vp, vv, v, d, ps, ns, us, rfl, _⟩ := h
    rfl
  · obtain ⟨ex, x, va, vp, vv, v, d, ps, ns, us, rfl, fr, dv, hc, ho, k⟩ := h
    refine ⟨_, (pss_one (ps_if (pt_not (pt_val (pe_call c_is_right.1 (hr.mono (by decide)) rfl c_is_right.2.1 c_is_right.2.2.1 c_is_right.2.2.2 .nil pass0 (pa_cons (pv 0) (pa_cons pe_str (pa_cons (pe_tupF pa_nil) (pa_cons (pv 1) (pa_cons (pe_glob (v := .int 12) rfl gM ⟨_, rfl⟩) pa_nil)))))))) (pss_one ps_never) pss_nil)), ?_⟩
    refine ⟨_, rfl, by show 0 ≤ sizeLine; exact Nat.zero_le _, fun o H1 s1 h1 => ⟨_, rfl, ?_⟩⟩
    refine ⟨ex, x, o, va, vp, vv, v, .int 12, "claim", d, ps, ns, us, [], 12, rfl, fr.same s1, h1, dv.kp (Kp.same s1), hc, .inr rfl, fun H2 s2 => ⟨_, rfl, ?_⟩⟩
    rw [ho]
    exact iteF (k _ (s1.trans s2))
end
end Kx
namespace Kx
open PySem PySem.Spec PyProof.Rows L2
def partsC : PyData → List PyData
  | .tuple (w :: rest) => if eqS "not" w then rest else if eqS "all" w then rest.drop 1 else if strInD ["and", "or"] w then itemsD (rest.getD 0 .none) else []
  | _ => []
/-- how many levels a list of claims has, at most k -/
def lvF (ps : List (Str × Str)) (ns us : List Str) : Nat → List Nd → Nat
  | 0, _ => 0
  | k + 1, ls => if ls.isEmpty then 0 else 1 + lvF ps ns us k (nxt ps ns us ls)
theorem atom_word {ps : List (Str × Str)} {ns us : List Str} {role : Str} {ow : List Str} {w op a b : PyData} (h : atomD ps ns us role ow w op a b = true) : eqS "pos" w = true ∨ eqS "val" w = true := by
  unfold atomD at h
  split at h
  · exact .inl (and_l h)
  · split at h
    · split at h
      · rename_i h2
        exact .inr h2
      · exact .inl (and_l (and_r h))
    · cases h
theorem eqS_str {z : Str} {d : PyData} (h : eqS z d = true) : d = .str z := by
  cases d with
  | str w => rw [show w = z from of_decide_eq_true h]
  | _ => cases h
/-- what is needed of a claim are its parts -/
theorem need_parts {ps : List (Str × Str)} {ns us : List Str} {n : Nd} {l : List Nd} (h : needD ps ns us n = some l) : l.map (·.d) = partsC n.d ∧ ∃ w rest, n.d = .tuple (w :: rest) ∧ (eqS "not" w = false → eqS "all" w = false → strInD ["and", "or"] w = true → ∃ es r, rest = .tuple es :: r) ∧ (eqS "not" w = false → eqS "all" w = true → 1 ≤ rest.length) := by
  obtain ⟨role, ow, d⟩ := n
  unfold needD at h
  dsimp only at h
  split at h
  · rename_i a b
    unfold needTwo at h
    split at h
    · rename_i h1
      cases h
      refine ⟨?_, a, [b], rfl, fun e => absurd ((and_l h1).symm.trans e) (by decide), fun e => absurd ((and_l h1).symm.trans e) (by decide)⟩
      show [b] = (if eqS "not" a then [b] else _)
      rw [and_l h1, if_pos rfl]
    · split at h
      · rename_i h1 h2
        cases h
        obtain ⟨ds, rfl⟩ : ∃ ds, b = .tuple ds := by
          have := and_r h2
          cases b <;> first | exact ⟨_, rfl⟩ | (cases this; done)
        have n1 : eqS "not" a = false ∧ eqS "all" a = false := by
          have h3 := and_l h2
          cases a with
          | str z =>
            have h3 : z ∈ (["and", "or"] : List Str) := of_decide_eq_true h3
            simp only [List.mem_cons, List.not_mem_nil, or_false] at h3
            rcases h3 with rfl | rfl <;> exact ⟨by decide +kernel, by decide +kernel⟩
          | _ => cases h3
        refine ⟨?_, a, [.tuple ds], rfl, fun _ _ _ => ⟨ds, [], rfl⟩, fun _ e => absurd (n1.2.symm.trans e) (by decide)⟩
        show (List.map (fun p => (⟨role, ow, p⟩ : Nd)) ds).map (·.d) = (if eqS "not" a then [.tuple ds] else if eqS "all" a then ([PyData.tuple ds]).drop 1 else if strInD ["and", "or"] a then ds else [])
        rw [n1.1, n1.2, and_l h2, if_neg (by decide), if_neg (by decide), if_pos rfl, List.map_map]
        exact List.map_id _
      · cases h
  · rename_i a b c e
    unfold needFour at h
    split at h
    · rename_i ha
      have ea := eqS_str ha
      subst ea
      split at h
      · cases h
        refine ⟨?_, _, _, rfl, fun _ e => absurd (ha.symm.trans e) (by decide), fun _ _ => Nat.le_add_left _ _⟩
        show [c, e] = (if eqS "not" (.str "all") then [b, c, e] else if eqS "all" (.str "all") then [b, c, e].drop 1 else if strInD ["and", "or"] (.str "all") then itemsD b else [])
        rw [show eqS "not" (.str "all") = false by decide +kernel, ha]
        rfl
      · cases h
    · rename_i ha
      split at h
      · rename_i hat
        cases h
        have n1 : eqS "not" a = false ∧ eqS "all" a = false ∧ strInD ["and", "or"] a = false := by
          rcases atom_word hat with h | h
          · rw [eqS_str h]; exact ⟨by decide +kernel, by decide +kernel, by decide +kernel⟩
          · rw [eqS_str h]; exact ⟨by decide +kernel, by decide +kernel, by decide +kernel⟩
        refine ⟨?_, a, [b, c, e], rfl, fun _ _ e2 => absurd (n1.2.2.symm.trans e2) (by decide), fun _ e2 => absurd (n1.2.1.symm.trans e2) (by decide)⟩
        show [] = (if eqS "not" a then [b, c, e] else if eqS "all" a then [b, c, e].drop 1 else if strInD ["and", "or"] a then itemsD b else [])
        rw [n1.1, n1.2.1, n1.2.2, if_neg (by decide), if_neg (by decide), if_neg (by decide)]
      · cases h
  · cases h
section
variable {P : Program} {w : World} {K : PySem.W.Frag} {mg : Str → Option Value} {base : Heap}
abbrev N_parts_of : List Str := ["claim", "word"]
abbrev P_parts_of : List Str := ["claim"]
theorem sc_parts_of : FnScope N_parts_of P_parts_of (defScope s_parts_of) := ⟨rfl, rfl, rfl, by decide +kernel, rfl, by decide +kernel, by decide +kernel⟩
def spPO : Sp := fun vs H Q _ => ∃ (ex : Addr → Prop) (v : V) (d w0 : PyData) (rest : List PyData), vs = [v] ∧ Dv ex H v d ∧ d = .tuple (w0 :: rest) ∧ (eqS "not" w0 = false → eqS "all" w0 = false → strInD ["and", "or"] w0 = true → ∃ es r, rest = .tuple es :: r) ∧
  ∀ (t : Addr) (xs : List V) (H' : Hp), Same H H' → TupF H' t xs → DvL ex H' xs (partsC d) → Q (.ref t) H'
theorem ok_po (T : Bt mg) (h : Has K mg "parts_of" s_parts_of) : Ca P w K mg base 1 "parts_of" P_parts_of spPO := by
  refine cal_of h sc_parts_of (fun _ _ _ _ _ _ us hl => match us, hl with | [_], _ => rfl) (fun vs H Q E h => ?_) (fun f cdv A outer s H vs Q E hr h => ?_)
  · obtain ⟨ex, v, d, w0, rest, rfl, _⟩ := h
    rfl
  · obtain ⟨ex, v, d, w0, rest, rfl, dv, rfl, hs, k⟩ := h
    refine ⟨_, (pss_cons (ps_set (i := 1) sc_parts_of.nd rfl (.inl rfl) (pe_ix ix_tup (pv 0) pe_int (fun _ _ => rfl)))
      (pss_cons (ps_if (pt_cmpR (op_eqA (hu_of hr)) (pv 1) pe_str (nomark _)) (pss_one (ps_ret (pe_slice sl_tupF (pv 0) (po_some pe_int) po_none))) pss_nil)
      (pss_cons (ps_if (pt_cmpR (op_eqA (hu_of hr)) (pv 1) pe_str (nomark _)) (pss_one (ps_ret (pe_slice sl_tupF (pv 0) (po_some pe_int) po_none))) pss_nil)
      (pss_one (ps_ret (pe_ifExp (pt_cmpR (op_inS (hu_of hr)) (pv 1) (pe_tupF (pa_cons pe_str (pa_cons pe_str pa_nil))) rfl) (pe_ix ix_tup (pv 0) pe_int (fun _ _ => rfl)) (pe_tupF pa_nil))))))), ?_⟩
    have k : ∀ (t : Addr) (xs : List V) (H' : Hp), Same H H' → TupF H' t xs → DvL ex H' xs (if eqS "not" w0 then rest else if eqS "all" w0 then rest.drop 1 else if strInD ["and", "or"] w0 then itemsD (rest.getD 0 .none) else []) → Q (.ref t) H' := k
    obtain ⟨a, xs, rfl, ht, dl⟩ := dv.tupI
    cases dl with
    | @cons v0 vr _ _ d0 dr =>
    have sq : SqT K H a (v0 :: vr) := ht.sq
    refine ⟨_, rfl, a, _, 0, v0, rfl, rfl, sq, atI_nat (show (v0 :: vr)[0]? = some v0 from rfl), ?_⟩
    refine ⟨_, rfl, ex, w0, _, rfl, d0, _, rfl, ?_⟩
    cases e1 : eqS "not" w0 with
    | true =>
      rw [e1, if_pos rfl] at k
      refine iteT ⟨_, rfl, _, rfl, a, _, rfl, ht, fun t H1 s1 h1 => ?_⟩
      rw [cut_drop _ _ (by decide)] at h1
      exact k t _ H1 s1 h1 (dr.kp (Kp.same s1))
    | false =>
      rw [e1, if_neg (by decide)] at k
      refine iteF ⟨_, rfl, ex, w0, _, rfl, d0, _, rfl, ?_⟩
      cases e2 : eqS "all" w0 with
      | true =>
        rw [e2, if_pos rfl] at k
        refine iteT ⟨_, rfl, _, rfl, a, _, rfl, ht, fun t H1 s1 h1 => ?_⟩
        rw [cut_drop _ _ (by decide)] at h1
        exact k t _ H1 s1 h1 ((dr.drop 1).kp (Kp.same s1))
      | false =>
        rw [e2, if_neg (by decide)] at k
        refine iteF ⟨_, rfl, by show 2 ≤ sizeLine; decide, fun t1 H1 s1 h1 => ?_⟩
        have h1' : TupF H1 t1 ((["and", "or"] : List Str).map V.str) := h1
        refine ⟨ex, t1, _, w0, rfl, h1'.sq, d0.kp (Kp.same s1), _, rfl, ?_⟩
        cases e3 : strInD ["and", "or"] w0 with
        | true =>
          rw [e3, if_pos rfl] at k
          obtain ⟨es, r, rfl⟩ := hs e1 e2 e3
          cases dr with
          | @cons v1 vr2 _ _ d1 dr2 =>
          obtain ⟨b, ys, rfl, hb, dlb⟩ := d1.tupI
          have sq1 : SqT K H1 a (v0 :: .ref b :: vr2) := ((Kp.same (ex := ex) s1).tup ht).sq
          exact iteT ⟨_, rfl, a, _, 1, .ref b, rfl, rfl, sq1, atI_nat (show (v0 :: .ref b :: vr2)[1]? = some (.ref b) from rfl), k b ys H1 s1 ((Kp.same (ex := ex) s1).tup hb) (dlb.kp (Kp.same s1))⟩
        | false =>
          rw [e3, if_neg (by decide)] at k
          refine iteF ⟨by show 0 ≤ sizeLine; exact Nat.zero_le _, fun t2 H2 s2 h2 => ?_⟩
          exact k t2 [] H2 (s1.trans s2) h2 .nil
end
end Kx
namespace Kx
open PySem PySem.Spec PyProof.Rows L2
theorem ok_some {ps : List (Str × Str)} {ns us : List Str} {k : Nat} {n : Nd} (h : okN ps ns us (k + 1) n = true) : ∃ l, needD ps ns us n = some l ∧ l.all (okN ps ns us k) = true := by
  have h : (match needD ps ns us n with | none => false | some l => l.all (okN ps ns us k)) = true := h
  cases q : needD ps ns us n with
  | none => rw [q] at h; cases h
  | some l => rw [q] at h; exact ⟨l, rfl, h⟩
theorem all_any {ps : List (Str × Str)} {ns us : List Str} {k : Nat} : ∀ {ls : List Nd}, ls.all (okN ps ns us (k + 1)) = true → (ls.any fun n => (needD ps ns us n).isNone) = false
  | [], _ => rfl
  | n :: r, h => by
    have h : (okN ps ns us (k + 1) n && r.all (okN ps ns us (k + 1))) = true := h
    obtain ⟨l, q, _⟩ := ok_some (and_l h)
    show ((needD ps ns us n).isNone || r.any fun n => (needD ps ns us n).isNone) = false
    rw [q, all_any (and_r h)]
    rfl
theorem nxt_parts {ps : List (Str × Str)} {ns us : List Str} {k : Nat} : ∀ {ls : List Nd}, ls.all (okN ps ns us (k + 1)) = true → (nxt ps ns us ls).map (·.d) = ls.flatMap fun n => partsC n.d
  | [], _ => rfl
  | n :: r, h => by
    have h : (okN ps ns us (k + 1) n && r.all (okN ps ns us (k + 1))) = true := h
    obtain ⟨l, q, _⟩ := ok_some (and_l h)
    have ih := nxt_parts (and_r h)
    unfold nxt at ih ⊢
    rw [List.flatMap_cons, List.flatMap_cons, List.map_append, ih, q]
    rw [show (some l).getD [] = l from rfl, (need_parts q).1]
section
variable {P : Program} {w : World} {K : PySem.W.Frag} {mg : Str → Option Value} {base : Heap}
abbrev N_claim_depth : List Str := ["frame", "claim", "depth", "level", "upper", "part"]
abbrev P_claim_depth : List Str := ["frame", "claim"]
theorem sc_claim_depth : FnScope N_claim_depth P_claim_depth (defScope s_claim_depth) := ⟨rfl, rfl, rfl, by decide +kernel, rfl, by decide +kernel, by decide +kernel⟩
def spCD (C : Addr) : Sp := fun vs H Q _ => ∃ (ex : Addr → Prop) (x : Addr) (va vp vv v : V) (d : PyData) (ps : List (Str × Str)) (ns us : List Str), vs = [.ref x, v] ∧ FrameAt C H x va vp vv ps ns us ∧ Dv ex H v d ∧ cost d ≤ 8000000 ∧ okN ps ns us 12 ⟨"claim", [], d⟩ = true ∧ ∀ H', Same H H' → Q (.int ((lvF ps ns us 12 [⟨"claim", [], d⟩] : Nat) : Int)) H'
theorem ok_cd (T : Bt mg) {C : Addr} (h : Has K mg "claim_depth" s_claim_depth) (C1 : Ca P w K mg base 1 "check_frame" P_check_frame (spCF C)) (C2 : Ca P w K mg base 9 "check_claim" P_check_claim (spCC C)) (C3 : Ca P w K mg base 1 "parts_of" P_parts_of spPO) : Ca P w K mg base 10 "claim_depth" P_claim_depth (spCD C) := by
  obtain ⟨_, _, c_check_frame⟩ := C1
  obtain ⟨_, _, c_check_claim⟩ := C2
  obtain ⟨_, _, c_parts_of⟩ := C3
  refine cal_of h sc_claim_depth (fun _ _ _ _ _ _ us hl => match us, hl with | [_, _], _ => rfl) (fun vs H Q E h => ?_) (fun f cdv A outer s H vs Q E hr h => ?_)
  · obtain ⟨ex, x, va, vp, vv, v, d, ps, ns, us, rfl, _⟩ := h
    rfl
  · obtain ⟨ex, x, va, vp, vv, v, d, ps, ns, us, rfl, fr, dv, hc, ho, k⟩ := h
    refine ⟨_, (pss_cons (ps_expr (pe_call c_check_frame.1 (hr.mono (by decide)) rfl c_check_frame.2.1 c_check_frame.2.2.1 c_check_frame.2.2.2 .nil pass0 (pa_cons (pv 0) pa_nil)))
      (pss_cons (ps_expr (pe_call c_check_claim.1 (hr.mono (by decide)) rfl c_check_claim.2.1 c_check_claim.2.2.1 c_check_claim.2.2.2 .nil pass0 (pa_cons (pv 0) (pa_cons (pv 1) pa_nil))))
      (pss_cons (ps_set (i := 2) sc_claim_depth.nd rfl (.inl rfl) pe_int)
      (pss_cons (ps_set (i := 3) sc_claim_depth.nd rfl (.inl rfl) (pe_lst (pa_cons (pv 1) pa_nil)))
      (pss_cons (ps_while PassesOwn.never (pt_truth (pv 3) (by intro _; rfl))
        (pss_cons (ps_aug (i := 2) sc_claim_depth.nd rfl (.inl rfl) pe_int ip_add)
        (pss_one (ps_setLc2 (i := 3) (own := [("upper", 4), ("part", 5)]) (vs1 := [5]) (g := gName 4) (g1 := gName 5) (tt := tYes) (tt1 := tYes) (by rfl) sc_claim_depth.nd rfl rfl (sw_true rfl rfl rfl (by decide +kernel)) (pi_list (pv 3)) (blkOk_by (own := [("upper", 4), ("part", 5)]) (N := ["frame", "claim", "depth", "level", "upper", "part"]) (sc := defScope s_claim_depth) (by decide +kernel)) (by decide) (fun _ _ _ _ _ => pg_name (i := 4) sc_claim_depth.nd rfl (Or.inl rfl)) (fun _ _ _ _ _ => pts_nil) (fun _ _ _ _ _ => (show PI _ _ _ (iTup K (tCall spPO [] E0 (tCons (tVar 4) tNil))) from pi_tup (pe_call c_parts_of.1 (hr.mono (by decide)) rfl c_parts_of.2.1 c_parts_of.2.2.1 c_parts_of.2.2.2 .nil pass0 (pa_cons (pv 4) pa_nil)))) (fun _ _ _ _ _ => pg_name (i := 5) sc_claim_depth.nd rfl (Or.inl rfl)) (fun _ _ _ _ _ => pts_nil) (fun _ _ _ _ _ => pv 5)))))
      (pss_one (ps_ret (pv 2)))))))), ?_⟩
    refine ⟨_, rfl, x, va, vp, vv, ps, ns, us, rfl, fr, ?_⟩
    refine ⟨_, rfl, _, rfl, ex, x, va, vp, vv, v, d, ps, ns, us, rfl, fr, dv, hc, ho, fun H1 s1 => ?_⟩
    refine ⟨_, rfl, by show 1 ≤ sizeLine; decide, fun L hL => ?_⟩
    have s2 := s1.trans (Same.upd hL (o := .lst [v]))
    have hL2 : (upd H1 L (.lst [v])) L = some (.lst [v]) := upd_same
    generalize upd H1 L (.lst [v]) = H2 at s2 hL2 ⊢
    clear hL s1
    refine ⟨fun fu σ G => ∃ (L : Addr) (xs : List V) (ls : List Nd) (kd : Nat), σ = [some (.ref x), some v, some (.int kd), some (.ref L), none, none] ∧ Same H G ∧ G L = some (.lst xs) ∧ DvL ex G xs (ls.map (·.d)) ∧ costN ls ≤ 8000002 ∧ ls.all (okN ps ns us fu) = true ∧ kd + lvF ps ns us fu ls = lvF ps ns us 12 [⟨"claim", [], d⟩],
      ⟨12, L, _, [⟨"claim", [], d⟩], 0, rfl, s2, hL2, .cons (dv.kp (Kp.same s2)) .nil, by simp only [costN]; omega, by rw [List.all_cons, ho]; rfl, Nat.zero_add _⟩, ?_⟩
    rintro fu σ G ⟨L, xs, ls, kd, rfl, sG, hLs, dvl, hcs, hall, hlv⟩
    have hlen := dvl.len
    rw [List.length_map] at hlen
    refine ⟨_, rfl, _, .inl ⟨xs, SqL.of hLs, rfl⟩, ?_⟩
    cases hxs : xs with
    | nil =>
      rw [hxs] at hlen
      have e0 : ls = [] := List.length_eq_zero_iff.mp hlen.symm
      have e1 : lvF ps ns us fu ls = 0 := by
        rw [e0]
        cases fu <;> rfl
      have := k G sG
      rw [← hlv, e1, Nat.add_zero] at this
      exact iteF ⟨_, rfl, this⟩
    | cons x0 xr =>
      rw [← hxs]
      have hne : ls ≠ [] := fun e => by rw [e, hxs] at hlen; cases hlen
      rw [show (!xs.isEmpty) = true by rw [hxs]; rfl]
      refine iteT ⟨_, fun σ' H' hN => hN, ?_⟩
      have hf0 : fu ≠ 0 := fun e => by
        rw [e] at hall
        cases ls with
        | nil => exact hne rfl
        | cons n r => cases hall
      obtain ⟨f', rfl⟩ := Nat.exists_eq_succ_of_ne_zero hf0
      have hany := all_any hall
      have hnp := nxt_parts hall
      have lc := costN_len (nxt ps ns us ls)
      have nc := nxt_cost (ps := ps) (ns := ns) (us := us) ls
      have hlx : (ls.flatMap fun n => partsC n.d).length ≤ 4000001 := by
        rw [← hnp, List.length_map]
        omega
      have short : ∀ i : Nat, ((ls.take i).flatMap fun n => partsC n.d).length ≤ (ls.flatMap fun n => partsC n.d).length := fun i => by
        have e : (ls.flatMap fun n => partsC n.d) = ((ls.take i).flatMap fun n => partsC n.d) ++ ((ls.drop i).flatMap fun n => partsC n.d) := by rw [← List.flatMap_append, List.take_append_drop]
        rw [e, List.length_append]
        omega
      refine ⟨_, rfl, _, _, rfl, rfl, ⟨_, rfl, L, rfl, ⟨_, SqL.of hLs⟩, fun D hD => out_it (walk_list (K := K) (a := L) (xs := xs)) (fun i H => Same G H ∧ ∃ acc, H D = some (.lst acc) ∧ DvL (fun a => ex a ∨ a = D) H acc ((ls.take i).flatMap fun n => partsC n.d)) ⟨Same.upd hD, [], upd_same, .nil⟩ (fun i H _ h => SqL.of (h.1 _ _ hLs)) ?_ ?_ (fun _ _ _ _ h => h)⟩⟩
      · rintro i y Ha Hb Nx hi ⟨sa, acc, hDa, dacc⟩ ⟨rfl, hy⟩ hnx
        obtain ⟨dd, hdd, dvy⟩ := dvl.get hy
        rw [List.getElem?_map] at hdd
        cases hn : ls[i]? with
        | none => rw [hn] at hdd; cases hdd
        | some n =>
        rw [hn] at hdd
        cases hdd
        have okn : okN ps ns us (f' + 1) n = true := List.all_eq_true.mp hall n (List.mem_of_getElem? hn)
        obtain ⟨l, q, _⟩ := ok_some okn
        obtain ⟨_, w0, rest, ed, hs, _⟩ := need_parts q
        have e1 : ((ls.take (i + 1)).flatMap fun n => partsC n.d) = ((ls.take i).flatMap fun n => partsC n.d) ++ partsC n.d := by
          rw [List.take_succ, hn, List.flatMap_append]
          simp
        refine ⟨rfl, yes ⟨_, rfl, (fun a => ex a ∨ a = D), y, n.d, w0, rest, rfl, (dvy.off hD).kp (Kp.same sa), ed, hs, fun t ys Hc sc tc dc => ⟨t, rfl, ⟨_, tc.sq⟩, in_it (walk_tup (K := K) (a := t) (xs := ys)) (fun j H => Same G H ∧ TupF H t ys ∧ DvL (fun a => ex a ∨ a = D) H ys (partsC n.d) ∧ H D = some (.lst (acc ++ ys.take j)) ∧ DvL (fun a => ex a ∨ a = D) H acc ((ls.take i).flatMap fun n => partsC n.d)) ⟨sa.trans sc, tc, dc, by rw [sc _ _ hDa]; simp, dacc.kp (Kp.same sc)⟩ (fun j H _ h => h.2.1.sq) ?_ ?_⟩⟩⟩
        · rintro j z Hd He hj ⟨sd, td, dd, hDd, da⟩ ⟨rfl, hz⟩
          have kd : Kp (fun a => ex a ∨ a = D) He (upd He D (.lst (acc ++ ys.take j ++ [z]))) := Kp.at (.inr rfl) hDd
          refine ⟨rfl, yes ⟨_, rfl, _, hDd, ?_, ?_, kd.tup td, dd.kp kd, ?_, da.kp kd⟩⟩
          · have h1 := short (i + 1)
            rw [e1, List.length_append] at h1
            have h2 := da.len
            have h3 := dd.len
            rw [List.length_append, List.length_take, sizeLine_eq]
            omega
          · intro b oo e
            rw [upd_ne (ne_of_none e hD)]
            exact sd b oo e
          · rw [upd_same, List.take_succ, hz]
            simp
        · rintro H5 ⟨s5, t5, d5, hD5, da5⟩
          refine hnx H5 ⟨s5, acc ++ ys, by rw [hD5, List.take_length], ?_⟩
          rw [e1]
          exact da5.app d5
      · rintro H5 ⟨s5, acc, hD5, da5⟩
        have e2 : ls.take xs.length = ls := by rw [hlen, List.take_length]
        rw [e2, ← hnp] at da5
        refine ⟨f', Nat.lt_succ_self _, D, acc, nxt ps ns us ls, kd + 1, rfl, sG.trans s5, hD5, da5.mono Kp.refl fun a h => .inl h, by omega, ?_, ?_⟩
        · rw [← all_step hany]
          exact hall
        · rw [← hlv]
          show kd + 1 + lvF ps ns us f' (nxt ps ns us ls) = kd + (if ls.isEmpty then 0 else 1 + lvF ps ns us f' (nxt ps ns us ls))
          rw [if_neg (by cases ls with | nil => exact absurd rfl hne | cons _ _ => exact fun h => by cases h)]
          omega
end
end Kx
namespace Kx
open PySem PySem.Spec PyProof.Rows L2
abbrev letB (ps : List (Str × Str)) (ns us : List Str) : Bool := frameD (.tuple (ps.map pairD)) (.tuple (ns.map .str)) (.tuple (us.map .str))
/-- the tuples of three parts -/
structure Prt (H : Hp) (wa wp wv : V) (qs : List (Str × Str)) (ms ts : List Str) : Prop where
  a : Dv All H wa (.tuple (qs.map pairD))
  p : Dv All H wp (.tuple (ms.map .str))
  v : Dv All H wv (.tuple (ts.map .str))
  l1 : qs.length ≤ 1000
  l2 : ms.length ≤ 1000
  l3 : ts.length ≤ 1000
  nm : Names qs ms ts
theorem Prt.kp {ex : Addr → Prop} {H H' : Hp} {wa wp wv : V} {qs : List (Str × Str)} {ms ts : List Str} (h : Prt H wa wp wv qs ms ts) (k : Kp ex H H') : Prt H' wa wp wv qs ms ts := ⟨h.a.kp k.all, h.p.kp k.all, h.v.kp k.all, h.l1, h.l2, h.l3, h.nm⟩
theorem FrameAt.prt {C x : Addr} {H : Hp} {va vp vv : V} {ps : List (Str × Str)} {ns us : List Str} (h : FrameAt C H x va vp vv ps ns us) : Prt H va vp vv ps ns us := ⟨h.da, h.dp, h.dv, by have := h.l1; omega, by have := h.l2; omega, by have := h.l3; omega, h.nP⟩
/-- a frame of three right parts is made -/
theorem make_spec {C I : Addr} {H : Hp} {wa wp wv : V} {qs : List (Str × Str)} {ms ts : List Str} {Q : VK} {E : XK} (h : Prt H wa wp wv qs ms ts)
    (kg : letB qs ms ts = true → ∀ y H', FrameAt C H' y wa wp wv qs ms ts → Same H H' → Q (.ref y) H') (kb : letB qs ms ts = false → ∀ H', Same H H' → E (.ref I) none H') :
    ∀ x dx, H x = none → H dx = none → dx ≠ x → spInit C I [.ref x, wa, wp, wv] (upd (upd H dx (.own x)) x (.ins C dx [])) (fun v H2 => v = .non ∧ Q (.ref x) H2) E := by
  intro x dx hx hdx hne
  have s1 : Same H (upd (upd H dx (.own x)) x (.ins C dx [])) := (Same.upd hdx).trans (Same.upd (by rw [upd_ne (Ne.symm hne)]; exact hx))
  have sx : ∀ {H'}, KpX x (upd (upd H dx (.own x)) x (.ins C dx [])) H' → Same H H' := fun k b o e => k b o (s1 b o e) fun z => absurd z (ne_of_none e hx)
  have kk : Kp All H (upd (upd H dx (.own x)) x (.ins C dx [])) := Kp.same s1
  have c1 := pairs_cost (ps := qs) h.nm.1
  have c2 := strs_cost h.nm.2.1
  have c3 := strs_cost h.nm.2.2
  have l1 := h.l1
  have l2 := h.l2
  have l3 := h.l3
  refine ⟨x, dx, wa, wp, wv, _, _, _, All, rfl, upd_same, h.a.kp kk, h.p.kp kk, h.v.kp kk, by simp only [cost]; omega, by simp only [cost]; omega, by simp only [cost]; omega, fun hf H' fa k => ⟨rfl, ?_⟩, fun hf H' k => kb hf H' (sx k)⟩
  rw [ps_map, ns_map, ns_map] at fa
  exact kg hf x H' fa (sx k)
theorem eraseMap {α β : Type} (f : α → β) : ∀ (l : List α) (i : Nat), (l.map f).eraseIdx i = (l.eraseIdx i).map f
  | [], _ => rfl
  | _ :: _, 0 => rfl
  | x :: l, i + 1 => by
    show f x :: (l.map f).eraseIdx i = f x :: (l.eraseIdx i).map f
    rw [eraseMap f l i]
theorem erasePerm {α : Type} : ∀ (l : List α) (i : Nat) (h : i < l.length), (l[i] :: l.eraseIdx i).Perm l
  | [], _, h => absurd h (by simp)
  | x :: l, 0, _ => List.Perm.refl _
  | x :: l, i + 1, h => by
    have h' : i < l.length := by simpa using h
    show (l[i] :: x :: l.eraseIdx i).Perm (x :: l)
    exact (List.Perm.swap x l[i] _).trans ((erasePerm l i h').cons x)
/-- what stands in a record -/
structure RecAt (H : Hp) (R : Addr) (va vp vv : V) (ps : List (Str × Str)) (ns us : List Str) : Prop where
  l : H R = some (.lst [va, vp, vv])
  pt : Prt H va vp vv ps ns us
  b1 : ps.length ≤ 100
  b2 : ns.length ≤ 100
  b3 : us.length ≤ 100
theorem RecAt.kp {ex : Addr → Prop} {H H' : Hp} {R : Addr} {wa wp wv : V} {qs : List (Str × Str)} {ms ts : List Str} (h : RecAt H R wa wp wv qs ms ts) (k : Kp ex H H') (n : ¬ ex R) : RecAt H' R wa wp wv qs ms ts := ⟨k.get h.l n, h.pt.kp k, h.b1, h.b2, h.b3⟩
theorem RecAt.same {H H' : Hp} {R : Addr} {wa wp wv : V} {qs : List (Str × Str)} {ms ts : List Str} (h : RecAt H R wa wp wv qs ms ts) (k : Same H H') : RecAt H' R wa wp wv qs ms ts := ⟨k _ _ h.l, h.pt.kp (Kp.same (ex := All) k), h.b1, h.b2, h.b3⟩
section
variable {P : Program} {w : World} {K : PySem.W.Frag} {mg : Str → Option Value} {base : Heap}
def spShuf : Sp := fun vs H Q _ => ∃ (p a : Addr) (n : Nat) (zs : List Str), vs = [.ref p, .ref a] ∧ PotAt H p n ∧ n ≤ 700000 ∧ H a = some (.lst (zs.map V.str)) ∧ a ≠ p ∧ zs.length ≤ 100 ∧
  ∀ (D : Addr) (ws : List Str) (H' : Hp), H D = none → ws.Perm zs → H' D = some (.lst (ws.map V.str)) → PotAt H' p (n + zs.length) → KpP p H H' → Q (.ref D) H'
end
end Kx
namespace Kx
open PySem PySem.Spec PyProof.Rows L2
section
variable {P : Program} {w : World} {K : PySem.W.Frag} {mg : Str → Option Value} {base : Heap}
abbrev N_law_choices : List Str := ["keg", "items", "count", "left", "found", "turn"]
abbrev P_law_choices : List Str := ["keg", "items", "count"]
theorem sc_law_choices : FnScope N_law_choices P_law_choices (defScope s_law_choices) := ⟨rfl, rfl, rfl, by decide +kernel, rfl, by decide +kernel, by decide +kernel⟩
def spChs : Sp := fun vs H Q _ => ∃ (p a : Addr) (n : Nat) (c : Int) (zs : List Str), vs = [.ref p, .ref a, .int c] ∧ PotAt H p n ∧ n ≤ 700000 ∧ H a = some (.lst (zs.map V.str)) ∧ a ≠ p ∧ zs.length ≤ 100 ∧ 0 ≤ c ∧
  ∀ (D : Addr) (ws rest : List Str) (H' : Hp), H D = none → (ws ++ rest).Perm zs → (ws.length : Int) = min c (zs.length : Int) → H' D = some (.lst (ws.map V.str)) → PotAt H' p (n + zs.length) → KpP p H H' → Q (.ref D) H'
theorem ok_chs (T : Bt mg) (h : Has K mg "_law_choices" s_law_choices) (C1 : Ca P w K mg base 1 "_law_tap" P_law_tap spTap) : Ca P w K mg base 2 "_law_choices" P_law_choices spChs := by
  obtain ⟨_, _, c__law_tap⟩ := C1
  refine cal_of h sc_law_choices (fun _ _ _ _ _ _ us hl => match us, hl with | [_, _, _], _ => rfl) (fun vs H Q E h => ?_) (fun f cdv A outer s H vs Q E hr h => ?_)
  · obtain ⟨p, a, n, c, zs, rfl, _⟩ := h
    rfl
  · obtain ⟨p, a, n, c, zs, rfl, hp, hn, ha, hap, hz, hc, k⟩ := h
    refine ⟨_, (pss_cons (ps_par (i := 3) (j := 4) (by rfl) sc_law_choices.nd rfl rfl (by decide) rfl rfl (pa_cons (pe_callTy call_list_of (by rfl) T.list (by decide +kernel) (pa_cons (pv 1) pa_nil)) (pa_cons (pe_lst pa_nil) pa_nil)) (by rfl))
      (pss_cons (ps_for PassesOwn.never rfl (pi_range1 rfl T.range (pa_cons (pe_callB (call_min2 rfl) (by rfl) T.min (by decide +kernel) (pa_cons (pv 2) (pa_cons (pe_callB call_len (by rfl) T.len (by decide +kernel) (pa_cons (pv 1) pa_nil)) pa_nil))) pa_nil)) (pg_name (i := 5) sc_law_choices.nd rfl (.inl rfl))
        (pss_one (ps_expr (pe_bm PySem.F.plainAttrs_list PySem.F.slot_list_append PySem.F.type_list_append mt_append (pv 4) (pa_cons (pe_bm PySem.F.plainAttrs_list PySem.F.slot_list_pop PySem.F.type_list_pop mt_popAt (pv 3) (pa_cons (pe_call c__law_tap.1 (hr.mono (by decide)) rfl c__law_tap.2.1 c__law_tap.2.2.1 c__law_tap.2.2.2 .nil pass0 (pa_cons (pv 0) (pa_cons (pe_callB call_len (by rfl) T.len (by decide +kernel) (pa_cons (pv 3) pa_nil)) pa_nil))) pa_nil)) pa_nil)))))
      (pss_one (ps_ret (pv 4))))), ?_⟩
    refine ⟨_, rfl, a, _, rfl, .inl (SqL.of ha), fun L hL => ⟨by show 0 ≤ sizeLine; exact Nat.zero_le _, fun D hD => ?_⟩⟩
    have hLp : L ≠ p := hp.ne hL
    have hDL : L ≠ D := ne_of_none upd_same hD
    have hDp : D ≠ p := (hp.same (Same.upd hL)).ne hD
    have hDn : H D = none := by rw [upd_ne hDL.symm] at hD; exact hD
    have s2 : Same H (upd (upd H L (.lst (zs.map V.str))) D (.lst [])) := (Same.upd hL).trans (Same.upd hD)
    have eL : (upd (upd H L (.lst (zs.map V.str))) D (.lst [])) L = some (.lst (zs.map V.str)) := by rw [upd_ne hDL]; exact upd_same
    have eD : (upd (upd H L (.lst (zs.map V.str))) D (.lst [])) D = some (.lst []) := upd_same
    generalize upd (upd H L (.lst (zs.map V.str))) D (.lst []) = H2 at s2 eL eD ⊢
    have lz : ((zs.map V.str).length : Int) = zs.length := by rw [List.length_map]
    refine ⟨_, _, rfl, _, rfl, _, rfl, _, _, rfl, .inl ⟨_, SqL.of (s2 _ _ ha), rfl⟩, _, _, rfl, _, rfl, ?_, ?_, ?_⟩
    · rw [lz]; split <;> omega
    · rw [lz]; split <;> omega
    obtain ⟨m, hm⟩ : ∃ m : Nat, m = (if ((zs.map V.str).length : Int) < c then ((zs.map V.str).length : Int) else c).toNat := ⟨_, rfl⟩
    rw [← hm]
    have hm2 : (m : Int) = min c (zs.length : Int) := by
      rw [hm, lz]
      split <;> omega
    have hmz : m ≤ zs.length := by omega
    refine for_range (n := m) (fun i σ Hx => ∃ (w5 : Option V) (ws rest : List Str), σ = [some (.ref p), some (.ref a), some (.int c), some (.ref L), some (.ref D), w5] ∧ Hx D = some (.lst (ws.map V.str)) ∧ Hx L = some (.lst (rest.map V.str)) ∧ (ws ++ rest).Perm zs ∧ ws.length = i ∧ PotAt Hx p (n + i) ∧ KpP p H Hx)
      ⟨none, [], zs, rfl, eD, eL, List.Perm.refl _, rfl, hp.same s2, Kp.same s2⟩ ?_ ?_
    · rintro i σ Hx hi ⟨w5, ws, rest, rfl, hDx, hLx, hperm, hwl, hpx, hkx⟩
      have hlen := hperm.length_eq
      rw [List.length_append] at hlen
      have hrest : 1 ≤ rest.length := by omega
      refine ⟨_, rfl, .inl ⟨rfl, _, SqL.of hDx⟩, _, rfl, .inl ⟨rfl, _, SqL.of hLx⟩, _, rfl, _, rfl, _, _, rfl, .inl ⟨_, SqL.of hLx, rfl⟩, p, n + i, _, rfl, hpx, by omega, by rw [List.length_map]; omega, by rw [List.length_map]; omega, fun d H1 hd0 hd1 hp1 hk1 => ?_⟩
      rw [List.length_map] at hd1
      have hL1 := hk1.get hLx hLp
      have hD1 := hk1.get hDx hDp
      have hj : d.toNat < rest.length := by omega
      refine ⟨L, _, d, d.toNat, .str rest[d.toNat], rfl, rfl, hL1, by omega, by omega, by rw [List.length_map]; exact PySem.seqIndex_of hd0 (by omega), by rw [List.getElem?_map, List.getElem?_eq_getElem hj]; rfl, ?_⟩
      have hD2 : (upd H1 L (.lst ((rest.map V.str).eraseIdx d.toNat))) D = some (.lst (ws.map V.str)) := by rw [upd_ne hDL.symm]; exact hD1
      refine ⟨D, _, _, rfl, rfl, hD2, by rw [List.length_map, hwl, sizeLine_eq]; omega, ?_⟩
      refine ⟨some (.int (0 + (i : Int))), ws ++ [rest[d.toNat]], rest.eraseIdx d.toNat, rfl, by rw [upd_same, List.map_append]; rfl, ?_, ?_, by rw [List.length_append, hwl]; rfl, ?_, ?_⟩
      · rw [upd_ne hDL, upd_same]
        congr 2
        rw [eraseMap]
      · refine List.Perm.trans ?_ hperm
        rw [List.append_assoc]
        refine List.Perm.append_left ws ?_
        exact erasePerm rest d.toNat hj
      · obtain ⟨a1, b1, c1, e1, r1⟩ := hp1
        exact ⟨a1, b1, c1, by rw [upd_ne hDp.symm, upd_ne hLp.symm]; exact e1, by omega⟩
      · intro b o hb hbp
        have nL : b ≠ L := ne_of_none hb hL
        have nD : b ≠ D := ne_of_none hb hDn
        rw [upd_ne nD, upd_ne nL]
        exact hk1 b o (hkx b o hb hbp) hbp
    · rintro σ Hx ⟨w5, ws, rest, rfl, hDx, hLx, hperm, hwl, hpx, hkx⟩
      exact ⟨_, rfl, k D ws rest Hx hDn hperm (by omega) hDx (hpx.mono (by omega)) hkx⟩
end
end Kx
namespace Kx
open PySem PySem.Spec PyProof.Rows L2
def W14 : List Str := ["a", "b", "n", "m", "i", "j", "k", "x", "all", "and", "pos", "kk", "rowrowro", "v"]
theorem w14_nd : W14.Nodup := by decide +kernel
theorem w14_ok : ∀ z ∈ W14, NameS z := by decide +kernel
theorem cut_mid (xs : List V) (a : Nat) (t : Int) (h : 0 ≤ t) (hl : a + t.toNat ≤ xs.length) : cutV xs (some (a : Int)) (some ((a : Int) + t)) = (xs.drop a).take t.toNat := by
  obtain ⟨j, rfl⟩ : ∃ j : Nat, t = j := ⟨t.toNat, by omega⟩
  have e : ((a : Int) + (j : Int)) = ((a + j : Nat) : Int) := by omega
  rw [e]
  unfold cutV
  rw [HT.sIx_nat, HT.sIx_nat]
  rw [Int.toNat_natCast] at hl ⊢
  rw [Nat.min_eq_left (by omega), Nat.min_eq_left (by omega)]
  congr 1
  omega
/-- the parts that the law draws -/
structure Sides (ps : List (Str × Str)) (ns us : List Str) : Prop where
  nd : (allN ps ns us).Nodup
  l1 : ps.length ≤ 3
  l2 : ns.length ≤ 3
  l3 : us.length ≤ 3
  m1 : ∀ q ∈ ps, q.1 ∈ W14 ∧ q.2 ∈ W14
  m2 : ∀ z ∈ ns, z ∈ W14
  m3 : ∀ z ∈ us, z ∈ W14
theorem Sides.nm {ps : List (Str × Str)} {ns us : List Str} (h : Sides ps ns us) : Names ps ns us := ⟨fun q hq => ⟨w14_ok _ (h.m1 q hq).1, w14_ok _ (h.m1 q hq).2⟩, fun z hz => w14_ok _ (h.m2 z hz), fun z hz => w14_ok _ (h.m3 z hz)⟩
/-- parts of a row of different words -/
theorem sides_of {ws : List Str} (hp : ws.Perm W14) {ps : List (Str × Str)} {ns us : List Str} {L : List Str} (h1 : ps.length ≤ 3) (h2 : ∀ j q, ps[j]? = some q → ws[3 + j]? = some q.1 ∧ q.2 ∈ L) (hL : ∀ z ∈ L, z ∈ ws.take 2) {a b : Nat} (ha : a ≤ 3) (hb : b ≤ 3) (hn : ns = (ws.drop 6).take a) (hu : us = (ws.drop 9).take b) : Sides ps ns us := by
  have nd : ws.Nodup := hp.nodup_iff.mpr w14_nd
  have hw : ∀ z ∈ ws, z ∈ W14 := fun z hz => hp.mem_iff.mp hz
  have hlen : ws.length = 14 := hp.length_eq
  have hps : ps.map (·.1) = (ws.drop 3).take ps.length := by
    refine List.ext_getElem? fun i => ?_
    rw [List.getElem?_map]
    by_cases hi : i < ps.length
    · rw [List.getElem?_eq_getElem hi, List.getElem?_take_of_lt hi, List.getElem?_drop, (h2 i _ (List.getElem?_eq_getElem hi)).1]
      rfl
    · rw [List.getElem?_eq_none (by omega), List.getElem?_eq_none (by rw [List.length_take]; omega)]
      rfl
  have sub : ∀ (k m : Nat) (l : List Str), ((l.drop k).take m).Sublist l := fun k m l => (List.take_sublist _ _).trans (List.drop_sublist _ _)
  have inj : ∀ {i j : Nat} {z : Str}, ws[i]? = some z → ws[j]? = some z → i = j := fun {i j z} hi hj => by
    have li : i < ws.length := (List.getElem?_eq_some_iff.mp hi).1
    exact (List.getElem?_inj li nd).mp (hi.trans hj.symm)
  have rA : ∀ z ∈ ps.map (·.1), ∃ i, 3 ≤ i ∧ i < 6 ∧ ws[i]? = some z := fun z hz => by
    rw [hps] at hz
    obtain ⟨i, hi, e⟩ := List.mem_iff_getElem.mp hz
    have e2 : ((ws.drop 3).take ps.length)[i]? = some z := by rw [List.getElem?_eq_getElem hi, e]
    rw [List.length_take] at hi
    rw [List.getElem?_take_of_lt (by omega), List.getElem?_drop] at e2
    exact ⟨3 + i, by omega, by omega, e2⟩
  have rB : ∀ z ∈ uniq (ps.map (·.2)), ∃ i, i < 2 ∧ ws[i]? = some z := fun z hz => by
    obtain ⟨q, hq, rfl⟩ := List.mem_map.mp ((uniq_mem _ _).mp hz)
    obtain ⟨j, hj, e⟩ := List.mem_iff_getElem.mp hq
    have h3 := hL _ (h2 j q (by rw [List.getElem?_eq_getElem hj, e])).2
    obtain ⟨i, hi, e⟩ := List.mem_iff_getElem.mp h3
    have e2 : (ws.take 2)[i]? = some q.2 := by rw [List.getElem?_eq_getElem hi, e]
    rw [List.length_take] at hi
    rw [List.getElem?_take_of_lt (by omega)] at e2
    exact ⟨i, by omega, e2⟩
  have rC : ∀ z ∈ ns, ∃ i, 6 ≤ i ∧ i < 9 ∧ ws[i]? = some z := fun z hz => by
    rw [hn] at hz
    obtain ⟨i, hi, e⟩ := List.mem_iff_getElem.mp hz
    have e2 : ((ws.drop 6).take a)[i]? = some z := by rw [List.getElem?_eq_getElem hi, e]
    rw [List.length_take] at hi
    rw [List.getElem?_take_of_lt (by omega), List.getElem?_drop] at e2
    exact ⟨6 + i, by omega, by omega, e2⟩
  have rD : ∀ z ∈ us, ∃ i, 9 ≤ i ∧ i < 12 ∧ ws[i]? = some z := fun z hz => by
    rw [hu] at hz
    obtain ⟨i, hi, e⟩ := List.mem_iff_getElem.mp hz
    have e2 : ((ws.drop 9).take b)[i]? = some z := by rw [List.getElem?_eq_getElem hi, e]
    rw [List.length_take] at hi
    rw [List.getElem?_take_of_lt (by omega), List.getElem?_drop] at e2
    exact ⟨9 + i, by omega, by omega, e2⟩
  have at_w : ∀ {i : Nat} {z : Str}, ws[i]? = some z → z ∈ W14 := fun h => hw _ (List.mem_of_getElem? h)
  refine ⟨?_, h1, by rw [hn, List.length_take]; omega, by rw [hu, List.length_take]; omega, fun q hq => ⟨?_, ?_⟩, fun z hz => ?_, fun z hz => ?_⟩
  · unfold allN
    refine List.nodup_append.mpr ⟨hps ▸ (sub _ _ _).nodup nd, List.nodup_append.mpr ⟨uniq_nd _, List.nodup_append.mpr ⟨hn ▸ (sub _ _ _).nodup nd, hu ▸ (sub _ _ _).nodup nd, ?_⟩, ?_⟩, ?_⟩
    · intro x hx y hy e
      obtain ⟨i, i1, i2, hi⟩ := rC x hx
      obtain ⟨j, j1, j2, hj⟩ := rD y hy
      rw [e] at hi
      have := inj hi hj
      omega
    · intro x hx y hy e
      obtain ⟨i, i1, hi⟩ := rB x hx
      rw [e] at hi
      rcases List.mem_append.mp hy with hy | hy
      · obtain ⟨j, j1, j2, hj⟩ := rC y hy
        have := inj hi hj
        omega
      · obtain ⟨j, j1, j2, hj⟩ := rD y hy
        have := inj hi hj
        omega
    · intro x hx y hy e
      obtain ⟨i, i1, i2, hi⟩ := rA x hx
      rw [e] at hi
      rcases List.mem_append.mp hy with hy | hy
      · obtain ⟨j, j1, hj⟩ := rB y hy
        have := inj hi hj
        omega
      · rcases List.mem_append.mp hy with hy | hy
        · obtain ⟨j, j1, j2, hj⟩ := rC y hy
          have := inj hi hj
          omega
        · obtain ⟨j, j1, j2, hj⟩ := rD y hy
          have := inj hi hj
          omega
  · obtain ⟨i, _, _, hi⟩ := rA q.1 (List.mem_map.mpr ⟨q, hq, rfl⟩)
    exact at_w hi
  · obtain ⟨i, _, hi⟩ := rB q.2 ((uniq_mem _ _).mpr (List.mem_map.mpr ⟨q, hq, rfl⟩))
    exact at_w hi
  · obtain ⟨i, _, _, hi⟩ := rC z hz
    exact at_w hi
  · obtain ⟨i, _, _, hi⟩ := rD z hz
    exact at_w hi
section
variable {P : Program} {w : World} {K : PySem.W.Frag} {mg : Str → Option Value} {base : Heap}
abbrev N_law_sides : List Str := ["keg", "most", "words", "count", "lengths", "arrays", "positions", "at"]
abbrev P_law_sides : List Str := ["keg", "most"]
theorem sc_law_sides : FnScope N_law_sides P_law_sides (defScope s_law_sides) := ⟨rfl, rfl, rfl, by decide +kernel, rfl, by decide +kernel, by decide +kernel⟩
def spSides : Sp := fun vs H Q _ => ∃ (p : Addr) (n : Nat), vs = [.ref p, .int 3] ∧ PotAt H p n ∧ n ≤ 600000 ∧
  ∀ (R : Addr) (va vp vv : V) (ps : List (Str × Str)) (ns us : List Str) (H' : Hp), RecAt H' R va vp vv ps ns us → Sides ps ns us → H R = none → PotAt H' p (n + 40) → KpP p H H' → Q (.ref R) H'
theorem ok_sides (T : Bt mg) (h : Has K mg "_law_sides" s_law_sides) (C1 : Ca P w K mg base 1 "_law_tap" P_law_tap spTap) (C2 : Ca P w K mg base 2 "_law_choice" P_law_choice spChoice) (C3 : Ca P w K mg base 2 "_law_choices" P_law_choices spChs) : Ca P w K mg base 3 "_law_sides" P_law_sides spSides := by
  obtain ⟨_, _, c__law_tap⟩ := C1
  obtain ⟨_, _, c__law_choice⟩ := C2
  obtain ⟨_, _, c__law_choices⟩ := C3
  refine cal_of h sc_law_sides (fun _ _ _ _ _ _ us hl => match us, hl with | [_, _], _ => rfl) (fun vs H Q E h => ?_) (fun f cdv A outer s H vs Q E hr h => ?_)
  · obtain ⟨p, n, rfl, _⟩ := h
    rfl
  · obtain ⟨p, n, rfl, hp, hn, k⟩ := h
    refine ⟨_, (pss_cons (ps_set (i := 2) sc_law_sides.nd rfl (.inr rfl) (pe_call c__law_choices.1 (hr.mono (by decide)) rfl c__law_choices.2.1 c__law_choices.2.2.1 c__law_choices.2.2.2 .nil pass0 (pa_cons (pv 0) (pa_cons (pe_lst (pa_cons pe_str (pa_cons pe_str (pa_cons pe_str (pa_cons pe_str (pa_cons pe_str (pa_cons pe_str (pa_cons pe_str (pa_cons pe_str (pa_cons pe_str (pa_cons pe_str (pa_cons pe_str (pa_cons pe_str (pa_cons pe_str (pa_cons pe_str pa_nil))))))))))))))) (pa_cons pe_int pa_nil)))))
      (pss_cons (ps_asg (pe_tupF (pa_cons (pe_call c__law_tap.1 (hr.mono (by decide)) rfl c__law_tap.2.1 c__law_tap.2.2.1 c__law_tap.2.2.2 .nil pass0 (pa_cons (pv 0) (pa_cons (pe_op op_add (pv 1) pe_int) pa_nil))) (pa_cons (pe_slice sl_list (pv 2) po_none (po_some (pe_op op_add pe_int (pe_call c__law_tap.1 (hr.mono (by decide)) rfl c__law_tap.2.1 c__law_tap.2.2.1 c__law_tap.2.2.2 .nil pass0 (pa_cons (pv 0) (pa_cons pe_int pa_nil)))))) pa_nil))) (pg_tup (by rfl) (pgs_cons (pg_name (i := 3) sc_law_sides.nd rfl (.inl rfl)) (pgs_cons (pg_name (i := 4) sc_law_sides.nd rfl (.inr rfl)) pgs_nil))))
      (pss_cons (ps_set (i := 5) sc_law_sides.nd rfl (.inl rfl) (pe_callTy call_tupF (by rfl) T.tuple (by decide +kernel) (pa_cons (pe_lc (own := [("at", 7)]) (g := (gName 7)) (tt := tYes) (by rfl) sc_law_sides.nd (pi_range1 rfl T.range (pa_cons (pv 3) pa_nil)) (blkOk_by (own := [("at", 7)]) (N := ["keg", "most", "words", "count", "lengths", "arrays", "positions", "at"]) (sc := defScope s_law_sides) (by decide +kernel)) (fun _ _ _ _ _ => pg_name (i := 7) sc_law_sides.nd rfl (Or.inl rfl)) (fun _ _ _ _ _ => pts_nil) (fun _ _ _ _ _ => (pe_tupF (pa_cons (pe_ix (show IxR _ (rIxL K) from ix_list) (pv 2) (pe_op op_add pe_int (pv 7)) (fun _ _ => rfl)) (pa_cons (pe_call c__law_choice.1 (hr.mono (by decide)) rfl c__law_choice.2.1 c__law_choice.2.2.1 c__law_choice.2.2.2 .nil pass0 (pa_cons (pv 0) (pa_cons (pv 4) pa_nil))) pa_nil))))) pa_nil)))
      (pss_cons (ps_set (i := 6) sc_law_sides.nd rfl (.inl rfl) (pe_callTy call_tupF (by rfl) T.tuple (by decide +kernel) (pa_cons (pe_slice sl_list (pv 2) (po_some pe_int) (po_some (pe_op op_add pe_int (pe_call c__law_tap.1 (hr.mono (by decide)) rfl c__law_tap.2.1 c__law_tap.2.2.1 c__law_tap.2.2.2 .nil pass0 (pa_cons (pv 0) (pa_cons (pe_op op_add (pv 1) pe_int) pa_nil)))))) pa_nil)))
      (pss_one (ps_ret (pe_lst (pa_cons (pv 5) (pa_cons (pv 6) (pa_cons (pe_callTy call_tupF (by rfl) T.tuple (by decide +kernel) (pa_cons (pe_slice sl_list (pv 2) (po_some pe_int) (po_some (pe_op op_add pe_int (pe_call c__law_tap.1 (hr.mono (by decide)) rfl c__law_tap.2.1 c__law_tap.2.2.1 c__law_tap.2.2.2 .nil pass0 (pa_cons (pv 0) (pa_cons (pe_op op_add (pv 1) pe_int) pa_nil)))))) pa_nil)) pa_nil)))))))))), ?_⟩
    refine ⟨_, rfl, by show 14 ≤ sizeLine; decide, fun l hl => ⟨p, l, n, 14, W14, rfl, hp.same (Same.upd hl), by omega, upd_same, hp.ne hl, by decide, by decide, fun D ws rest H1 hDn hperm hwl hD hp1 hk1 => ?_⟩⟩
    have k1 : KpP p H H1 := (Kp.new hl).trans hk1
    have e14 : ws.length = 14 := by
      have : (W14.length : Int) = 14 := by decide
      omega
    have r0 : rest = [] := by
      have := hperm.length_eq
      rw [List.length_append, e14] at this
      exact List.eq_nil_of_length_eq_zero (by have e : W14.length = 14 := by decide
                                              omega)
    rw [r0, List.append_nil] at hperm
    have hDp : D ≠ p := by
      have hl2 := hp.ne hl
      intro e
      rw [e] at hD
      obtain ⟨a1, b1, c1, e1, _⟩ := hp1
      rw [hD] at e1
      injection e1 with e1
      injection e1 with e1
      have := congrArg List.length e1
      rw [List.length_map, e14] at this
      cases this
    refine ⟨_, rfl, _, rfl, _, _, rfl, rfl, p, n + 14, _, rfl, hp1, by omega, by decide, by decide, fun cn H2 hc0 hc1 hp2 hk2 => ?_⟩
    have k2 := k1.trans hk2
    have hD2 := hk2.get hD hDp
    refine ⟨_, rfl, _, rfl, p, n + 15, _, rfl, hp2, by omega, by decide, by decide, fun ln H3 hl0 hl1 hp3 hk3 => ?_⟩
    have k3 := k2.trans hk3
    have hD3 := hk3.get hD2 hDp
    refine ⟨_, _, rfl, rfl, _, rfl, D, _, rfl, SqL.of hD3, fun LL hLL => ?_⟩
    rw [cut_take _ _ (by omega : (0 : Int) ≤ 1 + ln), ← List.map_take]
    have sL : Same H3 (upd H3 LL (.lst ((ws.take (1 + ln).toNat).map V.str))) := Same.upd hLL
    have eL : (upd H3 LL (.lst ((ws.take (1 + ln).toNat).map V.str))) LL = some (.lst ((ws.take (1 + ln).toNat).map V.str)) := upd_same
    have hLp : LL ≠ p := hp3.ne hLL
    have hp4 := hp3.same sL
    have k4 : KpP p H (upd H3 LL (.lst ((ws.take (1 + ln).toNat).map V.str))) := k3.trans (Kp.new hLL)
    generalize upd H3 LL (.lst ((ws.take (1 + ln).toNat).map V.str)) = H4 at sL eL hp4 k4 ⊢
    have hD4 := sL _ _ hD3
    refine ⟨by show 2 ≤ sizeLine; decide, fun tt H5 s5 h5 => ?_⟩
    refine ⟨tt, _, rfl, h5.sq, rfl, ⟨_, _, rfl, _, _, rfl, rfl, ?_⟩⟩
    have hp5 := hp4.same s5
    have hD5 := s5 _ _ hD4
    have eL5 := s5 _ _ eL
    have k5 : KpP p H H5 := k4.trans (Kp.same s5)
    have lenL : (ws.take (1 + ln).toNat).length = (1 + ln).toNat := by rw [List.length_take]; omega
    refine ⟨_, rfl, _, rfl, by omega, by omega, fun Ac hAc => ?_⟩
    have hAp : Ac ≠ p := hp5.ne hAc
    have hAD : Ac ≠ D := fun e => by rw [e, hD5] at hAc; cases hAc
    have hAL : Ac ≠ LL := fun e => by rw [e, eL5] at hAc; cases hAc
    have hAn : H Ac = none := by
      cases e : H Ac with
      | none => rfl
      | some o =>
        by_cases z : Ac = p
        · exact absurd z hAp
        · rw [k5 _ _ e (fun h => absurd h z)] at hAc
          cases hAc
    refine lc_range (lo := 0) (n := cn.toNat) (fun i Hx => ∃ (vals : List V) (qs : List (Str × Str)), Hx Ac = some (.lst vals) ∧ DvL All Hx vals (qs.map pairD) ∧ qs.length = i ∧ (∀ (j : Nat) (q : Str × Str), qs[j]? = some q → ws[3 + j]? = some q.1 ∧ q.2 ∈ ws.take (1 + ln).toNat) ∧ PotAt Hx p (n + 16 + i) ∧ KpP p H Hx ∧ Hx D = some (.lst (ws.map V.str)) ∧ Hx LL = some (.lst ((ws.take (1 + ln).toNat).map V.str)))
      ⟨[], [], upd_same, .nil, rfl, fun j q h => by simp at h, hp5.same (Same.upd hAc), k5.trans (Kp.new hAc), by rw [upd_ne hAD.symm]; exact hD5, by rw [upd_ne hAL.symm]; exact eL5⟩ ?_ ?_
    · rintro i Hx hi ⟨vals, qs, hAx, dq, hql, hq, hpx, hkx, hDx, hLx⟩
      have h3i : 3 + i < ws.length := by omega
      refine ⟨rfl, yes ⟨_, rfl, _, rfl, _, _, rfl, rfl, D, _, 3 + (0 + (i : Int)), .str ws[3 + i], rfl, rfl, SqL.of hDx, ?_, _, rfl, _, rfl, p, n + 16 + i, .ref LL, _, rfl, hpx, by omega, .inl ⟨LL, rfl, hLp, hLx⟩, by rw [List.length_map, lenL]; omega, by rw [List.length_map, lenL]; omega, fun j v H6 hv hp6 hk6 => ?_⟩⟩
      · have : (3 + (0 + (i : Int))) = ((3 + i : Nat) : Int) := by omega
        rw [this]
        exact atI_nat (by rw [List.getElem?_map, List.getElem?_eq_getElem h3i]; rfl)
      rw [List.getElem?_map] at hv
      cases hv2 : (ws.take (1 + ln).toNat)[j]? with
      | none => rw [hv2] at hv; cases hv
      | some lz =>
      rw [hv2] at hv
      cases hv
      have hA6 := hk6.get hAx hAp
      refine ⟨by show 2 ≤ sizeLine; decide, fun t H7 s7 h7 => ⟨_, s7 _ _ hA6, ?_, ?_⟩⟩
      · have := dq.len
        rw [List.length_map] at this
        rw [this, hql, sizeLine_eq]
        omega
      have k7 : Kp All Hx H7 := hk6.all.trans (Kp.same s7)
      have ku : Kp All H7 (upd H7 Ac (.lst (vals ++ [.ref t]))) := Kp.at trivial (s7 _ _ hA6)
      refine ⟨vals ++ [.ref t], qs ++ [(ws[3 + i], lz)], upd_same, ?_, by rw [List.length_append, hql]; rfl, fun m q hm => ?_, ?_, ?_, ?_, ?_⟩
      · rw [List.map_append]
        exact ((dq.kp k7).kp ku).app (.cons ((Dv.tupM h7 (.cons (.str _) (.cons (.str _) .nil))).kp ku) .nil)
      · by_cases hmi : m < qs.length
        · rw [List.getElem?_append_left hmi] at hm
          exact hq m q hm
        · rw [List.getElem?_append_right (by omega)] at hm
          have e0 : m - qs.length = 0 := by
            cases e : m - qs.length with
            | zero => rfl
            | succ z => rw [e] at hm; simp at hm
          rw [e0] at hm
          cases hm
          have em : m = i := by omega
          rw [em]
          exact ⟨List.getElem?_eq_getElem h3i, List.mem_of_getElem? hv2⟩
      · obtain ⟨a1, b1, c1, e1, r1⟩ := hp6
        exact ⟨a1, b1, c1, by rw [upd_ne hAp.symm]; exact s7 _ _ e1, by omega⟩
      · intro b o hb hbp
        rw [upd_ne (ne_of_none hb hAn)]
        exact s7 _ _ (hk6 b o (hkx b o hb hbp) hbp)
      · rw [upd_ne hAD.symm]
        exact s7 _ _ (hk6.get hDx hDp)
      · rw [upd_ne hAL.symm]
        exact s7 _ _ (hk6.get hLx hLp)
    · rintro H6 ⟨vals, qs, hAx, dq, hql, hq, hp6, k6, hDx, hLx⟩
      have lv := dq.len
      rw [List.length_map] at lv
      refine ⟨Ac, _, rfl, SqL.of hAx, fun ta H7 s7 h7 => ?_⟩
      have hp7 := hp6.same s7
      have k7 : KpP p H H7 := k6.trans (Kp.same s7)
      have dq7 := dq.kp (Kp.same (ex := All) s7)
      have hD7 := s7 _ _ hDx
      refine ⟨_, rfl, _, rfl, _, rfl, _, rfl, _, _, rfl, rfl, p, _, _, rfl, hp7, by omega, by decide, by decide, fun d1 H8 ha0 ha1 hp8 hk8 => ?_⟩
      have hD8 := hk8.get hD7 hDp
      refine ⟨_, _, rfl, rfl, _, rfl, D, _, rfl, SqL.of hD8, fun P2 hP2 => ?_⟩
      rw [show (6 : Int) = ((6 : Nat) : Int) from rfl, cut_mid _ 6 d1 ha0 (by rw [List.length_map]; omega), ← List.map_drop, ← List.map_take]
      have s9 : Same H8 (upd H8 P2 (.lst (((ws.drop 6).take d1.toNat).map V.str))) := Same.upd hP2
      refine ⟨P2, _, rfl, SqL.of upd_same, fun tb H9 sB h9 => ?_⟩
      have s89 := s9.trans sB
      have hp9 := hp8.same s89
      have hD9 := s89 _ _ hD8
      refine ⟨_, rfl, _, rfl, _, rfl, _, rfl, _, rfl, _, rfl, _, _, rfl, rfl, p, _, _, rfl, hp9, by omega, by decide, by decide, fun d2 H10 hb0 hb1 hp10 hk10 => ?_⟩
      have hD10 := hk10.get hD9 hDp
      refine ⟨_, _, rfl, rfl, _, rfl, D, _, rfl, SqL.of hD10, fun P3 hP3 => ?_⟩
      rw [show (9 : Int) = ((9 : Nat) : Int) from rfl, cut_mid _ 9 d2 hb0 (by rw [List.length_map]; omega), ← List.map_drop, ← List.map_take]
      refine ⟨P3, _, rfl, SqL.of upd_same, fun tc H11 sC h11 => ⟨by show 3 ≤ sizeLine; decide, fun R hR => ?_⟩⟩
      have sD : Same H10 H11 := (Same.upd hP3).trans sC
      have sE : Same H11 (upd H11 R (.lst [.ref ta, .ref tb, .ref tc])) := Same.upd hR
      have kz : ∀ {X Y : Hp}, Same X Y → Kp All X Y := fun h => Kp.same h
      have kA : Kp All H7 (upd H11 R (.lst [.ref ta, .ref tb, .ref tc])) := ((hk8.all.trans (kz s89)).trans hk10.all).trans ((kz sD).trans (kz sE))
      have kB : Kp All H9 (upd H11 R (.lst [.ref ta, .ref tb, .ref tc])) := hk10.all.trans ((kz sD).trans (kz sE))
      have hRn : H R = none := by
        have hRp : R ≠ p := (hp10.same sD).ne hR
        cases e : H R with
        | none => rfl
        | some o =>
          have a1 := k7 _ _ e fun z => absurd z hRp
          have a2 := s89 _ _ (hk8 _ _ a1 fun z => absurd z hRp)
          have a3 := sD _ _ (hk10 _ _ a2 fun z => absurd z hRp)
          rw [a3] at hR
          cases hR
      have sd : Sides qs ((ws.drop 6).take d1.toNat) ((ws.drop 9).take d2.toNat) := sides_of hperm (by omega) hq (fun z hz => by
        obtain ⟨i, hi, e⟩ := List.mem_iff_getElem.mp hz
        have e2 : (ws.take (1 + ln).toNat)[i]? = some z := by rw [List.getElem?_eq_getElem hi, e]
        rw [List.length_take] at hi
        rw [List.getElem?_take_of_lt (by omega)] at e2
        have : (ws.take 2)[i]? = some z := by rw [List.getElem?_take_of_lt (by omega)]; exact e2
        exact List.mem_of_getElem? this) (a := d1.toNat) (b := d2.toNat) (by omega) (by omega) rfl rfl
      refine k R _ _ _ qs _ _ _ ⟨upd_same, ⟨Dv.tupM (kA.tup h7) (dq7.kp kA), Dv.tupM (kB.tup h9) (DvL.strs _), Dv.tupM ((kz sE).tup h11) (DvL.strs _), by have := sd.l1; omega, by have := sd.l2; omega, by have := sd.l3; omega, sd.nm⟩, by have := sd.l1; omega, by have := sd.l2; omega, by have := sd.l3; omega⟩ sd hRn ?_ ?_
      · exact ((hp10.same sD).same sE).mono (by omega)
      · exact ((((k7.trans hk8).trans (Kp.same s89)).trans hk10).trans (Kp.same sD)).trans (Kp.same sE)
end
end Kx
namespace Kx
open PySem PySem.Spec PyProof.Rows L2
theorem make_specA {C I : Addr} {H : Hp} {wa wp wv : V} {qs : List (Str × Str)} {ms ts : List Str} {Qa : Addr → Hp → Prop} {E : XK} (h : Prt H wa wp wv qs ms ts)
    (kg : letB qs ms ts = true → ∀ y H', FrameAt C H' y wa wp wv qs ms ts → Same H H' → Qa y H') (kb : letB qs ms ts = false → ∀ H', Same H H' → E (.ref I) none H') :
    ∀ x dx, H x = none → H dx = none → dx ≠ x → spInit C I [.ref x, wa, wp, wv] (upd (upd H dx (.own x)) x (.ins C dx [])) (fun v H2 => v = .non ∧ Qa x H2) E :=
  make_spec (Q := fun v H => match v with | .ref a => Qa a H | _ => False) h kg kb
theorem Sides.letB {ps : List (Str × Str)} {ns us : List Str} (h : Sides ps ns us) : letB ps ns us = true := by
  have nm := h.nm
  refine frameD_good ⟨by have := h.l1; omega, by have := h.l2; omega, by have := h.l3; omega, fun z hz => ?_, h.nd⟩
  rcases List.mem_append.mp hz with hz | hz
  · obtain ⟨q, hq, rfl⟩ := List.mem_map.mp hz
    exact (nm.1 q hq).1
  · rcases List.mem_append.mp hz with hz | hz
    · obtain ⟨q, hq, rfl⟩ := List.mem_map.mp hz
      exact (nm.1 q hq).2
    · rcases List.mem_append.mp hz with hz | hz
      · exact nm.2.1 z hz
      · exact nm.2.2 z hz
/-- all names, lengths as often as they stand -/
def anL (ps : List (Str × Str)) (ns us : List Str) : List Str := ((ps.map (·.1) ++ ps.map (·.2)) ++ ns) ++ us
theorem an_all {ps : List (Str × Str)} {ns us : List Str} (z : Str) : z ∈ anL ps ns us ↔ z ∈ allN ps ns us := by
  unfold anL allN
  simp only [List.mem_append, uniq_mem]
  constructor
  · rintro (((h | h) | h) | h)
    · exact .inl h
    · exact .inr (.inl h)
    · exact .inr (.inr (.inl h))
    · exact .inr (.inr (.inr h))
  · rintro (h | h | h | h)
    · exact .inl (.inl (.inl h))
    · exact .inl (.inl (.inr h))
    · exact .inl (.inr h)
    · exact .inr h
theorem Sides.w14 {ps : List (Str × Str)} {ns us : List Str} (h : Sides ps ns us) : ∀ z ∈ anL ps ns us, z ∈ W14 := fun z hz => by
  unfold anL at hz
  rcases List.mem_append.mp hz with hz | hz
  · rcases List.mem_append.mp hz with hz | hz
    · rcases List.mem_append.mp hz with hz | hz
      · obtain ⟨q, hq, rfl⟩ := List.mem_map.mp hz
        exact (h.m1 q hq).1
      · obtain ⟨q, hq, rfl⟩ := List.mem_map.mp hz
        exact (h.m1 q hq).2
    · exact h.m2 z hz
  · exact h.m3 z hz
section
variable {P : Program} {w : World} {K : PySem.W.Frag} {mg : Str → Option Value} {base : Heap}
abbrev N_law_frame_of : List Str := ["sides"]
abbrev P_law_frame_of : List Str := ["sides"]
theorem sc_law_frame_of : FnScope N_law_frame_of P_law_frame_of (defScope s_law_frame_of) := ⟨rfl, rfl, rfl, by decide +kernel, rfl, by decide +kernel, by decide +kernel⟩
def spFO (C : Addr) : Sp := fun vs H Q _ => ∃ (R : Addr) (va vp vv : V) (ps : List (Str × Str)) (ns us : List Str), vs = [.ref R] ∧ RecAt H R va vp vv ps ns us ∧ Sides ps ns us ∧ ∀ x H', FrameAt C H' x va vp vv ps ns us → Same H H' → Q (.ref x) H'
theorem ok_fo (T : Bt mg) {C I f0 : Addr} {fd0 : FuncData} (X : Fx K mg C) (h : Has K mg "_law_frame_of" s_law_frame_of) (M : Mk K C f0) (F0 : FnOk P w K mg base (L2N.CX P w) 5 f0 fd0 P_Frame_init (spInit C I)) (b0 : Binds K fd0 P_Frame_init []) : Ca P w K mg base 7 "_law_frame_of" P_law_frame_of (spFO C) := by
  refine cal_of h sc_law_frame_of (fun _ _ _ _ _ _ us hl => match us, hl with | [_], _ => rfl) (fun vs H Q E h => ?_) (fun f cdv A outer s H vs Q E hr h => ?_)
  · obtain ⟨R, va, vp, vv, ps, ns, us, rfl, _⟩ := h
    rfl
  · obtain ⟨R, va, vp, vv, ps, ns, us, rfl, rc, sd, k⟩ := h
    refine ⟨_, (pss_one (ps_ret (pe_make M F0 (hr.mono (by decide)) rfl X.mgC b0 .nil (L2N.passes_call takesF (fun cls d σ H h => h)) (pa_cons (pe_ix ix_list (pv 0) pe_int (fun _ _ => rfl)) (pa_cons (pe_ix ix_list (pv 0) pe_int (fun _ _ => rfl)) (pa_cons (pe_ix ix_list (pv 0) pe_int (fun _ _ => rfl)) pa_nil)))))), ?_⟩
    refine ⟨_, rfl, R, _, 0, _, rfl, rfl, SqL.of rc.l, rfl, _, rfl, R, _, 1, _, rfl, rfl, SqL.of rc.l, rfl, _, rfl, R, _, 2, _, rfl, rfl, SqL.of rc.l, rfl, ?_⟩
    exact make_specA rc.pt (fun _ x H4 fx s4 => k x H4 fx s4) (fun e => absurd (sd.letB.symm.trans e) (by decide))
abbrev N_law_all_names : List Str := ["sides", "pair"]
abbrev P_law_all_names : List Str := ["sides"]
theorem sc_law_all_names : FnScope N_law_all_names P_law_all_names (defScope s_law_all_names) := ⟨rfl, rfl, rfl, by decide +kernel, rfl, by decide +kernel, by decide +kernel⟩
def spAN : Sp := fun vs H Q _ => ∃ (R : Addr) (va vp vv : V) (ps : List (Str × Str)) (ns us : List Str), vs = [.ref R] ∧ RecAt H R va vp vv ps ns us ∧ ∀ (D : Addr) (H' : Hp), H D = none → Same H H' → H' D = some (.lst ((anL ps ns us).map V.str)) → Q (.ref D) H'
theorem ok_an (T : Bt mg) (h : Has K mg "_law_all_names" s_law_all_names) : Ca P w K mg base 1 "_law_all_names" P_law_all_names spAN := by
  refine cal_of h sc_law_all_names (fun _ _ _ _ _ _ us hl => match us, hl with | [_], _ => rfl) (fun vs H Q E h => ?_) (fun f cdv A outer s H vs Q E hr h => ?_)
  · obtain ⟨R, va, vp, vv, ps, ns, us, rfl, _⟩ := h
    rfl
  · obtain ⟨R, va, vp, vv, ps, ns, us, rfl, ⟨hR, pt, b1, b2, b3⟩, k⟩ := h
    refine ⟨_, (pss_one (ps_ret (pe_op op_cat (pe_op op_cat (pe_op op_cat (pe_lc (own := [("pair", 1)]) (g := (gName 1)) (tt := tYes) (by rfl) sc_law_all_names.nd (pi_tup (pe_ix ix_list (pv 0) pe_int (fun _ _ => rfl))) (blkOk_by (own := [("pair", 1)]) (N := ["sides", "pair"]) (sc := defScope s_law_all_names) (by decide +kernel)) (fun _ _ _ _ _ => pg_name (i := 1) sc_law_all_names.nd rfl (Or.inl rfl)) (fun _ _ _ _ _ => pts_nil) (fun _ _ _ _ _ => (pe_ix (show IxR _ (rIxT K) from ix_tup) (pv 1) pe_int (fun _ _ => rfl)))) (pe_lc (own := [("pair", 1)]) (g := (gName 1)) (tt := tYes) (by rfl) sc_law_all_names.nd (pi_tup (pe_ix ix_list (pv 0) pe_int (fun _ _ => rfl))) (blkOk_by (own := [("pair", 1)]) (N := ["sides", "pair"]) (sc := defScope s_law_all_names) (by decide +kernel)) (fun _ _ _ _ _ => pg_name (i := 1) sc_law_all_names.nd rfl (Or.inl rfl)) (fun _ _ _ _ _ => pts_nil) (fun _ _ _ _ _ => (pe_ix (show IxR _ (rIxT K) from ix_tup) (pv 1) pe_int (fun _ _ => rfl))))) (pe_callTy call_list_of (by rfl) T.list (by decide +kernel) (pa_cons (pe_ix ix_list (pv 0) pe_int (fun _ _ => rfl)) pa_nil))) (pe_callTy call_list_of (by rfl) T.list (by decide +kernel) (pa_cons (pe_ix ix_list (pv 0) pe_int (fun _ _ => rfl)) pa_nil))))), ?_⟩
    obtain ⟨aA, xA, rfl, tA, dA⟩ := pt.a.tupI
    obtain ⟨aP, xP, rfl, tP, dP⟩ := pt.p.tupI
    obtain ⟨aV, xV, rfl, tV, dV⟩ := pt.v.tupI
    have n1 := dA.len
    have n2 := dP.len
    have n3 := dV.len
    rw [List.length_map] at n1 n2 n3
    have eP := dP.strE
    have eV := dV.strE
    subst eP eV
    have kk : ∀ {G G' : Hp}, Same G G' → Kp All G G' := fun m => Kp.same m
    have hL := sizeLine_eq
    refine ⟨_, rfl, R, _, 0, _, rfl, rfl, SqL.of hR, rfl, aA, rfl, ⟨_, tA.sq⟩, fun D hD => ?_⟩
    have step : ∀ (H0 : Hp), Same H H0 → ∀ {i : Nat} {y : V} {Hx : Hp}, Same H0 Hx → xA[i]? = some y → ∃ b, ∃ hi : i < ps.length, y = .ref b ∧ SqT K Hx b [.str ps[i].1, .str ps[i].2] := fun H0 m0 {i y Hx} sm hy => by
      obtain ⟨e, he, dve⟩ := dA.get hy
      have hi' : i < ps.length := by
        have := (List.getElem?_eq_some_iff.mp hy).1
        omega
      rw [List.getElem?_map, List.getElem?_eq_getElem hi'] at he
      cases he
      obtain ⟨b, rfl, hb⟩ := dve.pairI
      exact ⟨b, hi', rfl, ((kk (m0.trans sm)).tup hb).sq⟩
    refine lc_o (walk_tup (K := K) (a := aA) (xs := xA)) (fun i => ps[i]?.map fun q => V.str q.1) (by omega) hD (fun Hx sm => ((kk sm).tup tA).sq) ?_ ?_
    · rintro i y Hx H' Nx hi sm hDx ⟨rfl, hy⟩ hno hyes
      obtain ⟨b, hi', rfl, hb⟩ := step H Same.refl sm hy
      exact ⟨rfl, yes ⟨_, rfl, b, _, 0, .str ps[i].1, rfl, rfl, hb, rfl, hyes _ (by rw [List.getElem?_eq_getElem hi']; rfl) _ Same.refl⟩⟩
    intro H1 m1 hD1
    rw [n1, range_list] at hD1
    refine ⟨_, rfl, R, _, 0, _, rfl, rfl, SqL.of (m1 _ _ hR), rfl, aA, rfl, ⟨_, ((kk m1).tup tA).sq⟩, fun D2 hD2 => ?_⟩
    refine lc_o (walk_tup (K := K) (a := aA) (xs := xA)) (fun i => ps[i]?.map fun q => V.str q.2) (by omega) hD2 (fun Hx sm => ((kk (m1.trans sm)).tup tA).sq) ?_ ?_
    · rintro i y Hx H' Nx hi sm hDx ⟨rfl, hy⟩ hno hyes
      obtain ⟨b, hi', rfl, hb⟩ := step H1 m1 sm hy
      exact ⟨rfl, yes ⟨_, rfl, b, _, 1, .str ps[i].2, rfl, rfl, hb, rfl, hyes _ (by rw [List.getElem?_eq_getElem hi']; rfl) _ Same.refl⟩⟩
    intro H2 m2 hD2
    rw [n1, range_list] at hD2
    refine ⟨D, D2, _, _, rfl, rfl, m2 _ _ hD1, hD2, by rw [List.length_map, List.length_map]; omega, fun D3 hD3 => ?_⟩
    have m12 := m1.trans m2
    have e0 : (ps.map fun q => V.str q.1) ++ (ps.map fun q => V.str q.2) = (ps.map (·.1) ++ ps.map (·.2)).map V.str := by rw [List.map_append, List.map_map, List.map_map]; rfl
    rw [e0]
    have m3 : Same H2 (upd H2 D3 (.lst ((ps.map (·.1) ++ ps.map (·.2)).map V.str))) := Same.upd hD3
    have e3 : (upd H2 D3 (.lst ((ps.map (·.1) ++ ps.map (·.2)).map V.str))) D3 = some (.lst ((ps.map (·.1) ++ ps.map (·.2)).map V.str)) := upd_same
    generalize upd H2 D3 (.lst ((ps.map (·.1) ++ ps.map (·.2)).map V.str)) = H3 at m3 e3 ⊢
    have m13 := m12.trans m3
    refine ⟨_, rfl, R, _, 1, _, rfl, rfl, SqL.of (m13 _ _ hR), rfl, aP, _, rfl, .inr ((kk m13).tup tP).sq, fun D4 hD4 => ?_⟩
    have m4 : Same H3 (upd H3 D4 (.lst (ns.map V.str))) := Same.upd hD4
    have e4 : (upd H3 D4 (.lst (ns.map V.str))) D4 = some (.lst (ns.map V.str)) := upd_same
    generalize upd H3 D4 (.lst (ns.map V.str)) = H4 at m4 e4 ⊢
    refine ⟨D3, D4, _, _, rfl, rfl, m4 _ _ e3, e4, by simp only [List.length_append, List.length_map]; omega, fun D5 hD5 => ?_⟩
    rw [← List.map_append]
    have m5 := m4.trans (Same.upd (o := .lst (((ps.map (·.1) ++ ps.map (·.2)) ++ ns).map V.str)) hD5)
    have e5 : (upd H4 D5 (.lst (((ps.map (·.1) ++ ps.map (·.2)) ++ ns).map V.str))) D5 = some (.lst (((ps.map (·.1) ++ ps.map (·.2)) ++ ns).map V.str)) := upd_same
    generalize upd H4 D5 (.lst (((ps.map (·.1) ++ ps.map (·.2)) ++ ns).map V.str)) = H5 at m5 e5 ⊢
    have m15 := m13.trans m5
    refine ⟨_, rfl, R, _, 2, _, rfl, rfl, SqL.of (m15 _ _ hR), rfl, aV, _, rfl, .inr ((kk m15).tup tV).sq, fun D6 hD6 => ?_⟩
    have m6 : Same H5 (upd H5 D6 (.lst (us.map V.str))) := Same.upd hD6
    have e6 : (upd H5 D6 (.lst (us.map V.str))) D6 = some (.lst (us.map V.str)) := upd_same
    generalize upd H5 D6 (.lst (us.map V.str)) = H6 at m6 e6 ⊢
    refine ⟨D5, D6, _, _, rfl, rfl, m6 _ _ e5, e6, by simp only [List.length_append, List.length_map]; omega, fun D7 hD7 => ?_⟩
    rw [← List.map_append]
    have m17 := m15.trans m6
    refine k D7 _ ?_ (m17.trans (Same.upd hD7)) upd_same
    exact newS m17 hD7
abbrev N_law_own_names : List Str := ["keg", "sides", "names", "name"]
abbrev P_law_own_names : List Str := ["keg", "sides"]
theorem sc_law_own_names : FnScope N_law_own_names P_law_own_names (defScope s_law_own_names) := ⟨rfl, rfl, rfl, by decide +kernel, rfl, by decide +kernel, by decide +kernel⟩
def O7 : List Str := ["k", "kk", "j", "z", "own", "not", "i"]
def spON : Sp := fun vs H Q _ => ∃ (p R : Addr) (n : Nat) (va vp vv : V) (ps : List (Str × Str)) (ns us : List Str), vs = [.ref p, .ref R] ∧ PotAt H p n ∧ n ≤ 600000 ∧ RecAt H R va vp vv ps ns us ∧ Sides ps ns us ∧
  ∀ (o : Addr) (ow : List Str) (H' : Hp), TupF H' o (ow.map V.str) → OwnTup ps ns us ow → PotAt H' p (n + 20) → KpP p H H' → Q (.ref o) H'
theorem own_filter {ps : List (Str × Str)} {ns us : List Str} (h : Sides ps ns us) : 2 ≤ (O7.filter fun z => !decide (z ∈ anL ps ns us)).length := by
  have n1 : ¬ ("z" : Str) ∈ anL ps ns us := fun e => absurd (h.w14 _ e) (by decide +kernel)
  have n2 : ¬ ("own" : Str) ∈ anL ps ns us := fun e => absurd (h.w14 _ e) (by decide +kernel)
  have h1 : ("z" : Str) ∈ (O7.filter fun z => !decide (z ∈ anL ps ns us)) := List.mem_filter.mpr ⟨by decide +kernel, by rw [decide_eq_false n1]; rfl⟩
  have h2 : ("own" : Str) ∈ (O7.filter fun z => !decide (z ∈ anL ps ns us)) := List.mem_filter.mpr ⟨by decide +kernel, by rw [decide_eq_false n2]; rfl⟩
  match hl : (O7.filter fun z => !decide (z ∈ anL ps ns us)) with
  | [] => rw [hl] at h1; cases h1
  | [x] =>
    rw [hl] at h1 h2
    rw [List.mem_singleton] at h1 h2
    rw [← h1] at h2
    exact absurd h2 (by decide +kernel)
  | _ :: _ :: r => simp only [List.length_cons]; omega
theorem ok_on (T : Bt mg) (h : Has K mg "_law_own_names" s_law_own_names) (C1 : Ca P w K mg base 1 "_law_tap" P_law_tap spTap) (C2 : Ca P w K mg base 1 "_law_all_names" P_law_all_names spAN) (C3 : Ca P w K mg base 2 "_law_choices" P_law_choices spChs) : Ca P w K mg base 3 "_law_own_names" P_law_own_names spON := by
  obtain ⟨_, _, c__law_tap⟩ := C1
  obtain ⟨_, _, c__law_all_names⟩ := C2
  obtain ⟨_, _, c__law_choices⟩ := C3
  refine cal_of h sc_law_own_names (fun _ _ _ _ _ _ us hl => match us, hl with | [_, _], _ => rfl) (fun vs H Q E h => ?_) (fun f cdv A outer s H vs Q E hr h => ?_)
  · obtain ⟨p, R, n, va, vp, vv, ps, ns, us, rfl, _⟩ := h
    rfl
  · obtain ⟨p, R, n, va, vp, vv, ps, ns, us, rfl, hp, hn, rc, sd, k⟩ := h
    refine ⟨_, (pss_cons (ps_setLc (i := 2) (own := [("name", 3)]) (g := (gName 3)) (by rfl) sc_law_own_names.nd rfl rfl (sw_true rfl rfl rfl (by decide +kernel)) (pi_list (pe_lst (pa_cons pe_str (pa_cons pe_str (pa_cons pe_str (pa_cons pe_str (pa_cons pe_str (pa_cons pe_str (pa_cons pe_str pa_nil))))))))) (blkOk_by (own := [("name", 3)]) (N := ["keg", "sides", "names", "name"]) (sc := defScope s_law_own_names) (by decide +kernel)) (fun _ _ _ _ _ => pg_name (i := 3) sc_law_own_names.nd rfl (Or.inl rfl)) (fun _ _ _ _ _ => pts_one (pt_cmpR (show OpR _ (compareOp .NotIn) (rIn K true) from op_notIn_seq) (pv 3) (pe_call c__law_all_names.1 (hr.mono (by decide)) rfl c__law_all_names.2.1 c__law_all_names.2.2.1 c__law_all_names.2.2.2 .nil pass0 (pa_cons (pv 1) pa_nil)) rfl)) (fun _ _ _ _ _ => (pv 3)))
      (pss_one (ps_ret (pe_callTy call_tupF (by rfl) T.tuple (by decide +kernel) (pa_cons (pe_call c__law_choices.1 (hr.mono (by decide)) rfl c__law_choices.2.1 c__law_choices.2.2.1 c__law_choices.2.2.2 .nil pass0 (pa_cons (pv 0) (pa_cons (pv 2) (pa_cons (pe_op op_add pe_int (pe_call c__law_tap.1 (hr.mono (by decide)) rfl c__law_tap.2.1 c__law_tap.2.2.1 c__law_tap.2.2.2 .nil pass0 (pa_cons (pv 0) (pa_cons pe_int pa_nil)))) pa_nil)))) pa_nil))))), ?_⟩
    refine ⟨by show 7 ≤ sizeLine; decide, fun l hl => ⟨l, rfl, ⟨_, SqL.of upd_same⟩, fun D hD => ?_⟩⟩
    have e7 : (upd H l (.lst [.str "k", .str "kk", .str "j", .str "z", .str "own", .str "not", .str "i"])) l = some (.lst (O7.map V.str)) := upd_same
    have s1 : Same H (upd H l (.lst [.str "k", .str "kk", .str "j", .str "z", .str "own", .str "not", .str "i"])) := Same.upd hl
    generalize upd H l (.lst [.str "k", .str "kk", .str "j", .str "z", .str "own", .str "not", .str "i"]) = H1 at hD e7 s1 ⊢
    refine lc_o (walk_list (K := K) (a := l) (xs := O7.map V.str)) (fun i => O7[i]?.bind fun z => if z ∈ anL ps ns us then none else some (.str z)) (by rw [List.length_map]; show 7 < sizeLine; decide) hD (fun Hx sm => SqL.of (sm _ _ e7)) ?_ ?_
    · rintro i y Hx H' Nx hi sm hDx ⟨rfl, hy⟩ hno hyes
      rw [List.getElem?_map] at hy
      cases hz : O7[i]? with
      | none => rw [hz] at hy; cases hy
      | some z =>
      rw [hz] at hy
      cases hy
      refine ⟨rfl, _, rfl, _, rfl, R, va, vp, vv, ps, ns, us, rfl, rc.same (s1.trans sm), fun D2 H2 hD2 s2 e2 => ?_⟩
      refine ⟨D2, _, rfl, .inl (SqL.of e2), rfl, flat_strs _, _, rfl, ?_⟩
      rw [inV_str]
      by_cases hm : z ∈ anL ps ns us
      · rw [decide_eq_true hm]
        exact iteF (hno (by rw [hz]; exact if_pos hm) _ s2)
      · rw [decide_eq_false hm]
        exact iteT ⟨_, rfl, hyes _ (by rw [hz]; exact if_neg hm) _ s2⟩
    intro H2 s2 hD2
    have efl : (List.range (O7.map V.str).length).filterMap (fun i => O7[i]?.bind fun z => if z ∈ anL ps ns us then none else some (V.str z)) = (O7.filter fun z => !decide (z ∈ anL ps ns us)).map V.str := by
      rw [List.length_map, range_bind (fun z => if z ∈ anL ps ns us then none else some (V.str z)) O7]
      generalize O7 = l7
      induction l7 with
      | nil => rfl
      | cons z r ih =>
        rw [List.filterMap_cons, List.filter_cons]
        by_cases hm : z ∈ anL ps ns us
        · rw [if_pos hm, decide_eq_true hm]
          exact ih
        · rw [if_neg hm, decide_eq_false hm]
          exact congrArg (V.str z :: ·) ih
    rw [efl] at hD2
    have hlen := own_filter sd
    have hle : (O7.filter fun z => !decide (z ∈ anL ps ns us)).length ≤ 7 := List.length_filter_le _ _
    have hnd : (O7.filter fun z => !decide (z ∈ anL ps ns us)).Nodup := (List.filter_sublist).nodup (by decide +kernel)
    have hmem : ∀ z ∈ (O7.filter fun z => !decide (z ∈ anL ps ns us)), NameS z ∧ ¬ z ∈ allN ps ns us := fun z hz => by
      obtain ⟨h1, h2⟩ := List.mem_filter.mp hz
      have n7 : ∀ z ∈ O7, NameS z := by decide +kernel
      exact ⟨n7 z h1, fun e => by rw [decide_eq_true ((an_all z).mpr e)] at h2; cases h2⟩
    generalize (O7.filter fun z => !decide (z ∈ anL ps ns us)) = zs at hD2 hlen hle hnd hmem
    have s12 := s1.trans s2
    have hp2 := hp.same s12
    have hDp : D ≠ p := (hp.same s1).ne hD
    refine ⟨_, rfl, _, rfl, _, rfl, p, n, _, rfl, hp2, by omega, by decide, by decide, fun d H3 hd0 hd1 hp3 hk3 => ?_⟩
    refine ⟨_, _, rfl, rfl, p, D, n + 1, _, zs, rfl, hp3, by omega, hk3.get hD2 hDp, hDp, by omega, by omega, fun D4 ws rest H4 hD4 hperm hwl e4 hp4 hk4 => ?_⟩
    refine ⟨D4, _, rfl, SqL.of e4, fun t H5 s5 h5 => ?_⟩
    have hnd2 : (ws ++ rest).Nodup := hperm.nodup_iff.mpr hnd
    refine k t ws H5 h5 ⟨fun e => ?_, by omega, (List.nodup_append.mp hnd2).1, fun z hz => hmem z (hperm.mem_iff.mp (List.mem_append.mpr (.inl hz)))⟩ ((hp4.same s5).mono (by omega)) ?_
    · rw [e] at hwl
      simp only [List.length_nil] at hwl
      omega
    · exact (((Kp.same s12).trans hk3).trans hk4).trans (Kp.same s5)
end
end Kx
namespace Kx
open PySem PySem.Spec PyProof.Rows L2
/-- the contract of the names of places -/
def spPN : Sp := fun vs H Q _ => ∃ (R : Addr) (va vp vv : V) (ps : List (Str × Str)) (ns us : List Str), vs = [.ref R] ∧ RecAt H R va vp vv ps ns us ∧ Sides ps ns us ∧
  ∀ (D : Addr) (zs : List Str) (H' : Hp), H D = none → Same H H' → (∀ z, z ∈ zs ↔ z = "" ∨ z ∈ ns ∨ z ∈ ps.map (·.2)) → zs.length ≤ 20 → H' D = some (.lst (zs.map V.str)) → Q (.ref D) H'
def NumOk (i : Int) : Prop := -(10 ^ 21) < i ∧ i < 10 ^ 21
theorem NumOk.d {i : Int} (h : NumOk i) : intD (.int i) = true := decide_eq_true (by unfold lim; unfold NumOk at h; omega)
section
variable {P : Program} {w : World} {K : PySem.W.Frag} {mg : Str → Option Value} {base : Heap}
abbrev N_law_number : List Str := ["keg"]
abbrev P_law_number : List Str := ["keg"]
theorem sc_law_number : FnScope N_law_number P_law_number (defScope s_law_number) := ⟨rfl, rfl, rfl, by decide +kernel, rfl, by decide +kernel, by decide +kernel⟩
def spNum : Sp := fun vs H Q _ => ∃ (p : Addr) (n : Nat), vs = [.ref p] ∧ PotAt H p n ∧ n ≤ 900000 ∧ ∀ (i : Int) (H' : Hp), NumOk i → PotAt H' p (n + 1) → KpP p H H' → Q (.int i) H'
theorem ok_num (T : Bt mg) (h : Has K mg "_law_number" s_law_number) (C2 : Ca P w K mg base 2 "_law_choice" P_law_choice spChoice) : Ca P w K mg base 3 "_law_number" P_law_number spNum := by
  obtain ⟨_, _, c__law_choice⟩ := C2
  refine cal_of h sc_law_number (fun _ _ _ _ _ _ us hl => match us, hl with | [_], _ => rfl) (fun vs H Q E h => ?_) (fun f cdv A outer s H vs Q E hr h => ?_)
  · obtain ⟨p, n, rfl, _⟩ := h
    rfl
  · obtain ⟨p, n, rfl, hp, hn, k⟩ := h
    refine ⟨_, (pss_one (ps_ret (pe_call c__law_choice.1 (hr.mono (by decide)) rfl c__law_choice.2.1 c__law_choice.2.2.1 c__law_choice.2.2.2 .nil pass0 (pa_cons (pv 0) (pa_cons (pe_lst (pa_cons pe_int (pa_cons pe_int (pa_cons pe_int (pa_cons (pe_un un_neg pe_int) (pa_cons pe_int (pa_cons (pe_un un_neg pe_int) (pa_cons pe_int (pa_cons (pe_op op_pow pe_int pe_int) (pa_cons pe_int (pa_cons pe_int pa_nil))))))))))) pa_nil))))), ?_⟩
    refine ⟨_, rfl, _, rfl, _, rfl, _, _, rfl, rfl, ⟨by decide, by decide, by decide⟩, by show 10 ≤ sizeLine; decide, fun l hl => ⟨p, n, .ref l, _, rfl, hp.same (Same.upd hl), by omega, .inl ⟨l, rfl, hp.ne hl, upd_same⟩, by show 1 ≤ 10; decide, by show 10 ≤ 1000; decide, fun j v H2 hv hp2 hk2 => ?_⟩⟩
    have all : ∀ v ∈ ([.int 0, .int 0, .int 1, .int (-1), .int 2, .int (-2), .int 3, .int (10 ^ (20 : Int).toNat), .int 0, .int 1] : List V), ∃ i, v = .int i ∧ NumOk i := (by repeat (first | exact List.forall_mem_nil _ | refine List.forall_mem_cons.mpr ⟨⟨_, rfl, by unfold NumOk; decide⟩, ?_⟩))
    obtain ⟨i, rfl, hi⟩ := all v (List.mem_of_getElem? hv)
    exact k i H2 hi hp2 ((Kp.new hl).trans hk2)
abbrev N_law_place : List Str := ["keg", "sides"]
abbrev P_law_place : List Str := ["keg", "sides"]
theorem sc_law_place : FnScope N_law_place P_law_place (defScope s_law_place) := ⟨rfl, rfl, rfl, by decide +kernel, rfl, by decide +kernel, by decide +kernel⟩
def spPl : Sp := fun vs H Q _ => ∃ (p R : Addr) (n : Nat) (va vp vv : V) (ps : List (Str × Str)) (ns us : List Str), vs = [.ref p, .ref R] ∧ PotAt H p n ∧ n ≤ 800000 ∧ R ≠ p ∧ RecAt H R va vp vv ps ns us ∧ Sides ps ns us ∧
  ∀ (t : Addr) (z : Str) (i : Int) (H' : Hp), (z = "" ∨ z ∈ ns ∨ z ∈ ps.map (·.2)) → NumOk i → TupF H' t [.str z, .int i] → PotAt H' p (n + 2) → KpP p H H' → Q (.ref t) H'
theorem ok_pl (T : Bt mg) (h : Has K mg "_law_place" s_law_place) (C2 : Ca P w K mg base 2 "_law_choice" P_law_choice spChoice) (C3 : Ca P w K mg base 2 "_law_place_names" P_law_place_names spPN) (C4 : Ca P w K mg base 3 "_law_number" P_law_number spNum) : Ca P w K mg base 4 "_law_place" P_law_place spPl := by
  obtain ⟨_, _, c__law_choice⟩ := C2
  obtain ⟨_, _, c__law_place_names⟩ := C3
  obtain ⟨_, _, c__law_number⟩ := C4
  refine cal_of h sc_law_place (fun _ _ _ _ _ _ us hl => match us, hl with | [_, _], _ => rfl) (fun vs H Q E h => ?_) (fun f cdv A outer s H vs Q E hr h => ?_)
  · obtain ⟨p, R, n, va, vp, vv, ps, ns, us, rfl, _⟩ := h
    rfl
  · obtain ⟨p, R, n, va, vp, vv, ps, ns, us, rfl, hp, hn, hRp, rc, sd, k⟩ := h
    refine ⟨_, (pss_one (ps_ret (pe_tupF (pa_cons (pe_call c__law_choice.1 (hr.mono (by decide)) rfl c__law_choice.2.1 c__law_choice.2.2.1 c__law_choice.2.2.2 .nil pass0 (pa_cons (pv 0) (pa_cons (pe_call c__law_place_names.1 (hr.mono (by decide)) rfl c__law_place_names.2.1 c__law_place_names.2.2.1 c__law_place_names.2.2.2 .nil pass0 (pa_cons (pv 1) pa_nil)) pa_nil))) (pa_cons (pe_call c__law_number.1 (hr.mono (by decide)) rfl c__law_number.2.1 c__law_number.2.2.1 c__law_number.2.2.2 .nil pass0 (pa_cons (pv 0) pa_nil)) pa_nil))))), ?_⟩
    refine ⟨_, rfl, _, rfl, R, va, vp, vv, ps, ns, us, rfl, rc, sd, fun D zs H1 hD s1 hz hzl e1 => ?_⟩
    have hDp : D ≠ p := hp.ne hD
    have hz1 : 1 ≤ zs.length := List.length_pos_of_mem ((hz "").mpr (.inl rfl))
    refine ⟨p, n, .ref D, _, rfl, hp.same s1, by omega, .inl ⟨D, rfl, hDp, e1⟩, by rw [List.length_map]; omega, by rw [List.length_map]; omega, fun j v H2 hv hp2 hk2 => ?_⟩
    rw [List.getElem?_map] at hv
    cases hv2 : zs[j]? with
    | none => rw [hv2] at hv; cases hv
    | some z =>
    rw [hv2] at hv
    cases hv
    refine ⟨_, rfl, p, n + 1, rfl, hp2, by omega, fun i H3 hi hp3 hk3 => ⟨by show 2 ≤ sizeLine; decide, fun t H4 s4 h4 => ?_⟩⟩
    exact k t z i H4 ((hz z).mp (List.mem_of_getElem? hv2)) hi h4 (hp3.same s4) ((((Kp.same s1).trans hk2).trans hk3).trans (Kp.same s4))
end
end Kx
namespace Kx
open PySem PySem.Spec PyProof.Rows L2
/-- the kinds of names, as the law has them -/
theorem kind_mem {ps : List (Str × Str)} {ns us : List Str} (nd : (allN ps ns us).Nodup) {z : Str} (hz : z ∈ allN ps ns us) : (z ∈ ps.map (·.1) ∧ kindF ps ns z = "array") ∨ (z ∈ ps.map (·.2) ∧ kindF ps ns z = "length") ∨ (z ∈ ns ∧ kindF ps ns z = "position") ∨ (z ∈ us ∧ kindF ps ns z = "value") := by
  rcases List.mem_append.mp hz with h | h
  · exact .inl ⟨h, kind_array nd z h⟩
  · rcases List.mem_append.mp h with h | h
    · have h := (uniq_mem _ _).mp h
      exact .inr (.inl ⟨h, kind_length nd z h⟩)
    · rcases List.mem_append.mp h with h | h
      · exact .inr (.inr (.inl ⟨h, kind_position nd z h⟩))
      · exact .inr (.inr (.inr ⟨h, kind_value nd z h⟩))
theorem kd_pos {ps : List (Str × Str)} {ns us : List Str} (nd : (allN ps ns us).Nodup) (z : Str) : kindD ps ns us "position" (.str z) = decide (z ∈ ns) := by
  refine decide_eq_decide.mpr ⟨fun ⟨hz, hk⟩ => ?_, fun h => ⟨List.mem_append.mpr (.inr (List.mem_append.mpr (.inr (List.mem_append.mpr (.inl h))))), kind_position nd z h⟩⟩
  rcases kind_mem nd hz with ⟨h, e⟩ | ⟨h, e⟩ | ⟨h, e⟩ | ⟨h, e⟩
  · rw [e] at hk; exact absurd hk (by decide +kernel)
  · rw [e] at hk; exact absurd hk (by decide +kernel)
  · exact h
  · rw [e] at hk; exact absurd hk (by decide +kernel)
theorem kd_len {ps : List (Str × Str)} {ns us : List Str} (nd : (allN ps ns us).Nodup) (z : Str) : kindD ps ns us "length" (.str z) = decide (z ∈ uniq (ps.map (·.2))) := by
  refine decide_eq_decide.mpr ⟨fun ⟨hz, hk⟩ => ?_, fun h => ⟨List.mem_append.mpr (.inr (List.mem_append.mpr (.inl h))), kind_length nd z ((uniq_mem _ _).mp h)⟩⟩
  rcases kind_mem nd hz with ⟨h, e⟩ | ⟨h, e⟩ | ⟨h, e⟩ | ⟨h, e⟩
  · rw [e] at hk; exact absurd hk (by decide +kernel)
  · exact (uniq_mem _ _).mpr h
  · rw [e] at hk; exact absurd hk (by decide +kernel)
  · rw [e] at hk; exact absurd hk (by decide +kernel)
theorem kd_arr {ps : List (Str × Str)} {ns us : List Str} (nd : (allN ps ns us).Nodup) (z : Str) : kindD ps ns us "array" (.str z) = decide (z ∈ ps.map (·.1)) := by
  refine decide_eq_decide.mpr ⟨fun ⟨hz, hk⟩ => ?_, fun h => ⟨List.mem_append.mpr (.inl h), kind_array nd z h⟩⟩
  rcases kind_mem nd hz with ⟨h, e⟩ | ⟨h, e⟩ | ⟨h, e⟩ | ⟨h, e⟩
  · exact h
  · rw [e] at hk; exact absurd hk (by decide +kernel)
  · rw [e] at hk; exact absurd hk (by decide +kernel)
  · rw [e] at hk; exact absurd hk (by decide +kernel)
theorem kd_val {ps : List (Str × Str)} {ns us : List Str} (nd : (allN ps ns us).Nodup) (z : Str) : kindD ps ns us "value" (.str z) = decide (z ∈ us) := by
  refine decide_eq_decide.mpr ⟨fun ⟨hz, hk⟩ => ?_, fun h => ⟨List.mem_append.mpr (.inr (List.mem_append.mpr (.inr (List.mem_append.mpr (.inr h))))), kind_value nd z h⟩⟩
  rcases kind_mem nd hz with ⟨h, e⟩ | ⟨h, e⟩ | ⟨h, e⟩ | ⟨h, e⟩
  · rw [e] at hk; exact absurd hk (by decide +kernel)
  · rw [e] at hk; exact absurd hk (by decide +kernel)
  · rw [e] at hk; exact absurd hk (by decide +kernel)
  · exact h
theorem nameAt_str {ps : List (Str × Str)} {ns us ow : List Str} (nd : (allN ps ns us).Nodup) (z : Str) : nameAtD ps ns us ow (.str z) = decide (z ∈ (([("" : Str)] ++ ns) ++ uniq (ps.map (·.2))) ++ ow) := by
  show (decide (z = "") || (decide (z ∈ ow) || (kindD ps ns us "position" (.str z) || kindD ps ns us "length" (.str z)))) = _
  rw [kd_pos nd, kd_len nd, ← Bool.decide_or, ← Bool.decide_or, ← Bool.decide_or]
  refine decide_eq_decide.mpr ?_
  simp only [List.mem_append, List.mem_singleton]
  constructor
  · rintro (h | h | h | h)
    · exact .inl (.inl (.inl h))
    · exact .inr h
    · exact .inl (.inl (.inr h))
    · exact .inl (.inr h)
  · rintro (((h | h) | h) | h)
    · exact .inl h
    · exact .inr (.inr (.inl h))
    · exact .inr (.inr (.inr h))
    · exact .inr (.inl h)
/-- no text is no name -/
theorem nameAt_no {ps : List (Str × Str)} {ns us ow : List Str} {d : PyData} (h : isStrD d = false) : nameAtD ps ns us ow d = false := by
  cases d <;> first | rfl | (cases h; done)
theorem dupW {S T : Hp → V → Prop} {goal : Prop} (main : (∀ G w, S G w → T G w) → goal) (body : ∀ G w, S G w → T G w) : goal := main body
/-- a name of a place, also an own one -/
theorem place_ok {ps : List (Str × Str)} {ns us ow : List Str} (nd : (allN ps ns us).Nodup) {z : Str} {i : Int} (h : z = "" ∨ z ∈ ns ∨ z ∈ ps.map (·.2) ∨ z ∈ ow) (hi : intD (.int i) = true) : placeD ps ns us ow (.tuple [.str z, .int i]) = true := by
  show (intD (.int i) && nameAtD ps ns us ow (.str z)) = true
  rw [hi, nameAt_str nd, Bool.true_and]
  refine decide_eq_true ?_
  simp only [List.mem_append, List.mem_singleton, uniq_mem]
  rcases h with h | h | h | h
  · exact .inl (.inl (.inl h))
  · exact .inl (.inl (.inr h))
  · exact .inl (.inr h)
  · exact .inr h
/-- what is drawn, and its bounds -/
def Wor (ps : List (Str × Str)) (ns us ow : List Str) (d : PyData) : Prop := bodyTermD ps ns us ow d = true ∧ cost d ≤ 600 ∧ okD d ∧ d.depth = 1
theorem okS_w {z : Str} (h : NameS z) : okS z := okS_name h
theorem num_ok {i : Int} (h : NumOk i) : okD (.int i) := by
  show i.natAbs < 10 ^ 100
  unfold NumOk at h
  omega
def OwnAny (ps : List (Str × Str)) (ns us ow : List Str) : Prop := ow = [] ∨ OwnTup ps ns us ow
theorem OwnAny.no {ps : List (Str × Str)} {ns us ow : List Str} (h : OwnAny ps ns us ow) {z : Str} (hz : z ∈ allN ps ns us ∨ z = "") : ¬ z ∈ ow := by
  rcases h with rfl | h
  · exact List.not_mem_nil
  · intro e
    rcases hz with hz | rfl
    · exact (h.2.2.2 z e).2 hz
    · exact absurd (h.2.2.2 _ e).1.1 (by decide +kernel)
section
variable {P : Program} {w : World} {K : PySem.W.Frag} {mg : Str → Option Value} {base : Heap}
abbrev N_law_worth : List Str := ["keg", "sides", "own", "way", "array", "at"]
abbrev P_law_worth : List Str := ["keg", "sides", "own"]
theorem sc_law_worth : FnScope N_law_worth P_law_worth (defScope s_law_worth) := ⟨rfl, rfl, rfl, by decide +kernel, rfl, by decide +kernel, by decide +kernel⟩
def spWo : Sp := fun vs H Q _ => ∃ (p R o : Addr) (n : Nat) (va vp vv : V) (ps : List (Str × Str)) (ns us ow : List Str), vs = [.ref p, .ref R, .ref o] ∧ PotAt H p n ∧ n ≤ 700000 ∧ R ≠ p ∧ RecAt H R va vp vv ps ns us ∧ Sides ps ns us ∧ TupF H o (ow.map V.str) ∧ OwnAny ps ns us ow ∧
  ∀ (v : V) (d : PyData) (H' : Hp), Dv All H' v d → Wor ps ns us ow d → PotAt H' p (n + 10) → KpP p H H' → Q v H'
theorem ok_wo (T : Bt mg) (h : Has K mg "_law_worth" s_law_worth) (C1 : Ca P w K mg base 1 "_law_tap" P_law_tap spTap) (C2 : Ca P w K mg base 2 "_law_choice" P_law_choice spChoice) (C3 : Ca P w K mg base 3 "_law_number" P_law_number spNum) (C4 : Ca P w K mg base 4 "_law_place" P_law_place spPl) : Ca P w K mg base 5 "_law_worth" P_law_worth spWo := by
  obtain ⟨_, _, c__law_tap⟩ := C1
  obtain ⟨_, _, c__law_choice⟩ := C2
  obtain ⟨_, _, c__law_number⟩ := C3
  obtain ⟨_, _, c__law_place⟩ := C4
  refine cal_of h sc_law_worth (fun _ _ _ _ _ _ us hl => match us, hl with | [_, _, _], _ => rfl) (fun vs H Q E h => ?_) (fun f cdv A outer s H vs Q E hr h => ?_)
  · obtain ⟨p, R, o, n, va, vp, vv, ps, ns, us, ow, rfl, _⟩ := h
    rfl
  · obtain ⟨p, R, o, n, va, vp, vv, ps, ns, us, ow, rfl, hp, hn, hRp, rc, sd, to, hw, k⟩ := h
    refine ⟨_, (pss_cons (ps_set (i := 3) sc_law_worth.nd rfl (.inl rfl) (pe_call c__law_tap.1 (hr.mono (by decide)) rfl c__law_tap.2.1 c__law_tap.2.2.1 c__law_tap.2.2.2 .nil pass0 (pa_cons (pv 0) (pa_cons pe_int pa_nil))))
      (pss_cons (ps_if (PW.pt (pw_or (pt_cmpR op_eq (pv 3) pe_int (nomark _)) (pw_or1 (PW.pt (pw_and (pt_cmpR (op_eqT0 hr.units0) (pe_ix ix_list (pv 1) pe_int (fun _ _ => rfl)) (pe_tupF pa_nil) (nomark _)) (pw_and1 (pt_cmpR op_eq (pv 3) pe_int (nomark _)))))))) (pss_one (ps_ret (pe_tupF (pa_cons pe_str (pa_cons (pe_call c__law_number.1 (hr.mono (by decide)) rfl c__law_number.2.1 c__law_number.2.2.1 c__law_number.2.2.2 .nil pass0 (pa_cons (pv 0) pa_nil)) pa_nil))))) pss_nil)
      (pss_cons (ps_if (PW.pt (pw_or (pt_cmpR op_eq (pv 3) pe_int (nomark _)) (pw_or1 (pt_cmpR (op_eqT0 hr.units0) (pe_ix ix_list (pv 1) pe_int (fun _ _ => rfl)) (pe_tupF pa_nil) (nomark _))))) (pss_one (ps_ret (pe_tupF (pa_cons (pe_call c__law_choice.1 (hr.mono (by decide)) rfl c__law_choice.2.1 c__law_choice.2.2.1 c__law_choice.2.2.2 .nil pass0 (pa_cons (pv 0) (pa_cons (pe_op op_cat (pe_lst (pa_cons pe_str pa_nil)) (pe_callTy call_list_of (by rfl) T.list (by decide +kernel) (pa_cons (pe_ix ix_list (pv 1) pe_int (fun _ _ => rfl)) pa_nil))) pa_nil))) (pa_cons (pe_call c__law_number.1 (hr.mono (by decide)) rfl c__law_number.2.1 c__law_number.2.2.1 c__law_number.2.2.2 .nil pass0 (pa_cons (pv 0) pa_nil)) pa_nil))))) pss_nil)
      (pss_cons (ps_par (i := 4) (j := 5) (by rfl) sc_law_worth.nd rfl rfl (by decide) rfl rfl (pa_cons (pe_ix ix_tup (pe_call c__law_choice.1 (hr.mono (by decide)) rfl c__law_choice.2.1 c__law_choice.2.2.1 c__law_choice.2.2.2 .nil pass0 (pa_cons (pv 0) (pa_cons (pe_ix ix_list (pv 1) pe_int (fun _ _ => rfl)) pa_nil))) pe_int (fun _ _ => rfl)) (pa_cons (pe_call c__law_place.1 (hr.mono (by decide)) rfl c__law_place.2.1 c__law_place.2.2.1 c__law_place.2.2.2 .nil pass0 (pa_cons (pv 0) (pa_cons (pv 1) pa_nil))) pa_nil)) (by rfl))
      (pss_cons (ps_if (PW.pt (pw_and (pt_cmpR (op_neT0 hr.units0) (pv 2) (pe_tupF pa_nil) (nomark _)) (pw_and1 (pt_cmpR op_eq (pv 3) pe_int (nomark _))))) (pss_one (ps_set (i := 5) sc_law_worth.nd rfl (.inl rfl) (pe_tupF (pa_cons (pe_call c__law_choice.1 (hr.mono (by decide)) rfl c__law_choice.2.1 c__law_choice.2.2.1 c__law_choice.2.2.2 .nil pass0 (pa_cons (pv 0) (pa_cons (pv 2) pa_nil))) (pa_cons pe_int pa_nil))))) pss_nil)
      (pss_one (ps_ret (pe_tupF (pa_cons (pv 4) (pa_cons (pe_ix ix_tup (pv 5) pe_int (fun _ _ => rfl)) (pa_cons (pe_ix ix_tup (pv 5) pe_int (fun _ _ => rfl)) (pa_cons (pe_call c__law_number.1 (hr.mono (by decide)) rfl c__law_number.2.1 c__law_number.2.2.1 c__law_number.2.2.2 .nil pass0 (pa_cons (pv 0) pa_nil)) pa_nil)))))))))))), ?_⟩
    refine ⟨_, rfl, p, n, _, rfl, hp, by omega, by decide, by decide, fun way H1 hw0 hw1 hp1 hk1 => ?_⟩
    have hR1 := hk1.get rc.l hRp
    obtain ⟨aA, xA, eA, tA, dA⟩ := rc.pt.a.tupI
    have tA1 := hk1.tup tA
    subst eA
    have lA := dA.len
    rw [List.length_map] at lA
    obtain ⟨aV, xV, eV, tV, dV⟩ := rc.pt.v.tupI
    have hL := sizeLine_eq
    have l3 := sd.l3
    have nd := sd.nd
    have kz : ∀ {X Y : Hp}, Same X Y → Kp All X Y := fun h => Kp.same h
    have ho2 : ow.length ≤ 2 := by
      rcases hw with e | e
      · rw [e]; exact Nat.zero_le _
      · exact e.2.1
    have neo : o ≠ p := fun e => by
      obtain ⟨_, _, ee⟩ := to
      obtain ⟨_, _, _, ee2, _⟩ := hp
      rw [e, ee2] at ee
      cases ee
    -- ('', number)
    have finA : ∀ (G : Hp) (m : Nat) (i : Int) (z : Str) (t : Addr), KpP p H G → PotAt G p m → m ≤ n + 10 → NumOk i → (z = "" ∨ z ∈ us) → TupF G t [.str z, .int i] → Q (.ref t) G := fun G m i z t kG pG hm hi hz hT => by
      refine k _ (.tuple [.str z, .int i]) G (.tupM hT (.cons (.str _) (.cons (.int _) .nil))) ⟨?_, ?_, ?_, by simp only [PyData.depth, PyData.depthAll]; rfl⟩ (pG.mono hm) kG
      · show (((decide (z = "") || kindD ps ns us "value" (.str z)) && intD (.int i)) && true) = true
        rw [hi.d, kd_val nd, Bool.and_true, Bool.and_true]
        rcases hz with rfl | hz
        · rw [decide_eq_true rfl]; rfl
        · rw [decide_eq_true hz, Bool.or_true]
      · simp only [cost, costL]
        have : z.length ≤ 8 := by
          rcases hz with rfl | hz
          · decide +kernel
          · exact (sd.nm.2.2 z hz).2.1
        omega
      · refine okL_mem.mpr fun x hx => ?_
        simp only [List.mem_cons, List.not_mem_nil, or_false] at hx
        rcases hx with rfl | rfl
        · rcases hz with rfl | hz
          · show okS ""
            unfold okS
            decide +kernel
          · exact okS_name (sd.nm.2.2 z hz)
        · exact num_ok hi
    apply dupH (S := fun G => Same H1 G)
    · intro rest
      refine ⟨_, rfl, rfl, _, rfl, ?_⟩
      by_cases h0 : way = 0
      · rw [decide_eq_true (congrArg V.int h0)]
        refine iteT (iteT ⟨_, rfl, p, n + 1, rfl, hp1, by omega, fun i H2 hi hp2 hk2 => ⟨by show 2 ≤ sizeLine; decide, fun t H3 s3 h3 => ?_⟩⟩)
        exact finA H3 (n + 2) i "" t ((hk1.trans hk2).trans (Kp.same s3)) (hp2.same s3) (by omega) hi (.inl rfl) h3
      · rw [decide_eq_false (fun e : V.int way = V.int 0 => h0 (by injection e))]
        refine iteF ⟨_, rfl, R, _, 0, _, rfl, rfl, SqL.of hR1, rfl, by show 0 ≤ sizeLine; exact Nat.zero_le _, fun e G se he => ?_⟩
        refine ⟨aA, e, xA, rfl, rfl, ((kz se).tup tA1).sq, he.sq, _, rfl, ?_⟩
        cases hE : xA.isEmpty with
        | false => exact iteF (iteF (rest G se))
        | true =>
          refine iteT ⟨_, rfl, rfl, _, rfl, ?_⟩
          by_cases h1 : way = 1
          · rw [decide_eq_true (congrArg V.int h1)]
            refine iteT ⟨_, rfl, p, n + 1, rfl, hp1.same se, by omega, fun i H2 hi hp2 hk2 => ⟨by show 2 ≤ sizeLine; decide, fun t H3 s3 h3 => ?_⟩⟩
            exact finA H3 (n + 2) i "" t (((hk1.trans (Kp.same se)).trans hk2).trans (Kp.same s3)) (hp2.same s3) (by omega) hi (.inl rfl) h3
          · rw [decide_eq_false (fun e : V.int way = V.int 1 => h1 (by injection e))]
            exact iteF (rest G se)
    intro G sG
    have hpG := hp1.same sG
    have kG : KpP p H G := hk1.trans (Kp.same sG)
    apply dupH (S := fun G2 => Same G G2)
    · intro rest
      refine ⟨_, rfl, rfl, _, rfl, ?_⟩
      by_cases h1 : way = 1
      · rw [decide_eq_true (congrArg V.int h1)]
        exact iteT (iteT (rest G Same.refl))
      · rw [decide_eq_false (fun e : V.int way = V.int 1 => h1 (by injection e))]
        refine iteF ⟨_, rfl, R, _, 0, _, rfl, rfl, SqL.of (sG _ _ hR1), rfl, by show 0 ≤ sizeLine; exact Nat.zero_le _, fun e G2 se he => ?_⟩
        have s12 := sG.trans se
        have k2 : KpP p H G2 := kG.trans (Kp.same se)
        refine ⟨aA, e, xA, rfl, rfl, ((kz s12).tup tA1).sq, he.sq, _, rfl, ?_⟩
        cases hE : xA.isEmpty with
        | true => exact iteT (rest G2 se)
        | false =>
          have hA1 : 1 ≤ xA.length := by
            cases xA with
            | nil => cases hE
            | cons _ _ => simp only [List.length_cons]; omega
          have l1 := sd.l1
          have hR2 := k2.get rc.l hRp
          have hp2 := hpG.same se
          have neA : aA ≠ p := fun e => by
            obtain ⟨_, _, ee⟩ := tA
            obtain ⟨_, _, _, ee2, _⟩ := hp
            rw [e, ee2] at ee
            cases ee
          refine iteF ⟨_, rfl, _, rfl, R, _, 0, _, rfl, rfl, SqL.of hR2, rfl, p, n + 1, .ref aA, xA, rfl, hp2, by omega, .inr (.inl ⟨aA, rfl, neA, k2.tup tA⟩), hA1, by omega, fun j v H3 hv hp3 hk3 => ?_⟩
          have k3 := k2.trans hk3
          obtain ⟨q, hq, dq⟩ := dA.get hv
          have hj : j < ps.length := by
            have := (List.getElem?_eq_some_iff.mp hv).1
            omega
          rw [List.getElem?_map, List.getElem?_eq_getElem hj] at hq
          cases hq
          obtain ⟨b, rfl, hb⟩ := dq.pairI
          have hq1 : ps[j].1 ∈ ps.map (·.1) := List.mem_map.mpr ⟨_, List.getElem_mem hj, rfl⟩
          generalize ps[j].1 = arr at hb hq1
          have sqb : SqT K H3 b [.str arr, .str ps[j].2] := ((hk3.all.tup ((kz se).tup (kG.all.tup hb)))).sq
          refine ⟨b, _, 0, .str arr, rfl, rfl, sqb, rfl, _, rfl, _, rfl, p, R, n + 2, _, vp, _, ps, ns, us, rfl, hp3, by omega, hRp, rc.kp k3 hRp, sd, fun t z i H4 hz hi ht hp4 hk4 => ?_⟩
          have k4 := k3.trans hk4
          refine ⟨_, _, rfl, ?_⟩
          have k5 := k4
          have hp5 := hp4
          have ht5 := ht
          have zAll : ∀ {z : Str}, (z = "" ∨ z ∈ ns ∨ z ∈ ps.map (·.2)) → z ∈ allN ps ns us ∨ z = "" := fun {z} h => by
            rcases h with h | h | h
            · exact .inr h
            · exact .inl (List.mem_append.mpr (.inr (List.mem_append.mpr (.inr (List.mem_append.mpr (.inl h))))))
            · exact .inl (List.mem_append.mpr (.inr (List.mem_append.mpr (.inl ((uniq_mem _ _).mpr h)))))
          apply dupW (S := fun G3 w => ∃ (t : Addr) (z : Str) (c : Int) (m : Nat), w = .ref t ∧ TupF G3 t [.str z, .int c] ∧ KpP p H G3 ∧ PotAt G3 p m ∧ m ≤ n + 8 ∧ NumOk c ∧ ((z = "" ∨ z ∈ ns ∨ z ∈ ps.map (·.2)) ∨ (z ∈ ow ∧ c = 0)))
          · intro rest
            refine ⟨_, rfl, by show 0 ≤ sizeLine; exact Nat.zero_le _, fun e2 G3 se2 he2 => ⟨o, e2, ow.map V.str, rfl, rfl, ((k5.trans (Kp.same se2)).tup to).sq, he2.sq, _, rfl, ?_⟩⟩
            have k6 : KpP p H G3 := k5.trans (Kp.same se2)
            have hp6 := hp5.same se2
            have ht6 := (kz se2).tup ht5
            have fin2 : ∃ (t' : Addr) (z : Str) (c : Int) (m : Nat), V.ref t = .ref t' ∧ TupF G3 t' [.str z, .int c] ∧ KpP p H G3 ∧ PotAt G3 p m ∧ m ≤ n + 8 ∧ NumOk c ∧ ((z = "" ∨ z ∈ ns ∨ z ∈ ps.map (·.2)) ∨ (z ∈ ow ∧ c = 0)) := ⟨t, z, i, _, rfl, ht6, k6, hp6, by omega, hi, .inl hz⟩
            cases hE2 : (!(ow.map V.str).isEmpty) with
            | true =>
              refine iteT ⟨_, rfl, rfl, _, rfl, ?_⟩
              by_cases h2 : way = 2
              · rw [decide_eq_true (congrArg V.int h2)]
                have ho1 : 1 ≤ ow.length := by
                  cases ow with
                  | nil => cases hE2
                  | cons _ _ => simp only [List.length_cons]; omega
                refine iteT ⟨_, rfl, _, rfl, p, _, .ref o, _, rfl, hp6, by omega, .inr (.inl ⟨o, rfl, neo, k6.tup to⟩), by rw [List.length_map]; omega, by rw [List.length_map]; omega, fun j2 v2 H7 hv2 hp7 hk7 => ⟨by show 2 ≤ sizeLine; decide, fun t2 H8 s8 h8 => ?_⟩⟩
                rw [List.getElem?_map] at hv2
                cases hv3 : ow[j2]? with
                | none => rw [hv3] at hv2; cases hv2
                | some zo =>
                rw [hv3] at hv2
                cases hv2
                have fin3 : ∃ (t' : Addr) (z : Str) (c : Int) (m : Nat), V.ref t2 = .ref t' ∧ TupF H8 t' [.str z, .int c] ∧ KpP p H H8 ∧ PotAt H8 p m ∧ m ≤ n + 8 ∧ NumOk c ∧ ((z = "" ∨ z ∈ ns ∨ z ∈ ps.map (·.2)) ∨ (z ∈ ow ∧ c = 0)) := ⟨t2, zo, 0, _, rfl, h8, (k6.trans hk7).trans (Kp.same s8), hp7.same s8, by omega, by unfold NumOk; decide, .inr ⟨List.mem_of_getElem? hv3, rfl⟩⟩
                dsimp only [gName]
                change tRet _ _ [some (V.ref p), some (V.ref R), some (V.ref o), some (V.int way), some (V.str arr), some (V.ref t2)] H8
                generalize V.ref t2 = w0 at fin3 ⊢
                exact rest H8 w0 fin3
              · rw [decide_eq_false (fun e : V.int way = V.int 2 => h2 (by injection e))]
                refine iteF ?_
                dsimp only [tNext]
                change tRet _ _ [some (V.ref p), some (V.ref R), some (V.ref o), some (V.int way), some (V.str arr), some (V.ref t)] G3
                generalize V.ref t = w0 at fin2 ⊢
                exact rest G3 w0 fin2
            | false =>
              refine iteF (iteF ?_)
              dsimp only [tNext]
              change tRet _ _ [some (V.ref p), some (V.ref R), some (V.ref o), some (V.int way), some (V.str arr), some (V.ref t)] G3
              generalize V.ref t = w0 at fin2 ⊢
              exact rest G3 w0 fin2
          rintro G3 w0 ⟨t', z', c, m, rfl, ht', k6, hp6, hm, hc, hzc⟩
          refine ⟨_, rfl, _, rfl, t', _, 0, .str z', rfl, rfl, (ht'.sq : SqT K G3 t' _), rfl, _, rfl, t', _, 1, .int c, rfl, rfl, (ht'.sq : SqT K G3 t' _), rfl, _, rfl, p, m, rfl, hp6, by omega, fun i2 H8 hi2 hp8 hk8 => ⟨by show 4 ≤ sizeLine; decide, fun tf H9 s9 h9 => ?_⟩⟩
          have nmz : z' = "" ∨ NameS z' := by
            rcases hzc with (h | h | h) | ⟨h, _⟩
            · exact .inl h
            · exact .inr (sd.nm.2.1 _ h)
            · obtain ⟨q, hq, rfl⟩ := List.mem_map.mp h
              exact .inr (sd.nm.1 q hq).2
            · rcases hw with e | e
              · rw [e] at h; cases h
              · exact .inr (e.2.2.2 _ h).1
          have nma : NameS arr := by
            obtain ⟨q, hq, rfl⟩ := List.mem_map.mp hq1
            exact (sd.nm.1 q hq).1
          refine k _ (.tuple [.str arr, .str z', .int c, .int i2]) H9 (.tupM h9 (.cons (.str _) (.cons (.str _) (.cons (.int _) (.cons (.int _) .nil))))) ⟨?_, ?_, ?_, by simp only [PyData.depth, PyData.depthAll]; rfl⟩ ((hp8.same s9).mono (by omega)) ((k6.trans hk8).trans (Kp.same s9))
          · show ((kindD ps ns us "array" (.str arr) && (placeD ps ns us ow (.tuple [.str z', .int c]) && intD (.int i2))) && (!strInD ow (.str z') || zeroD (.int c))) = true
            rw [kd_arr nd, decide_eq_true hq1, hi2.d, place_ok nd (by
              rcases hzc with (h | h | h) | ⟨h, _⟩
              · exact .inl h
              · exact .inr (.inl h)
              · exact .inr (.inr (.inl h))
              · exact .inr (.inr (.inr h))) hc.d]
            rcases hzc with h | ⟨_, rfl⟩
            · rw [show strInD ow (.str z') = decide (z' ∈ ow) from rfl, decide_eq_false (hw.no (zAll h))]
              rfl
            · rw [show zeroD (.int 0) = true from rfl, Bool.or_true]
              rfl
          · simp only [cost, costL]
            have h1 : z'.length ≤ 8 := by
              rcases nmz with rfl | h
              · decide +kernel
              · exact h.2.1
            have h2 := nma.2.1
            omega
          · refine okL_mem.mpr fun x hx => ?_
            simp only [List.mem_cons, List.not_mem_nil, or_false] at hx
            rcases hx with rfl | rfl | rfl | rfl
            · exact okS_name nma
            · rcases nmz with rfl | h
              · show okS ""
                unfold okS
                decide +kernel
              · exact okS_name h
            · exact num_ok hc
            · exact num_ok hi2
    intro G2 sG2
    have k2 : KpP p H G2 := kG.trans (Kp.same sG2)
    have hp2 := hpG.same sG2
    have hR2 := k2.get rc.l hRp
    subst eV
    have eVV := dV.strE
    subst eVV
    refine ⟨_, rfl, by show 1 ≤ sizeLine; decide, fun l hl => ⟨_, rfl, R, _, 2, _, rfl, rfl, SqL.of ((Same.upd hl) _ _ hR2), rfl, aV, _, rfl, .inr ((kz (Same.upd hl)).tup (k2.tup tV)).sq, fun D2 hD2 => ?_⟩⟩
    have s1 : Same G2 (upd G2 l (.lst [.str ""])) := Same.upd hl
    have e1 : (upd G2 l (.lst [.str ""])) l = some (.lst [.str ""]) := upd_same
    generalize upd G2 l (.lst [.str ""]) = G3 at hD2 s1 e1 ⊢
    have s2 : Same G3 (upd G3 D2 (.lst (us.map V.str))) := Same.upd hD2
    have e2 : (upd G3 D2 (.lst (us.map V.str))) D2 = some (.lst (us.map V.str)) := upd_same
    generalize upd G3 D2 (.lst (us.map V.str)) = G4 at s2 e2 ⊢
    refine ⟨l, D2, _, _, rfl, rfl, s2 _ _ e1, e2, by simp only [List.length_cons, List.length_nil, List.length_map]; omega, fun D3 hD3 => ?_⟩
    rw [show ([V.str ""] ++ us.map V.str) = ((("" : Str) :: us).map V.str) from rfl]
    have s3 : Same G4 (upd G4 D3 (.lst ((("" : Str) :: us).map V.str))) := Same.upd hD3
    have e3 : (upd G4 D3 (.lst ((("" : Str) :: us).map V.str))) D3 = some (.lst ((("" : Str) :: us).map V.str)) := upd_same
    have s13 := (s1.trans s2).trans s3
    have nD3 : D3 ≠ p := (hp2.same (s1.trans s2)).ne hD3
    generalize upd G4 D3 (.lst ((("" : Str) :: us).map V.str)) = G5 at s13 e3 ⊢
    refine ⟨p, n + 1, .ref D3, _, rfl, hp2.same s13, by omega, .inl ⟨D3, rfl, nD3, e3⟩, by rw [List.length_map]; simp only [List.length_cons]; omega, by rw [List.length_map]; simp only [List.length_cons]; omega, fun j v H6 hv hp6 hk6 => ?_⟩
    rw [List.getElem?_map] at hv
    cases hv2 : (("" : Str) :: us)[j]? with
    | none => rw [hv2] at hv; cases hv
    | some z =>
    rw [hv2] at hv
    cases hv
    have hz : z = "" ∨ z ∈ us := List.mem_cons.mp (List.mem_of_getElem? hv2)
    refine ⟨_, rfl, p, n + 2, rfl, hp6, by omega, fun i H7 hi hp7 hk7 => ⟨by show 2 ≤ sizeLine; decide, fun t H8 s8 h8 => ?_⟩⟩
    exact finA H8 (n + 3) i z t ((((k2.trans (Kp.same s13)).trans hk6).trans hk7).trans (Kp.same s8)) (hp7.same s8) (by omega) hi hz h8
end
end Kx
namespace Kx
open PySem PySem.Spec PyProof.Rows L2
def cB (m : Nat) : Nat := 500 * 4 ^ m
def pB (m : Nat) : Nat := 25 * 4 ^ m
theorem cB_s (m : Nat) : cB (m + 1) = 4 * cB m := by unfold cB; rw [Nat.pow_succ]; omega
theorem pB_s (m : Nat) : pB (m + 1) = 4 * pB m := by unfold pB; rw [Nat.pow_succ]; omega
theorem cB_1 {m : Nat} (h : 1 ≤ m) : 2000 ≤ cB m := by
  obtain ⟨k, rfl⟩ : ∃ k, m = k + 1 := ⟨m - 1, by omega⟩
  rw [cB_s]
  have : 1 ≤ 4 ^ k := Nat.pos_of_ne_zero (by simp)
  unfold cB
  omega
theorem pB_1 {m : Nat} (h : 1 ≤ m) : 100 ≤ pB m := by
  obtain ⟨k, rfl⟩ : ∃ k, m = k + 1 := ⟨m - 1, by omega⟩
  rw [pB_s]
  have : 1 ≤ 4 ^ k := Nat.pos_of_ne_zero (by simp)
  unfold pB
  omega
/-- bounds of what is drawn -/
structure Gen (m : Nat) (d : PyData) : Prop where
  c : cost d ≤ cB m
  o : okD d
  p : d.depth ≤ 2 * m
theorem okS_by {z : Str} (h : (z.cps.toList.all fun c => decide (c < 128)) = true) : okS z := fun c hc => by
  have := of_decide_eq_true (List.all_eq_true.mp h c hc)
  exact Nat.lt_of_lt_of_le this (by decide)
/-- a tuple of a word and one more -/
theorem gen_pair {m : Nat} {z : Str} {d : PyData} (hz : okS z) (hl : z.length ≤ 8) (h : Gen m d) : Gen (m + 1) (.tuple [.str z, d]) := by
  have h1 := h.c
  have h3 := h.p
  have hB : 100 ≤ 3 * cB m := by unfold cB; have : 1 ≤ 4 ^ m := Nat.pos_of_ne_zero (by simp); omega
  refine ⟨?_, ?_, ?_⟩
  · rw [cB_s]
    simp only [cost, costL]
    omega
  · exact okL_mem.mpr fun x hx => by
      simp only [List.mem_cons, List.not_mem_nil, or_false] at hx
      rcases hx with rfl | rfl
      · exact hz
      · exact h.o
  · simp only [PyData.depth, PyData.depthAll]
    omega
/-- a word and a tuple of at most three -/
theorem gen_join {m : Nat} {z : Str} {ds : List PyData} (hz : okS z) (hl : z.length ≤ 8) (hn : ds.length ≤ 3) (h : ∀ d ∈ ds, Gen m d) : Gen (m + 1) (.tuple [.str z, .tuple ds]) := by
  have hB : 100 ≤ cB m := by unfold cB; have : 1 ≤ 4 ^ m := Nat.pos_of_ne_zero (by simp); omega
  have hc : ∀ l : List PyData, (∀ d ∈ l, Gen m d) → costL l ≤ l.length * (cB m + 2) := by
    intro l
    induction l with
    | nil => intro _; simp [costL]
    | cons x r ih =>
      intro hl
      have a := ih fun d hd => hl d (List.mem_cons_of_mem _ hd)
      have b := (hl x List.mem_cons_self).c
      simp only [costL, List.length_cons]
      rw [Nat.add_mul]
      omega
  have hp : ∀ l : List PyData, (∀ d ∈ l, Gen m d) → PyData.depthAll l ≤ 2 * m := by
    intro l
    induction l with
    | nil => intro _; simp [PyData.depthAll]
    | cons x r ih =>
      intro hl
      have a := ih fun d hd => hl d (List.mem_cons_of_mem _ hd)
      have b := (hl x List.mem_cons_self).p
      simp only [PyData.depthAll]
      omega
  have h1 := hc ds h
  have h2 := hp ds h
  have h4 : ds.length * (cB m + 2) ≤ 3 * (cB m + 2) := Nat.mul_le_mul_right _ hn
  refine ⟨?_, ?_, ?_⟩
  · rw [cB_s]
    simp only [cost, costL]
    omega
  · refine okL_mem.mpr fun x hx => ?_
    simp only [List.mem_cons, List.not_mem_nil, or_false] at hx
    rcases hx with rfl | rfl
    · exact hz
    · exact okL_mem.mpr fun y hy => (h y hy).o
  · simp only [PyData.depth, PyData.depthAll]
    omega
def BodyAtom (ps : List (Str × Str)) (ns us ow : List Str) (d : PyData) : Prop := ∃ op a b, d = .tuple [.str "val", .str op, a, b] ∧ op ∈ cops ∧ Wor ps ns us ow a ∧ Wor ps ns us ow b
theorem atom_gen {w op : Str} {a b : PyData} {m : Nat} (hm : 1 ≤ m) (hw : okS w) (hwl : w.length ≤ 8) (ho : okS op) (hol : op.length ≤ 8) (ha : cost a ≤ 600 ∧ okD a ∧ a.depth ≤ 1) (hb : cost b ≤ 600 ∧ okD b ∧ b.depth ≤ 1) : Gen m (.tuple [.str w, .str op, a, b]) := by
  have := cB_1 hm
  refine ⟨?_, ?_, ?_⟩
  · simp only [cost, costL]
    omega
  · refine okL_mem.mpr fun x hx => ?_
    simp only [List.mem_cons, List.not_mem_nil, or_false] at hx
    rcases hx with rfl | rfl | rfl | rfl
    · exact hw
    · exact ho
    · exact ha.2.1
    · exact hb.2.1
  · simp only [PyData.depth, PyData.depthAll]
    omega
theorem cops_ok : ∀ z ∈ cops, okS z ∧ z.length ≤ 8 := by
  intro z hz
  simp only [cops, List.mem_cons, List.not_mem_nil, or_false] at hz
  rcases hz with rfl | rfl | rfl <;> exact ⟨okS_by (by decide +kernel), by decide +kernel⟩
section
variable {P : Program} {w : World} {K : PySem.W.Frag} {mg : Str → Option Value} {base : Heap}
abbrev N_law_body : List Str := ["keg", "sides", "own", "depth", "way", "parts", "op", "turn"]
abbrev P_law_body : List Str := ["keg", "sides", "own", "depth"]
theorem sc_law_body : FnScope N_law_body P_law_body (defScope s_law_body) := ⟨rfl, rfl, rfl, by decide +kernel, rfl, by decide +kernel, by decide +kernel⟩
def spBo (m : Nat) : Sp := fun vs H Q _ => ∃ (p R o : Addr) (n : Nat) (va vp vv : V) (ps : List (Str × Str)) (ns us ow : List Str), vs = [.ref p, .ref R, .ref o, .int (m : Int)] ∧ 1 ≤ m ∧ PotAt H p n ∧ n + pB m ≤ 700000 ∧ R ≠ p ∧ RecAt H R va vp vv ps ns us ∧ Sides ps ns us ∧ TupF H o (ow.map V.str) ∧ OwnAny ps ns us ow ∧
  ∀ (v : V) (d : PyData) (H' : Hp), Dv All H' v d → Gen m d → (m = 1 → BodyAtom ps ns us ow d) → PotAt H' p (n + pB m) → KpP p H H' → Q v H'
theorem ok_bo (T : Bt mg) (h : Has K mg "_law_body" s_law_body) (C1 : Ca P w K mg base 1 "_law_tap" P_law_tap spTap) (C2 : Ca P w K mg base 2 "_law_choice" P_law_choice spChoice) (C3 : Ca P w K mg base 5 "_law_worth" P_law_worth spWo) : ∀ m : Nat, Ca P w K mg base (6 + m) "_law_body" P_law_body (spBo m)
  | 0 => by
    refine cal_of h sc_law_body (fun _ _ _ _ _ _ us hl => match us, hl with | [_, _, _, _], _ => rfl) (fun vs H Q E h => ?_) (fun f cdv A outer s H vs Q E hr h => ?_)
    · obtain ⟨_, _, _, _, _, _, _, _, _, _, _, _, z, _⟩ := h
      exact absurd z (by decide)
    · obtain ⟨_, _, _, _, _, _, _, _, _, _, _, _, z, _⟩ := h
      exact absurd z (by decide)
  | m + 1 => by
    obtain ⟨_, _, c__law_body⟩ := ok_bo T h C1 C2 C3 m
    obtain ⟨_, _, c__law_tap⟩ := C1
    obtain ⟨_, _, c__law_choice⟩ := C2
    obtain ⟨_, _, c__law_worth⟩ := C3
    refine cal_of (k := 6 + m) h sc_law_body (fun _ _ _ _ _ _ us hl => match us, hl with | [_, _, _, _], _ => rfl) (fun vs H Q E h => ?_) (fun f cdv A outer s H vs Q E hr h => ?_)
    · obtain ⟨p, R, o, n, va, vp, vv, ps, ns, us, ow, rfl, _⟩ := h
      rfl
    · obtain ⟨p, R, o, n, va, vp, vv, ps, ns, us, ow, rfl, hm, hp, hn, hRp, rc, sd, to, hw, k⟩ := h
      refine ⟨_, (pss_cons (ps_set (i := 4) sc_law_body.nd rfl (.inl rfl) (pe_ifExp (pt_cmpR op_gt (pv 3) pe_int (nomark _)) (pe_call c__law_tap.1 (hr.mono (by omega)) rfl c__law_tap.2.1 c__law_tap.2.2.1 c__law_tap.2.2.2 .nil pass0 (pa_cons (pv 0) (pa_cons pe_int pa_nil))) pe_int))
        (pss_cons (ps_if (pt_cmpR op_eq (pv 4) pe_int (nomark _)) (pss_one (ps_ret (pe_tupF (pa_cons pe_str (pa_cons (pe_call c__law_body.1 (hr.mono (by omega)) rfl c__law_body.2.1 c__law_body.2.2.1 c__law_body.2.2.2 .nil pass0 (pa_cons (pv 0) (pa_cons (pv 1) (pa_cons (pv 2) (pa_cons (pe_op op_sub (pv 3) pe_int) pa_nil))))) pa_nil))))) pss_nil)
        (pss_cons (ps_if (pt_cmpR op_eq (pv 4) pe_int (nomark _)) (pss_cons (ps_setLc (i := 5) (own := [("turn", 7)]) (g := (gName 7)) (tt := tYes) (by rfl) sc_law_body.nd rfl rfl (sw_true rfl rfl rfl (by decide +kernel)) (pi_range1 rfl T.range (pa_cons (pe_call c__law_tap.1 (hr.mono (by omega)) rfl c__law_tap.2.1 c__law_tap.2.2.1 c__law_tap.2.2.2 .nil pass0 (pa_cons (pv 0) (pa_cons pe_int pa_nil))) pa_nil)) (blkOk_by (own := [("turn", 7)]) (N := ["keg", "sides", "own", "depth", "way", "parts", "op", "turn"]) (sc := defScope s_law_body) (by decide +kernel)) (fun _ _ _ _ _ => pg_name (i := 7) sc_law_body.nd rfl (Or.inl rfl)) (fun _ _ _ _ _ => pts_nil) (fun _ _ _ _ _ => (pe_call c__law_body.1 (hr.mono (by omega)) rfl c__law_body.2.1 c__law_body.2.2.1 c__law_body.2.2.2 .nil pass0 (pa_cons (pv 0) (pa_cons (pv 1) (pa_cons (pv 2) (pa_cons (pe_op op_sub (pv 3) pe_int) pa_nil)))))))
          (pss_one (ps_ret (pe_tupF (pa_cons (pe_call c__law_choice.1 (hr.mono (by omega)) rfl c__law_choice.2.1 c__law_choice.2.2.1 c__law_choice.2.2.2 .nil pass0 (pa_cons (pv 0) (pa_cons (pe_lst (pa_cons pe_str (pa_cons pe_str pa_nil))) pa_nil))) (pa_cons (pe_callTy call_tupF (by rfl) T.tuple (by decide +kernel) (pa_cons (pv 5) pa_nil)) pa_nil)))))) pss_nil)
        (pss_cons (ps_set (i := 6) sc_law_body.nd rfl (.inl rfl) (pe_call c__law_choice.1 (hr.mono (by omega)) rfl c__law_choice.2.1 c__law_choice.2.2.1 c__law_choice.2.2.2 .nil pass0 (pa_cons (pv 0) (pa_cons (pe_lst (pa_cons pe_str (pa_cons pe_str (pa_cons pe_str pa_nil)))) pa_nil))))
        (pss_one (ps_ret (pe_tupF (pa_cons pe_str (pa_cons (pv 6) (pa_cons (pe_call c__law_worth.1 (hr.mono (by omega)) rfl c__law_worth.2.1 c__law_worth.2.2.1 c__law_worth.2.2.2 .nil pass0 (pa_cons (pv 0) (pa_cons (pv 1) (pa_cons (pv 2) pa_nil)))) (pa_cons (pe_call c__law_worth.1 (hr.mono (by omega)) rfl c__law_worth.2.1 c__law_worth.2.2.1 c__law_worth.2.2.2 .nil pass0 (pa_cons (pv 0) (pa_cons (pv 1) (pa_cons (pv 2) pa_nil)))) pa_nil))))))))))), ?_⟩
      have hL := sizeLine_eq
      have pbs := pB_s m
      have kz : ∀ {X Y : Hp}, Same X Y → Kp All X Y := fun h => Kp.same h
      have em1 : (((m + 1 : Nat) : Int) - 1) = (m : Int) := by omega
      apply dupW (S := fun G w => ∃ wy : Int, w = .int wy ∧ (m = 0 → wy = 0) ∧ PotAt G p (n + 1) ∧ KpP p H G)
      · intro rest
        refine ⟨_, rfl, _, _, rfl, rfl, _, rfl, ?_⟩
        by_cases hm0 : ¬ m = 0
        · rw [decide_eq_true (by omega : (1 : Int) < ((m + 1 : Nat) : Int))]
          refine iteT ⟨_, rfl, p, n, _, rfl, hp, by omega, by decide, by decide, fun wy H1 h0 h1 hp1 hk1 => ?_⟩
          have fin : ∃ w' : Int, V.int wy = .int w' ∧ (m = 0 → w' = 0) ∧ PotAt H1 p (n + 1) ∧ KpP p H H1 := ⟨wy, rfl, fun e => absurd e hm0, hp1, hk1⟩
          dsimp only [tC, gName]
          change (tSeq _ _) _ [some (V.ref p), some (V.ref R), some (V.ref o), some (V.int ((m + 1 : Nat) : Int)), some (V.int wy), none, none, none] H1
          generalize V.int wy = w0 at fin ⊢
          exact rest H1 w0 fin
        · have hm0 : m = 0 := Decidable.not_not.mp hm0
          rw [decide_eq_false (by omega : ¬ (1 : Int) < ((m + 1 : Nat) : Int))]
          refine iteF ?_
          have fin : ∃ wy : Int, V.int 0 = .int wy ∧ (m = 0 → wy = 0) ∧ PotAt H p (n + 1) ∧ KpP p H H := ⟨0, rfl, fun _ => rfl, hp.mono (by omega), Kp.refl⟩
          dsimp only [tC, gName]
          change (tSeq _ _) _ [some (V.ref p), some (V.ref R), some (V.ref o), some (V.int ((m + 1 : Nat) : Int)), some (V.int 0), none, none, none] H
          generalize V.int 0 = w0 at fin ⊢
          exact rest H w0 fin
      rintro G w0 ⟨wy, rfl, hwy, hpG, kG⟩
      refine ⟨_, rfl, rfl, _, rfl, ?_⟩
      by_cases h3 : wy = 3
      · rw [decide_eq_true (congrArg V.int h3)]
        have hm1 : 1 ≤ m := by
          cases m with
          | zero => have := hwy rfl; omega
          | succ _ => omega
        have pb1 := pB_1 hm1
        refine iteT ⟨_, rfl, _, rfl, _, rfl, _, rfl, _, _, rfl, rfl, p, R, o, n + 1, _, vp, vv, ps, ns, us, ow, (by show ([V.ref p, V.ref R, V.ref o, V.int (((m + 1 : Nat) : Int) - 1)] : List V) = _; rw [em1]), hm1, hpG, by omega, hRp, rc.kp kG hRp, sd, kG.tup to, hw, fun v d H2 dv g _ hp2 hk2 => ⟨by show 2 ≤ sizeLine; decide, fun t H3 s3 h3 => ?_⟩⟩
        exact k (.ref t) (.tuple [.str "not", d]) H3 (.tupM h3 (.cons (.str _) (.cons (dv.kp (kz s3)) .nil))) (gen_pair (okS_by (by decide +kernel)) (by decide +kernel) g) (fun e => absurd e (by omega)) ((hp2.same s3).mono (by omega)) ((kG.trans hk2).trans (Kp.same s3))
      rw [decide_eq_false (fun e : V.int wy = V.int 3 => h3 (by injection e))]
      refine iteF ⟨_, rfl, rfl, _, rfl, ?_⟩
      by_cases h4 : wy = 4
      · rw [decide_eq_true (congrArg V.int h4)]
        have hm1 : 1 ≤ m := by
          cases m with
          | zero => have := hwy rfl; omega
          | succ _ => omega
        have pb1 := pB_1 hm1
        refine iteT ⟨_, rfl, p, n + 1, _, rfl, hpG, by omega, by decide, by decide, fun c H1 hc0 hc1 hp1 hk1 => ⟨_, rfl, by omega, by omega, fun D hD => ?_⟩⟩
        have k1 := kG.trans hk1
        have hDp : D ≠ p := hp1.ne hD
        have hDn : H D = none := by
          cases e : H D with
          | none => rfl
          | some oo => rw [k1 _ _ e fun z => absurd z hDp] at hD; cases hD
        refine lc_range (lo := 0) (n := c.toNat) (fun i Hx => ∃ (vals : List V) (ds : List PyData), Hx D = some (.lst vals) ∧ DvL All Hx vals ds ∧ ds.length = i ∧ (∀ d ∈ ds, Gen m d) ∧ PotAt Hx p (n + 2 + i * pB m) ∧ KpP p H Hx)
          ⟨[], [], upd_same, .nil, rfl, (fun d h => by cases h), (hp1.same (Same.upd hD)).mono (by omega), k1.trans (Kp.new hD)⟩ ?_ ?_
        · rintro i Hx hi ⟨vals, ds, hDx, dl, hl, hg, hpx, hkx⟩
          have hi2 : i ≤ 2 := by omega
          have hmul : (i + 1) * pB m = i * pB m + pB m := Nat.succ_mul _ _
          have hmul2 : (i + 1) * pB m ≤ 3 * pB m := Nat.mul_le_mul_right _ (by omega)
          refine ⟨rfl, yes ⟨_, rfl, _, rfl, _, rfl, _, rfl, _, _, rfl, rfl, p, R, o, _, _, vp, vv, ps, ns, us, ow, (by show ([V.ref p, V.ref R, V.ref o, V.int (((m + 1 : Nat) : Int) - 1)] : List V) = _; rw [em1]), hm1, hpx, by omega, hRp, rc.kp hkx hRp, sd, hkx.tup to, hw, fun v d H2 dv g _ hp2 hk2 => ⟨_, hk2.get hDx hDp, ?_, ?_⟩⟩⟩
          · have := dl.len
            omega
          have ku : Kp All H2 (upd H2 D (.lst (vals ++ [v]))) := Kp.at trivial (hk2.get hDx hDp)
          refine ⟨vals ++ [v], ds ++ [d], upd_same, ((dl.kp hk2.all).kp ku).app (.cons (dv.kp ku) .nil), by rw [List.length_append, hl]; rfl, fun x hx => ?_, ?_, ?_⟩
          · rcases List.mem_append.mp hx with hx | hx
            · exact hg x hx
            · rw [List.mem_singleton.mp hx]; exact g
          · obtain ⟨a1, b1, c1, e1, r1⟩ := hp2
            exact ⟨a1, b1, c1, by rw [upd_ne hDp.symm]; exact e1, by omega⟩
          · intro b oo hb hbp
            rw [upd_ne (ne_of_none hb hDn)]
            exact hk2 b oo (hkx b oo hb hbp) hbp
        · rintro H2 ⟨vals, ds, hDx, dl, hl, hg, hp2, k2⟩
          have hc3 : c.toNat ≤ 3 := by omega
          have hmul2 : c.toNat * pB m ≤ 3 * pB m := Nat.mul_le_mul_right _ hc3
          refine ⟨_, rfl, by show 2 ≤ sizeLine; decide, fun l hl2 => ⟨p, _, .ref l, _, rfl, hp2.same (Same.upd hl2), by omega, .inl ⟨l, rfl, hp2.ne hl2, upd_same⟩, by show 1 ≤ 2; decide, by show 2 ≤ 1000; decide, fun j v H3 hv hp3 hk3 => ?_⟩⟩
          have all : ∀ v ∈ ([.str "and", .str "or"] : List V), ∃ z, v = .str z ∧ okS z ∧ z.length ≤ 8 := (by repeat (first | exact List.forall_mem_nil _ | refine List.forall_mem_cons.mpr ⟨⟨_, rfl, okS_by (by decide +kernel), by decide +kernel⟩, ?_⟩))
          obtain ⟨z, rfl, hz1, hz2⟩ := all v (List.mem_of_getElem? hv)
          have hD3 := hk3.get ((Same.upd hl2) _ _ hDx) hDp
          have dl3 := dl.kp ((kz (Same.upd hl2)).trans hk3.all)
          refine ⟨_, rfl, D, _, rfl, SqL.of hD3, fun t1 H4 s4 h4 => ⟨by show 2 ≤ sizeLine; decide, fun t2 H5 s5 h5 => ?_⟩⟩
          have s45 := s4.trans s5
          exact k (.ref t2) (.tuple [.str z, .tuple ds]) H5 (.tupM h5 (.cons (.str _) (.cons (.tupM ((kz s5).tup h4) (dl3.kp (kz s45))) .nil))) (gen_join hz1 hz2 (by omega) hg) (fun e => absurd e (by omega)) ((hp3.same s45).mono (by omega)) (((k2.trans (Kp.same (Same.upd hl2))).trans hk3).trans (Kp.same s45))
      rw [decide_eq_false (fun e : V.int wy = V.int 4 => h4 (by injection e))]
      have pb1 := pB_1 (m := m + 1) (by omega)
      refine iteF ⟨_, rfl, by show 3 ≤ sizeLine; decide, fun l hl => ⟨p, n + 1, .ref l, _, rfl, hpG.same (Same.upd hl), by omega, .inl ⟨l, rfl, hpG.ne hl, upd_same⟩, by show 1 ≤ 3; decide, by show 3 ≤ 1000; decide, fun j v H2 hv hp2 hk2 => ?_⟩⟩
      have all : ∀ v ∈ ([.str "<=", .str "<", .str "=="] : List V), ∃ z, v = .str z ∧ z ∈ cops := (by repeat (first | exact List.forall_mem_nil _ | refine List.forall_mem_cons.mpr ⟨⟨_, rfl, by decide +kernel⟩, ?_⟩))
      obtain ⟨z, rfl, hz⟩ := all v (List.mem_of_getElem? hv)
      have k2 := (kG.trans (Kp.same (Same.upd hl))).trans hk2
      refine ⟨_, rfl, _, rfl, _, rfl, _, rfl, p, R, o, n + 2, _, vp, vv, ps, ns, us, ow, rfl, hp2, by omega, hRp, rc.kp k2 hRp, sd, k2.tup to, hw, fun v1 d1 H3 dv1 w1 hp3 hk3 => ?_⟩
      have k3 := k2.trans hk3
      refine ⟨_, rfl, _, rfl, _, rfl, p, R, o, n + 12, _, vp, vv, ps, ns, us, ow, rfl, hp3, by omega, hRp, rc.kp k3 hRp, sd, k3.tup to, hw, fun v2 d2 H4 dv2 w2 hp4 hk4 => ⟨by show 4 ≤ sizeLine; decide, fun t H5 s5 h5 => ?_⟩⟩
      have hz2 := cops_ok z hz
      exact k (.ref t) (.tuple [.str "val", .str z, d1, d2]) H5 (.tupM h5 (.cons (.str _) (.cons (.str _) (.cons (dv1.kp (hk4.all.trans (kz s5))) (.cons (dv2.kp (kz s5)) .nil))))) (atom_gen (by omega) (okS_by (by decide +kernel)) (by decide +kernel) hz2.1 hz2.2 ⟨w1.2.1, w1.2.2.1, by rw [w1.2.2.2]; exact Nat.le_refl _⟩ ⟨w2.2.1, w2.2.2.1, by rw [w2.2.2.2]; exact Nat.le_refl _⟩) (fun _ => ⟨z, d1, d2, rfl, hz, w1, w2⟩) ((hp4.same s5).mono (by omega)) ((k3.trans hk4).trans (Kp.same s5))
end
end Kx
namespace Kx
open PySem PySem.Spec PyProof.Rows L2
/-- a place as a datum: a tuple of a short name and a number -/
def PlD (d : PyData) : Prop := ∃ (z : Str) (i : Int), d = .tuple [.str z, .int i] ∧ (z = "" ∨ NameS z) ∧ NumOk i
theorem PlD.sm {d : PyData} (h : PlD d) : cost d ≤ 600 ∧ okD d ∧ d.depth ≤ 1 := by
  obtain ⟨z, i, rfl, hz, hi⟩ := h
  refine ⟨?_, ?_, by simp only [PyData.depth, PyData.depthAll]; exact Nat.le_refl _⟩
  · simp only [cost, costL]
    have : z.length ≤ 8 := by
      rcases hz with rfl | h
      · decide +kernel
      · exact h.2.1
    omega
  · refine okL_mem.mpr fun x hx => ?_
    simp only [List.mem_cons, List.not_mem_nil, or_false] at hx
    rcases hx with rfl | rfl
    · rcases hz with rfl | h
      · exact okS_by (by decide +kernel)
      · exact okS_name h
    · exact num_ok hi
section
variable {P : Program} {w : World} {K : PySem.W.Frag} {mg : Str → Option Value} {base : Heap}
abbrev N_law_guard : List Str := ["keg", "sides", "own", "depth", "parts", "one", "other", "pair", "turn"]
abbrev P_law_guard : List Str := ["keg", "sides", "own", "depth"]
theorem sc_law_guard : FnScope N_law_guard P_law_guard (defScope s_law_guard) := ⟨rfl, rfl, rfl, by decide +kernel, rfl, by decide +kernel, by decide +kernel⟩
def spGu (m : Nat) : Sp := fun vs H Q _ => ∃ (p R o : Addr) (n : Nat) (va vp vv : V) (ps : List (Str × Str)) (ns us ow : List Str), vs = [.ref p, .ref R, .ref o, .int (m : Int)] ∧ 1 ≤ m ∧ PotAt H p n ∧ n + pB m ≤ 700000 ∧ R ≠ p ∧ RecAt H R va vp vv ps ns us ∧ Sides ps ns us ∧ TupF H o (ow.map V.str) ∧ OwnTup ps ns us ow ∧
  ∀ (v : V) (d : PyData) (H' : Hp), Dv All H' v d → Gen m d → PotAt H' p (n + pB m) → KpP p H H' → Q v H'
theorem ok_gu (T : Bt mg) (h : Has K mg "_law_guard" s_law_guard) (C1 : Ca P w K mg base 1 "_law_tap" P_law_tap spTap) (C2 : Ca P w K mg base 2 "_law_choice" P_law_choice spChoice) (C3 : Ca P w K mg base 4 "_law_place" P_law_place spPl) : ∀ m : Nat, Ca P w K mg base (6 + m) "_law_guard" P_law_guard (spGu m)
  | 0 => by
    refine cal_of h sc_law_guard (fun _ _ _ _ _ _ us hl => match us, hl with | [_, _, _, _], _ => rfl) (fun vs H Q E h => ?_) (fun f cdv A outer s H vs Q E hr h => ?_)
    · obtain ⟨_, _, _, _, _, _, _, _, _, _, _, _, z, _⟩ := h
      exact absurd z (by decide)
    · obtain ⟨_, _, _, _, _, _, _, _, _, _, _, _, z, _⟩ := h
      exact absurd z (by decide)
  | m + 1 => by
    obtain ⟨_, _, c__law_guard⟩ := ok_gu T h C1 C2 C3 m
    obtain ⟨_, _, c__law_tap⟩ := C1
    obtain ⟨_, _, c__law_choice⟩ := C2
    obtain ⟨_, _, c__law_place⟩ := C3
    refine cal_of (k := 6 + m) h sc_law_guard (fun _ _ _ _ _ _ us hl => match us, hl with | [_, _, _, _], _ => rfl) (fun vs H Q E h => ?_) (fun f cdv A outer s H vs Q E hr h => ?_)
    · obtain ⟨p, R, o, n, va, vp, vv, ps, ns, us, ow, rfl, _⟩ := h
      rfl
    · obtain ⟨p, R, o, n, va, vp, vv, ps, ns, us, ow, rfl, hm, hp, hn, hRp, rc, sd, to, hw, k⟩ := h
      refine ⟨_, (pss_cons (ps_if (PW.pt (pw_and (pt_cmpR op_gt (pv 3) pe_int (nomark _)) (pw_and1 (pt_cmpR op_eq (pe_call c__law_tap.1 (hr.mono (by omega)) rfl c__law_tap.2.1 c__law_tap.2.2.1 c__law_tap.2.2.2 .nil pass0 (pa_cons (pv 0) (pa_cons pe_int pa_nil))) pe_int (nomark _))))) (pss_cons (ps_setLc (i := 4) (own := [("turn", 8)]) (g := (gName 8)) (tt := tYes) (by rfl) sc_law_guard.nd rfl rfl (sw_true rfl rfl rfl (by decide +kernel)) (pi_range1 rfl T.range (pa_cons (pe_call c__law_tap.1 (hr.mono (by omega)) rfl c__law_tap.2.1 c__law_tap.2.2.1 c__law_tap.2.2.2 .nil pass0 (pa_cons (pv 0) (pa_cons pe_int pa_nil))) pa_nil)) (blkOk_by (own := [("turn", 8)]) (N := ["keg", "sides", "own", "depth", "parts", "one", "other", "pair", "turn"]) (sc := defScope s_law_guard) (by decide +kernel)) (fun _ _ _ _ _ => pg_name (i := 8) sc_law_guard.nd rfl (Or.inl rfl)) (fun _ _ _ _ _ => pts_nil) (fun _ _ _ _ _ => (pe_call c__law_guard.1 (hr.mono (by omega)) rfl c__law_guard.2.1 c__law_guard.2.2.1 c__law_guard.2.2.2 .nil pass0 (pa_cons (pv 0) (pa_cons (pv 1) (pa_cons (pv 2) (pa_cons (pe_op op_sub (pv 3) pe_int) pa_nil)))))))
          (pss_one (ps_ret (pe_tupF (pa_cons (pe_call c__law_choice.1 (hr.mono (by omega)) rfl c__law_choice.2.1 c__law_choice.2.2.1 c__law_choice.2.2.2 .nil pass0 (pa_cons (pv 0) (pa_cons (pe_lst (pa_cons pe_str (pa_cons pe_str (pa_cons pe_str pa_nil)))) pa_nil))) (pa_cons (pe_callTy call_tupF (by rfl) T.tuple (by decide +kernel) (pa_cons (pv 4) pa_nil)) pa_nil)))))) pss_nil)
        (pss_cons (ps_par (i := 5) (j := 6) (by rfl) sc_law_guard.nd rfl rfl (by decide) rfl rfl (pa_cons (pe_tupF (pa_cons (pe_call c__law_choice.1 (hr.mono (by omega)) rfl c__law_choice.2.1 c__law_choice.2.2.1 c__law_choice.2.2.2 .nil pass0 (pa_cons (pv 0) (pa_cons (pv 2) pa_nil))) (pa_cons pe_int pa_nil))) (pa_cons (pe_call c__law_place.1 (hr.mono (by omega)) rfl c__law_place.2.1 c__law_place.2.2.1 c__law_place.2.2.2 .nil pass0 (pa_cons (pv 0) (pa_cons (pv 1) pa_nil))) pa_nil)) (by rfl))
        (pss_cons (ps_if (PW.pt (pw_and (pt_cmpR op_gt (pe_callB call_len (by rfl) T.len (by decide +kernel) (pa_cons (pv 2) pa_nil)) pe_int (nomark _)) (pw_and1 (pt_cmpR op_eq (pe_call c__law_tap.1 (hr.mono (by omega)) rfl c__law_tap.2.1 c__law_tap.2.2.1 c__law_tap.2.2.2 .nil pass0 (pa_cons (pv 0) (pa_cons pe_int pa_nil))) pe_int (nomark _))))) (pss_one (ps_set (i := 6) sc_law_guard.nd rfl (.inl rfl) (pe_tupF (pa_cons (pe_call c__law_choice.1 (hr.mono (by omega)) rfl c__law_choice.2.1 c__law_choice.2.2.1 c__law_choice.2.2.2 .nil pass0 (pa_cons (pv 0) (pa_cons (pv 2) pa_nil))) (pa_cons pe_int pa_nil))))) pss_nil)
        (pss_cons (ps_set (i := 7) sc_law_guard.nd rfl (.inl rfl) (pe_ifExp (pt_cmpR op_eq (pe_call c__law_tap.1 (hr.mono (by omega)) rfl c__law_tap.2.1 c__law_tap.2.2.1 c__law_tap.2.2.2 .nil pass0 (pa_cons (pv 0) (pa_cons pe_int pa_nil))) pe_int (nomark _)) (pe_tupF (pa_cons (pv 5) (pa_cons (pv 6) pa_nil))) (pe_tupF (pa_cons (pv 6) (pa_cons (pv 5) pa_nil)))))
        (pss_one (ps_ret (pe_op op_catF (pe_tupF (pa_cons pe_str (pa_cons (pe_call c__law_choice.1 (hr.mono (by omega)) rfl c__law_choice.2.1 c__law_choice.2.2.1 c__law_choice.2.2.2 .nil pass0 (pa_cons (pv 0) (pa_cons (pe_lst (pa_cons pe_str (pa_cons pe_str (pa_cons pe_str pa_nil)))) pa_nil))) pa_nil))) (pv 7)))))))), ?_⟩
      have hL := sizeLine_eq
      have pbs := pB_s m
      have pb1 := pB_1 (m := m + 1) (by omega)
      have kz : ∀ {X Y : Hp}, Same X Y → Kp All X Y := fun h => Kp.same h
      have em1 : (((m + 1 : Nat) : Int) - 1) = (m : Int) := by omega
      have neo : o ≠ p := fun e => by
        obtain ⟨_, _, ee⟩ := to
        obtain ⟨_, _, _, ee2, _⟩ := hp
        rw [e, ee2] at ee
        cases ee
      have ho1 : 1 ≤ (ow.map V.str).length := by
        rw [List.length_map]
        exact List.length_pos_iff.mpr hw.1
      have ho2 : (ow.map V.str).length ≤ 2 := by rw [List.length_map]; exact hw.2.1
      apply dupH (S := fun G => PotAt G p (n + 1) ∧ KpP p H G)
      · intro rest
        refine ⟨_, rfl, _, _, rfl, rfl, _, rfl, ?_⟩
        by_cases hm0 : ¬ m = 0
        · have hm1 : 1 ≤ m := by omega
          have pb0 := pB_1 hm1
          rw [decide_eq_true (by omega : (1 : Int) < ((m + 1 : Nat) : Int))]
          refine iteT ⟨_, rfl, p, n, _, rfl, hp, by omega, by decide, by decide, fun wy H0 h0 h1 hp0 hk0 => ⟨rfl, _, rfl, ?_⟩⟩
          by_cases hw0 : ¬ wy = 0
          · rw [decide_eq_false (fun e : V.int wy = V.int 0 => hw0 (by injection e))]
            exact iteF (rest H0 ⟨hp0, hk0⟩)
          · have hw0 : wy = 0 := Decidable.not_not.mp hw0
            rw [decide_eq_true (congrArg V.int hw0)]
            have kG := hk0
            refine iteT ⟨_, rfl, p, n + 1, _, rfl, hp0, by omega, by decide, by decide, fun c H1 hc0 hc1 hp1 hk1 => ⟨_, rfl, by omega, by omega, fun D hD => ?_⟩⟩
            have k1 := kG.trans hk1
            have hDp : D ≠ p := hp1.ne hD
            have hDn : H D = none := by
              cases e : H D with
              | none => rfl
              | some oo => rw [k1 _ _ e fun z => absurd z hDp] at hD; cases hD
            refine lc_range (lo := 0) (n := c.toNat) (fun i Hx => ∃ (vals : List V) (ds : List PyData), Hx D = some (.lst vals) ∧ DvL All Hx vals ds ∧ ds.length = i ∧ (∀ d ∈ ds, Gen m d) ∧ PotAt Hx p (n + 2 + i * pB m) ∧ KpP p H Hx)
              ⟨[], [], upd_same, .nil, rfl, (fun d h => by cases h), (hp1.same (Same.upd hD)).mono (by omega), k1.trans (Kp.new hD)⟩ ?_ ?_
            · rintro i Hx hi ⟨vals, ds, hDx, dl, hl, hg, hpx, hkx⟩
              have hi2 : i ≤ 2 := by omega
              have hmul : (i + 1) * pB m = i * pB m + pB m := Nat.succ_mul _ _
              have hmul2 : (i + 1) * pB m ≤ 3 * pB m := Nat.mul_le_mul_right _ (by omega)
              refine ⟨rfl, yes ⟨_, rfl, _, rfl, _, rfl, _, rfl, _, _, rfl, rfl, p, R, o, _, _, vp, vv, ps, ns, us, ow, (by show ([V.ref p, V.ref R, V.ref o, V.int (((m + 1 : Nat) : Int) - 1)] : List V) = _; rw [em1]), hm1, hpx, by omega, hRp, rc.kp hkx hRp, sd, hkx.tup to, hw, fun v d H2 dv g hp2 hk2 => ⟨_, hk2.get hDx hDp, ?_, ?_⟩⟩⟩
              · have := dl.len
                omega
              have ku : Kp All H2 (upd H2 D (.lst (vals ++ [v]))) := Kp.at trivial (hk2.get hDx hDp)
              refine ⟨vals ++ [v], ds ++ [d], upd_same, ((dl.kp hk2.all).kp ku).app (.cons (dv.kp ku) .nil), by rw [List.length_append, hl]; rfl, fun x hx => ?_, ?_, ?_⟩
              · rcases List.mem_append.mp hx with hx | hx
                · exact hg x hx
                · rw [List.mem_singleton.mp hx]; exact g
              · obtain ⟨a1, b1, c1, e1, r1⟩ := hp2
                exact ⟨a1, b1, c1, by rw [upd_ne hDp.symm]; exact e1, by omega⟩
              · intro b oo hb hbp
                rw [upd_ne (ne_of_none hb hDn)]
                exact hk2 b oo (hkx b oo hb hbp) hbp
            · rintro H2 ⟨vals, ds, hDx, dl, hl, hg, hp2, k2⟩
              have hc3 : c.toNat ≤ 3 := by omega
              have hmul2 : c.toNat * pB m ≤ 3 * pB m := Nat.mul_le_mul_right _ hc3
              refine ⟨_, rfl, by show 3 ≤ sizeLine; decide, fun l hl2 => ⟨p, _, .ref l, _, rfl, hp2.same (Same.upd hl2), by omega, .inl ⟨l, rfl, hp2.ne hl2, upd_same⟩, by show 1 ≤ 3; decide, by show 3 ≤ 1000; decide, fun j v H3 hv hp3 hk3 => ?_⟩⟩
              have all : ∀ v ∈ ([.str "and", .str "and", .str "or"] : List V), ∃ z, v = .str z ∧ okS z ∧ z.length ≤ 8 := (by repeat (first | exact List.forall_mem_nil _ | refine List.forall_mem_cons.mpr ⟨⟨_, rfl, okS_by (by decide +kernel), by decide +kernel⟩, ?_⟩))
              obtain ⟨z, rfl, hz1, hz2⟩ := all v (List.mem_of_getElem? hv)
              have hD3 := hk3.get ((Same.upd hl2) _ _ hDx) hDp
              have dl3 := dl.kp ((kz (Same.upd hl2)).trans hk3.all)
              refine ⟨_, rfl, D, _, rfl, SqL.of hD3, fun t1 H4 s4 h4 => ⟨by show 2 ≤ sizeLine; decide, fun t2 H5 s5 h5 => ?_⟩⟩
              have s45 := s4.trans s5
              exact k (.ref t2) (.tuple [.str z, .tuple ds]) H5 (.tupM h5 (.cons (.str _) (.cons (.tupM ((kz s5).tup h4) (dl3.kp (kz s45))) .nil))) (gen_join hz1 hz2 (by omega) hg) ((hp3.same s45).mono (by omega)) (((k2.trans (Kp.same (Same.upd hl2))).trans hk3).trans (Kp.same s45))
        · have hm0 : m = 0 := Decidable.not_not.mp hm0
          rw [decide_eq_false (by omega : ¬ (1 : Int) < ((m + 1 : Nat) : Int))]
          exact iteF (iteF (rest H ⟨hp.mono (by omega), Kp.refl⟩))
      rintro G ⟨hpG, kG⟩
      refine ⟨_, rfl, _, rfl, p, n + 1, .ref o, _, rfl, hpG, by omega, .inr (.inl ⟨o, rfl, neo, kG.tup to⟩), ho1, by omega, fun j v H1 hv hp1 hk1 => ?_⟩
      rw [List.getElem?_map] at hv
      cases hv2 : ow[j]? with
      | none => rw [hv2] at hv; cases hv
      | some zo =>
      rw [hv2] at hv
      cases hv
      have nmo : NameS zo := (hw.2.2.2 zo (List.mem_of_getElem? hv2)).1
      have k1 := kG.trans hk1
      refine ⟨by show 2 ≤ sizeLine; decide, fun t1 H2 s2 h2 => ?_⟩
      have k2 : KpP p H H2 := k1.trans (Kp.same s2)
      refine ⟨_, rfl, _, rfl, p, R, n + 2, _, vp, vv, ps, ns, us, rfl, hp1.same s2, by omega, hRp, rc.kp k2 hRp, sd, fun t2 z i H3 hz hi h3 hp3 hk3 => ?_⟩
      have k3 := k2.trans hk3
      have pl1 : PlD (.tuple [.str zo, .int 0]) := ⟨zo, 0, rfl, .inr nmo, by unfold NumOk; decide⟩
      have pl2 : PlD (.tuple [.str z, .int i]) := ⟨z, i, rfl, by
        rcases hz with h | h | h
        · exact .inl h
        · exact .inr (sd.nm.2.1 _ h)
        · obtain ⟨q, hq, rfl⟩ := List.mem_map.mp h
          exact .inr (sd.nm.1 q hq).2, hi⟩
      have d1 : Dv All H3 (.ref t1) (.tuple [.str zo, .int 0]) := .tupM (hk3.all.tup h2) (.cons (.str _) (.cons (.int _) .nil))
      have d2 : Dv All H3 (.ref t2) (.tuple [.str z, .int i]) := .tupM h3 (.cons (.str _) (.cons (.int _) .nil))
      refine ⟨_, _, rfl, ?_⟩
      apply dupW (S := fun G w => ∃ (d' : PyData) (m0 : Nat), Dv All G (.ref t1) (.tuple [.str zo, .int 0]) ∧ Dv All G w d' ∧ PlD d' ∧ PotAt G p m0 ∧ m0 ≤ n + 10 ∧ KpP p H G)
      · intro rest
        have stay : ∀ (G : Hp) (m0 : Nat), KpP p H3 G → PotAt G p m0 → m0 ≤ n + 10 → ∃ (d' : PyData) (m0 : Nat), Dv All G (.ref t1) (.tuple [.str zo, .int 0]) ∧ Dv All G (.ref t2) d' ∧ PlD d' ∧ PotAt G p m0 ∧ m0 ≤ n + 10 ∧ KpP p H G := fun G m0 kk pp hm => ⟨_, m0, d1.kp kk.all, d2.kp kk.all, pl2, pp, hm, k3.trans kk⟩
        refine ⟨_, rfl, _, _, rfl, .inr ⟨_, (k3.tup to).sq, rfl⟩, _, _, rfl, rfl, _, rfl, ite2 (fun hb => ?_) (fun hb => ?_)⟩
        · refine ⟨_, rfl, p, _, _, rfl, hp3, by omega, by decide, by decide, fun wz H4 hz0 hz1 hp4 hk4 => ⟨rfl, _, rfl, ite2 (fun hb2 => ?_) (fun hb2 => ?_)⟩⟩
          · have k4 := k3.trans hk4
            refine ⟨_, rfl, _, rfl, p, _, .ref o, _, rfl, hp4, by omega, .inr (.inl ⟨o, rfl, neo, k4.tup to⟩), ho1, by omega, fun j2 v2 H5 hv2 hp5 hk5 => ⟨by show 2 ≤ sizeLine; decide, fun t3 H6 s6 h6 => ?_⟩⟩
            rw [List.getElem?_map] at hv2
            cases hv3 : ow[j2]? with
            | none => rw [hv3] at hv2; cases hv2
            | some zp =>
            rw [hv3] at hv2
            cases hv2
            have fin : ∃ (d' : PyData) (m0 : Nat), Dv All H6 (.ref t1) (.tuple [.str zo, .int 0]) ∧ Dv All H6 (.ref t3) d' ∧ PlD d' ∧ PotAt H6 p m0 ∧ m0 ≤ n + 10 ∧ KpP p H H6 := ⟨.tuple [.str zp, .int 0], _, (d1.kp (hk4.trans hk5).all).kp (kz s6), .tupM h6 (.cons (.str _) (.cons (.int _) .nil)), ⟨zp, 0, rfl, .inr (hw.2.2.2 zp (List.mem_of_getElem? hv3)).1, by unfold NumOk; decide⟩, hp5.same s6, by omega, (k4.trans hk5).trans (Kp.same s6)⟩
            dsimp only [gName]
            change (tSeq _ _) _ [some (V.ref p), some (V.ref R), some (V.ref o), some (V.int ((m + 1 : Nat) : Int)), none, some (V.ref t1), some (V.ref t3), none, none] H6
            generalize V.ref t3 = w0 at fin ⊢
            exact rest H6 w0 fin
          · have fin := stay H4 _ hk4 hp4 (by omega)
            dsimp only [tNext]
            change (tSeq _ _) _ [some (V.ref p), some (V.ref R), some (V.ref o), some (V.int ((m + 1 : Nat) : Int)), none, some (V.ref t1), some (V.ref t2), none, none] H4
            generalize V.ref t2 = w0 at fin ⊢
            exact rest H4 w0 fin
        · have fin := stay H3 _ Kp.refl hp3 (by omega)
          refine iteF ?_
          dsimp only [tNext]
          change (tSeq _ _) _ [some (V.ref p), some (V.ref R), some (V.ref o), some (V.int ((m + 1 : Nat) : Int)), none, some (V.ref t1), some (V.ref t2), none, none] H3
          generalize V.ref t2 = w0 at fin ⊢
          exact rest H3 w0 fin
      rintro G w0 ⟨d', m0, e1, e2, pl', hpG', hm0, kG'⟩
      refine ⟨_, rfl, p, m0, _, rfl, hpG', by omega, by decide, by decide, fun w2 H5 hy0 hy1 hp5 hk5 => ⟨rfl, _, rfl, ?_⟩⟩
      have k5 := kG'.trans hk5
      have e15 := e1.kp hk5.all
      have e25 := e2.kp hk5.all
      apply dupW (S := fun G w => ∃ (t : Addr) (a b : V) (da db : PyData) (m1 : Nat), w = .ref t ∧ TupF G t [a, b] ∧ Dv All G a da ∧ Dv All G b db ∧ PlD da ∧ PlD db ∧ PotAt G p m1 ∧ m1 ≤ n + 12 ∧ KpP p H G)
      · intro rest
        refine ite2 (fun hb => ?_) (fun hb => ?_)
        · refine ⟨_, rfl, _, rfl, by show 2 ≤ sizeLine; decide, fun t H6 s6 h6 => ?_⟩
          have fin : ∃ (t' : Addr) (a b : V) (da db : PyData) (m1 : Nat), V.ref t = .ref t' ∧ TupF H6 t' [a, b] ∧ Dv All H6 a da ∧ Dv All H6 b db ∧ PlD da ∧ PlD db ∧ PotAt H6 p m1 ∧ m1 ≤ n + 12 ∧ KpP p H H6 := ⟨t, _, _, _, _, m0 + 1, rfl, h6, e15.kp (kz s6), e25.kp (kz s6), pl1, pl', hp5.same s6, by omega, k5.trans (Kp.same s6)⟩
          dsimp only [gName]
          change (tRet _) _ [some (V.ref p), some (V.ref R), some (V.ref o), some (V.int ((m + 1 : Nat) : Int)), none, some (V.ref t1), some w0, some (V.ref t), none] H6
          generalize V.ref t = w9 at fin ⊢
          exact rest H6 w9 fin
        · refine ⟨_, rfl, _, rfl, by show 2 ≤ sizeLine; decide, fun t H6 s6 h6 => ?_⟩
          have fin : ∃ (t' : Addr) (a b : V) (da db : PyData) (m1 : Nat), V.ref t = .ref t' ∧ TupF H6 t' [a, b] ∧ Dv All H6 a da ∧ Dv All H6 b db ∧ PlD da ∧ PlD db ∧ PotAt H6 p m1 ∧ m1 ≤ n + 12 ∧ KpP p H H6 := ⟨t, _, _, _, _, m0 + 1, rfl, h6, e25.kp (kz s6), e15.kp (kz s6), pl', pl1, hp5.same s6, by omega, k5.trans (Kp.same s6)⟩
          dsimp only [gName]
          change (tRet _) _ [some (V.ref p), some (V.ref R), some (V.ref o), some (V.int ((m + 1 : Nat) : Int)), none, some (V.ref t1), some w0, some (V.ref t), none] H6
          generalize V.ref t = w9 at fin ⊢
          exact rest H6 w9 fin
      rintro G2 w9 ⟨t, a, b, da, db, m1, rfl, h6, ea, eb, pa, pb, hp6, hm1, k6⟩
      refine ⟨_, rfl, by show 3 ≤ sizeLine; decide, fun l hl => ⟨p, m1, .ref l, _, rfl, hp6.same (Same.upd hl), by omega, .inl ⟨l, rfl, hp6.ne hl, upd_same⟩, by show 1 ≤ 3; decide, by show 3 ≤ 1000; decide, fun j v H7 hv hp7 hk7 => ?_⟩⟩
      have all : ∀ v ∈ ([.str "<=", .str "<=", .str "=="] : List V), ∃ z, v = .str z ∧ okS z ∧ z.length ≤ 8 := (by repeat (first | exact List.forall_mem_nil _ | refine List.forall_mem_cons.mpr ⟨⟨_, rfl, okS_by (by decide +kernel), by decide +kernel⟩, ?_⟩))
      obtain ⟨z, rfl, hz1, hz2⟩ := all v (List.mem_of_getElem? hv)
      have kk : Kp All G2 H7 := (kz (Same.upd hl)).trans hk7.all
      refine ⟨by show 2 ≤ sizeLine; decide, fun t4 H8 s8 h8 => ⟨_, rfl, t4, t, _, _, rfl, rfl, h8, ((kk.trans (kz s8)).tup h6), by show 4 ≤ sizeLine; decide, fun t5 H9 s9 h9 => ?_⟩⟩
      have k89 : Kp All G2 H9 := (kk.trans (kz s8)).trans (kz s9)
      exact k (.ref t5) (.tuple [.str "pos", .str z, da, db]) H9 (.tupM h9 (.cons (.str _) (.cons (.str _) (.cons (ea.kp k89) (.cons (eb.kp k89) .nil))))) (atom_gen (by omega) (okS_by (by decide +kernel)) (by decide +kernel) hz1 hz2 pa.sm pb.sm) (((hp7.same s8).same s9).mono (by omega)) (((k6.trans (Kp.same (Same.upd hl))).trans hk7).trans ((Kp.same s8).trans (Kp.same s9)))
end
end Kx
namespace Kx
open PySem PySem.Spec PyProof.Rows L2
def AtomC (ps : List (Str × Str)) (ns us : List Str) (d : PyData) : Prop := okN ps ns us 1 ⟨"claim", [], d⟩ = true ∧ ∃ (w : Str) (x y z : PyData), d = .tuple [.str w, x, y, z] ∧ (w = "pos" ∨ w = "val")
theorem okN_atom {ps : List (Str × Str)} {ns us ow : List Str} {role w : Str} {x y z : PyData} (hw : eqS "all" (.str w) = false) (h : atomD ps ns us role ow (.str w) x y z = true) : needD ps ns us ⟨role, ow, .tuple [.str w, x, y, z]⟩ = some [] := by
  show (if eqS "all" (.str w) then _ else if atomD ps ns us role ow (.str w) x y z then some [] else none) = some []
  rw [hw, if_neg (by decide), h, if_pos rfl]
theorem okN_one {ps : List (Str × Str)} {ns us : List Str} {n : Nd} (h : needD ps ns us n = some []) : okN ps ns us 1 n = true := by
  show (match needD ps ns us n with | none => false | some l => l.all (okN ps ns us 0)) = true
  rw [h]
  rfl
theorem cops_in {z : Str} (h : z ∈ cops) : strInD cops (.str z) = true := decide_eq_true h
theorem body_atom {ps : List (Str × Str)} {ns us ow : List Str} {role : Str} {d : PyData} (hr : role ≠ "guard") (h : BodyAtom ps ns us ow d) : needD ps ns us ⟨role, ow, d⟩ = some [] := by
  obtain ⟨op, a, b, rfl, ho, ha, hb⟩ := h
  refine okN_atom (by decide +kernel) ?_
  unfold atomD
  rw [if_neg hr, cops_in ho, if_pos rfl, show eqS "val" (.str "val") = true by decide +kernel, if_pos rfl, ha.1, hb.1]
  rfl
theorem Gen.up {m k : Nat} {d : PyData} (h : Gen m d) (e : m ≤ k) : Gen k d :=
  ⟨Nat.le_trans h.c (by unfold cB; exact Nat.mul_le_mul_left _ (Nat.pow_le_pow_right (by decide) e)), h.o, Nat.le_trans h.p (by omega)⟩
theorem gen_all {m : Nat} {ps : List (Str × Str)} {ns us ow : List Str} {a b : PyData} (ho : OwnTup ps ns us ow) (ha : Gen m a) (hb : Gen m b) : Gen (m + 1) (.tuple [.str "all", .tuple (ow.map PyData.str), a, b]) := by
  have hB : 500 ≤ cB m := by unfold cB; have : 1 ≤ 4 ^ m := Nat.pos_of_ne_zero (by simp); omega
  have hc : ∀ l : List Str, (∀ z ∈ l, NameS z) → costL (l.map PyData.str) ≤ l.length * 100 ∧ okL (l.map PyData.str) ∧ PyData.depthAll (l.map PyData.str) = 0 := by
    intro l
    induction l with
    | nil => intro _; exact ⟨by simp [costL], trivial, rfl⟩
    | cons x r ih =>
      intro hl
      have a := ih fun d hd => hl d (List.mem_cons_of_mem _ hd)
      have b := hl x List.mem_cons_self
      refine ⟨?_, ?_, ?_⟩
      · simp only [List.map_cons, costL, cost, List.length_cons]
        have b2 := b.2.1
        omega
      · exact okL_mem.mpr fun y hy => by
          rcases List.mem_cons.mp hy with rfl | hy
          · exact okS_name b
          · exact okL_mem.mp a.2.1 y hy
      · simp only [List.map_cons, PyData.depthAll, a.2.2, PyData.depth]; rfl
  obtain ⟨c1, c2, c3⟩ := hc ow fun z hz => (ho.2.2.2 z hz).1
  have hl := ho.2.1
  have a1 := ha.c
  have a3 := ha.p
  have b1 := hb.c
  have b3 := hb.p
  refine ⟨?_, ?_, ?_⟩
  · rw [cB_s]
    simp only [cost, costL]
    have : (("all" : Str)).length = 3 := by decide +kernel
    omega
  · refine okL_mem.mpr fun x hx => ?_
    simp only [List.mem_cons, List.not_mem_nil, or_false] at hx
    rcases hx with rfl | rfl | rfl | rfl
    · exact okS_by (by decide +kernel)
    · exact c2
    · exact ha.o
    · exact hb.o
  · simp only [PyData.depth, PyData.depthAll, c3]
    omega
section
variable {P : Program} {w : World} {K : PySem.W.Frag} {mg : Str → Option Value} {base : Heap}
abbrev N_law_claim : List Str := ["keg", "sides", "depth", "way", "op", "parts", "own", "turn"]
abbrev P_law_claim : List Str := ["keg", "sides", "depth"]
theorem sc_law_claim : FnScope N_law_claim P_law_claim (defScope s_law_claim) := ⟨rfl, rfl, rfl, by decide +kernel, rfl, by decide +kernel, by decide +kernel⟩
def spCl (m : Nat) : Sp := fun vs H Q _ => ∃ (p R : Addr) (n : Nat) (va vp vv : V) (ps : List (Str × Str)) (ns us : List Str), vs = [.ref p, .ref R, .int (m : Int)] ∧ 1 ≤ m ∧ PotAt H p n ∧ n + 2 * pB m ≤ 600000 ∧ R ≠ p ∧ RecAt H R va vp vv ps ns us ∧ Sides ps ns us ∧
  ∀ (v : V) (d : PyData) (H' : Hp), Dv All H' v d → Gen m d → (m = 1 → AtomC ps ns us d) → PotAt H' p (n + 2 * pB m) → KpP p H H' → Q v H'
theorem ok_cl (T : Bt mg) (h : Has K mg "_law_claim" s_law_claim) (C1 : Ca P w K mg base 1 "_law_tap" P_law_tap spTap) (C2 : Ca P w K mg base 2 "_law_choice" P_law_choice spChoice) (C3 : Ca P w K mg base 4 "_law_place" P_law_place spPl) (C4 : Ca P w K mg base 3 "_law_own_names" P_law_own_names spON)
    (C5 : ∀ m : Nat, Ca P w K mg base (6 + m) "_law_body" P_law_body (spBo m)) (C6 : ∀ m : Nat, Ca P w K mg base (6 + m) "_law_guard" P_law_guard (spGu m)) : ∀ m : Nat, Ca P w K mg base (8 + m) "_law_claim" P_law_claim (spCl m)
  | 0 => by
    refine cal_of h sc_law_claim (fun _ _ _ _ _ _ us hl => match us, hl with | [_, _, _], _ => rfl) (fun vs H Q E h => ?_) (fun f cdv A outer s H vs Q E hr h => ?_)
    · obtain ⟨_, _, _, _, _, _, _, _, _, _, z, _⟩ := h
      exact absurd z (by decide)
    · obtain ⟨_, _, _, _, _, _, _, _, _, _, z, _⟩ := h
      exact absurd z (by decide)
  | m + 1 => by
    obtain ⟨_, _, c__law_claim⟩ := ok_cl T h C1 C2 C3 C4 C5 C6 m
    obtain ⟨_, _, c__law_body⟩ := C5 m
    obtain ⟨_, _, c__law_body1⟩ := C5 1
    obtain ⟨_, _, c__law_guard⟩ := C6 m
    obtain ⟨_, _, c__law_tap⟩ := C1
    obtain ⟨_, _, c__law_choice⟩ := C2
    obtain ⟨_, _, c__law_place⟩ := C3
    obtain ⟨_, _, c__law_own_names⟩ := C4
    refine cal_of (k := 8 + m) h sc_law_claim (fun _ _ _ _ _ _ us hl => match us, hl with | [_, _, _], _ => rfl) (fun vs H Q E h => ?_) (fun f cdv A outer s H vs Q E hr h => ?_)
    · obtain ⟨p, R, n, va, vp, vv, ps, ns, us, rfl, _⟩ := h
      rfl
    · obtain ⟨p, R, n, va, vp, vv, ps, ns, us, rfl, hm, hp, hn, hRp, rc, sd, k⟩ := h
      refine ⟨_, (pss_cons (ps_set (i := 3) sc_law_claim.nd rfl (.inl rfl) (pe_ifExp (pt_cmpR op_gt (pv 2) pe_int (nomark _)) (pe_call c__law_tap.1 (hr.mono (by omega)) rfl c__law_tap.2.1 c__law_tap.2.2.1 c__law_tap.2.2.2 .nil pass0 (pa_cons (pv 0) (pa_cons pe_int pa_nil))) (pe_call c__law_tap.1 (hr.mono (by omega)) rfl c__law_tap.2.1 c__law_tap.2.2.1 c__law_tap.2.2.2 .nil pass0 (pa_cons (pv 0) (pa_cons pe_int pa_nil)))))
        (pss_cons (ps_if (pt_cmpR op_eq (pv 3) pe_int (nomark _)) (pss_cons (ps_set (i := 4) sc_law_claim.nd rfl (.inl rfl) (pe_call c__law_choice.1 (hr.mono (by omega)) rfl c__law_choice.2.1 c__law_choice.2.2.1 c__law_choice.2.2.2 .nil pass0 (pa_cons (pv 0) (pa_cons (pe_lst (pa_cons pe_str (pa_cons pe_str (pa_cons pe_str pa_nil)))) pa_nil))))
          (pss_one (ps_ret (pe_tupF (pa_cons pe_str (pa_cons (pv 4) (pa_cons (pe_call c__law_place.1 (hr.mono (by omega)) rfl c__law_place.2.1 c__law_place.2.2.1 c__law_place.2.2.2 .nil pass0 (pa_cons (pv 0) (pa_cons (pv 1) pa_nil))) (pa_cons (pe_call c__law_place.1 (hr.mono (by omega)) rfl c__law_place.2.1 c__law_place.2.2.1 c__law_place.2.2.2 .nil pass0 (pa_cons (pv 0) (pa_cons (pv 1) pa_nil))) pa_nil)))))))) pss_nil)
        (pss_cons (ps_if (pt_cmpR op_lt (pv 3) pe_int (nomark _)) (pss_one (ps_ret (pe_call c__law_body1.1 (hr.mono (by omega)) rfl c__law_body1.2.1 c__law_body1.2.2.1 c__law_body1.2.2.2 .nil pass0 (pa_cons (pv 0) (pa_cons (pv 1) (pa_cons (pe_tupF pa_nil) (pa_cons pe_int pa_nil))))))) pss_nil)
        (pss_cons (ps_if (pt_cmpR op_eq (pv 3) pe_int (nomark _)) (pss_one (ps_ret (pe_tupF (pa_cons pe_str (pa_cons (pe_call c__law_claim.1 (hr.mono (by omega)) rfl c__law_claim.2.1 c__law_claim.2.2.1 c__law_claim.2.2.2 .nil pass0 (pa_cons (pv 0) (pa_cons (pv 1) (pa_cons (pe_op op_sub (pv 2) pe_int) pa_nil)))) pa_nil))))) pss_nil)
        (pss_cons (ps_if (pt_cmpR op_lt (pv 3) pe_int (nomark _)) (pss_cons (ps_setLc (i := 5) (own := [("turn", 7)]) (g := (gName 7)) (tt := tYes) (by rfl) sc_law_claim.nd rfl rfl (sw_true rfl rfl rfl (by decide +kernel)) (pi_range1 rfl T.range (pa_cons (pe_call c__law_tap.1 (hr.mono (by omega)) rfl c__law_tap.2.1 c__law_tap.2.2.1 c__law_tap.2.2.2 .nil pass0 (pa_cons (pv 0) (pa_cons pe_int pa_nil))) pa_nil)) (blkOk_by (own := [("turn", 7)]) (N := ["keg", "sides", "depth", "way", "op", "parts", "own", "turn"]) (sc := defScope s_law_claim) (by decide +kernel)) (fun _ _ _ _ _ => pg_name (i := 7) sc_law_claim.nd rfl (Or.inl rfl)) (fun _ _ _ _ _ => pts_nil) (fun _ _ _ _ _ => (pe_call c__law_claim.1 (hr.mono (by omega)) rfl c__law_claim.2.1 c__law_claim.2.2.1 c__law_claim.2.2.2 .nil pass0 (pa_cons (pv 0) (pa_cons (pv 1) (pa_cons (pe_op op_sub (pv 2) pe_int) pa_nil))))))
          (pss_one (ps_ret (pe_tupF (pa_cons (pe_call c__law_choice.1 (hr.mono (by omega)) rfl c__law_choice.2.1 c__law_choice.2.2.1 c__law_choice.2.2.2 .nil pass0 (pa_cons (pv 0) (pa_cons (pe_lst (pa_cons pe_str (pa_cons pe_str pa_nil))) pa_nil))) (pa_cons (pe_callTy call_tupF (by rfl) T.tuple (by decide +kernel) (pa_cons (pv 5) pa_nil)) pa_nil)))))) pss_nil)
        (pss_cons (ps_set (i := 6) sc_law_claim.nd rfl (.inl rfl) (pe_call c__law_own_names.1 (hr.mono (by omega)) rfl c__law_own_names.2.1 c__law_own_names.2.2.1 c__law_own_names.2.2.2 .nil pass0 (pa_cons (pv 0) (pa_cons (pv 1) pa_nil))))
        (pss_one (ps_ret (pe_tupF (pa_cons pe_str (pa_cons (pv 6) (pa_cons (pe_call c__law_guard.1 (hr.mono (by omega)) rfl c__law_guard.2.1 c__law_guard.2.2.1 c__law_guard.2.2.2 .nil pass0 (pa_cons (pv 0) (pa_cons (pv 1) (pa_cons (pv 6) (pa_cons (pe_op op_sub (pv 2) pe_int) pa_nil))))) (pa_cons (pe_call c__law_body.1 (hr.mono (by omega)) rfl c__law_body.2.1 c__law_body.2.2.1 c__law_body.2.2.2 .nil pass0 (pa_cons (pv 0) (pa_cons (pv 1) (pa_cons (pv 6) (pa_cons (pe_op op_sub (pv 2) pe_int) pa_nil))))) pa_nil))))))))))))), ?_⟩
      have hL := sizeLine_eq
      have pbs := pB_s m
      have pb1 := pB_1 (m := m + 1) (by omega)
      have e1B : pB 1 = 100 := rfl
      have kz : ∀ {X Y : Hp}, Same X Y → Kp All X Y := fun h => Kp.same h
      have em1 : (((m + 1 : Nat) : Int) - 1) = (m : Int) := by omega
      apply dupW (S := fun G w => ∃ wy : Int, w = .int wy ∧ (m = 0 → wy < 3) ∧ 0 ≤ wy ∧ PotAt G p (n + 1) ∧ KpP p H G)
      · intro rest
        refine ⟨_, rfl, _, _, rfl, rfl, _, rfl, ?_⟩
        by_cases hm0 : ¬ m = 0
        · rw [decide_eq_true (by omega : (1 : Int) < ((m + 1 : Nat) : Int))]
          refine iteT ⟨_, rfl, p, n, _, rfl, hp, by omega, by decide, by decide, fun wy H1 h0 h1 hp1 hk1 => ?_⟩
          have fin : ∃ w' : Int, V.int wy = .int w' ∧ (m = 0 → w' < 3) ∧ 0 ≤ w' ∧ PotAt H1 p (n + 1) ∧ KpP p H H1 := ⟨wy, rfl, fun e => absurd e hm0, h0, hp1, hk1⟩
          dsimp only [tC, gName]
          change (tSeq _ _) _ [some (V.ref p), some (V.ref R), some (V.int ((m + 1 : Nat) : Int)), some (V.int wy), none, none, none, none] H1
          generalize V.int wy = w0 at fin ⊢
          exact rest H1 w0 fin
        · rw [decide_eq_false (by omega : ¬ (1 : Int) < ((m + 1 : Nat) : Int))]
          refine iteF ⟨_, rfl, p, n, _, rfl, hp, by omega, by decide, by decide, fun wy H1 h0 h1 hp1 hk1 => ?_⟩
          have fin : ∃ w' : Int, V.int wy = .int w' ∧ (m = 0 → w' < 3) ∧ 0 ≤ w' ∧ PotAt H1 p (n + 1) ∧ KpP p H H1 := ⟨wy, rfl, fun _ => h1, h0, hp1, hk1⟩
          dsimp only [tC, gName]
          change (tSeq _ _) _ [some (V.ref p), some (V.ref R), some (V.int ((m + 1 : Nat) : Int)), some (V.int wy), none, none, none, none] H1
          generalize V.int wy = w0 at fin ⊢
          exact rest H1 w0 fin
      rintro G w0 ⟨wy, rfl, hwy, hw0, hpG, kG⟩
      refine ⟨_, rfl, rfl, _, rfl, ?_⟩
      by_cases h0 : wy = 0
      · rw [decide_eq_true (congrArg V.int h0)]
        refine iteT ⟨_, rfl, by show 3 ≤ sizeLine; decide, fun l hl => ⟨p, n + 1, .ref l, _, rfl, hpG.same (Same.upd hl), by omega, .inl ⟨l, rfl, hpG.ne hl, upd_same⟩, by show 1 ≤ 3; decide, by show 3 ≤ 1000; decide, fun j v H2 hv hp2 hk2 => ?_⟩⟩
        have all : ∀ v ∈ ([.str "<=", .str "<", .str "=="] : List V), ∃ z, v = .str z ∧ z ∈ cops := (by repeat (first | exact List.forall_mem_nil _ | refine List.forall_mem_cons.mpr ⟨⟨_, rfl, by decide +kernel⟩, ?_⟩))
        obtain ⟨z, rfl, hz⟩ := all v (List.mem_of_getElem? hv)
        have hz2 := cops_ok z hz
        have k2 := (kG.trans (Kp.same (Same.upd hl))).trans hk2
        refine ⟨_, rfl, _, rfl, _, rfl, p, R, n + 2, _, vp, vv, ps, ns, us, rfl, hp2, by omega, hRp, rc.kp k2 hRp, sd, fun t1 z1 i1 H3 hz1 hi1 ht1 hp3 hk3 => ?_⟩
        have k3 := k2.trans hk3
        refine ⟨_, rfl, _, rfl, p, R, n + 4, _, vp, vv, ps, ns, us, rfl, hp3, by omega, hRp, rc.kp k3 hRp, sd, fun t2 z2 i2 H4 hz3 hi2 ht2 hp4 hk4 => ⟨by show 4 ≤ sizeLine; decide, fun t H5 s5 h5 => ?_⟩⟩
        have nm : ∀ {z : Str}, (z = "" ∨ z ∈ ns ∨ z ∈ ps.map (·.2)) → z = "" ∨ NameS z := fun {z} h => by
          rcases h with h | h | h
          · exact .inl h
          · exact .inr (sd.nm.2.1 _ h)
          · obtain ⟨q, hq, rfl⟩ := List.mem_map.mp h
            exact .inr (sd.nm.1 q hq).2
        have pl3 : ∀ {z : Str}, (z = "" ∨ z ∈ ns ∨ z ∈ ps.map (·.2)) → (z = "" ∨ z ∈ ns ∨ z ∈ ps.map (·.2) ∨ z ∈ ([] : List Str)) := fun {z} h => by
          rcases h with h | h | h
          · exact .inl h
          · exact .inr (.inl h)
          · exact .inr (.inr (.inl h))
        have pl1 : PlD (.tuple [.str z1, .int i1]) := ⟨z1, i1, rfl, nm hz1, hi1⟩
        have pl2 : PlD (.tuple [.str z2, .int i2]) := ⟨z2, i2, rfl, nm hz3, hi2⟩
        refine k (.ref t) (.tuple [.str "pos", .str z, .tuple [.str z1, .int i1], .tuple [.str z2, .int i2]]) H5 (.tupM h5 (.cons (.str _) (.cons (.str _) (.cons (.tupM ((hk4.all.trans (kz s5)).tup ht1) (.cons (.str _) (.cons (.int _) .nil))) (.cons (.tupM ((kz s5).tup ht2) (.cons (.str _) (.cons (.int _) .nil))) .nil))))) (atom_gen (by omega) (okS_by (by decide +kernel)) (by decide +kernel) hz2.1 hz2.2 pl1.sm pl2.sm) (fun _ => ⟨okN_one (okN_atom (by decide +kernel) ?_), _, _, _, _, rfl, .inl rfl⟩) ((hp4.same s5).mono (by omega)) ((k3.trans hk4).trans (Kp.same s5))
        unfold atomD
        have q1 := place_ok (ow := []) sd.nd (z := z1) (i := i1) (pl3 hz1) hi1.d
        have q2 := place_ok (ow := []) sd.nd (z := z2) (i := i2) (pl3 hz3) hi2.d
        rw [if_neg (by decide +kernel), cops_in hz, if_pos rfl, show eqS "val" (.str "pos") = false by decide +kernel, if_neg (by decide), q1, q2, show eqS "pos" (.str "pos") = true by decide +kernel]
        decide +kernel
      rw [decide_eq_false (fun e : V.int wy = V.int 0 => h0 (by injection e))]
      refine iteF ⟨_, rfl, _, _, rfl, rfl, _, rfl, ?_⟩
      by_cases h3 : wy < 3
      · rw [decide_eq_true h3]
        refine iteT ⟨_, rfl, _, rfl, by show 0 ≤ sizeLine; exact Nat.zero_le _, fun o G1 s1 h1 => ⟨p, R, o, n + 1, _, vp, vv, ps, ns, us, [], rfl, by omega, hpG.same s1, by omega, hRp, rc.kp (kG.trans (Kp.same s1)) hRp, sd, h1, .inl rfl, fun v d H2 dv g ba hp2 hk2 => ?_⟩⟩
        have ba1 := ba rfl
        refine k v d H2 dv (g.up (by omega)) (fun _ => ⟨okN_one (body_atom (by decide) ba1), ?_⟩) (hp2.mono (by omega)) ((kG.trans (Kp.same s1)).trans hk2)
        obtain ⟨op, a, b, rfl, _⟩ := ba1
        exact ⟨_, _, _, _, rfl, .inr rfl⟩
      rw [decide_eq_false h3]
      have hm1 : 1 ≤ m := by
        cases m with
        | zero => exact absurd (hwy rfl) h3
        | succ _ => omega
      have pbm := pB_1 hm1
      refine iteF ⟨_, rfl, rfl, _, rfl, ?_⟩
      by_cases h4 : wy = 3
      · rw [decide_eq_true (congrArg V.int h4)]
        refine iteT ⟨_, rfl, _, rfl, _, rfl, _, _, rfl, rfl, p, R, n + 1, _, vp, vv, ps, ns, us, (by show ([V.ref p, V.ref R, V.int (((m + 1 : Nat) : Int) - 1)] : List V) = _; rw [em1]), hm1, hpG, by omega, hRp, rc.kp kG hRp, sd, fun v d H2 dv g _ hp2 hk2 => ⟨by show 2 ≤ sizeLine; decide, fun t H3 s3 h3 => ?_⟩⟩
        exact k (.ref t) (.tuple [.str "not", d]) H3 (.tupM h3 (.cons (.str _) (.cons (dv.kp (kz s3)) .nil))) (gen_pair (okS_by (by decide +kernel)) (by decide +kernel) g) (fun e => absurd e (by omega)) ((hp2.same s3).mono (by omega)) ((kG.trans hk2).trans (Kp.same s3))
      rw [decide_eq_false (fun e : V.int wy = V.int 3 => h4 (by injection e))]
      refine iteF ⟨_, rfl, _, _, rfl, rfl, _, rfl, ?_⟩
      by_cases h5 : wy < 6
      · rw [decide_eq_true h5]
        refine iteT ⟨_, rfl, p, n + 1, _, rfl, hpG, by omega, by decide, by decide, fun c H1 hc0 hc1 hp1 hk1 => ⟨_, rfl, by omega, by omega, fun D hD => ?_⟩⟩
        have k1 := kG.trans hk1
        have hDp : D ≠ p := hp1.ne hD
        have hDn : H D = none := by
          cases e : H D with
          | none => rfl
          | some oo => rw [k1 _ _ e fun z => absurd z hDp] at hD; cases hD
        refine lc_range (lo := 0) (n := c.toNat) (fun i Hx => ∃ (vals : List V) (ds : List PyData), Hx D = some (.lst vals) ∧ DvL All Hx vals ds ∧ ds.length = i ∧ (∀ d ∈ ds, Gen m d) ∧ PotAt Hx p (n + 2 + i * (2 * pB m)) ∧ KpP p H Hx)
          ⟨[], [], upd_same, .nil, rfl, (fun d h => by cases h), (hp1.same (Same.upd hD)).mono (by omega), k1.trans (Kp.new hD)⟩ ?_ ?_
        · rintro i Hx hi ⟨vals, ds, hDx, dl, hl, hg, hpx, hkx⟩
          have hi2 : i ≤ 2 := by omega
          have hmul : (i + 1) * (2 * pB m) = i * (2 * pB m) + 2 * pB m := Nat.succ_mul _ _
          have hmul2 : (i + 1) * (2 * pB m) ≤ 3 * (2 * pB m) := Nat.mul_le_mul_right _ (by omega)
          refine ⟨rfl, yes ⟨_, rfl, _, rfl, _, rfl, _, _, rfl, rfl, p, R, _, _, vp, vv, ps, ns, us, (by show ([V.ref p, V.ref R, V.int (((m + 1 : Nat) : Int) - 1)] : List V) = _; rw [em1]), hm1, hpx, by omega, hRp, rc.kp hkx hRp, sd, fun v d H2 dv g _ hp2 hk2 => ⟨_, hk2.get hDx hDp, ?_, ?_⟩⟩⟩
          · have := dl.len
            omega
          have ku : Kp All H2 (upd H2 D (.lst (vals ++ [v]))) := Kp.at trivial (hk2.get hDx hDp)
          refine ⟨vals ++ [v], ds ++ [d], upd_same, ((dl.kp hk2.all).kp ku).app (.cons (dv.kp ku) .nil), by rw [List.length_append, hl]; rfl, fun x hx => ?_, ?_, ?_⟩
          · rcases List.mem_append.mp hx with hx | hx
            · exact hg x hx
            · rw [List.mem_singleton.mp hx]; exact g
          · obtain ⟨a1, b1, c1, e1, r1⟩ := hp2
            exact ⟨a1, b1, c1, by rw [upd_ne hDp.symm]; exact e1, by omega⟩
          · intro b oo hb hbp
            rw [upd_ne (ne_of_none hb hDn)]
            exact hk2 b oo (hkx b oo hb hbp) hbp
        · rintro H2 ⟨vals, ds, hDx, dl, hl, hg, hp2, k2⟩
          have hc3 : c.toNat ≤ 3 := by omega
          have hmul2 : c.toNat * (2 * pB m) ≤ 3 * (2 * pB m) := Nat.mul_le_mul_right _ hc3
          refine ⟨_, rfl, by show 2 ≤ sizeLine; decide, fun l hl2 => ⟨p, _, .ref l, _, rfl, hp2.same (Same.upd hl2), by omega, .inl ⟨l, rfl, hp2.ne hl2, upd_same⟩, by show 1 ≤ 2; decide, by show 2 ≤ 1000; decide, fun j v H3 hv hp3 hk3 => ?_⟩⟩
          have all : ∀ v ∈ ([.str "and", .str "or"] : List V), ∃ z, v = .str z ∧ okS z ∧ z.length ≤ 8 := (by repeat (first | exact List.forall_mem_nil _ | refine List.forall_mem_cons.mpr ⟨⟨_, rfl, okS_by (by decide +kernel), by decide +kernel⟩, ?_⟩))
          obtain ⟨z, rfl, hz1, hz2⟩ := all v (List.mem_of_getElem? hv)
          have hD3 := hk3.get ((Same.upd hl2) _ _ hDx) hDp
          have dl3 := dl.kp ((kz (Same.upd hl2)).trans hk3.all)
          refine ⟨_, rfl, D, _, rfl, SqL.of hD3, fun t1 H4 s4 h4 => ⟨by show 2 ≤ sizeLine; decide, fun t2 H5 s5 h5 => ?_⟩⟩
          have s45 := s4.trans s5
          exact k (.ref t2) (.tuple [.str z, .tuple ds]) H5 (.tupM h5 (.cons (.str _) (.cons (.tupM ((kz s5).tup h4) (dl3.kp (kz s45))) .nil))) (gen_join hz1 hz2 (by omega) hg) (fun e => absurd e (by omega)) ((hp3.same s45).mono (by omega)) (((k2.trans (Kp.same (Same.upd hl2))).trans hk3).trans (Kp.same s45))
      rw [decide_eq_false h5]
      refine iteF ⟨_, rfl, _, rfl, p, R, n + 1, _, vp, vv, ps, ns, us, rfl, hpG, by omega, rc.kp kG hRp, sd, fun o ow H1 h1 ho hp1 hk1 => ?_⟩
      have k1 := kG.trans hk1
      refine ⟨_, rfl, _, rfl, _, rfl, _, rfl, _, rfl, _, _, rfl, rfl, p, R, o, n + 21, _, vp, vv, ps, ns, us, ow, (by show ([V.ref p, V.ref R, V.ref o, V.int (((m + 1 : Nat) : Int) - 1)] : List V) = _; rw [em1]), hm1, hp1, by omega, hRp, rc.kp k1 hRp, sd, h1, ho, fun v1 d1 H2 dv1 g1 hp2 hk2 => ?_⟩
      have k2 := k1.trans hk2
      refine ⟨_, rfl, _, rfl, _, rfl, _, rfl, _, _, rfl, rfl, p, R, o, n + 21 + pB m, _, vp, vv, ps, ns, us, ow, (by show ([V.ref p, V.ref R, V.ref o, V.int (((m + 1 : Nat) : Int) - 1)] : List V) = _; rw [em1]), hm1, hp2, by omega, hRp, rc.kp k2 hRp, sd, hk2.tup h1, .inr ho, fun v2 d2 H3 dv2 g2 _ hp3 hk3 => ⟨by show 4 ≤ sizeLine; decide, fun t H4 s4 h4 => ?_⟩⟩
      exact k (.ref t) (.tuple [.str "all", .tuple (ow.map PyData.str), d1, d2]) H4 (.tupM h4 (.cons (.str _) (.cons (.tupM ((kz s4).tup ((hk2.trans hk3).tup h1)) (DvL.strs ow)) (.cons (dv1.kp (hk3.all.trans (kz s4))) (.cons (dv2.kp (kz s4)) .nil))))) (gen_all ho g1 g2) (fun e => absurd e (by omega)) ((hp3.same s4).mono (by omega)) ((k2.trans hk3).trans (Kp.same s4))
end
end Kx
namespace Kx
open PySem PySem.Spec PyProof.Rows L2
section
variable {P : Program} {w : World} {K : PySem.W.Frag} {mg : Str → Option Value} {base : Heap}
def joinD : PyData → Bool
  | .tuple [.str z, x] => decide (z ∈ (["and", "or"] : List Str)) && isTupD x
  | _ => false
abbrev N_law_are_joined : List Str := ["value"]
abbrev P_law_are_joined : List Str := ["value"]
theorem sc_law_are_joined : FnScope N_law_are_joined P_law_are_joined (defScope s_law_are_joined) := ⟨rfl, rfl, rfl, by decide +kernel, rfl, by decide +kernel, by decide +kernel⟩
theorem ok_jo (T : Bt mg) (h : Has K mg "_law_are_joined" s_law_are_joined) : Ca P w K mg base 1 "_law_are_joined" P_law_are_joined (spJudge joinD) := by
  refine cal_of h sc_law_are_joined (fun _ _ _ _ _ _ us hl => match us, hl with | [_], _ => rfl) (fun vs H Q E h => ?_) (fun f cdv A outer s H vs Q E hr h => ?_)
  · obtain ⟨ex, v, d, rfl, _⟩ := h
    rfl
  · obtain ⟨ex, v, d, rfl, dv, hc, k⟩ := h
    refine ⟨_, (pss_cons (ps_if (PW.pt (pw_or (pt_not (pt_val (pe_callB call_isi (by rfl) T.isinstance (by decide +kernel) (pa_cons (pv 0) (pa_cons (pe_bltn (v := .ty "tuple") (by rfl) T.tuple (by decide +kernel) rfl) pa_nil))))) (pw_or (pt_cmpR op_ne (pe_callB call_len (by rfl) T.len (by decide +kernel) (pa_cons (pv 0) pa_nil)) pe_int (nomark _)) (pw_or1 (pt_not (pt_val (pe_callB call_isi (by rfl) T.isinstance (by decide +kernel) (pa_cons (pe_ix ix_tup (pv 0) pe_int (fun _ _ => rfl)) (pa_cons (pe_bltn (v := .ty "str") (by rfl) T.str (by decide +kernel) rfl) pa_nil))))))))) (pss_one (ps_ret pe_bl)) pss_nil)
      (pss_one (ps_ret (pe_and (pe_cmpR op_in_seq (pe_ix ix_tup (pv 0) pe_int (fun _ _ => rfl)) (pe_lst (pa_cons pe_str (pa_cons pe_str pa_nil))) rfl) (pe_one (pe_callB call_isi (by rfl) T.isinstance (by decide +kernel) (pa_cons (pe_ix ix_tup (pv 0) pe_int (fun _ _ => rfl)) (pa_cons (pe_bltn (v := .ty "tuple") (by rfl) T.tuple (by decide +kernel) rfl) pa_nil)))))))), ?_⟩
    refine ⟨_, rfl, _, _, _, _, _, rfl, .ty _, dv.ty, kitT d, _, rfl, ?_⟩
    cases e : isTupD d with
    | false =>
      have no : joinD d = false := by cases d <;> first | rfl | (cases e; done)
      have := k H Same.refl
      rw [no] at this
      exact iteT (iteT this)
    | true =>
      obtain ⟨ds, rfl⟩ : ∃ ds, d = .tuple ds := by cases d <;> first | exact ⟨_, rfl⟩ | (cases e; done)
      obtain ⟨a, xs, rfl, ht, dl⟩ := dv.tupI
      have hl := dl.len
      refine iteF ?_
      have sqx : SqT K H a xs := ht.sq
      refine ⟨_, rfl, _, _, rfl, .inr ⟨_, sqx, rfl⟩, rfl, ?_⟩
      refine ⟨_, rfl, ?_⟩
      by_cases h2 : xs.length = 2
      · obtain ⟨a0, a1, rfl⟩ : ∃ a0 a1, xs = [a0, a1] := match xs, h2 with | [_, _], _ => ⟨_, _, rfl⟩
        obtain ⟨d0, d1, rfl⟩ : ∃ d0 d1, ds = [d0, d1] := match ds, hl with | [_, _], _ => ⟨_, _, rfl⟩
        obtain ⟨b0, b1, e1, dv0, dv1⟩ := dl.two
        cases e1
        rw [decide_eq_true (show V.int (([a0, a1] : List V).length : Int) = V.int 2 from rfl)]
        refine iteF ⟨_, rfl, a, [a0, a1], 0, a0, rfl, rfl, sqx, rfl, _, _, _, _, _, rfl, .ty _, dv0.ty, kitS d0, _, rfl, ?_⟩
        cases e2 : isStrD d0 with
        | false =>
          have no : joinD (.tuple [d0, d1]) = false := by cases d0 <;> first | rfl | (cases e2; done)
          have := k H Same.refl
          rw [no] at this
          exact iteT this
        | true =>
          obtain ⟨z, rfl⟩ : ∃ z, d0 = .str z := by cases d0 <;> first | exact ⟨_, rfl⟩ | (cases e2; done)
          cases dv0.strI
          refine iteF ⟨_, rfl, a, [.str z, a1], 0, .str z, rfl, rfl, sqx, rfl, by show 2 ≤ sizeLine; decide, fun L hL => ?_⟩
          have m1 : Same H (upd H L (.lst [.str "and", .str "or"])) := Same.upd hL
          have q : ∀ H', Same H H' → Q (.bl (decide (z ∈ (["and", "or"] : List Str)) && isTupD d1)) H' := k
          refine ⟨L, _, rfl, .inl (SqL.of upd_same), rfl, rfl, _, rfl, ?_⟩
          rw [show inV (.str z) [.str "and", .str "or"] = decide (z ∈ (["and", "or"] : List Str)) from inV_str z ["and", "or"]]
          cases e3 : decide (z ∈ (["and", "or"] : List Str)) with
          | false =>
            rw [e3] at q
            exact iteF (q _ m1)
          | true =>
            rw [e3] at q
            exact iteT ⟨_, rfl, a, [.str z, a1], 1, a1, rfl, rfl, ((Kp.same (ex := ex) m1).tup ht).sq, rfl, _, _, _, _, _, rfl, .ty _, (dv1.kp (Kp.same m1)).ty, kitT d1, q _ m1⟩
      · have no : joinD (.tuple ds) = false := by
          match ds, hl with
          | [], _ => rfl
          | [x], _ => cases x <;> rfl
          | [_, _], hl => exact absurd hl h2
          | x :: _ :: _ :: _, _ => cases x <;> rfl
        have := k H Same.refl
        rw [no] at this
        rw [decide_eq_false (show ¬ V.int (xs.length : Int) = V.int 2 from fun e => h2 (by injection e; omega))]
        exact iteT (iteT this)
theorem atI_0 {x : V} {xs : List V} : atI (x :: xs) 0 = some x := by
  have : ixN (xs.length + 1) 0 = some 0 := by simp [ixN]
  simp [atI, this]
def headW (w : Str) : List PyData → Bool
  | .str z :: _ => decide (z = w)
  | _ => false
def startD (w : Str) (n : Nat) : PyData → Bool
  | .tuple ds => decide (ds.length = n) && headW w ds
  | _ => false
abbrev N_law_starts : List Str := ["value", "word", "size"]
abbrev P_law_starts : List Str := ["value", "word", "size"]
theorem sc_law_starts : FnScope N_law_starts P_law_starts (defScope s_law_starts) := ⟨rfl, rfl, rfl, by decide +kernel, rfl, by decide +kernel, by decide +kernel⟩
def spSt : Sp := fun vs H Q _ => ∃ (ex : Addr → Prop) (v : V) (d : PyData) (w : Str) (n : Nat), vs = [v, .str w, .int (n : Int)] ∧ 1 ≤ n ∧ Dv ex H v d ∧ Q (.bl (startD w n d)) H
theorem ok_st (T : Bt mg) (h : Has K mg "_law_starts" s_law_starts) : Ca P w K mg base 1 "_law_starts" P_law_starts spSt := by
  refine cal_of h sc_law_starts (fun _ _ _ _ _ _ us hl => match us, hl with | [_, _, _], _ => rfl) (fun vs H Q E h => ?_) (fun f cdv A outer s H vs Q E hr h => ?_)
  · obtain ⟨ex, v, d, w, n, rfl, _⟩ := h
    rfl
  · obtain ⟨ex, v, d, w, n, rfl, hn, dv, q⟩ := h
    refine ⟨_, (pss_one (ps_ret (pe_and (pe_callB call_isi (by rfl) T.isinstance (by decide +kernel) (pa_cons (pv 0) (pa_cons (pe_bltn (v := .ty "tuple") (by rfl) T.tuple (by decide +kernel) rfl) pa_nil))) (pe_and (pe_cmpR op_eq (pe_callB call_len (by rfl) T.len (by decide +kernel) (pa_cons (pv 0) pa_nil)) (pv 2) (nomark _)) (pe_and (pe_callB call_isi (by rfl) T.isinstance (by decide +kernel) (pa_cons (pe_ix ix_tup (pv 0) pe_int (fun _ _ => rfl)) (pa_cons (pe_bltn (v := .ty "str") (by rfl) T.str (by decide +kernel) rfl) pa_nil))) (pe_one (pe_cmpR op_eq (pe_ix ix_tup (pv 0) pe_int (fun _ _ => rfl)) (pv 1) (nomark _)))))))), ?_⟩
    refine ⟨_, rfl, _, _, _, _, _, rfl, .ty _, dv.ty, kitT d, _, rfl, ?_⟩
    cases e : isTupD d with
    | false =>
      rw [show startD w n d = false by cases d <;> first | rfl | (cases e; done)] at q
      exact iteF q
    | true =>
      obtain ⟨ds, rfl⟩ : ∃ ds, d = .tuple ds := by cases d <;> first | exact ⟨_, rfl⟩ | (cases e; done)
      obtain ⟨a, xs, rfl, ht, dl⟩ := dv.tupI
      have hl := dl.len
      have sqx : SqT K H a xs := ht.sq
      have q' : Q (.bl (decide (ds.length = n) && headW w ds)) H := q
      refine iteT ⟨_, rfl, _, _, rfl, .inr ⟨_, sqx, rfl⟩, _, rfl, rfl, _, rfl, ?_⟩
      by_cases h2 : ds.length = n
      · rw [decide_eq_true h2, Bool.true_and] at q'
        rw [decide_eq_true (show V.int (xs.length : Int) = V.int (n : Int) by rw [hl, h2])]
        cases dl with
        | nil => exact absurd h2 (by simp; omega)
        | @cons x xs d0 ds dv0 dl =>
          refine iteT ⟨_, rfl, a, _, 0, x, rfl, rfl, sqx, atI_0, _, _, _, _, _, rfl, .ty _, dv0.ty, kitS d0, _, rfl, ?_⟩
          cases e2 : isStrD d0 with
          | false =>
            rw [show headW w (d0 :: ds) = false by cases d0 <;> first | rfl | (cases e2; done)] at q'
            exact iteF q'
          | true =>
            obtain ⟨z, rfl⟩ : ∃ z, d0 = .str z := by cases d0 <;> first | exact ⟨_, rfl⟩ | (cases e2; done)
            cases dv0.strI
            refine iteT ⟨_, rfl, a, _, 0, .str z, rfl, rfl, sqx, atI_0, _, rfl, rfl, ?_⟩
            rw [show decide (V.str z = V.str w) = decide (z = w) from decide_eq_decide.mpr ⟨fun e => by injection e, fun e => congrArg V.str e⟩]
            exact q'
      · rw [decide_eq_false h2, Bool.false_and] at q'
        rw [decide_eq_false (show ¬ V.int (xs.length : Int) = V.int (n : Int) from fun e => h2 (by injection e; omega))]
        exact iteF q'
abbrev N_law_is_op : List Str := ["value", "ops"]
abbrev P_law_is_op : List Str := ["value", "ops"]
theorem sc_law_is_op : FnScope N_law_is_op P_law_is_op (defScope s_law_is_op) := ⟨rfl, rfl, rfl, by decide +kernel, rfl, by decide +kernel, by decide +kernel⟩
def spOp : Sp := fun vs H Q _ => ∃ (ex : Addr → Prop) (v : V) (d : PyData) (l : Addr) (zs : List Str), vs = [v, .ref l] ∧ SqL K H l (zs.map V.str) ∧ Dv ex H v d ∧ Q (.bl (strInD zs d)) H
theorem ok_op (T : Bt mg) (h : Has K mg "_law_is_op" s_law_is_op) : Ca P w K mg base 1 "_law_is_op" P_law_is_op (spOp (K := K)) := by
  refine cal_of h sc_law_is_op (fun _ _ _ _ _ _ us hl => match us, hl with | [_, _], _ => rfl) (fun vs H Q E h => ?_) (fun f cdv A outer s H vs Q E hr h => ?_)
  · obtain ⟨ex, v, d, l, zs, rfl, _⟩ := h
    rfl
  · obtain ⟨ex, v, d, l, zs, rfl, sq, dv, q⟩ := h
    refine ⟨_, (pss_one (ps_ret (pe_and (pe_callB call_isi (by rfl) T.isinstance (by decide +kernel) (pa_cons (pv 0) (pa_cons (pe_bltn (v := .ty "str") (by rfl) T.str (by decide +kernel) rfl) pa_nil))) (pe_one (pe_cmpR op_in_seq (pv 0) (pv 1) rfl))))), ?_⟩
    refine ⟨_, rfl, _, _, _, _, _, rfl, .ty _, dv.ty, kitS d, _, rfl, ?_⟩
    cases e : isStrD d with
    | false =>
      rw [show strInD zs d = false by cases d <;> first | rfl | (cases e; done)] at q
      exact iteF q
    | true =>
      obtain ⟨z, rfl⟩ : ∃ z, d = .str z := by cases d <;> first | exact ⟨_, rfl⟩ | (cases e; done)
      cases dv.strI
      refine iteT ⟨_, rfl, _, rfl, l, _, rfl, .inl sq, rfl, flat_strs _, ?_⟩
      rw [inV_str]
      exact q
abbrev N_law_is_whole : List Str := ["value"]
abbrev P_law_is_whole : List Str := ["value"]
theorem sc_law_is_whole : FnScope N_law_is_whole P_law_is_whole (defScope s_law_is_whole) := ⟨rfl, rfl, rfl, by decide +kernel, rfl, by decide +kernel, by decide +kernel⟩
theorem ok_wh (T : Bt mg) (Tb : mg "bool" = none) (h : Has K mg "_law_is_whole" s_law_is_whole) : Ca P w K mg base 1 "_law_is_whole" P_law_is_whole (spJudge intD) := by
  refine cal_of h sc_law_is_whole (fun _ _ _ _ _ _ us hl => match us, hl with | [_], _ => rfl) (fun vs H Q E h => ?_) (fun f cdv A outer s H vs Q E hr h => ?_)
  · obtain ⟨ex, v, d, rfl, _⟩ := h
    rfl
  · obtain ⟨ex, v, d, rfl, dv, hc, k⟩ := h
    refine ⟨_, (pss_one (ps_ret (pe_and (pe_callB call_isi (by rfl) T.isinstance (by decide +kernel) (pa_cons (pv 0) (pa_cons (pe_bltn (v := .ty "int") (by rfl) T.int (by decide +kernel) rfl) pa_nil))) (pe_and (pe_not (pe_callB call_isi (by rfl) T.isinstance (by decide +kernel) (pa_cons (pv 0) (pa_cons (pe_bltn (v := .ty "bool") (by rfl) Tb (by decide +kernel) rfl) pa_nil)))) (pe_one (pe_cmpR op_lt (pe_callB call_abs (by rfl) T.abs (by decide +kernel) (pa_cons (pv 0) pa_nil)) (pe_op op_pow pe_int pe_int) (nomark _))))))), ?_⟩
    refine ⟨_, rfl, _, _, _, _, _, rfl, .ty _, dv.ty, kitI d, _, rfl, ?_⟩
    cases e : isIntD d with
    | false =>
      refine iteF ?_
      have := k H Same.refl
      rw [show intD d = false by cases d <;> first | rfl | cases e] at this
      exact this
    | true =>
      refine iteT ⟨_, rfl, _, _, _, _, _, rfl, .ty _, dv.ty, kitBo d, _, rfl, _, rfl, ?_⟩
      cases e2 : isBoolD d with
      | true =>
        refine iteF ?_
        have := k H Same.refl
        rw [show intD d = false by cases d <;> first | rfl | cases e2] at this
        exact this
      | false =>
        obtain ⟨i, rfl⟩ : ∃ i, d = .int i := by cases d <;> first | exact ⟨_, rfl⟩ | (cases e; done) | (cases e2; done)
        cases dv.intI
        have q := k H Same.refl
        refine iteT ?_
        refine ⟨_, rfl, i, rfl, ?_⟩
        refine ⟨_, _, rfl, rfl, ⟨by decide, by decide, by decide⟩, _, _, rfl, rfl, ?_⟩
        rw [show intD (.int i) = decide ((if i < 0 then -i else i) < lim) from decide_eq_decide.mpr ⟨fun z => ?_, fun z => ?_⟩] at q
        · exact q
        · split <;> omega
        · split at z <;> omega
end
end Kx
namespace Kx
open PySem PySem.Spec PyProof.Rows L2
section
variable {P : Program} {w : World} {A : Around} {E : Value → Shared → Prop} {s : Shared}
/-- a set of texts that may be walked -/
def SetRS (P : Program) (w : World) (h : Heap) (a : Addr) (xs : List Str) : Prop :=
  ∃ o es ep t, h.get? a = some o ∧ o.ExactSet ∧ o.data = .set es ep t ∧ ElemsOf (PySem.strKind P w) es.toList ∧ (∀ k, k ∈ xs ↔ ∃ e, e ∈ es.toList ∧ (PySem.strKind P w).is k e.2 = true) ∧ t.fits es.size = true ∧ es.size = (uniq xs).length ∧ Ris t.place.toList ∧ (w.params.followText "set-order" = true ∨ t.led = true)
theorem SetRS.at {h h' : Heap} {S : Addr} {xs : List Str} (q : SetRS P w h S xs) (k : ∀ o, h.get? S = some o → h'.get? S = some o) : SetRS P w h' S xs := by
  obtain ⟨o, es, ep, t, ho, rest⟩ := q
  exact ⟨o, es, ep, t, k o ho, rest⟩
theorem is_self {P : Program} {w : World} {y k : Str} {tk : Tok} : (PySem.strKind P w).is k (.str y tk) = true ↔ k = y := by
  constructor
  · intro h
    exact (PySem.strKind P w).inj _ _ _ h (strKind_is _ _ _ _)
  · rintro rfl
    exact strKind_is _ _ _ _
theorem mem_snoc {es es1 : Array (Int × Value)} {xs : List Str} {y : Str} {tk : Tok} (hm : ∀ k, k ∈ xs ↔ ∃ e, e ∈ es.toList ∧ (PySem.strKind P w).is k e.2 = true) (hp : es1.toList.Perm (es.push ((PySem.strKind P w).hash y, .str y tk)).toList) :
    ∀ k, k ∈ xs ++ [y] ↔ ∃ e, e ∈ es1.toList ∧ (PySem.strKind P w).is k e.2 = true := by
  intro k
  rw [List.mem_append, List.mem_singleton, hm k]
  constructor
  · rintro (⟨e, h1, h2⟩ | rfl)
    · exact ⟨e, hp.mem_iff.mpr (by rw [Array.toList_push]; exact List.mem_append_left _ h1), h2⟩
    · exact ⟨_, hp.mem_iff.mpr (by rw [Array.toList_push]; exact List.mem_append_right _ (List.mem_singleton.mpr rfl)), strKind_is _ _ _ _⟩
  · rintro ⟨e, h1, h2⟩
    have h1 := hp.mem_iff.mp h1
    rw [Array.toList_push] at h1
    rcases List.mem_append.mp h1 with h | h
    · exact .inl ⟨e, h, h2⟩
    · rw [List.mem_singleton.mp h] at h2
      exact .inr (is_self.mp h2)
theorem tail_add {g : Bool → Sem Unit} (hg : ∀ (b : Bool) (s₁ : Shared) (Q' : Unit → Shared → Prop), Q' () s₁ → wpAny (model P w) A (g b) Q' E s₁) {a : Addr} {xs : List Str} {o : Obj} {es es1 : Array (Int × Value)} {ep : Nat} {t t2 : SetTable} {wd : Bool} {Q : Option Bool → Shared → Prop}
    (ho : s.heap.get? a = some o) (hx : o.ExactSet) (hd : o.data = .set es ep t) (he : ElemsOf (PySem.strKind P w) es1.toList) (hm : ∀ k, k ∈ xs ↔ ∃ e, e ∈ es1.toList ∧ (PySem.strKind P w).is k e.2 = true) (hf : t2.fits es1.size = true) (hn : es1.size = (uniq xs).length)
    (hr : Ris t2.place.toList) (hl : w.params.followText "set-order" = true ∨ t2.led = true) (hb : es1.size < scanBound)
    (k : ∀ h', Heap.SameBut a s.heap h' → SetRS P w h' a xs → Q (some true) { s with heap := h' }) :
    wpAny (model P w) A (do
      storeSet a es1 t2
      if (!wd && t2.tooFull) = true then
        match relayAll t2 es1 (SetTable.grown es1.size) with
        | (es, t, gave) => do
          g gave
          storeSet a es t
          pure (some true)
      else pure (some true)) Q E s := by
  refine wpAny_bind (wpAny_storeSet_of ho hd ?_ (by unfold scanBound at hb; have := sizeLine_eq; omega))
  have h1 : (s.heap.update a (Obj.putSet es1 t2)).get? a = some { o with data := .set es1 (ep + 1) t2 } := store_at ho hd
  have sb1 : Heap.SameBut a s.heap (s.heap.update a (Obj.putSet es1 t2)) := Heap.SameBut.update _ _ _
  have pe := relayAll_perm t2 es1 (SetTable.grown es1.size)
  have fi := relayAll_fits t2 es1 (SetTable.grown es1.size)
  have ri := relayAll_ris t2 es1 (SetTable.grown es1.size)
  have le := relayAll_led t2 es1 (SetTable.grown es1.size)
  generalize relayAll t2 es1 (SetTable.grown es1.size) = L at pe fi ri le ⊢
  obtain ⟨es3, t3, gave⟩ := L
  have ri : Ris t3.place.toList := ri
  have le : t3.led = t2.led := le
  have fi : t3.fits es3.size = true := fi
  have pe : es3.toList.Perm es1.toList := pe
  have hn3 : es3.size = es1.size := by
    have := pe.length_eq
    rw [Array.length_toList, Array.length_toList] at this
    exact this
  by_cases hc : (!wd && t2.tooFull) = true
  · rw [if_pos hc]
    refine wpAny_bind (hg _ _ _ (wpAny_bind (wpAny_storeSet_of h1 rfl ?_ (by unfold scanBound at hb; have := sizeLine_eq; omega))))
    refine wpAny_pure (k _ (sb1.trans (Heap.SameBut.update _ _ _)) ⟨_, es3, ep + 2, t3, store_at h1 rfl, hx, rfl, ElemsOf.perm he pe, fun z => ?_, fi, by rw [hn3, hn], ri, by rw [le]; exact hl⟩)
    rw [hm z]
    exact ⟨fun ⟨e, e1, e2⟩ => ⟨e, pe.mem_iff.mpr e1, e2⟩, fun ⟨e, e1, e2⟩ => ⟨e, pe.mem_iff.mp e1, e2⟩⟩
  · rw [if_neg hc]
    exact wpAny_pure (k _ sb1 ⟨_, es1, ep + 1, t2, h1, hx, rfl, he, hm, hf, hn, hr, hl⟩)
theorem scan_add {a : Addr} {y : Str} {tk : Tok} {xs : List Str} {o : Obj} {es : Array (Int × Value)} {ep : Nat} {t : SetTable} {Q : Option Bool → Shared → Prop}
    (ho : s.heap.get? a = some o) (hx : o.ExactSet) (hd : o.data = .set es ep t) (he : ElemsOf (PySem.strKind P w) es.toList) (hm : ∀ k, k ∈ xs ↔ ∃ e, e ∈ es.toList ∧ (PySem.strKind P w).is k e.2 = true) (hf : t.fits es.size = true) (hn : es.size = (uniq xs).length)
    (hr : Ris t.place.toList) (hl : w.params.followText "set-order" = true ∨ t.led = true) (hb : (uniq xs).length + 1 < scanBound)
    (k : ∀ b h', Heap.SameBut a s.heap h' → SetRS P w h' a (xs ++ [y]) → Q (some b) { s with heap := h' }) :
    wpAny (model P w) A (setAddByScan a (.str y tk) ((PySem.strKind P w).hash y) es t) Q E s := by
  have hy : (PySem.strKind P w).is y (.str y tk) = true := strKind_is _ _ _ _
  have pe := layNew_perm t es ((PySem.strKind P w).hash y) (.str y tk)
  have fi := layNew_fits t es ((PySem.strKind P w).hash y) (.str y tk)
  have ri := layNew_ris t es ((PySem.strKind P w).hash y) (.str y tk) hr
  have le := layNew_led t es ((PySem.strKind P w).hash y) (.str y tk)
  unfold setAddByScan
  generalize layNew t es ((PySem.strKind P w).hash y) (.str y tk) = L at pe fi ri le ⊢
  obtain ⟨es1, t1, wd, gave⟩ := L
  dsimp only at pe fi ri le
  refine wpAny_bind (wpAny_rule (wpAny_bind (wpAny_setScan_of hy ho hd hf he ?_)))
  cases hfi : List.findIdx? (fun e => (PySem.strKind P w).is y e.2) es.toList with
  | some j =>
    have hin : y ∈ xs := by
      have := (List.findIdx?_eq_some_iff_getElem.mp hfi)
      obtain ⟨hj, h1, _⟩ := this
      exact (hm y).mpr ⟨_, List.getElem_mem hj, h1⟩
    refine wpAny_pure (k false s.heap ⟨rfl, fun _ _ => rfl⟩ ⟨o, es, ep, t, ho, hx, hd, he, fun z => ?_, hf, ?_, hr, hl⟩)
    · rw [← hm z, List.mem_append, List.mem_singleton]
      exact ⟨fun h => h.elim id fun h => h ▸ hin, .inl⟩
    · rw [uniq_snoc, hn]
      unfold uniqF
      rw [if_pos ((uniq_mem _ _).mpr hin)]
  | none =>
    have hin : ¬ y ∈ xs := fun h => by
      obtain ⟨e, h1, h2⟩ := (hm y).mp h
      have := List.findIdx?_eq_none_iff.mp hfi e h1
      rw [h2] at this
      cases this
    have ri : Ris t1.place.toList := ri
    have le : t1.led = t.led := le
    have he1 : ElemsOf (PySem.strKind P w) es1.toList := ElemsOf.perm (l := (es.push ((PySem.strKind P w).hash y, .str y tk)).toList) (by rw [Array.toList_push]; exact he.push hy rfl) pe
    have hn1 : es1.size = (uniq (xs ++ [y])).length := by
      have := pe.length_eq
      rw [Array.length_toList, Array.length_toList, Array.size_push] at this
      rw [uniq_snoc, this, hn]
      unfold uniqF
      rw [if_neg (fun z => hin ((uniq_mem _ _).mp z)), List.length_append]
      rfl
    have hm1 := mem_snoc hm pe
    have sz1 : es1.size = (uniq xs).length + 1 := by
      have := pe.length_eq
      rw [Array.length_toList, Array.length_toList, Array.size_push] at this
      rw [this, hn]
    have go : ∀ (g : Bool → Sem Unit) (hg : ∀ (b : Bool) (s₁ : Shared) (Q' : Unit → Shared → Prop), Q' () s₁ → wpAny (model P w) A (g b) Q' E s₁) (t2 : SetTable), t2.place = t1.place → t2.led = t1.led → t2.fits es1.size = true → wpAny (model P w) A (do
      storeSet a es1 t2
      if (!wd && t2.tooFull) = true then
        match relayAll t2 es1 (SetTable.grown es1.size) with
        | (es, t, gave) => do
          g gave
          storeSet a es t
          pure (some true)
      else pure (some true)) Q E s := fun g hg t2 e1 e2 e3 => tail_add hg ho hx hd he1 hm1 e3 hn1 (by rw [e1]; exact ri) (by rw [e2, le]; exact hl) (by rw [sz1]; exact hb) (fun h' sb q => k true h' sb q)
    dsimp only
    have gk : ∀ (s₁ : Shared) (Q' : Unit → Shared → Prop), Q' () s₁ → wpAny (model P w) A (rule "set.scan.the-table-gave-way") Q' E s₁ := fun s₁ Q' h => wpAny_rule h
    have hbv : hashByValue 8 (Value.str y tk) = pure (plainKind (Value.str y tk)) := hashByValue_scannable 8 rfl
    rw [hbv]
    have stp : ∀ (G : Bool → Sem (Option Bool)), (∀ b, wpAny (model P w) A (G b) Q E s) → wpAny (model P w) A (if t1.plain = true then (do let byValue ← (pure (plainKind (Value.str y tk)) : Sem Bool); G byValue) else (do let byValue ← (pure true : Sem Bool); G byValue)) Q E s := fun G h => by
      by_cases hp : t1.plain = true
      · rw [if_pos hp]
        exact wpAny_bind (wpAny_pure (h _))
      · rw [if_neg hp]
        exact wpAny_bind (wpAny_pure (h _))
    cases gave with
    | false =>
      refine wpAny_bind (m := pure ()) (wpAny_pure (stp _ fun b => ?_))
      refine go _ (fun b s₁ Q' h => ?_) _ ?_ ?_ ?_
      · cases b with
        | false => exact wpAny_pure h
        | true => exact gk _ _ h
      · cases b <;> rfl
      · cases b <;> rfl
      · cases b <;> exact fi
    | true =>
      refine wpAny_bind (m := rule "set.scan.the-table-gave-way") (wpAny_rule (stp _ fun b => ?_))
      refine go _ (fun b s₁ Q' h => ?_) _ ?_ ?_ ?_
      · cases b with
        | false => exact wpAny_pure h
        | true => exact gk _ _ h
      · cases b <;> rfl
      · cases b <;> rfl
      · cases b <;> exact fi
theorem add_text {a : Addr} {y : Str} {tk : Tok} {xs : List Str} {Q : Bool → Shared → Prop} (q : SetRS P w s.heap a xs) (hb : xs.length + 1 < scanBound)
    (k : ∀ b h', Heap.SameBut a s.heap h' → SetRS P w h' a (xs ++ [y]) → Q b { s with heap := h' }) :
    wpAny (model P w) A (setAddHashed a (.str y tk) ((PySem.strKind P w).hash y)) Q E s := by
  obtain ⟨o, es, ep, t, ho, hx, hd, he, hm, hf, hn, hr, hl⟩ := q
  have lu := uniq_len xs
  unfold setAddHashed
  refine wpAny_holding ?_
  rw [show (100000 : Nat) = 99999 + 1 from rfl, setAddHashedIn_succ]
  refine wpAny_bind (wpAny_setState_of ho hd hf ?_)
  dsimp only
  have hs : byScan (Value.str y tk) es = true := by
    unfold byScan
    rw [he.all_scannable, decide_eq_true (show es.size < scanBound by omega)]
    rfl
  rw [if_pos hs]
  exact wpAny_bind (scan_add ho hx hd he hm hf hn hr hl (by omega) fun b h' sb q => wpAny_pure (k b h' sb q))
theorem setRS_fresh {h : Heap} {a : Addr} {led : Bool} (e : led = (!w.params.followText "set-order")) (ho : h.get? a = some { cls := .type "set", dict := none, data := .set #[] 0 (.fresh 0 0 led) }) : SetRS P w h a [] := by
  refine ⟨_, #[], 0, _, ho, ⟨rfl, rfl, rfl⟩, rfl, ?_, ?_, rfl, rfl, ?_, ?_⟩
  · intro e h
    cases h
  · intro k
    exact ⟨fun h => (by cases h), fun ⟨_, h, _⟩ => (by cases h)⟩
  · exact List.Pairwise.nil
  · rw [e]
    cases w.params.followText "set-order" with
    | false => exact .inr rfl
    | true => exact .inl rfl
theorem upd_strsR {I : Addr} {fp wr : List Addr} {G : Array GenState → Array GenState → Prop} {n : Nat} {Pv : Nat → Value → Prop} {St : Nat → Shared → Prop} {R : Result → Shared → Prop}
    (W : WalksS P w A.in1 I fp wr G n Pv St) (S : Addr) (hSf : S ∉ fp) (xs : List Str) (hn : n = xs.length) (hb : xs.length + 1 < scanBound) (hval : ∀ i v, Pv i v → ∃ y t, xs[i]? = some y ∧ v = .str y t) :
    ∀ (k i : Nat) (s : Shared), n - i = k → i ≤ n → St i s → SetRS P w s.heap S (xs.take i) → (∀ s', Moved (S :: wr) G s s' → SetRS P w s'.heap S xs → R (.ok (.ret .none)) s') →
      codeAny (model P w) A (.builtin "set.update.loop" ⟨[.ref S, .ref I], []⟩) R s := by
  have noS : S ∉ wr := fun h => hSf (W.sub _ h)
  have more : ∀ b ∈ wr, b ∈ S :: wr := fun b hb => List.mem_cons_of_mem _ hb
  intro k
  induction k with
  | zero =>
    intro i s hk hi st q fin
    obtain rfl : i = n := by omega
    rw [List.take_of_length_le (by omega)] at q
    refine codeAny_builtin PyProof.Rows.F.entry_set_update_loop ?_
    rw [Around.under_plainId PyProof.Rows.F.plain_set_update_loop _]
    refine wpAny_bind (m := pyNext (.ref I)) (W.done s _ _ st fun s' mv => ?_)
    exact wpAny_pure (fin s' (mv.mono more) (q.at fun o e => mv.heap S o noS e))
  | succ k ih =>
    intro i s hk hi st q fin
    have lt : i < n := by omega
    refine codeAny_builtin PyProof.Rows.F.entry_set_update_loop ?_
    rw [Around.under_plainId PyProof.Rows.F.plain_set_update_loop _]
    refine wpAny_bind (m := pyNext (.ref I)) (W.item i s _ _ lt st fun v s' pv st' mv => ?_)
    obtain ⟨y, t, hy, rfl⟩ := hval i v pv
    have q' := q.at fun o e => mv.heap S o noS e
    refine wpAny_bind (m := holding [Value.str y t] (setAdd S (.str y t))) (wpAny_holding ?_)
    unfold setAdd
    refine wpAny_holding (wpAny_bind ((PySem.strKind P w).pyHash (k := y) (strKind_is _ _ _ _) ?_))
    refine add_text (s := { s' with toks := s'.toks + 1 }) q' (by rw [List.length_take]; omega) fun _ h' same q2 => ?_
    have ey : xs.take (i + 1) = xs.take i ++ [y] := by rw [List.take_succ, hy]; rfl
    have q3 : SetRS P w h' S (xs.take (i + 1)) := by rw [ey]; exact q2
    have keep : ∀ b, b ≠ S → ∀ o, s'.heap.get? b = some o → h'.get? b = some o := fun b hb o e => by rw [same.2 b hb]; exact e
    exact wpAny_pure ⟨plainId_quiet PyProof.Rows.F.plain_set_update_loop _, ih (i + 1) _ (by omega) lt (W.frame _ s' _ _ st' (Nat.le_succ _) fun b hb o e => keep b (fun z => hSf (z ▸ hb)) o e) q3 fun s'' mv2 q4 =>
      fin s'' (Moved.trans W.gtrans ((mv.mono more).then_heap (Nat.le_succ _) fun b o hb e => keep b (fun z => hb (by rw [z]; exact List.mem_cons_self)) o e) mv2) q4⟩
theorem call_setRS {l : Addr} {items : Array Value} {xs : List Str} {Q : Value → Shared → Prop} (hh : A.handled = none) (hl : s.heap.IsList l items) (hi : StrsAre items.toList xs) (hb : xs.length + 1 < scanBound)
    (h : ∀ (h' : Heap) (tk : Nat), SetRS P w h' s.heap.objs.size xs → (∀ b o, s.heap.get? b = some o → h'.get? b = some o) → Q (.ref s.heap.objs.size) { s with heap := h', toks := tk }) :
    wpAny (model P w) A (call (.type "set") [.ref l]) Q E s := by
  obtain ⟨c, tl, hmro⟩ := PySem.F.called_set.mro
  have hmade := PySem.F.called_set.made
  have hsub := PySem.F.called_set.sub
  refine wpAny_call (codeAny_of_tree ?_)
  show wpAny _ _ (callAny (.type "set") _) _ _ _
  refine wpAny_pure ⟨Code.quiet_builtin _ (by decide +kernel), codeAny_builtin PySem.F.entry_type_call ?_⟩
  rw [Around.under_plain (weight_type_call_type "set" [.ref l] []) rfl]
  have h1 := PySem.F.called_set.notType
  have h2 := PySem.F.called_set.canCreate
  have hct := PySem.F.typeCall_set_1 (.ref l)
  repeat (any_goals (first | assumption | wp_step))
  let so : Bool → Obj := fun led => { cls := .type "set", dict := none, data := .set #[] 0 (.fresh 0 0 led) }
  refine codeAny_mono (code_set_led1 (.ref l) (E := E) (Q₁ := fun obj t => ∃ led : Bool, led = (!w.params.followText "set-order") ∧ obj = .ref s.heap.objs.size ∧ t = { s with heap := s.heap.push (so led) }) ⟨_, rfl, rfl, rfl⟩) fun r t hr => ?_
  cases r with
  | error e => exact hr
  | ok fl =>
    cases fl with
    | ret obj =>
      obtain ⟨led, hled, rfl, rfl⟩ := hr
      have hS : (s.heap.push (so led)).get? s.heap.objs.size = some (so led) := Heap.get?_push_size _ rfl
      have hT : Shared.TypeIs { s with heap := s.heap.push (so led) } (.ref s.heap.objs.size) "set" := ⟨_, hS, rfl⟩
      have hli := PySem.F.called_set.init.lookup
      have hbi := PySem.F.called_set.init.bind (.ref s.heap.objs.size)
      repeat (any_goals (first | assumption | wp_step))
      refine codeAny_mono (codeAny_call_builtin (R := wants (fun r t => r = .none ∧ ∃ h' tk, t = { s with heap := h', toks := tk } ∧ SetRS P w h' s.heap.objs.size xs ∧ (∀ b o, s.heap.get? b = some o → h'.get? b = some o)) E)
        PySem.F.called_set.init.plain PySem.F.entry_set_init (check_set_init_1 hT ?_)) fun r t hr => ?_
      · obtain ⟨ol, hol, hcl, nl, hdl⟩ := hl
        obtain ⟨ocls, odict, odata, oslots⟩ := ol
        simp only at hcl hdl
        subst hcl; subst hdl
        have hol' : (s.heap.push (so led)).get? l = some { cls := .type "list", dict := odict, data := .seq items nl, slots := oslots } := Heap.get?_push_of_some _ hol
        have hsls := PySem.F.sub_list_set
        have hslf := PySem.F.sub_list_frozenset
        have hne : (Value.type "list" == Value.type "dict") = false := by decide
        have hl1 : (s.heap.push (so led)).IsList l items := ⟨_, hol', rfl, nl, rfl⟩
        have lS : l < s.heap.objs.size := Heap.lt_size hol
        unfold Builtin.«set.__init__» noKeywords Builtin.Frozenset.updateFrom
        generalize hPI : pyIter = PI
        wp_walk
        subst hPI
        refine wpAny_pyIter_list hl1 (wpAny_bind (wpAny_runValue ?_))
        have hh3 : A.in1.in1.in1.handled = none := by simp [hh]
        have neI : l ≠ (s.heap.push (so led)).objs.size := by rw [Heap.size_push]; exact Nat.ne_of_lt (Nat.lt_succ_of_lt lS)
        have hSf : s.heap.objs.size ∉ [(s.heap.push (so led)).objs.size, l] := by
          rw [Heap.size_push]
          simp only [List.mem_cons, List.not_mem_nil, or_false, not_or]
          exact ⟨Nat.ne_of_lt (Nat.lt_succ_self _), Nat.ne_of_gt lS⟩
        have hsz : items.size = xs.length := by rw [← StrsAre.len_eq hi, Array.length_toList]
        refine upd_strsR ((Walks.list hh3 _ l neI items).toS) s.heap.objs.size hSf xs hsz hb (fun i v hv => ?_) (items.size - 0) 0 _ (by omega) (Nat.zero_le _) ⟨⟨_, Heap.get?_push_size _ rfl, rfl, rfl⟩, (hl1.push _)⟩ ?_ (fun s' mv q => ?_)
        · have hv' : items.toList[i]? = some v := by rw [Array.getElem?_toList]; exact hv
          have hi' : i < xs.length := by rw [← hsz]; exact (Array.getElem?_eq_some_iff.mp hv).1
          obtain ⟨t, e⟩ := StrsAre.at hi (List.getElem?_eq_getElem hi')
          rw [hv'] at e
          exact ⟨xs[i], t, List.getElem?_eq_getElem hi', Option.some.inj e⟩
        · exact setRS_fresh hled (Heap.get?_push_of_some _ hS)
        · obtain ⟨h', g', d', tk', os'⟩ := s'
          obtain rfl : g' = s.gens := mv.gens
          obtain rfl : d' = s.drawn := mv.drawn
          obtain rfl : os' = s.os := mv.os
          show wpAny _ _ _ _ _ _
          refine wpAny_pure ?_
          show wpAny _ _ (ret Value.none) _ _ _
          refine wpAny_pure ⟨rfl, h', tk', rfl, q, fun b o e => mv.heap b o ?_ (Heap.get?_push_of_some _ (Heap.get?_push_of_some _ e))⟩
          have := Heap.lt_size e
          rw [Heap.size_push]
          simp only [List.mem_cons, List.not_mem_nil, or_false, not_or]
          exact ⟨Nat.ne_of_lt this, Nat.ne_of_lt (Nat.lt_succ_of_lt this)⟩
      · cases r with
        | error e => exact hr
        | ok fl =>
          cases fl with
          | ret r =>
            obtain ⟨rfl, h', tk, rfl, q, kp⟩ := hr
            repeat (any_goals (first | assumption | wp_step))
            exact h _ _ q kp
          | _ => exact hr.elim
    | _ => exact hr.elim
end
end Kx
namespace Kx
open PySem PySem.Spec PyProof.Rows L2
section
variable {P : Program} {w : World} {A : Around} {E : Value → Shared → Prop} {s : Shared}
theorem sorted_keep {h : Heap} {a b : Addr} {vs : List Value} {out : Array Value} {o : Obj} (hb : b ≠ a) (e : h.get? b = some o) : (sortedHeap h a vs out).get? b = some o := by
  unfold sortedHeap
  exact Heap.get?_update_of_ne _ (Ne.symm hb) (Heap.get?_push_of_some _ (Heap.get?_push_of_some _ (Heap.get?_update_of_ne _ (Ne.symm hb) e)))
theorem sorted_new {h : Heap} {a : Addr} {vs : List Value} {xs out : Array Value} {c : Nat} (e : h.get? a = some (seqObj "list" xs c)) : ∃ d, (sortedHeap h a vs out).get? a = some (seqObj "list" out d) := by
  unfold sortedHeap
  obtain ⟨c1, e1⟩ : ∃ c1, (h.update a (Obj.mapSeq fun x => #[])).get? a = some (seqObj "list" #[] c1) := ⟨_, Heap.get?_update_self _ e rfl⟩
  exact ⟨_, Heap.get?_update_self _ (Heap.get?_push_of_some _ (Heap.get?_push_of_some _ e1)) rfl⟩
theorem sorted_kind : builtinKind "sorted" = none := by decide +kernel
theorem sorted_args (v : Value) : argsOk "sorted" ⟨[v], []⟩ := by rfl
theorem sorted_check (v : Value) : checkBuiltinCall "sorted" ⟨[v], []⟩ = pure () := by
  unfold checkBuiltinCall
  rw [sorted_kind]
  exact sorted_args v
theorem is_text {k : Str} {v : Value} (h : (PySem.strKind P w).is k v = true) : ∃ tk, v = .str k tk := by
  have h0 := h
  rw [(PySem.strKind P w).strs k k default v (strKind_is _ _ _ _)] at h
  cases v with
  | str x tk => exact ⟨tk, by rw [is_self.mp h0]⟩
  | _ => cases h
/-- the texts of a set -/
theorem strs_out : ∀ {es : List (Int × Value)}, ElemsOf (PySem.strKind P w) es → ∃ zs, StrsAre (es.map (·.2)) zs ∧ zs.length = es.length ∧ ∀ z, z ∈ zs ↔ ∃ e, e ∈ es ∧ (PySem.strKind P w).is z e.2 = true
  | [], _ => ⟨[], .nil, rfl, fun z => ⟨fun h => (by cases h), fun ⟨_, h, _⟩ => (by cases h)⟩⟩
  | e :: es, he => by
    obtain ⟨zs, h1, h2, h3⟩ := strs_out (es := es) fun x hx => he x (List.mem_cons_of_mem _ hx)
    obtain ⟨⟨y, hy, _⟩, _⟩ := he e List.mem_cons_self
    obtain ⟨tk, ht⟩ := is_text hy
    refine ⟨y :: zs, ?_, by simp only [List.length_cons, h2], fun z => ?_⟩
    · rw [List.map_cons, ht]
      exact .cons y tk h1
    · rw [List.mem_cons, h3 z]
      constructor
      · rintro (rfl | ⟨x, q1, q2⟩)
        · exact ⟨e, List.mem_cons_self, hy⟩
        · exact ⟨x, List.mem_cons_of_mem _ q1, q2⟩
      · rintro ⟨x, q1, q2⟩
        rcases List.mem_cons.mp q1 with rfl | q1
        · rw [ht] at q2
          exact .inl (is_self.mp q2)
        · exact .inr ⟨x, q1, q2⟩
theorem perm_out : ∀ {ys zs : List Str}, ys.Nodup → zs.length = ys.length → (∀ z, z ∈ ys → z ∈ zs) → zs.Perm ys
  | [], zs, _, h, _ => by
    rw [List.eq_nil_of_length_eq_zero h]
  | y :: r, zs, hn, h, hs => by
    have hy := hs y List.mem_cons_self
    have p := List.perm_cons_erase hy
    have pl := p.length_eq
    simp only [List.length_cons] at pl h
    obtain ⟨n1, n2⟩ := List.nodup_cons.mp hn
    exact p.trans ((perm_out n2 (by omega) fun z hz => (List.mem_erase_of_ne fun e => n1 (by rw [← e]; exact hz)).mpr (hs z (List.mem_cons_of_mem _ hz))).cons y)
theorem strsAre_perm {vs out : List Value} (p : out.Perm vs) : ∀ {zs : List Str}, StrsAre vs zs → ∃ ys, StrsAre out ys ∧ ys.Perm zs := by
  induction p with
  | nil => intro zs h; cases h; exact ⟨[], .nil, .refl _⟩
  | cons x _ ih =>
    intro zs h
    cases h with
    | cons y t h =>
      obtain ⟨ys, a, b⟩ := ih h
      exact ⟨y :: ys, .cons y t a, b.cons y⟩
  | swap x y l =>
    intro zs h
    cases h with
    | cons y t h =>
      cases h with
      | cons y2 t2 h => exact ⟨_, .cons _ _ (.cons _ _ h), .swap _ _ _⟩
  | trans _ _ i1 i2 =>
    intro zs h
    obtain ⟨ys, a, b⟩ := i2 h
    obtain ⟨us, c, d⟩ := i1 a
    exact ⟨us, c, d.trans b⟩
theorem call_sortedS {a : Addr} {xs : List Str} {Q : Value → Shared → Prop} (q : SetRS P w s.heap a xs) (hh : A.handled = none) (hb : xs.length < 64)
    (k : ∀ (s' : Shared) (p : Nat) (out : Array Value) (c : Nat) (zs : List Str), (∀ b o, s.heap.get? b = some o → s'.heap.get? b = some o) → s'.gens = s.gens → s'.os = s.os → s.heap.objs.size ≤ p → s'.heap.get? p = some (seqObj "list" out c) → StrsAre out.toList zs → zs.Perm (uniq xs) → sortedS zs = true → Q (.ref p) s') :
    wpAny (model P w) A (call (.builtin "sorted") [.ref a]) Q E s := by
  obtain ⟨o, es, ep, t, ho, hx, hd, he, hm, hf, hn, hr, hl⟩ := q
  refine wpAny_call (codeAny_call_builtin PyProof.Rows.plain_sorted PyProof.Rows.entry_sorted ?_)
  have hh1 : A.in1.handled = none := by simp [hh]
  have lu := uniq_len xs
  rw [sorted_check]
  refine wpAny_pure ?_
  unfold Builtin.sorted
  obtain ⟨zs, z1, z2, z3⟩ := strs_out he
  have zp : zs.Perm (uniq xs) := perm_out (uniq_nd xs) (by rw [z2, Array.length_toList, hn]) fun z hz => (z3 z).mpr ((hm z).mp ((uniq_mem _ _).mp hz))
  refine wpAny_bind (m := checkCount "sorted" 1 1 1) (wpAny_pure ?_)
  refine wpAny_bind (collect_set hh1 ⟨o, ho, hx.1, hd⟩ hf (by rw [hn]; unfold scanBound; omega) hr hl fun s' out hk hsz hg hos hp => ?_)
  obtain ⟨ys, y1, y2⟩ := strsAre_perm hp z1
  have yl := y1.len_eq
  have yz := y2.length_eq
  have zl := zp.length_eq
  refine wpAny_bind (wpAny_newList ?_ (by have := sizeLine_eq; omega))
  have hl1 : (s'.heap.push { cls := Value.type "list", data := Data.seq out.toArray }).get? s'.heap.objs.size = some (seqObj "list" out.toArray 0) := Heap.get?_push_size _ rfl
  refine wpAny_bind (wpAny_holding ?_)
  refine wpAny_call (codeAny_call_builtin (by decide +kernel) PySem.F.entry_list_sort ?_)
  refine PySem.F.slot_list_sort.check _ _ _ _ _ _ _ _ ⟨_, hl1, rfl⟩ (args_list_sort _) ?_
  refine list_sort_treeK strKind_oneLt hl1 y1.keysOf (fun v1 v2 rest e => ?_) (by omega) fun st' hp2 hs2 => ?_
  · subst e
    exact keyKind_strs y1
  obtain ⟨us, u1, u2, u3⟩ := sorted_out_str y1 hp2 hs2
  obtain ⟨c, e2⟩ := sorted_new (vs := out) (out := Array.map (fun x => x.snd) (arrOf st')) hl1
  exact wpAny_pure (k _ _ _ c us (fun b o e => sorted_keep (Nat.ne_of_lt (Heap.lt_size (hk b o e))) (Heap.get?_push_of_some _ (hk b o e))) hg hos hsz e2 u1 ((u2.trans y2).trans zp) u3)
end
end Kx
namespace Kx
open PySem PySem.Spec PyProof.Rows L2
section
variable {X : Cx}
/-- sorted(set(a list of texts)) -/
def tSortSetS (K : PySem.W.Frag) (ta : TE) : TE := fun σ H Q => ta σ H fun x H1 => ∃ l, ∃ xs : List Str, x = .ref l ∧ SqL K H1 l (xs.map V.str) ∧ xs.length < 64 ∧ ∀ (p : Addr) (zs : List Str), H1 p = none → zs.Perm (uniq xs) → sortedS zs = true → Q (.ref p) (upd H1 p (.lst (zs.map V.str)))
theorem vals_of_strs : ∀ {vs : List Value} {zs : List Str}, StrsAre vs zs → Vals (zs.map V.str) vs
  | _, _, .nil => .nil
  | _, _, .cons y t h => .cons ⟨_, rfl⟩ (vals_of_strs h)
theorem pe_sortSetS {a : Expr} {ta : TE} {p p2 q pos : Pos} (hc : X.calm = true) (hg : Gl X "sorted") (hm : X.mg "sorted" = none) (hg2 : Gl X "set") (hm2 : X.mg "set" = none) (ha : PE X a ta)
    (na : starEach [a] X.env = (false, eval a X.env) :: starEach [] X.env := by rfl) : PE X (.Call (.Name "sorted" p) [.Call (.Name "set" p2) [a] [] q] [] pos) (tSortSetS X.K ta) := by
  refine ⟨fun pins s σ H Q I h => ?_⟩
  refine Call_ (ld_blt I hg hm (show bootBuiltins "sorted" = some (.builtin "sorted") by decide +kernel) (PyProof.Rows.callWith_builtin1 (PyProof.Rows.args_cons ?_ rfl) rfl rfl))
  refine Call_ (ld_blt I hg2 hm2 boot_set (PyProof.Rows.callWith_type1 (PyProof.Rows.args_cons (thn (ha.run pins s σ H _ I h) fun v t ⟨x, H1, I1, rx, l, xs, ex, hq, hl, k⟩ => PyProof.Rows.args_nil ?_) na) na rfl))
  subst ex
  cases rx
  obtain ⟨its, r, pl, _⟩ := I1.list hq
  refine call_setRS (I1.ok.hd hc) pl.isList (by simpa using strsAre_of r) (by unfold scanBound; omega) fun h' tk hS hk => PyProof.Rows.args_nil ?_
  have I2 : Inv X pins σ H1 { t with heap := h', toks := tk } := I1.kept hk
  refine call_sortedS (s := { t with heap := h', toks := tk }) hS (I1.ok.hd hc) hl fun s' p out c zs hk2 hg2 hos2 hp2 e2 z1 z2 z3 => ?_
  have lu := uniq_len xs
  have zl := z2.length_eq
  have hob : ObjOk X.prog X.w (upd H1 p (.lst (zs.map V.str))) s'.heap p (.lst (zs.map V.str)) := by
    refine ⟨by rw [List.length_map]; have := sizeLine_eq; omega, out.toList, c, vals_of_strs z1, e2⟩
  have hpn : H1 p = none := I2.hok.fresh hp2
  have J : Inv X pins σ (upd H1 p (.lst (zs.map V.str))) { heap := s'.heap, gens := t.gens, drawn := t.drawn, toks := s'.toks, os := t.os } := Inv.laid (s := { t with heap := h', toks := tk }) I2 hk2 hp2 hob
  exact ⟨.ref p, _, ⟨J.ok, by rw [hos2]; exact J.os, by rw [hg2]; exact J.bare, J.base, J.loc, J.cell, J.free, J.freeC, J.pin, J.hok, J.len⟩, rfl, k p zs hpn z2 z3⟩
end
end Kx
namespace Kx
open PySem PySem.Spec PyProof.Rows L2
section
variable {P : Program} {w : World} {K : PySem.W.Frag} {mg : Str → Option Value} {base : Heap}
abbrev N_law_place_names : List Str := ["sides", "pair"]
abbrev P_law_place_names : List Str := ["sides"]
theorem sc_law_place_names : FnScope N_law_place_names P_law_place_names (defScope s_law_place_names) := ⟨rfl, rfl, rfl, by decide +kernel, rfl, by decide +kernel, by decide +kernel⟩
theorem ok_pn (T : Bt mg) (h : Has K mg "_law_place_names" s_law_place_names) : Ca P w K mg base 1 "_law_place_names" P_law_place_names spPN := by
  refine cal_of h sc_law_place_names (fun _ _ _ _ _ _ us hl => match us, hl with | [_], _ => rfl) (fun vs H Q E h => ?_) (fun f cdv A outer s H vs Q E hr h => ?_)
  · obtain ⟨R, va, vp, vv, ps, ns, us, rfl, _⟩ := h
    rfl
  · obtain ⟨R, va, vp, vv, ps, ns, us, rfl, ⟨hR, pt, b1, b2, b3⟩, sd, k⟩ := h
    refine ⟨_, (pss_one (ps_ret (pe_op op_cat (pe_op op_cat (pe_lst (pa_cons pe_str pa_nil)) (pe_callTy call_list_of (by rfl) T.list (by decide +kernel) (pa_cons (pe_ix ix_list (pv 0) pe_int (fun _ _ => rfl)) pa_nil))) (pe_sortSetS rfl rfl T.sorted rfl T.set (pe_lc (own := [("pair", 1)]) (g := (gName 1)) (tt := tYes) (by rfl) sc_law_place_names.nd (pi_tup (pe_ix ix_list (pv 0) pe_int (fun _ _ => rfl))) (blkOk_by (own := [("pair", 1)]) (N := ["sides", "pair"]) (sc := defScope s_law_place_names) (by decide +kernel)) (fun _ _ _ _ _ => pg_name (i := 1) sc_law_place_names.nd rfl (Or.inl rfl)) (fun _ _ _ _ _ => pts_nil) (fun _ _ _ _ _ => (pe_ix (show IxR _ (rIxT K) from ix_tup) (pv 1) pe_int (fun _ _ => rfl)))))))), ?_⟩
    obtain ⟨aA, xA, rfl, tA, dA⟩ := pt.a.tupI
    obtain ⟨aP, xP, rfl, tP, dP⟩ := pt.p.tupI
    have n1 := dA.len
    have n2 := dP.len
    rw [List.length_map] at n1 n2
    have eP := dP.strE
    subst eP
    have kk : ∀ {G G' : Hp}, Same G G' → Kp All G G' := fun m => Kp.same m
    have hL := sizeLine_eq
    have l1 := sd.l1
    have l2 := sd.l2
    refine ⟨by show 1 ≤ sizeLine; decide, fun l hl => ?_⟩
    have m1 : Same H (upd H l (.lst [.str ""])) := Same.upd hl
    have e1 : (upd H l (.lst [.str ""])) l = some (.lst [.str ""]) := upd_same
    have nl : H l = none := hl
    generalize upd H l (.lst [.str ""]) = H1 at m1 e1 ⊢
    refine ⟨_, rfl, R, _, 1, _, rfl, rfl, SqL.of (m1 _ _ hR), rfl, aP, _, rfl, .inr ((kk m1).tup tP).sq, fun D2 hD2 => ?_⟩
    have m2 : Same H1 (upd H1 D2 (.lst (ns.map V.str))) := Same.upd hD2
    have e2 : (upd H1 D2 (.lst (ns.map V.str))) D2 = some (.lst (ns.map V.str)) := upd_same
    generalize upd H1 D2 (.lst (ns.map V.str)) = H2 at m2 e2 ⊢
    refine ⟨l, D2, _, _, rfl, rfl, m2 _ _ e1, e2, by simp only [List.length_cons, List.length_nil, List.length_map]; omega, fun D3 hD3 => ?_⟩
    have m3 : Same H2 (upd H2 D3 (.lst ([.str ""] ++ ns.map V.str))) := Same.upd hD3
    have e3 : (upd H2 D3 (.lst ([.str ""] ++ ns.map V.str))) D3 = some (.lst ([.str ""] ++ ns.map V.str)) := upd_same
    generalize upd H2 D3 (.lst ([.str ""] ++ ns.map V.str)) = H3 at m3 e3 ⊢
    have m13 := (m1.trans m2).trans m3
    refine ⟨_, rfl, R, _, 0, _, rfl, rfl, SqL.of (m13 _ _ hR), rfl, aA, rfl, ⟨_, ((kk m13).tup tA).sq⟩, fun D hD => ?_⟩
    refine lc_o (walk_tup (K := K) (a := aA) (xs := xA)) (fun i => ps[i]?.map fun q => V.str q.2) (by omega) hD (fun Hx sm => ((kk (m13.trans sm)).tup tA).sq) ?_ ?_
    · rintro i y Hx H' Nx hi sm hDx ⟨rfl, hy⟩ hno hyes
      obtain ⟨e, he, dve⟩ := dA.get hy
      have hi' : i < ps.length := by omega
      rw [List.getElem?_map, List.getElem?_eq_getElem hi'] at he
      cases he
      obtain ⟨b, rfl, hb⟩ := dve.pairI
      exact ⟨rfl, yes ⟨_, rfl, b, _, 1, .str ps[i].2, rfl, rfl, ((kk (m13.trans sm)).tup hb).sq, rfl, hyes _ (by rw [List.getElem?_eq_getElem hi']; rfl) _ Same.refl⟩⟩
    intro H4 m4 hD4
    rw [n1, range_list] at hD4
    have e0 : (ps.map fun q => V.str q.2) = (ps.map (·.2)).map V.str := by rw [List.map_map]; rfl
    rw [e0] at hD4
    refine ⟨D, ps.map (·.2), rfl, SqL.of hD4, by rw [List.length_map]; omega, fun p zs hp zp _ => ?_⟩
    have m5 : Same H4 (upd H4 p (.lst (zs.map V.str))) := Same.upd hp
    have e5 : (upd H4 p (.lst (zs.map V.str))) p = some (.lst (zs.map V.str)) := upd_same
    generalize upd H4 p (.lst (zs.map V.str)) = H5 at m5 e5 ⊢
    have zl := zp.length_eq
    have ul := uniq_len (ps.map (·.2))
    rw [List.length_map] at ul
    refine ⟨D3, p, _, _, rfl, rfl, m5 _ _ (m4 _ _ e3), e5, by simp only [List.length_append, List.length_cons, List.length_nil, List.length_map]; omega, fun D6 hD6 => ?_⟩
    have m15 := (m13.trans m4).trans m5
    have ez : ([V.str ""] ++ ns.map V.str) ++ zs.map V.str = ((([("" : Str)] ++ ns) ++ zs).map V.str) := by simp only [List.map_append, List.map_cons, List.map_nil]
    refine k D6 (([("" : Str)] ++ ns) ++ zs) _ (newS m15 hD6) (m15.trans (Same.upd hD6)) (fun z => ?_) (by simp only [List.length_append, List.length_cons, List.length_nil]; omega) (by rw [← ez]; exact upd_same)
    rw [List.mem_append, List.mem_append, List.mem_singleton, zp.mem_iff, uniq_mem, or_assoc]
end
end Kx
namespace Kx
open PySem PySem.Spec PyProof.Rows L2
section
variable {P : Program} {w : World} {K : PySem.W.Frag} {mg : Str → Option Value} {base : Heap}
abbrev N_law_is_place : List Str := ["sides", "value", "own"]
abbrev P_law_is_place : List Str := ["sides", "value", "own"]
theorem sc_law_is_place : FnScope N_law_is_place P_law_is_place (defScope s_law_is_place) := ⟨rfl, rfl, rfl, by decide +kernel, rfl, by decide +kernel, by decide +kernel⟩
def spJT (g : List (Str × Str) → List Str → List Str → List Str → PyData → Bool) : Sp := fun vs H Q _ => ∃ (ex : Addr → Prop) (R mt : Addr) (v va vp vv : V) (d : PyData) (ps : List (Str × Str)) (ns us ow : List Str), vs = [.ref R, v, .ref mt] ∧ RecAt H R va vp vv ps ns us ∧ Sides ps ns us ∧ Dv ex H v d ∧ cost d ≤ 8000000 ∧ TupF H mt (ow.map V.str) ∧ ow.length ≤ 5 ∧ ∀ H', Same H H' → Q (.bl (g ps ns us ow d)) H'
theorem ok_jp (T : Bt mg) (h : Has K mg "_law_is_place" s_law_is_place) (C1 : Ca P w K mg base 1 "_law_is_whole" P_law_is_whole (spJudge intD)) (C2 : Ca P w K mg base 1 "_law_place_names" P_law_place_names spPN) : Ca P w K mg base 2 "_law_is_place" P_law_is_place (spJT placeD) := by
  obtain ⟨_, _, c__law_is_whole⟩ := C1
  obtain ⟨_, _, c__law_place_names⟩ := C2
  refine cal_of h sc_law_is_place (fun _ _ _ _ _ _ us hl => match us, hl with | [_, _, _], _ => rfl) (fun vs H Q E h => ?_) (fun f cdv A outer s H vs Q E hr h => ?_)
  · obtain ⟨ex, R, mt, v, va, vp, vv, d, ps, ns, us, ow, rfl, _⟩ := h
    rfl
  · obtain ⟨ex, R, mt, v, va, vp, vv, d, ps, ns, us, ow, rfl, rc, sd, dv, hc, tm, lo, k⟩ := h
    refine ⟨_, (pss_cons (ps_if (PW.pt (pw_or (pt_not (pt_val (pe_callB call_isi (by rfl) T.isinstance (by decide +kernel) (pa_cons (pv 1) (pa_cons (pe_bltn (v := .ty "tuple") (by rfl) T.tuple (by decide +kernel) rfl) pa_nil))))) (pw_or (pt_cmpR op_ne (pe_callB call_len (by rfl) T.len (by decide +kernel) (pa_cons (pv 1) pa_nil)) pe_int (nomark _)) (pw_or1 (pt_not (pt_val (pe_callB call_isi (by rfl) T.isinstance (by decide +kernel) (pa_cons (pe_ix ix_tup (pv 1) pe_int (fun _ _ => rfl)) (pa_cons (pe_bltn (v := .ty "str") (by rfl) T.str (by decide +kernel) rfl) pa_nil))))))))) (pss_one (ps_ret pe_bl)) pss_nil)
      (pss_one (ps_ret (pe_and (pe_cmpR op_in_seq (pe_ix ix_tup (pv 1) pe_int (fun _ _ => rfl)) (pe_op op_cat (pe_call c__law_place_names.1 (hr.mono (by decide)) rfl c__law_place_names.2.1 c__law_place_names.2.2.1 c__law_place_names.2.2.2 .nil pass0 (pa_cons (pv 0) pa_nil)) (pe_callTy call_list_of (by rfl) T.list (by decide +kernel) (pa_cons (pv 2) pa_nil))) rfl) (pe_one (pe_call c__law_is_whole.1 (hr.mono (by decide)) rfl c__law_is_whole.2.1 c__law_is_whole.2.2.1 c__law_is_whole.2.2.2 .nil pass0 (pa_cons (pe_ix ix_tup (pv 1) pe_int (fun _ _ => rfl)) pa_nil))))))), ?_⟩
    have nd := sd.nd
    refine ⟨_, rfl, _, _, _, _, _, rfl, .ty _, dv.ty, kitT d, _, rfl, ?_⟩
    cases e : isTupD d with
    | false =>
      have no : placeD ps ns us ow d = false := by cases d <;> first | rfl | (cases e; done)
      have := k H Same.refl
      rw [no] at this
      exact iteT (iteT this)
    | true =>
      obtain ⟨ds, rfl⟩ : ∃ ds, d = .tuple ds := by cases d <;> first | exact ⟨_, rfl⟩ | (cases e; done)
      obtain ⟨a, xs, rfl, ht, dl⟩ := dv.tupI
      have hl := dl.len
      have sqx : SqT K H a xs := ht.sq
      refine iteF ⟨_, rfl, _, _, rfl, .inr ⟨_, sqx, rfl⟩, rfl, ?_⟩
      refine ⟨_, rfl, ?_⟩
      by_cases h2 : xs.length = 2
      · obtain ⟨a0, a1, rfl⟩ : ∃ a0 a1, xs = [a0, a1] := match xs, h2 with | [_, _], _ => ⟨_, _, rfl⟩
        obtain ⟨d0, d1, rfl⟩ : ∃ d0 d1, ds = [d0, d1] := match ds, hl with | [_, _], _ => ⟨_, _, rfl⟩
        rw [decide_eq_true (show V.int (([a0, a1] : List V).length : Int) = V.int 2 from rfl)]
        obtain ⟨b0, b1, eb, dv0, dv1⟩ := dl.two
        cases eb
        have q : ∀ H', Same H H' → Q (.bl (intD d1 && nameAtD ps ns us ow d0)) H' := k
        refine iteF ⟨_, rfl, a, [a0, a1], 0, a0, rfl, rfl, sqx, rfl, _, _, _, _, _, rfl, .ty _, dv0.ty, kitS d0, _, rfl, ?_⟩
        cases e0 : isStrD d0 with
        | false =>
          have := q H Same.refl
          rw [nameAt_no e0, Bool.and_false] at this
          exact iteT this
        | true =>
          obtain ⟨z, rfl⟩ : ∃ z, d0 = .str z := by cases d0 <;> first | exact ⟨_, rfl⟩ | (cases e0; done)
          obtain rfl := dv0.strI
          rw [nameAt_str nd] at q
          have kk : ∀ {G G' : Hp}, Same G G' → Kp All G G' := fun m => Kp.same m
          have kx : ∀ {G G' : Hp}, Same G G' → Kp ex G G' := fun m => Kp.same m
          have hL := sizeLine_eq
          refine iteF ⟨_, rfl, a, _, 0, .str z, rfl, rfl, sqx, rfl, _, rfl, R, va, vp, vv, ps, ns, us, rfl, rc, sd, fun D zs H1 hD m1 hz zl e1 => ?_⟩
          refine ⟨_, rfl, mt, _, rfl, .inr ((kk m1).tup tm).sq, fun D6 hD6 => ?_⟩
          have m6 : Same H1 (upd H1 D6 (.lst (ow.map V.str))) := Same.upd hD6
          have e6 : (upd H1 D6 (.lst (ow.map V.str))) D6 = some (.lst (ow.map V.str)) := upd_same
          generalize upd H1 D6 (.lst (ow.map V.str)) = H6 at m6 e6 ⊢
          refine ⟨D, D6, _, _, rfl, rfl, m6 _ _ e1, e6, by simp only [List.length_map]; omega, fun D7 hD7 => ?_⟩
          have m7 : Same H6 (upd H6 D7 (.lst (zs.map V.str ++ ow.map V.str))) := Same.upd hD7
          have e7 : (upd H6 D7 (.lst (zs.map V.str ++ ow.map V.str))) D7 = some (.lst (zs.map V.str ++ ow.map V.str)) := upd_same
          generalize upd H6 D7 (.lst (zs.map V.str ++ ow.map V.str)) = H7 at m7 e7 ⊢
          have m17 := (m1.trans m6).trans m7
          rw [← List.map_append] at e7
          refine ⟨D7, _, rfl, .inl (SqL.of e7), rfl, flat_strs _, _, rfl, ?_⟩
          have ez : decide (z ∈ (([("" : Str)] ++ ns) ++ uniq (ps.map (·.2))) ++ ow) = decide (z ∈ zs ++ ow) := decide_eq_decide.mpr (by
            rw [List.mem_append, List.mem_append, List.mem_append, List.mem_append, List.mem_singleton, hz z, uniq_mem, or_assoc (a := z = "")])
          rw [ez] at q
          rw [show (if false = true then !inV (V.str z) ((zs ++ ow).map V.str) else inV (V.str z) ((zs ++ ow).map V.str)) = decide (z ∈ zs ++ ow) from inV_str z _]
          cases e5 : decide (z ∈ zs ++ ow) with
          | false =>
            have := q H7 m17
            rw [e5, Bool.and_false] at this
            exact iteF this
          | true =>
            rw [e5] at q
            simp only [Bool.and_true] at q
            exact iteT ⟨_, rfl, a, _, 1, a1, rfl, rfl, ((kx m17).tup ht).sq, rfl, ex, _, _, rfl, dv1.kp (kx m17), cost_tup hc (by simp), fun H8 m8 => q H8 (m17.trans m8)⟩
      · rw [decide_eq_false (fun q : V.int (xs.length : Int) = V.int 2 => h2 (by injection q with q; omega))]
        have := k H Same.refl
        rw [show placeD ps ns us ow (.tuple ds) = false from match ds, hl with
          | [], _ => rfl
          | [_], _ => rfl
          | [_, _], hl => absurd hl h2
          | _ :: _ :: _ :: _, _ => rfl] at this
        exact iteT (iteT this)
end
end Kx
namespace Kx
open PySem PySem.Spec PyProof.Rows L2
theorem dictV_some (l : List (Str × V)) (z : Str) : (valV (dictV l) (.inr z)).isSome = decide (z ∈ l.map (·.1)) := by
  have key : (valV (dictV l) (.inr z)).isSome = true ↔ z ∈ l.map (·.1) := by
    unfold valV
    rw [Option.isSome_map, List.find?_isSome]
    have hk : (Sum.inr z : Key) ∈ (dictV l).map (·.1) ↔ z ∈ l.map (·.1) := by
      rw [dictV_keys]
      constructor
      · intro h
        obtain ⟨y, hy, e⟩ := List.mem_map.mp h
        cases e
        exact (uniq_mem _ _).mp hy
      · intro h
        exact List.mem_map.mpr ⟨z, (uniq_mem _ _).mpr h, rfl⟩
    rw [← hk]
    constructor
    · rintro ⟨x, hx, e⟩
      exact List.mem_map.mpr ⟨x, hx, of_decide_eq_true e⟩
    · intro h
      obtain ⟨x, hx, e⟩ := List.mem_map.mp h
      exact ⟨x, hx, decide_eq_true e⟩
  cases h : (valV (dictV l) (.inr z)).isSome with
  | true => rw [h] at key; exact (decide_eq_true (key.mp rfl)).symm
  | false => rw [h] at key; exact (decide_eq_false fun e => Bool.noConfusion (key.mpr e)).symm
section
variable {P : Program} {w : World} {K : PySem.W.Frag} {mg : Str → Option Value} {base : Heap}
abbrev N_law_is_worth : List Str := ["sides", "value", "own"]
abbrev P_law_is_worth : List Str := ["sides", "value", "own"]
theorem sc_law_is_worth : FnScope N_law_is_worth P_law_is_worth (defScope s_law_is_worth) := ⟨rfl, rfl, rfl, by decide +kernel, rfl, by decide +kernel, by decide +kernel⟩
theorem ok_jw (T : Bt mg) (h : Has K mg "_law_is_worth" s_law_is_worth) (C1 : Ca P w K mg base 1 "_law_is_whole" P_law_is_whole (spJudge intD)) (C2 : Ca P w K mg base 2 "_law_is_place" P_law_is_place (spJT placeD)) : Ca P w K mg base 3 "_law_is_worth" P_law_is_worth (spJT bodyTermD) := by
  obtain ⟨_, _, c__law_is_whole⟩ := C1
  obtain ⟨_, _, c__law_is_place⟩ := C2
  refine cal_of h sc_law_is_worth (fun _ _ _ _ _ _ us hl => match us, hl with | [_, _, _], _ => rfl) (fun vs H Q E h => ?_) (fun f cdv A outer s H vs Q E hr h => ?_)
  · obtain ⟨ex, R, mt, v, va, vp, vv, d, ps, ns, us, ow, rfl, _⟩ := h
    rfl
  · obtain ⟨ex, R, mt, v, va, vp, vv, d, ps, ns, us, ow, rfl, rc, sd, dv, hc, tm, lo, k⟩ := h
    refine ⟨_, (pss_cons (ps_if (PW.pt (pw_or (pt_not (pt_val (pe_callB call_isi (by rfl) T.isinstance (by decide +kernel) (pa_cons (pv 1) (pa_cons (pe_bltn (v := .ty "tuple") (by rfl) T.tuple (by decide +kernel) rfl) pa_nil))))) (pw_or (pt_cmpR op_notIn_seq (pe_callB call_len (by rfl) T.len (by decide +kernel) (pa_cons (pv 1) pa_nil)) (pe_lst (pa_cons pe_int (pa_cons pe_int pa_nil))) rfl) (pw_or1 (pt_not (pt_val (pe_callB call_isi (by rfl) T.isinstance (by decide +kernel) (pa_cons (pe_ix ix_tup (pv 1) pe_int (fun _ _ => rfl)) (pa_cons (pe_bltn (v := .ty "str") (by rfl) T.str (by decide +kernel) rfl) pa_nil))))))))) (pss_one (ps_ret pe_bl)) pss_nil)
      (pss_cons (ps_if (pt_cmpR op_eq (pe_callB call_len (by rfl) T.len (by decide +kernel) (pa_cons (pv 1) pa_nil)) pe_int (nomark _)) (pss_one (ps_ret (pe_and (pe_cmpR op_in_seq (pe_ix ix_tup (pv 1) pe_int (fun _ _ => rfl)) (pe_op op_cat (pe_lst (pa_cons pe_str pa_nil)) (pe_callTy call_list_of (by rfl) T.list (by decide +kernel) (pa_cons (pe_ix ix_list (pv 0) pe_int (fun _ _ => rfl)) pa_nil))) rfl) (pe_one (pe_call c__law_is_whole.1 (hr.mono (by decide)) rfl c__law_is_whole.2.1 c__law_is_whole.2.2.1 c__law_is_whole.2.2.2 .nil pass0 (pa_cons (pe_ix ix_tup (pv 1) pe_int (fun _ _ => rfl)) pa_nil)))))) pss_nil)
      (pss_cons (ps_if (PW.pt (pw_or (pt_cmp (pc_dnotin (hu_of hr) (pe_ix (show IxR _ (rIxT K) from ix_tup) (pv 1) pe_int (fun _ _ => rfl)) (pe_callTy (call_dictT rfl) (by rfl) T.dict (by decide +kernel) (pa_cons (pe_ix ix_list (pv 0) pe_int (fun _ _ => rfl)) pa_nil))) rfl) (pw_or (pt_not (pt_val (pe_call c__law_is_place.1 (hr.mono (by decide)) rfl c__law_is_place.2.1 c__law_is_place.2.2.1 c__law_is_place.2.2.2 .nil pass0 (pa_cons (pv 0) (pa_cons (pe_slice sl_tupF (pv 1) (po_some pe_int) (po_some pe_int)) (pa_cons (pv 2) pa_nil)))))) (pw_or1 (pt_not (pt_val (pe_call c__law_is_whole.1 (hr.mono (by decide)) rfl c__law_is_whole.2.1 c__law_is_whole.2.2.1 c__law_is_whole.2.2.2 .nil pass0 (pa_cons (pe_ix ix_tup (pv 1) pe_int (fun _ _ => rfl)) pa_nil)))))))) (pss_one (ps_ret pe_bl)) pss_nil)
      (pss_one (ps_ret (pe_or (pe_cmpR (op_notInS (hu_of hr)) (pe_ix ix_tup (pv 1) pe_int (fun _ _ => rfl)) (pv 2) rfl) (pe_one (pe_cmpR op_eq (pe_ix ix_tup (pv 1) pe_int (fun _ _ => rfl)) pe_int (nomark _))))))))), ?_⟩
    have nd := sd.nd
    refine ⟨_, rfl, _, _, _, _, _, rfl, .ty _, dv.ty, kitT d, _, rfl, ?_⟩
    cases e : isTupD d with
    | false =>
      have no : bodyTermD ps ns us ow d = false := by cases d <;> first | rfl | (cases e; done)
      have := k H Same.refl
      rw [no] at this
      exact iteT (iteT this)
    | true =>
      obtain ⟨ds, rfl⟩ : ∃ ds, d = .tuple ds := by cases d <;> first | exact ⟨_, rfl⟩ | (cases e; done)
      obtain ⟨a, xs, rfl, ht, dl⟩ := dv.tupI
      have hl := dl.len
      have sqx : SqT K H a xs := ht.sq
      have rc0 := rc
      obtain ⟨hR, pt, b1, b2, b3⟩ := rc
      have kk : ∀ {G G' : Hp}, Same G G' → Kp All G G' := fun m => Kp.same m
      have kx : ∀ {G G' : Hp}, Same G G' → Kp ex G G' := fun m => Kp.same m
      have hL := sizeLine_eq
      refine iteF ⟨_, rfl, _, _, rfl, .inr ⟨_, sqx, rfl⟩, by show 2 ≤ sizeLine; decide, fun L hL => ?_⟩
      have mp : Same H (upd H L (.lst [.int 2, .int 4])) := Same.upd hL
      have el : (upd H L (.lst [.int 2, .int 4])) L = some (.lst [.int 2, .int 4]) := upd_same
      generalize upd H L (.lst [.int 2, .int 4]) = Hp at mp el ⊢
      refine ⟨L, _, rfl, .inl (SqL.of el), rfl, rfl, _, rfl, ?_⟩
      by_cases h4 : xs.length = 4
      · obtain ⟨a0, a1, a2, a3, rfl⟩ : ∃ a0 a1 a2 a3, xs = [a0, a1, a2, a3] := match xs, h4 with | [_, _, _, _], _ => ⟨_, _, _, _, rfl⟩
        obtain ⟨d0, d1, d2, d3, rfl⟩ : ∃ d0 d1 d2 d3, ds = [d0, d1, d2, d3] := match ds, hl with | [_, _, _, _], _ => ⟨_, _, _, _, rfl⟩
        obtain ⟨b0, b1', b2', b3', eb, dv0, dv1, dv2, dv3⟩ := dl.four
        cases eb
        have q : ∀ H', Same H H' → Q (.bl ((kindD ps ns us "array" d0 && (placeD ps ns us ow (.tuple [d1, d2]) && intD d3)) && (!strInD ow d1 || zeroD d2))) H' := k
        refine iteF ⟨_, rfl, a, _, 0, a0, rfl, rfl, ((kx mp).tup ht).sq, rfl, _, _, _, _, _, rfl, .ty _, (dv0.kp (kx mp)).ty, kitS d0, _, rfl, ?_⟩
        cases e0 : isStrD d0 with
        | false =>
          have := q Hp mp
          rw [show kindD ps ns us "array" d0 = false by cases d0 <;> first | rfl | (cases e0; done)] at this
          exact iteT this
        | true =>
          obtain ⟨z, rfl⟩ : ∃ z, d0 = .str z := by cases d0 <;> first | exact ⟨_, rfl⟩ | (cases e0; done)
          obtain rfl := dv0.strI
          rw [kd_arr nd] at q
          refine iteF ⟨_, rfl, _, _, rfl, .inr ⟨_, ((kx mp).tup ht).sq, rfl⟩, rfl, _, rfl, ?_⟩
          rw [decide_eq_false (show ¬ V.int (([V.str z, a1, a2, a3] : List V).length : Int) = V.int 2 from fun q => by injection q with q; cases q)]
          obtain ⟨aA, xA, rfl, tA, dA⟩ := pt.a.tupI
          obtain ⟨as, rfl, pr⟩ := dA.paired (K := K)
          refine iteF ⟨_, rfl, a, _, 0, .str z, rfl, rfl, ((kx mp).tup ht).sq, rfl, _, rfl, R, _, 0, _, rfl, rfl, SqL.of (mp _ _ hR), rfl, aA, as, _, rfl, (kk mp).tup tA, pr _ (kk mp), fun D hD => ?_⟩
          have md : Same Hp (upd Hp D (.dK (mergeK [] (ps.map fun q => (Sum.inr q.1, V.str q.2))))) := Same.upd hD
          have ed : (upd Hp D (.dK (mergeK [] (ps.map fun q => (Sum.inr q.1, V.str q.2))))) D = some (.dK (dictV (ps.map fun q => (q.1, V.str q.2)))) := by
            rw [upd_same]
            unfold dictV
            rw [List.map_map]
            rfl
          generalize upd Hp D (.dK (mergeK [] (ps.map fun q => (Sum.inr q.1, V.str q.2)))) = Hd at md ed ⊢
          have m2 := mp.trans md
          refine ⟨D, _, rfl, DGet.k (k := .inr z) ed, ?_⟩
          rw [dictV_some, List.map_map, show ((fun (q : Str × V) => q.1) ∘ fun (q : Str × Str) => (q.1, V.str q.2)) = (·.1) from rfl]
          refine ⟨_, rfl, ?_⟩
          cases e5 : decide (z ∈ ps.map (·.1)) with
          | false =>
            have := q Hd m2
            rw [e5] at this
            exact iteT this
          | true =>
            rw [e5, Bool.true_and] at q
            refine iteF ⟨_, rfl, _, rfl, _, rfl, _, rfl, a, _, rfl, (kx m2).tup ht, fun p4 H4 m4 hp4 => ?_⟩
            have hp5 : TupF H4 p4 [a1, a2] := hp4
            have m14 := m2.trans m4
            refine ⟨_, rfl, ex, R, mt, _, _, vp, vv, .tuple [d1, d2], ps, ns, us, ow, rfl, ⟨m14 _ _ hR, pt.kp (kk m14), b1, b2, b3⟩, sd, .tupM hp5 (.cons (dv1.kp (kx m14)) (.cons (dv2.kp (kx m14)) .nil)), ?_, (kx m14).tup tm, lo, fun H5 m5 => ⟨_, rfl, ?_⟩⟩
            · have := hc
              simp only [cost, costL] at this ⊢
              omega
            have m15 := m14.trans m5
            cases e6 : placeD ps ns us ow (.tuple [d1, d2]) with
            | false =>
              have := q H5 m15
              rw [e6] at this
              exact iteT this
            | true =>
              rw [e6, Bool.true_and] at q
              refine iteF ⟨_, rfl, a, _, 3, a3, rfl, rfl, ((kx m15).tup ht).sq, rfl, ex, _, _, rfl, dv3.kp (kx m15), cost_tup hc (by simp), fun H6 m6 => ⟨_, rfl, ?_⟩⟩
              have m16 := m15.trans m6
              cases e7 : intD d3 with
              | false =>
                have := q H6 m16
                rw [e7] at this
                exact iteT this
              | true =>
                rw [e7, Bool.true_and] at q
                obtain ⟨e2, i, e3⟩ := place_pair e6
                cases e3
                obtain rfl := dv2.intI
                refine iteF ⟨_, rfl, a, _, 1, a1, rfl, rfl, ((kx m16).tup ht).sq, rfl, _, rfl, ex, mt, ow, d1, rfl, ((kx m16).tup tm).sq, dv1.kp (kx m16), _, rfl, ?_⟩
                have q' : Q (.bl (!strInD ow d1 || zeroD (.int i))) H6 := q _ m16
                cases e4 : strInD ow d1 with
                | false =>
                  rw [e4] at q'
                  exact iteT q'
                | true =>
                  rw [e4] at q'
                  refine iteF ⟨_, rfl, a, _, 2, .int i, rfl, rfl, ((kx m16).tup ht).sq, rfl, rfl, ?_⟩
                  rw [show decide (V.int i = V.int 0) = decide (i = 0) from decide_eq_decide.mpr ⟨fun e => by injection e, fun e => congrArg V.int e⟩]
                  exact q'
      · by_cases h2 : xs.length = 2
        · obtain ⟨a0, a1, rfl⟩ : ∃ a0 a1, xs = [a0, a1] := match xs, h2 with | [_, _], _ => ⟨_, _, rfl⟩
          obtain ⟨d0, d1, rfl⟩ : ∃ d0 d1, ds = [d0, d1] := match ds, hl with | [_, _], _ => ⟨_, _, rfl⟩
          obtain ⟨b0, b1', eb, dv0, dv1⟩ := dl.two
          cases eb
          have q : ∀ H', Same H H' → Q (.bl (((eqS "" d0 || kindD ps ns us "value" d0) && intD d1) && true)) H' := k
          refine iteF ⟨_, rfl, a, _, 0, a0, rfl, rfl, ((kx mp).tup ht).sq, rfl, _, _, _, _, _, rfl, .ty _, (dv0.kp (kx mp)).ty, kitS d0, _, rfl, ?_⟩
          cases e0 : isStrD d0 with
          | false =>
            have := q Hp mp
            rw [show (eqS "" d0 || kindD ps ns us "value" d0) = false by cases d0 <;> first | rfl | (cases e0; done)] at this
            exact iteT this
          | true =>
            obtain ⟨z, rfl⟩ : ∃ z, d0 = .str z := by cases d0 <;> first | exact ⟨_, rfl⟩ | (cases e0; done)
            obtain rfl := dv0.strI
            rw [kd_val nd, show eqS "" (.str z) = decide (z = "") from rfl, ← Bool.decide_or] at q
            refine iteF ⟨_, rfl, _, _, rfl, .inr ⟨_, ((kx mp).tup ht).sq, rfl⟩, rfl, _, rfl, ?_⟩
            rw [decide_eq_true (show V.int (([V.str z, a1] : List V).length : Int) = V.int 2 from rfl)]
            obtain ⟨aV, xV, rfl, tV, dV⟩ := pt.v.tupI
            have n3 := dV.len
            rw [List.length_map] at n3
            have eV := dV.strE
            subst eV
            have e8 : ([V.str ""] ++ us.map V.str) = (([("" : Str)] ++ us).map V.str) := by simp only [List.map_append, List.map_cons, List.map_nil]
            refine iteT ⟨_, rfl, a, _, 0, .str z, rfl, rfl, ((kx mp).tup ht).sq, rfl, by show 1 ≤ sizeLine; decide, fun l hl => ?_⟩
            have m3 : Same H (upd Hp l (.lst [.str ""])) := mp.trans (Same.upd hl)
            have e4 : (upd Hp l (.lst [.str ""])) l = some (.lst [.str ""]) := upd_same
            generalize upd Hp l (.lst [.str ""]) = H3 at m3 e4 ⊢
            refine ⟨_, rfl, R, _, 2, _, rfl, rfl, SqL.of (m3 _ _ hR), rfl, aV, _, rfl, .inr ((kk m3).tup tV).sq, fun D2 hD2 => ?_⟩
            have m4 : Same H3 (upd H3 D2 (.lst (us.map V.str))) := Same.upd hD2
            have e5 : (upd H3 D2 (.lst (us.map V.str))) D2 = some (.lst (us.map V.str)) := upd_same
            generalize upd H3 D2 (.lst (us.map V.str)) = H4 at m4 e5 ⊢
            refine ⟨l, D2, _, _, rfl, rfl, m4 _ _ e4, e5, by simp only [List.length_cons, List.length_nil, List.length_map]; omega, fun D3 hD3 => ?_⟩
            have m5 : Same H4 (upd H4 D3 (.lst ([.str ""] ++ us.map V.str))) := Same.upd hD3
            have e6 : (upd H4 D3 (.lst ([.str ""] ++ us.map V.str))) D3 = some (.lst ([.str ""] ++ us.map V.str)) := upd_same
            generalize upd H4 D3 (.lst ([.str ""] ++ us.map V.str)) = H5 at m5 e6 ⊢
            rw [e8] at e6
            have m15 := (m3.trans m4).trans m5
            refine ⟨D3, _, rfl, .inl (SqL.of e6), rfl, flat_strs _, _, rfl, ?_⟩
            rw [show (if false = true then !inV (V.str z) (([("" : Str)] ++ us).map V.str) else inV (V.str z) (([("" : Str)] ++ us).map V.str)) = decide (z = "" ∨ z ∈ us) from (inV_str z _).trans (decide_eq_decide.mpr (by rw [List.mem_append, List.mem_singleton]))]
            cases e7 : decide (z = "" ∨ z ∈ us) with
            | false =>
              have := q H5 m15
              rw [e7] at this
              exact iteF this
            | true =>
              rw [e7] at q
              simp only [Bool.and_true, Bool.true_and] at q
              exact iteT ⟨_, rfl, a, _, 1, a1, rfl, rfl, ((kx m15).tup ht).sq, rfl, ex, _, _, rfl, dv1.kp (kx m15), cost_tup hc (by simp), fun H8 m8 => q H8 (m15.trans m8)⟩
        · have no : bodyTermD ps ns us ow (.tuple ds) = false := match ds, hl with
            | [], _ => rfl
            | [_], _ => rfl
            | [_, _], hl => absurd hl h2
            | [_, _, _], _ => rfl
            | [_, _, _, _], hl => absurd hl h4
            | _ :: _ :: _ :: _ :: _ :: _, _ => rfl
          have := k Hp mp
          rw [no] at this
          rw [show inV (V.int (xs.length : Int)) [V.int 2, V.int 4] = false from ?_]
          · exact iteT (iteT this)
          · show (((2 : Int) == (xs.length : Int)) || (((4 : Int) == (xs.length : Int)) || false)) = false
            rw [beq_eq_false_iff_ne.mpr (show (2 : Int) ≠ (xs.length : Int) by omega), beq_eq_false_iff_ne.mpr (show (4 : Int) ≠ (xs.length : Int) by omega)]
            rfl
end
end Kx
namespace Kx
open PySem PySem.Spec PyProof.Rows L2
theorem selV_empty {p : PyData → Bool} : ∀ {xs : List V} {ds : List PyData}, xs.length = ds.length → (selV p xs ds).isEmpty = ds.all fun d => !p d
  | [], [], _ => rfl
  | x :: xs, d :: ds, h => by
    have ih := selV_empty (p := p) (xs := xs) (ds := ds) (by simpa using h)
    show (if p d then x :: selV p xs ds else selV p xs ds).isEmpty = _
    rw [List.all_cons, ← ih]
    cases p d <;> rfl
  | [], _ :: _, h => by cases h
  | _ :: _, [], h => by cases h
theorem costL_mem : ∀ {ds : List PyData} {d : PyData}, d ∈ ds → cost d ≤ costL ds
  | x :: ds, d, h => by
    simp only [costL]
    rcases List.mem_cons.mp h with rfl | h
    · omega
    · have := costL_mem h
      omega
def guardL (ps : List (Str × Str)) (ns us ow : List Str) : PyData → Bool
  | .tuple [a, b, c, e] => eqS "pos" a && (strInD gops b && guardPairD ps ns us ow c e)
  | _ => false
theorem join_two {a b : PyData} : joinD (.tuple [a, b]) = (strInD ["and", "or"] a && isTupD b) := by cases a <;> rfl
theorem okN_leaf {ps : List (Str × Str)} {ns us : List Str} {j : Nat} {n : Nd} {b : Bool} (h : needD ps ns us n = if b then some [] else none) : okN ps ns us (j + 1) n = b := by
  show (match needD ps ns us n with | none => false | some l => l.all (okN ps ns us j)) = b
  rw [h]
  cases b <;> rfl
theorem eqS_ne {a : PyData} {x y : Str} (h : eqS x a = true) (ne : x ≠ y) : eqS y a = false := by
  cases a <;> first | rfl | skip
  exact decide_eq_false fun e => ne ((of_decide_eq_true h).symm.trans e)
theorem okN_guard {ps : List (Str × Str)} {ns us ow : List Str} {j : Nat} {d : PyData} (hj : joinD d = false) : okN ps ns us (j + 1) ⟨"guard", ow, d⟩ = guardL ps ns us ow d := by
  refine okN_leaf ?_
  match d, hj with
  | .tuple [a, b], hj =>
    rw [join_two] at hj
    show (if eqS "not" a && decide (("guard" : Str) ≠ "guard") then _ else if strInD ["and", "or"] a && isTupD b then _ else none) = _
    rw [hj, show (eqS "not" a && decide (("guard" : Str) ≠ "guard")) = false by rw [decide_eq_false (fun h => h rfl), Bool.and_false]]
    rfl
  | .tuple [a, b, c, e], _ =>
    show (if eqS "all" a then (if decide (("guard" : Str) = "claim") && _ then _ else none) else if (if ("guard" : Str) = "guard" then eqS "pos" a && (strInD gops b && guardPairD ps ns us ow c e) else _) then some [] else none) = if (eqS "pos" a && (strInD gops b && guardPairD ps ns us ow c e)) then some [] else none
    rw [if_pos (rfl : ("guard" : Str) = "guard"), decide_eq_false (show ¬ ("guard" : Str) = "claim" by decide), Bool.false_and]
    cases h : eqS "all" a with
    | true => rw [eqS_ne h (by decide : ("all" : Str) ≠ "pos")]; rfl
    | false => rfl
  | .tuple [], _ => rfl
  | .tuple [_], _ => rfl
  | .tuple [_, _, _], _ => rfl
  | .tuple (_ :: _ :: _ :: _ :: _ :: _), _ => rfl
  | .none, _ => rfl
  | .bool _, _ => rfl
  | .int _, _ => rfl
  | .str _, _ => rfl
  | .list _, _ => rfl
  | .dict _, _ => rfl
theorem startI {w : Str} {n : Nat} {d : PyData} (h : startD w n d = true) : ∃ ds, d = .tuple (.str w :: ds) ∧ ds.length + 1 = n := by
  cases d with
  | tuple ds =>
    have h1 := of_decide_eq_true (and_l (show (decide (ds.length = n) && headW w ds) = true from h))
    have h2 := and_r (show (decide (ds.length = n) && headW w ds) = true from h)
    cases ds with
    | nil => cases h2
    | cons x ds =>
      cases x with
      | str z => exact ⟨ds, by rw [show z = w from of_decide_eq_true h2], h1⟩
      | _ => cases h2
  | _ => cases h
theorem filt_empty {p q : PyData → Bool} : ∀ ds : List PyData, (ds.all fun d => !(p d && !q d)) = (ds.filter p).all q
  | [] => rfl
  | d :: ds => by
    rw [List.all_cons, List.filter_cons, filt_empty ds]
    cases p d <;> cases hq : q d <;> simp [hq]
theorem guardL_no {ps : List (Str × Str)} {ns us ow : List Str} {d : PyData} (h : startD "pos" 4 d = false) : guardL ps ns us ow d = false := by
  match d, h with
  | .tuple [a, b, c, e], h =>
    have h2 : headW "pos" [a, b, c, e] = false := h
    have h1 : eqS "pos" a = false := by
      cases a <;> first | rfl | skip
      exact h2
    show (eqS "pos" a && _) = false
    rw [h1]
    rfl
  | .tuple [], _ => rfl
  | .tuple [_], _ => rfl
  | .tuple [_, _], _ => rfl
  | .tuple [_, _, _], _ => rfl
  | .tuple (_ :: _ :: _ :: _ :: _ :: _), _ => rfl
  | .none, _ => rfl
  | .bool _, _ => rfl
  | .int _, _ => rfl
  | .str _, _ => rfl
  | .list _, _ => rfl
  | .dict _, _ => rfl
theorem joinI {d : PyData} (h : joinD d = true) : ∃ z ds, d = .tuple [.str z, .tuple ds] ∧ z ∈ (["and", "or"] : List Str) := by
  match d, h with
  | .tuple [.str z, x], h =>
    have h1 := and_l (show (decide (z ∈ (["and", "or"] : List Str)) && isTupD x) = true from h)
    have h2 := and_r (show (decide (z ∈ (["and", "or"] : List Str)) && isTupD x) = true from h)
    cases x <;> first | exact ⟨z, _, rfl, of_decide_eq_true h1⟩ | (cases h2; done)
theorem okN_join {ps : List (Str × Str)} {ns us ow : List Str} {role z : Str} {ds : List PyData} {j : Nat} (hz : z ∈ (["and", "or"] : List Str)) : okN ps ns us (j + 1) ⟨role, ow, .tuple [.str z, .tuple ds]⟩ = ds.all fun p => okN ps ns us j ⟨role, ow, p⟩ := by
  have e : needD ps ns us ⟨role, ow, .tuple [.str z, .tuple ds]⟩ = some (ds.map fun p => ⟨role, ow, p⟩) := by
    show (if eqS "not" (.str z) && decide (role ≠ "guard") then _ else if strInD ["and", "or"] (.str z) && isTupD (.tuple ds) then _ else _) = _
    have h1 : eqS "not" (.str z) = false := decide_eq_false fun e => by
      subst e
      exact absurd hz (by decide +kernel)
    have h2 : strInD ["and", "or"] (.str z) = true := decide_eq_true hz
    rw [h1, h2]
    rfl
  show (match needD ps ns us ⟨role, ow, .tuple [.str z, .tuple ds]⟩ with | none => false | some l => l.all (okN ps ns us j)) = _
  rw [e]
  show (ds.map _).all _ = _
  rw [List.all_map]
  rfl
section
variable {P : Program} {w : World} {K : PySem.W.Frag} {mg : Str → Option Value} {base : Heap}
abbrev N_law_is_guard : List Str := ["sides", "value", "own", "names", "term", "part"]
abbrev P_law_is_guard : List Str := ["sides", "value", "own"]
theorem sc_law_is_guard : FnScope N_law_is_guard P_law_is_guard (defScope s_law_is_guard) := ⟨rfl, rfl, rfl, by decide +kernel, rfl, by decide +kernel, by decide +kernel⟩
def spJN (role : Str) (j : Nat) : Sp := fun vs H Q _ => ∃ (ex : Addr → Prop) (R mt : Addr) (v va vp vv : V) (d : PyData) (ps : List (Str × Str)) (ns us ow : List Str), vs = [.ref R, v, .ref mt] ∧ d.depth < j ∧ RecAt H R va vp vv ps ns us ∧ Sides ps ns us ∧ Dv ex H v d ∧ cost d ≤ 8000000 ∧ TupF H mt (ow.map V.str) ∧ ow.length ≤ 5 ∧ ∀ H', Same H H' → Q (.bl (okN ps ns us j ⟨role, ow, d⟩)) H'
theorem ok_jg (T : Bt mg) (h : Has K mg "_law_is_guard" s_law_is_guard) (C1 : Ca P w K mg base 1 "_law_are_joined" P_law_are_joined (spJudge joinD)) (C2 : Ca P w K mg base 1 "_law_starts" P_law_starts spSt) (C3 : Ca P w K mg base 1 "_law_is_op" P_law_is_op (spOp (K := K))) (C4 : Ca P w K mg base 2 "_law_is_place" P_law_is_place (spJT placeD)) :
    ∀ j : Nat, Ca P w K mg base (3 + j) "_law_is_guard" P_law_is_guard (spJN "guard" j)
  | 0 => by
    refine cal_of h sc_law_is_guard (fun _ _ _ _ _ _ us hl => match us, hl with | [_, _, _], _ => rfl) (fun vs H Q E h => ?_) (fun f cdv A outer s H vs Q E hr h => ?_)
    · obtain ⟨_, _, _, _, _, _, _, _, _, _, _, _, _, z, _⟩ := h
      exact absurd z (Nat.not_lt_zero _)
    · obtain ⟨_, _, _, _, _, _, _, _, _, _, _, _, _, z, _⟩ := h
      exact absurd z (Nat.not_lt_zero _)
  | j + 1 => by
    obtain ⟨_, _, c__law_is_guard⟩ := ok_jg T h C1 C2 C3 C4 j
    obtain ⟨_, _, c__law_are_joined⟩ := C1
    obtain ⟨_, _, c__law_starts⟩ := C2
    obtain ⟨_, _, c__law_is_op⟩ := C3
    obtain ⟨_, _, c__law_is_place⟩ := C4
    refine cal_of (k := 3 + j) h sc_law_is_guard (fun _ _ _ _ _ _ us hl => match us, hl with | [_, _, _], _ => rfl) (fun vs H Q E h => ?_) (fun f cdv A outer s H vs Q E hr h => ?_)
    · obtain ⟨ex, R, mt, v, va, vp, vv, d, ps, ns, us, ow, rfl, _⟩ := h
      rfl
    · obtain ⟨ex, R, mt, v, va, vp, vv, d, ps, ns, us, ow, rfl, hdp, rc, sd, dv, hc, tm, lo, q⟩ := h
      refine ⟨_, (pss_cons (ps_if (pt_val (pe_call c__law_are_joined.1 (hr.mono (by omega)) rfl c__law_are_joined.2.1 c__law_are_joined.2.2.1 c__law_are_joined.2.2.2 .nil pass0 (pa_cons (pv 1) pa_nil))) (pss_one (ps_ret (pe_cmpR (op_eqL0 hr.units0) (pe_lc (own := [("part", 5)]) (g := (gName 5)) (by rfl) sc_law_is_guard.nd (pi_tup (pe_ix (show IxR _ (rIxT K) from ix_tup) (pv 1) pe_int (fun _ _ => rfl))) (blkOk_by (own := [("part", 5)]) (N := ["sides", "value", "own", "names", "term", "part"]) (sc := defScope s_law_is_guard) (by decide +kernel)) (fun _ _ _ _ _ => pg_name (i := 5) sc_law_is_guard.nd rfl (Or.inl rfl)) (fun _ _ _ _ _ => pts_one (pt_not (pt_val (pe_call c__law_is_guard.1 (hr.mono (by omega)) rfl c__law_is_guard.2.1 c__law_is_guard.2.2.1 c__law_is_guard.2.2.2 .nil pass0 (pa_cons (pv 0) (pa_cons (pv 5) (pa_cons (pv 2) pa_nil))))))) (fun _ _ _ _ _ => (pv 5))) (pe_lst pa_nil) (nomark _)))) pss_nil)
        (pss_cons (ps_if (PW.pt (pw_or (pt_not (pt_val (pe_call c__law_starts.1 (hr.mono (by omega)) rfl c__law_starts.2.1 c__law_starts.2.2.1 c__law_starts.2.2.2 .nil pass0 (pa_cons (pv 1) (pa_cons pe_str (pa_cons pe_int pa_nil)))))) (pw_or1 (pt_not (pt_val (pe_call c__law_is_op.1 (hr.mono (by omega)) rfl c__law_is_op.2.1 c__law_is_op.2.2.1 c__law_is_op.2.2.2 .nil pass0 (pa_cons (pe_ix ix_tup (pv 1) pe_int (fun _ _ => rfl)) (pa_cons (pe_lst (pa_cons pe_str (pa_cons pe_str pa_nil))) pa_nil)))))))) (pss_one (ps_ret pe_bl)) pss_nil)
        (pss_cons (ps_if (PW.pt (pw_or (pt_not (pt_val (pe_call c__law_is_place.1 (hr.mono (by omega)) rfl c__law_is_place.2.1 c__law_is_place.2.2.1 c__law_is_place.2.2.2 .nil pass0 (pa_cons (pv 0) (pa_cons (pe_ix ix_tup (pv 1) pe_int (fun _ _ => rfl)) (pa_cons (pv 2) pa_nil)))))) (pw_or1 (pt_not (pt_val (pe_call c__law_is_place.1 (hr.mono (by omega)) rfl c__law_is_place.2.1 c__law_is_place.2.2.1 c__law_is_place.2.2.2 .nil pass0 (pa_cons (pv 0) (pa_cons (pe_ix ix_tup (pv 1) pe_int (fun _ _ => rfl)) (pa_cons (pv 2) pa_nil))))))))) (pss_one (ps_ret pe_bl)) pss_nil)
        (pss_cons (ps_setLc (i := 3) (own := [("term", 4)]) (g := (gName 4)) (by rfl) sc_law_is_guard.nd rfl rfl (sw_true rfl rfl rfl (by decide +kernel)) (pi_tup (pe_slice sl_tupF (pv 1) (po_some pe_int) po_none)) (blkOk_by (own := [("term", 4)]) (N := ["sides", "value", "own", "names", "term", "part"]) (sc := defScope s_law_is_guard) (by decide +kernel)) (fun _ _ _ _ _ => pg_name (i := 4) sc_law_is_guard.nd rfl (Or.inl rfl)) (fun _ _ _ _ _ => pts_one (pt_cmpR (show OpR _ (compareOp .In) (rInS K) from op_inS (hu_of hr)) (pe_ix (show IxR _ (rIxT K) from ix_tup) (pv 4) pe_int (fun _ _ => rfl)) (pv 2) rfl)) (fun _ _ _ _ _ => (pe_ix (show IxR _ (rIxT K) from ix_tup) (pv 4) pe_int (fun _ _ => rfl))))
        (pss_one (ps_ret (pe_and (pe_cmpR (op_neL0 hr.units0) (pv 3) (pe_lst pa_nil) (nomark _)) (pe_one (pe_cmpR (op_eqL0 hr.units0) (pe_lc (own := [("term", 4)]) (g := (gName 4)) (by rfl) sc_law_is_guard.nd (pi_tup (pe_slice sl_tupF (pv 1) (po_some pe_int) po_none)) (blkOk_by (own := [("term", 4)]) (N := ["sides", "value", "own", "names", "term", "part"]) (sc := defScope s_law_is_guard) (by decide +kernel)) (fun _ _ _ _ _ => pg_name (i := 4) sc_law_is_guard.nd rfl (Or.inl rfl)) (fun _ _ _ _ _ => pts_one (PW.pt (pw_and (pt_cmpR (show OpR _ (compareOp .In) (rInS K) from op_inS (hu_of hr)) (pe_ix (show IxR _ (rIxT K) from ix_tup) (pv 4) pe_int (fun _ _ => rfl)) (pv 2) rfl) (pw_and1 (pt_cmpR op_ne (pe_ix (show IxR _ (rIxT K) from ix_tup) (pv 4) pe_int (fun _ _ => rfl)) pe_int (nomark _)))))) (fun _ _ _ _ _ => (pv 4))) (pe_lst pa_nil) (nomark _)))))))))), ?_⟩
      have hL := sizeLine_eq
      have kk : ∀ {G G' : Hp}, Same G G' → Kp All G G' := fun m => Kp.same m
      have kx : ∀ {G G' : Hp}, Same G G' → Kp ex G G' := fun m => Kp.same m
      refine ⟨_, rfl, ex, _, d, rfl, dv, hc, fun H1 m1 => ⟨_, rfl, ?_⟩⟩
      cases ej : joinD d with
      | true =>
        obtain ⟨z, ds, rfl, hz⟩ := joinI ej
        rw [okN_join hz] at q
        obtain ⟨a, xs, rfl, ht, dl⟩ := dv.tupI
        obtain ⟨a0, a1, rfl, dv0, dv1⟩ := dl.two
        obtain ⟨aB, ys, rfl, tB, dB⟩ := dv1.tupI
        have yl := dB.len
        have cl := costL_len ds
        have cB : costL ds + 4 ≤ 8000000 := by
          simp only [cost, costL] at hc
          omega
        refine iteT ⟨_, rfl, a, _, 1, _, rfl, rfl, ((kx m1).tup ht).sq, rfl, aB, rfl, ⟨_, ((kx m1).tup tB).sq⟩, fun D hD => ?_⟩
        refine lc_o (walk_tup (K := K) (a := aB) (xs := ys)) (selO (fun p => !okN ps ns us j ⟨"guard", ow, p⟩) ys ds) (by rw [hL]; omega) hD (fun Hx sm => ((kx (m1.trans sm)).tup tB).sq) ?_ ?_
        · rintro i y Hx H' Nx hi sm hDx ⟨rfl, hy⟩ hno hyes
          obtain ⟨e, he, dve⟩ := dB.get hy
          have hm := List.mem_of_getElem? he
          have mx := m1.trans sm
          have so : selO (fun p => !okN ps ns us j ⟨"guard", ow, p⟩) ys ds i = if (!okN ps ns us j ⟨"guard", ow, e⟩) then some y else none := by
            unfold selO
            rw [he, hy]
            rfl
          refine ⟨rfl, _, rfl, _, rfl, _, rfl, ex, R, mt, y, va, vp, vv, e, ps, ns, us, ow, rfl, ?_, rc.same mx, sd, dve.kp (kx mx), ?_, (kx mx).tup tm, lo, fun H2 m2 => ⟨_, rfl, ?_⟩⟩
          · have := depth_tup hm
            have h2 : (PyData.tuple ds).depth < (PyData.tuple [.str z, .tuple ds]).depth := depth_tup (by simp)
            omega
          · exact Nat.le_trans (costL_mem hm) (by omega)
          cases e3 : okN ps ns us j ⟨"guard", ow, e⟩ with
          | true =>
            rw [e3] at so
            exact iteF (hno so _ m2)
          | false =>
            rw [e3] at so
            exact iteT ⟨_, rfl, hyes _ so _ m2⟩
        · intro H3 m3 hD3
          rw [sel_range _ _ _ yl] at hD3
          refine ⟨by show 0 ≤ sizeLine; exact Nat.zero_le _, fun L hLn => ⟨D, L, _, rfl, rfl, SqL.of (Same.upd hLn _ _ hD3), SqL.of upd_same, ?_⟩⟩
          rw [selV_empty yl]
          simp only [Bool.not_not]
          exact q _ ((m1.trans m3).trans (Same.upd hLn))
      | false =>
        rw [okN_guard ej] at q
        refine iteF ⟨_, rfl, ex, _, d, "pos", 4, rfl, by decide, dv.kp (kx m1), ⟨_, rfl, ?_⟩⟩
        cases es : startD "pos" 4 d with
        | false =>
          rw [guardL_no es] at q
          exact iteT (iteT (q _ m1))
        | true =>
          obtain ⟨ds3, rfl, hl3⟩ := startI es
          obtain ⟨d1, d2, d3, rfl⟩ : ∃ d1 d2 d3, ds3 = [d1, d2, d3] := match ds3, hl3 with | [_, _, _], _ => ⟨_, _, _, rfl⟩
          have q : ∀ H', Same H H' → Q (.bl (strInD gops d1 && (placeD ps ns us ow d2 && (placeD ps ns us ow d3 && (!([d2, d3].filter (heldD ow)).isEmpty && ([d2, d3].filter (heldD ow)).all zAtD))))) H' := q
          obtain ⟨a, xs, rfl, ht, dl⟩ := dv.tupI
          obtain ⟨a0, a1, a2, a3, rfl, dv0, dv1, dv2, dv3⟩ := dl.four
          refine iteF ⟨_, rfl, a, _, 1, a1, rfl, rfl, ((kx m1).tup ht).sq, rfl, by show 2 ≤ sizeLine; decide, fun L hLn => ?_⟩
          have m2 := m1.trans (Same.upd (o := .lst [.str "<=", .str "=="]) hLn)
          refine ⟨ex, a1, d1, L, gops, rfl, SqL.of upd_same, dv1.kp (kx m2), ⟨_, rfl, ?_⟩⟩
          cases eo : strInD gops d1 with
          | false =>
            rw [eo] at q
            exact iteT (q _ m2)
          | true =>
            rw [eo, Bool.true_and] at q
            refine iteF ⟨_, rfl, _, rfl, a, _, 2, a2, rfl, rfl, ((kx m2).tup ht).sq, rfl, _, rfl, ex, R, mt, a2, va, vp, vv, d2, ps, ns, us, ow, rfl, rc.same m2, sd, dv2.kp (kx m2), cost_tup hc (by simp), (kx m2).tup tm, lo, fun H3 m3 => ⟨_, rfl, ?_⟩⟩
            have m3 := m2.trans m3
            cases e2 : placeD ps ns us ow d2 with
            | false =>
              rw [e2] at q
              exact iteT (iteT (q _ m3))
            | true =>
              rw [e2, Bool.true_and] at q
              refine iteF ⟨_, rfl, _, rfl, a, _, 3, a3, rfl, rfl, ((kx m3).tup ht).sq, rfl, _, rfl, ex, R, mt, a3, va, vp, vv, d3, ps, ns, us, ow, rfl, rc.same m3, sd, dv3.kp (kx m3), cost_tup hc (by simp), (kx m3).tup tm, lo, fun H4 m4 => ⟨_, rfl, ?_⟩⟩
              have m4 := m3.trans m4
              cases e3 : placeD ps ns us ow d3 with
              | false =>
                rw [e3] at q
                exact iteT (q _ m4)
              | true =>
                rw [e3, Bool.true_and] at q
                obtain ⟨c2, i2, rfl⟩ := place_pair e2
                obtain ⟨c3, i3, rfl⟩ := place_pair e3
                obtain ⟨a2, ys2, rfl, t2, g2⟩ := dv2.tupI
                obtain ⟨x2, y2, rfl, u2, w2⟩ := g2.two
                obtain rfl := w2.intI
                obtain ⟨a3, ys3, rfl, t3, g3⟩ := dv3.tupI
                obtain ⟨x3, y3, rfl, u3, w3⟩ := g3.two
                obtain rfl := w3.intI
                have shape : ∀ {G : Hp}, Same H G → ∀ {i : Nat} {y : V}, ([.ref a2, .ref a3] : List V)[i]? = some y → ∃ b x c n, y = .ref b ∧ SqT K G b [x, .int n] ∧ Dv ex G x c ∧ ([.tuple [c2, .int i2], .tuple [c3, .int i3]] : List PyData)[i]? = some (.tuple [c, .int n]) ∧ ([x2, x3] : List V)[i]? = some x := fun {G} m {i y} hy => by
                  match i, hy with
                  | 0, hy => cases hy; exact ⟨a2, x2, c2, i2, rfl, ((kx m).tup t2).sq, u2.kp (kx m), rfl, rfl⟩
                  | 1, hy => cases hy; exact ⟨a3, x3, c3, i3, rfl, ((kx m).tup t3).sq, u3.kp (kx m), rfl, rfl⟩
                  | i + 2, hy => simp at hy
                refine iteF ⟨_, rfl, _, rfl, a, _, rfl, (kx m4).tup ht, fun p4 H5 m5 hp4 => ⟨p4, rfl, ⟨_, hp4.sq⟩, fun D hD => ?_⟩⟩
                have m5 := m4.trans m5
                have hp5 : TupF H5 p4 [.ref a2, .ref a3] := hp4
                refine lc_o (walk_tup (K := K) (a := p4) (xs := [.ref a2, .ref a3])) (selO (heldD ow) [x2, x3] [.tuple [c2, .int i2], .tuple [c3, .int i3]]) (show 2 < sizeLine by rw [hL]; decide) hD (fun Hx sm => ((kx sm).tup hp5).sq) ?_ ?_
                · rintro i y Hx H' Nx hi sm hDx ⟨rfl, hy⟩ hno hyes
                  obtain ⟨b, x, c, n, rfl, sb, dx, hz, hx⟩ := shape (m5.trans sm) hy
                  refine ⟨rfl, _, rfl, b, _, 0, x, rfl, rfl, sb, rfl, _, rfl, ex, mt, ow, c, rfl, ((kx (m5.trans sm)).tup tm).sq, dx, _, rfl, ?_⟩
                  have so : selO (heldD ow) [x2, x3] [.tuple [c2, .int i2], .tuple [c3, .int i3]] i = if strInD ow c then some x else none := by
                    unfold selO
                    rw [hz, hx]
                    rfl
                  cases e4 : strInD ow c with
                  | true =>
                    rw [e4] at so
                    exact iteT ⟨_, rfl, b, _, 0, x, rfl, rfl, sb, rfl, hyes _ so _ Same.refl⟩
                  | false =>
                    rw [e4] at so
                    exact iteF (hno so _ Same.refl)
                intro H6 m6 hD6
                replace hD6 : H6 D = some (.lst (selV (heldD ow) [x2, x3] [.tuple [c2, .int i2], .tuple [c3, .int i3]])) := by
                  rw [← sel_range (heldD ow) [x2, x3] [.tuple [c2, .int i2], .tuple [c3, .int i3]] rfl]
                  exact hD6
                have m6 := m5.trans m6
                have ee := selV_empty (p := heldD ow) (xs := [x2, x3]) (ds := [.tuple [c2, .int i2], .tuple [c3, .int i3]]) rfl
                have ef : ([PyData.tuple [c2, .int i2], .tuple [c3, .int i3]].filter (heldD ow)).isEmpty = ([PyData.tuple [c2, .int i2], .tuple [c3, .int i3]].all fun d => !heldD ow d) := by
                  simp only [List.filter_cons, List.filter_nil, List.all_cons, List.all_nil]
                  cases heldD ow (.tuple [c2, .int i2]) <;> cases heldD ow (.tuple [c3, .int i3]) <;> rfl
                rw [ef, ← ee, ← filt_empty] at q
                generalize selV (heldD ow) [x2, x3] [.tuple [c2, .int i2], .tuple [c3, .int i3]] = nm at hD6 q
                refine ⟨_, rfl, by show 0 ≤ sizeLine; exact Nat.zero_le _, fun L2 hL2 => ⟨D, L2, _, rfl, rfl, SqL.of (Same.upd hL2 _ _ hD6), SqL.of upd_same, _, rfl, ?_⟩⟩
                have m7 := m6.trans (Same.upd (o := .lst []) hL2)
                generalize upd H6 L2 (.lst []) = H7 at m7 ⊢
                cases en : nm.isEmpty with
                | true =>
                  rw [en] at q
                  exact iteF (q _ m7)
                | false =>
                  rw [en] at q
                  refine iteT ⟨_, rfl, _, rfl, a, _, rfl, (kx m7).tup ht, fun p8 H8 m8 hp8 => ⟨p8, rfl, ⟨_, hp8.sq⟩, fun D2 hD2 => ?_⟩⟩
                  have m8 := m7.trans m8
                  have hp9 : TupF H8 p8 [.ref a2, .ref a3] := hp8
                  refine lc_o (walk_tup (K := K) (a := p8) (xs := [.ref a2, .ref a3])) (selO (fun d => heldD ow d && !zAtD d) [.ref a2, .ref a3] [.tuple [c2, .int i2], .tuple [c3, .int i3]]) (show 2 < sizeLine by rw [hL]; decide) hD2 (fun Hx sm => ((kx sm).tup hp9).sq) ?_ ?_
                  · rintro i y Hx H' Nx hi sm hDx ⟨rfl, hy⟩ hno hyes
                    obtain ⟨b, x, c, n, rfl, sb, dx, hz, hx⟩ := shape (m8.trans sm) hy
                    refine ⟨rfl, _, rfl, b, _, 0, x, rfl, rfl, sb, rfl, _, rfl, ex, mt, ow, c, rfl, ((kx (m8.trans sm)).tup tm).sq, dx, _, rfl, ?_⟩
                    have so : selO (fun d => heldD ow d && !zAtD d) [.ref a2, .ref a3] [.tuple [c2, .int i2], .tuple [c3, .int i3]] i = if strInD ow c && !decide (n = 0) then some (.ref b) else none := by
                      unfold selO
                      rw [hz, hy]
                      rfl
                    cases e4 : strInD ow c with
                    | false =>
                      rw [e4] at so
                      exact iteF (hno so _ Same.refl)
                    | true =>
                      rw [e4] at so
                      refine iteT ⟨_, rfl, b, _, 1, .int n, rfl, rfl, sb, rfl, rfl, _, rfl, ?_⟩
                      rw [show decide (V.int n = V.int 0) = decide (n = 0) from decide_eq_decide.mpr ⟨fun e => by injection e, fun e => congrArg V.int e⟩]
                      cases e5 : decide (n = 0) with
                      | true =>
                        rw [e5] at so
                        exact iteF (hno so _ Same.refl)
                      | false =>
                        rw [e5] at so
                        exact iteT ⟨_, rfl, hyes _ so _ Same.refl⟩
                  intro H9 m9 hD9
                  replace hD9 : H9 D2 = some (.lst (selV (fun d => heldD ow d && !zAtD d) [.ref a2, .ref a3] [.tuple [c2, .int i2], .tuple [c3, .int i3]])) := by
                    rw [← sel_range (fun d => heldD ow d && !zAtD d) [.ref a2, .ref a3] [.tuple [c2, .int i2], .tuple [c3, .int i3]] rfl]
                    exact hD9
                  refine ⟨by show 0 ≤ sizeLine; exact Nat.zero_le _, fun L3 hL3 => ⟨D2, L3, _, rfl, rfl, SqL.of (Same.upd hL3 _ _ hD9), SqL.of upd_same, ?_⟩⟩
                  rw [selV_empty rfl]
                  exact q _ ((m8.trans m9).trans (Same.upd hL3))
end
end Kx
namespace Kx
open PySem PySem.Spec PyProof.Rows L2
def bodyL (ps : List (Str × Str)) (ns us ow : List Str) : PyData → Bool
  | .tuple [a, b, c, e] => eqS "val" a && (strInD cops b && (bodyTermD ps ns us ow c && bodyTermD ps ns us ow e))
  | _ => false
theorem okN_not {ps : List (Str × Str)} {ns us ow : List Str} {j : Nat} {role : Str} {d : PyData} (hr : role ≠ "guard") : okN ps ns us (j + 1) ⟨role, ow, .tuple [.str "not", d]⟩ = okN ps ns us j ⟨role, ow, d⟩ := by
  have e : needD ps ns us ⟨role, ow, .tuple [.str "not", d]⟩ = some [⟨role, ow, d⟩] := by
    show (if eqS "not" (.str "not") && decide (role ≠ "guard") then _ else _) = _
    rw [decide_eq_true hr]
    rfl
  show (match needD ps ns us ⟨role, ow, .tuple [.str "not", d]⟩ with | none => false | some l => l.all (okN ps ns us j)) = _
  rw [e]
  show ((okN ps ns us j ⟨role, ow, d⟩) && true) = _
  rw [Bool.and_true]
theorem not_two {a b : PyData} (h : startD "not" 2 (.tuple [a, b]) = false) : eqS "not" a = false := by
  have h2 : headW "not" [a, b] = false := h
  cases a <;> first | rfl | skip
  exact h2
theorem okN_body {ps : List (Str × Str)} {ns us ow : List Str} {j : Nat} {d : PyData} (hj : joinD d = false) (hn : startD "not" 2 d = false) : okN ps ns us (j + 1) ⟨"body", ow, d⟩ = bodyL ps ns us ow d := by
  refine okN_leaf ?_
  match d, hj, hn with
  | .tuple [a, b], hj, hn =>
    rw [join_two] at hj
    show (if eqS "not" a && decide (("body" : Str) ≠ "guard") then _ else if strInD ["and", "or"] a && isTupD b then _ else none) = _
    rw [hj, not_two hn]
    rfl
  | .tuple [a, b, c, e], _, _ =>
    show (if eqS "all" a then (if decide (("body" : Str) = "claim") && _ then _ else none) else if (if ("body" : Str) = "guard" then _ else if strInD cops b then (if eqS "val" a then bodyTermD ps ns us ow c && bodyTermD ps ns us ow e else decide (("body" : Str) = "claim") && _) else false) then some [] else none) = if (eqS "val" a && (strInD cops b && (bodyTermD ps ns us ow c && bodyTermD ps ns us ow e))) then some [] else none
    rw [if_neg (show ¬ ("body" : Str) = "guard" by decide), decide_eq_false (show ¬ ("body" : Str) = "claim" by decide), Bool.false_and, Bool.false_and]
    cases h : eqS "all" a with
    | true => rw [eqS_ne h (by decide : ("all" : Str) ≠ "val")]; rfl
    | false => cases eqS "val" a <;> cases strInD cops b <;> rfl
  | .tuple [], _, _ => rfl
  | .tuple [_], _, _ => rfl
  | .tuple [_, _, _], _, _ => rfl
  | .tuple (_ :: _ :: _ :: _ :: _ :: _), _, _ => rfl
  | .none, _, _ => rfl
  | .bool _, _, _ => rfl
  | .int _, _, _ => rfl
  | .str _, _, _ => rfl
  | .list _, _, _ => rfl
  | .dict _, _, _ => rfl
theorem bodyL_no {ps : List (Str × Str)} {ns us ow : List Str} {d : PyData} (h : startD "val" 4 d = false) : bodyL ps ns us ow d = false := by
  match d, h with
  | .tuple [a, b, c, e], h =>
    have h2 : headW "val" [a, b, c, e] = false := h
    have h1 : eqS "val" a = false := by
      cases a <;> first | rfl | skip
      exact h2
    show (eqS "val" a && _) = false
    rw [h1]
    rfl
  | .tuple [], _ => rfl
  | .tuple [_], _ => rfl
  | .tuple [_, _], _ => rfl
  | .tuple [_, _, _], _ => rfl
  | .tuple (_ :: _ :: _ :: _ :: _ :: _), _ => rfl
  | .none, _ => rfl
  | .bool _, _ => rfl
  | .int _, _ => rfl
  | .str _, _ => rfl
  | .list _, _ => rfl
  | .dict _, _ => rfl
section
variable {P : Program} {w : World} {K : PySem.W.Frag} {mg : Str → Option Value} {base : Heap}
abbrev N_law_is_body : List Str := ["sides", "value", "own", "part"]
abbrev P_law_is_body : List Str := ["sides", "value", "own"]
theorem sc_law_is_body : FnScope N_law_is_body P_law_is_body (defScope s_law_is_body) := ⟨rfl, rfl, rfl, by decide +kernel, rfl, by decide +kernel, by decide +kernel⟩
theorem ok_jb (T : Bt mg) (h : Has K mg "_law_is_body" s_law_is_body) (C1 : Ca P w K mg base 1 "_law_are_joined" P_law_are_joined (spJudge joinD)) (C2 : Ca P w K mg base 1 "_law_starts" P_law_starts spSt) (C3 : Ca P w K mg base 1 "_law_is_op" P_law_is_op (spOp (K := K))) (C4 : Ca P w K mg base 3 "_law_is_worth" P_law_is_worth (spJT bodyTermD)) :
    ∀ j : Nat, Ca P w K mg base (4 + j) "_law_is_body" P_law_is_body (spJN "body" j)
  | 0 => by
    refine cal_of h sc_law_is_body (fun _ _ _ _ _ _ us hl => match us, hl with | [_, _, _], _ => rfl) (fun vs H Q E h => ?_) (fun f cdv A outer s H vs Q E hr h => ?_)
    · obtain ⟨_, _, _, _, _, _, _, _, _, _, _, _, _, z, _⟩ := h
      exact absurd z (Nat.not_lt_zero _)
    · obtain ⟨_, _, _, _, _, _, _, _, _, _, _, _, _, z, _⟩ := h
      exact absurd z (Nat.not_lt_zero _)
  | j + 1 => by
    obtain ⟨_, _, c__law_is_body⟩ := ok_jb T h C1 C2 C3 C4 j
    obtain ⟨_, _, c__law_are_joined⟩ := C1
    obtain ⟨_, _, c__law_starts⟩ := C2
    obtain ⟨_, _, c__law_is_op⟩ := C3
    obtain ⟨_, _, c__law_is_worth⟩ := C4
    refine cal_of (k := 4 + j) h sc_law_is_body (fun _ _ _ _ _ _ us hl => match us, hl with | [_, _, _], _ => rfl) (fun vs H Q E h => ?_) (fun f cdv A outer s H vs Q E hr h => ?_)
    · obtain ⟨ex, R, mt, v, va, vp, vv, d, ps, ns, us, ow, rfl, _⟩ := h
      rfl
    · obtain ⟨ex, R, mt, v, va, vp, vv, d, ps, ns, us, ow, rfl, hdp, rc, sd, dv, hc, tm, lo, q⟩ := h
      refine ⟨_, (pss_cons (ps_if (pt_val (pe_call c__law_are_joined.1 (hr.mono (by omega)) rfl c__law_are_joined.2.1 c__law_are_joined.2.2.1 c__law_are_joined.2.2.2 .nil pass0 (pa_cons (pv 1) pa_nil))) (pss_one (ps_ret (pe_cmpR (op_eqL0 hr.units0) (pe_lc (own := [("part", 3)]) (g := (gName 3)) (by rfl) sc_law_is_body.nd (pi_tup (pe_ix (show IxR _ (rIxT K) from ix_tup) (pv 1) pe_int (fun _ _ => rfl))) (blkOk_by (own := [("part", 3)]) (N := ["sides", "value", "own", "part"]) (sc := defScope s_law_is_body) (by decide +kernel)) (fun _ _ _ _ _ => pg_name (i := 3) sc_law_is_body.nd rfl (Or.inl rfl)) (fun _ _ _ _ _ => pts_one (pt_not (pt_val (pe_call c__law_is_body.1 (hr.mono (by omega)) rfl c__law_is_body.2.1 c__law_is_body.2.2.1 c__law_is_body.2.2.2 .nil pass0 (pa_cons (pv 0) (pa_cons (pv 3) (pa_cons (pv 2) pa_nil))))))) (fun _ _ _ _ _ => (pv 3))) (pe_lst pa_nil) (nomark _)))) pss_nil)
        (pss_cons (ps_if (pt_val (pe_call c__law_starts.1 (hr.mono (by omega)) rfl c__law_starts.2.1 c__law_starts.2.2.1 c__law_starts.2.2.2 .nil pass0 (pa_cons (pv 1) (pa_cons pe_str (pa_cons pe_int pa_nil))))) (pss_one (ps_ret (pe_call c__law_is_body.1 (hr.mono (by omega)) rfl c__law_is_body.2.1 c__law_is_body.2.2.1 c__law_is_body.2.2.2 .nil pass0 (pa_cons (pv 0) (pa_cons (pe_ix ix_tup (pv 1) pe_int (fun _ _ => rfl)) (pa_cons (pv 2) pa_nil)))))) pss_nil)
        (pss_cons (ps_if (PW.pt (pw_or (pt_not (pt_val (pe_call c__law_starts.1 (hr.mono (by omega)) rfl c__law_starts.2.1 c__law_starts.2.2.1 c__law_starts.2.2.2 .nil pass0 (pa_cons (pv 1) (pa_cons pe_str (pa_cons pe_int pa_nil)))))) (pw_or1 (pt_not (pt_val (pe_call c__law_is_op.1 (hr.mono (by omega)) rfl c__law_is_op.2.1 c__law_is_op.2.2.1 c__law_is_op.2.2.2 .nil pass0 (pa_cons (pe_ix ix_tup (pv 1) pe_int (fun _ _ => rfl)) (pa_cons (pe_lst (pa_cons pe_str (pa_cons pe_str (pa_cons pe_str pa_nil)))) pa_nil)))))))) (pss_one (ps_ret pe_bl)) pss_nil)
        (pss_one (ps_ret (pe_and (pe_call c__law_is_worth.1 (hr.mono (by omega)) rfl c__law_is_worth.2.1 c__law_is_worth.2.2.1 c__law_is_worth.2.2.2 .nil pass0 (pa_cons (pv 0) (pa_cons (pe_ix ix_tup (pv 1) pe_int (fun _ _ => rfl)) (pa_cons (pv 2) pa_nil)))) (pe_one (pe_call c__law_is_worth.1 (hr.mono (by omega)) rfl c__law_is_worth.2.1 c__law_is_worth.2.2.1 c__law_is_worth.2.2.2 .nil pass0 (pa_cons (pv 0) (pa_cons (pe_ix ix_tup (pv 1) pe_int (fun _ _ => rfl)) (pa_cons (pv 2) pa_nil))))))))))), ?_⟩
      have hL := sizeLine_eq
      have kk : ∀ {G G' : Hp}, Same G G' → Kp All G G' := fun m => Kp.same m
      have kx : ∀ {G G' : Hp}, Same G G' → Kp ex G G' := fun m => Kp.same m
      refine ⟨_, rfl, ex, _, d, rfl, dv, hc, fun H1 m1 => ⟨_, rfl, ?_⟩⟩
      cases ej : joinD d with
      | true =>
        obtain ⟨z, ds, rfl, hz⟩ := joinI ej
        rw [okN_join hz] at q
        obtain ⟨a, xs, rfl, ht, dl⟩ := dv.tupI
        obtain ⟨a0, a1, rfl, dv0, dv1⟩ := dl.two
        obtain ⟨aB, ys, rfl, tB, dB⟩ := dv1.tupI
        have yl := dB.len
        have cl := costL_len ds
        have cB : costL ds + 4 ≤ 8000000 := by
          simp only [cost, costL] at hc
          omega
        refine iteT ⟨_, rfl, a, _, 1, _, rfl, rfl, ((kx m1).tup ht).sq, rfl, aB, rfl, ⟨_, ((kx m1).tup tB).sq⟩, fun D hD => ?_⟩
        refine lc_o (walk_tup (K := K) (a := aB) (xs := ys)) (selO (fun p => !okN ps ns us j ⟨"body", ow, p⟩) ys ds) (by rw [hL]; omega) hD (fun Hx sm => ((kx (m1.trans sm)).tup tB).sq) ?_ ?_
        · rintro i y Hx H' Nx hi sm hDx ⟨rfl, hy⟩ hno hyes
          obtain ⟨e, he, dve⟩ := dB.get hy
          have hm := List.mem_of_getElem? he
          have mx := m1.trans sm
          have so : selO (fun p => !okN ps ns us j ⟨"body", ow, p⟩) ys ds i = if (!okN ps ns us j ⟨"body", ow, e⟩) then some y else none := by
            unfold selO
            rw [he, hy]
            rfl
          refine ⟨rfl, _, rfl, _, rfl, _, rfl, ex, R, mt, y, va, vp, vv, e, ps, ns, us, ow, rfl, ?_, rc.same mx, sd, dve.kp (kx mx), ?_, (kx mx).tup tm, lo, fun H2 m2 => ⟨_, rfl, ?_⟩⟩
          · have := depth_tup hm
            have h2 : (PyData.tuple ds).depth < (PyData.tuple [.str z, .tuple ds]).depth := depth_tup (by simp)
            omega
          · exact Nat.le_trans (costL_mem hm) (by omega)
          cases e3 : okN ps ns us j ⟨"body", ow, e⟩ with
          | true =>
            rw [e3] at so
            exact iteF (hno so _ m2)
          | false =>
            rw [e3] at so
            exact iteT ⟨_, rfl, hyes _ so _ m2⟩
        · intro H3 m3 hD3
          rw [sel_range _ _ _ yl] at hD3
          refine ⟨by show 0 ≤ sizeLine; exact Nat.zero_le _, fun L hLn => ⟨D, L, _, rfl, rfl, SqL.of (Same.upd hLn _ _ hD3), SqL.of upd_same, ?_⟩⟩
          rw [selV_empty yl]
          simp only [Bool.not_not]
          exact q _ ((m1.trans m3).trans (Same.upd hLn))
      | false =>
        refine iteF ⟨_, rfl, ex, _, d, "not", 2, rfl, by decide, dv.kp (kx m1), ⟨_, rfl, ?_⟩⟩
        cases en : startD "not" 2 d with
        | true =>
          obtain ⟨ds1, rfl, hl1⟩ := startI en
          obtain ⟨d1, rfl⟩ : ∃ d1, ds1 = [d1] := match ds1, hl1 with | [_], _ => ⟨_, rfl⟩
          rw [okN_not (by decide)] at q
          obtain ⟨a, xs, rfl, ht, dl⟩ := dv.tupI
          obtain ⟨a0, a1, rfl, dv0, dv1⟩ := dl.two
          refine iteT ⟨_, rfl, _, rfl, a, _, 1, a1, rfl, rfl, ((kx m1).tup ht).sq, rfl, _, rfl, ex, R, mt, a1, va, vp, vv, d1, ps, ns, us, ow, rfl, ?_, rc.same m1, sd, dv1.kp (kx m1), cost_tup hc (by simp), (kx m1).tup tm, lo, fun H2 m2 => q _ (m1.trans m2)⟩
          have : d1.depth < (PyData.tuple [.str "not", d1]).depth := depth_tup (by simp)
          omega
        | false =>
        rw [okN_body ej en] at q
        refine iteF ⟨_, rfl, ex, _, d, "val", 4, rfl, by decide, dv.kp (kx m1), ⟨_, rfl, ?_⟩⟩
        cases es : startD "val" 4 d with
        | false =>
          rw [bodyL_no es] at q
          exact iteT (iteT (q _ m1))
        | true =>
          obtain ⟨ds3, rfl, hl3⟩ := startI es
          obtain ⟨d1, d2, d3, rfl⟩ : ∃ d1 d2 d3, ds3 = [d1, d2, d3] := match ds3, hl3 with | [_, _, _], _ => ⟨_, _, _, rfl⟩
          have q : ∀ H', Same H H' → Q (.bl (strInD cops d1 && (bodyTermD ps ns us ow d2 && bodyTermD ps ns us ow d3))) H' := q
          obtain ⟨a, xs, rfl, ht, dl⟩ := dv.tupI
          obtain ⟨a0, a1, a2, a3, rfl, dv0, dv1, dv2, dv3⟩ := dl.four
          refine iteF ⟨_, rfl, a, _, 1, a1, rfl, rfl, ((kx m1).tup ht).sq, rfl, by show 3 ≤ sizeLine; decide, fun L hLn => ?_⟩
          have m2 := m1.trans (Same.upd (o := .lst [.str "<=", .str "<", .str "=="]) hLn)
          refine ⟨ex, a1, d1, L, cops, rfl, SqL.of upd_same, dv1.kp (kx m2), ⟨_, rfl, ?_⟩⟩
          cases eo : strInD cops d1 with
          | false =>
            rw [eo] at q
            exact iteT (q _ m2)
          | true =>
            rw [eo, Bool.true_and] at q
            refine iteF ⟨_, rfl, _, rfl, a, _, 2, a2, rfl, rfl, ((kx m2).tup ht).sq, rfl, _, rfl, ex, R, mt, a2, va, vp, vv, d2, ps, ns, us, ow, rfl, rc.same m2, sd, dv2.kp (kx m2), cost_tup hc (by simp), (kx m2).tup tm, lo, fun H3 m3 => ⟨_, rfl, ?_⟩⟩
            have m3 := m2.trans m3
            cases e2 : bodyTermD ps ns us ow d2 with
            | false =>
              rw [e2] at q
              exact iteF (q _ m3)
            | true =>
              rw [e2, Bool.true_and] at q
              exact iteT ⟨_, rfl, _, rfl, a, _, 3, a3, rfl, rfl, ((kx m3).tup ht).sq, rfl, _, rfl, ex, R, mt, a3, va, vp, vv, d3, ps, ns, us, ow, rfl, rc.same m3, sd, dv3.kp (kx m3), cost_tup hc (by simp), (kx m3).tup tm, lo, fun H4 m4 => q _ (m3.trans m4)⟩
end
end Kx
namespace Kx
open PySem PySem.Spec PyProof.Rows L2
theorem tw_lt {p : Nat → Bool} : ∀ l : List Nat, l.all p = false → (l.takeWhile p).length < l.length
  | [], h => by cases h
  | x :: l, h => by
    rw [List.all_cons] at h
    cases hp : p x with
    | false => rw [List.takeWhile_cons, hp]; simp
    | true =>
      rw [hp, Bool.true_and] at h
      have := tw_lt l h
      rw [List.takeWhile_cons, hp]
      simp only [if_true, List.length_cons]
      omega
theorem drop_bad {p : Nat → Bool} : ∀ l : List Nat, l.all p = false → (l.drop (l.takeWhile p).length).all p = false
  | [], h => by cases h
  | x :: l, h => by
    rw [List.all_cons] at h
    cases hp : p x with
    | false =>
      rw [List.takeWhile_cons, hp]
      show ((x :: l).all p) = false
      rw [List.all_cons, hp]
      rfl
    | true =>
      rw [hp, Bool.true_and] at h
      rw [List.takeWhile_cons, hp]
      exact drop_bad l h
theorem tw_all {p : Nat → Bool} : ∀ l : List Nat, l.all p = true → l.takeWhile p = l
  | [], _ => rfl
  | x :: l, h => by
    rw [List.all_cons] at h
    rw [List.takeWhile_cons, and_l h, if_pos rfl, tw_all l (and_r h)]
theorem strip_empty (z y : Str) : decide (Txt.stripChars z y = "") = z.cps.toList.all fun c => y.cps.contains c := by
  have zl : z.cps.toList.length = z.length := Array.length_toList
  have key : (Txt.stripChars z y).cps.size = min (stripHi (fun c => y.cps.contains c) true z (stripLo (fun c => y.cps.contains c) true z)) z.length - stripLo (fun c => y.cps.contains c) true z := by
    rw [Txt.stripChars.eq_1, PyProof.Rows.stripBy_eq]
    show (z.cps.extract _ _).size = _
    rw [Array.size_extract]
    rfl
  have e0 : Txt.stripChars z y = "" ↔ (Txt.stripChars z y).cps.size = 0 := by
    constructor
    · intro e
      rw [e]
      rfl
    · intro e
      have h2 : (Txt.stripChars z y).cps = #[] := Array.eq_empty_of_size_eq_zero e
      generalize Txt.stripChars z y = s at h2
      cases s
      exact congrArg Str.mk h2
  rw [stripHi.eq_1, stripLo.eq_1, if_pos rfl, if_pos rfl] at key
  cases hp : z.cps.toList.all fun c => y.cps.contains c with
  | true =>
    rw [tw_all _ hp, zl] at key
    exact decide_eq_true (e0.mpr (by rw [key]; omega))
  | false =>
    have h1 := tw_lt _ hp
    have h2 := drop_bad _ hp
    have h3 : ((z.cps.toList.drop (z.cps.toList.takeWhile fun c => y.cps.contains c).length).reverse).all (fun c => y.cps.contains c) = false := by rw [List.all_reverse]; exact h2
    have h4 := tw_lt _ h3
    rw [List.length_reverse, List.length_drop] at h4
    exact decide_eq_false fun e => by
      have := e0.mp e
      rw [key] at this
      omega
theorem nameD_strip (z : Str) : nameD (.str z) = (!decide (z = "") && (!decide (8 < (z.length : Int)) && decide (Txt.stripChars z "abcdefghijklmnopqrstuvwxyz" = ""))) := by
  rw [strip_empty]
  have e1 : (z = "") ↔ z.length = 0 := by
    constructor
    · rintro rfl
      rfl
    · intro e
      have h2 : z.cps = #[] := Array.eq_empty_of_size_eq_zero e
      cases z
      exact congrArg Str.mk h2
  have e2 : (z.cps.toList.all fun c => ("abcdefghijklmnopqrstuvwxyz" : Str).cps.contains c) = decide (∀ c ∈ z.cps.toList, 97 ≤ c ∧ c ≤ 122) := by
    have : (z.cps.toList.all fun c => ("abcdefghijklmnopqrstuvwxyz" : Str).cps.contains c) = true ↔ ∀ c ∈ z.cps.toList, 97 ≤ c ∧ c ≤ 122 := by
      rw [List.all_eq_true]
      constructor
      · intro h c hc
        exact (mem_abc c).mp (by have := h c hc; simpa using this)
      · intro h c hc
        have := (mem_abc c).mpr (h c hc)
        simpa using this
    cases h : (z.cps.toList.all fun c => ("abcdefghijklmnopqrstuvwxyz" : Str).cps.contains c) with
    | true => rw [h] at this; exact (decide_eq_true (this.mp rfl)).symm
    | false => rw [h] at this; exact (decide_eq_false fun e => Bool.noConfusion (this.mpr e)).symm
  rw [e2]
  show decide (1 ≤ z.length ∧ z.length ≤ 8 ∧ ∀ c ∈ z.cps.toList, 97 ≤ c ∧ c ≤ 122) = _
  by_cases a : z.length = 0
  · rw [decide_eq_true (e1.mpr a), decide_eq_false (by omega)]
    rfl
  · rw [decide_eq_false (fun e => a (e1.mp e))]
    by_cases b : 8 < (z.length : Int)
    · rw [decide_eq_true b, decide_eq_false (by omega)]
      rfl
    · rw [decide_eq_false b]
      exact decide_eq_decide.mpr ⟨fun h => h.2.2, fun h => ⟨by omega, by omega, h⟩⟩
section
variable {P : Program} {w : World} {K : PySem.W.Frag} {mg : Str → Option Value} {base : Heap}
theorem names_map : ∀ {ds : List PyData}, (∀ e ∈ ds, nameD e = true) → ds = (strsD ds).map .str
  | [], _ => rfl
  | x :: r, h => by
    have hx := h x List.mem_cons_self
    have ih := names_map fun e he => h e (List.mem_cons_of_mem _ he)
    cases x <;> first | (cases hx; done) | skip
    show _ :: r = _ :: (strsD r).map .str
    rw [← ih]
theorem fresh_filter {ps : List (Str × Str)} {ns us : List Str} : ∀ {ow : List Str}, (∀ e ∈ ow.map PyData.str, nameD e = true) → (ow.map PyData.str).all (freshD ps ns us) = (ow.filter fun z => decide (z ∈ anL ps ns us)).isEmpty
  | [], _ => rfl
  | z :: r, alln => by
    have hn := alln (.str z) List.mem_cons_self
    rw [List.map_cons, List.all_cons, List.filter_cons, fresh_filter fun e he => alln e (List.mem_cons_of_mem _ he)]
    show ((nameD (.str z) && !decide (z ∈ allN ps ns us)) && _) = _
    rw [hn, show decide (z ∈ allN ps ns us) = decide (z ∈ anL ps ns us) from decide_eq_decide.mpr (an_all z).symm]
    cases decide (z ∈ anL ps ns us) <;> rfl
theorem filt_map (S : List Str) : ∀ ow : List Str, (ow.filterMap fun z => if z ∈ S then some (V.str z) else none) = (ow.filter fun z => decide (z ∈ S)).map V.str
  | [] => rfl
  | z :: r => by
    have ih := filt_map S r
    rw [List.filterMap_cons, List.filter_cons]
    by_cases hm : z ∈ S
    · rw [if_pos hm, decide_eq_true hm]
      exact congrArg (V.str z :: ·) ih
    · rw [if_neg hm, decide_eq_false hm]
      exact ih
def ownsD (ps : List (Str × Str)) (ns us : List Str) (d : PyData) : Bool := ownD ps ns us d && !(itemsD d).isEmpty
abbrev N_law_are_own : List Str := ["sides", "value", "name"]
abbrev P_law_are_own : List Str := ["sides", "value"]
theorem sc_law_are_own : FnScope N_law_are_own P_law_are_own (defScope s_law_are_own) := ⟨rfl, rfl, rfl, by decide +kernel, rfl, by decide +kernel, by decide +kernel⟩
def spJO : Sp := fun vs H Q _ => ∃ (ex : Addr → Prop) (R : Addr) (v va vp vv : V) (d : PyData) (ps : List (Str × Str)) (ns us : List Str), vs = [.ref R, v] ∧ RecAt H R va vp vv ps ns us ∧ Sides ps ns us ∧ Dv ex H v d ∧ cost d ≤ 8000000 ∧ ∀ H', Same H H' → Q (.bl (ownsD ps ns us d)) H'
theorem ok_ja (T : Bt mg) (h : Has K mg "_law_are_own" s_law_are_own) (C1 : Ca P w K mg base 1 "_law_all_names" P_law_all_names spAN) : Ca P w K mg base 2 "_law_are_own" P_law_are_own spJO := by
  obtain ⟨_, _, c__law_all_names⟩ := C1
  refine cal_of h sc_law_are_own (fun _ _ _ _ _ _ us hl => match us, hl with | [_, _], _ => rfl) (fun vs H Q E h => ?_) (fun f cdv A outer s H vs Q E hr h => ?_)
  · obtain ⟨ex, R, v, va, vp, vv, d, ps, ns, us, rfl, _⟩ := h
    rfl
  · obtain ⟨ex, R, v, va, vp, vv, d, ps, ns, us, rfl, rc, sd, dv, hc, k⟩ := h
    refine ⟨_, (pss_cons (ps_if (PW.pt (pw_or (pt_not (pt_val (pe_callB call_isi (by rfl) T.isinstance (by decide +kernel) (pa_cons (pv 1) (pa_cons (pe_bltn (v := .ty "tuple") (by rfl) T.tuple (by decide +kernel) rfl) pa_nil))))) (pw_or1 (pt_cmpR op_notIn_seq (pe_callB call_len (by rfl) T.len (by decide +kernel) (pa_cons (pv 1) pa_nil)) (pe_lst (pa_cons pe_int (pa_cons pe_int pa_nil))) rfl)))) (pss_one (ps_ret pe_bl)) pss_nil)
      (pss_cons (ps_for PassesOwn.never rfl (pi_tup (pv 1)) (pg_name (i := 2) sc_law_are_own.nd rfl (.inl rfl))
        (pss_one (ps_if (PW.pt (pw_or (pt_not (pt_val (pe_callB call_isi (by rfl) T.isinstance (by decide +kernel) (pa_cons (pv 2) (pa_cons (pe_bltn (v := .ty "str") (by rfl) T.str (by decide +kernel) rfl) pa_nil))))) (pw_or (pt_cmpR op_eq (pv 2) pe_str (nomark _)) (pw_or (pt_cmpR op_gt (pe_callB call_len (by rfl) T.len (by decide +kernel) (pa_cons (pv 2) pa_nil)) pe_int (nomark _)) (pw_or1 (pt_cmpR op_ne (pe_m1 PySem.F.slot_str_strip PySem.F.type_str_strip mt_stripChars (pv 2) pe_str) pe_str (nomark _))))))) (pss_one (ps_ret pe_bl)) pss_nil)))
      (pss_one (ps_ret (pe_and (pe_cmpR op_eq (pe_lenSetT rfl rfl T.len rfl T.set (pv 1)) (pe_callB call_len (by rfl) T.len (by decide +kernel) (pa_cons (pv 1) pa_nil)) (nomark _)) (pe_one (pe_cmpR (op_eqL0 hr.units0) (pe_lc (own := [("name", 2)]) (g := (gName 2)) (by rfl) sc_law_are_own.nd (pi_tup (pv 1)) (blkOk_by (own := [("name", 2)]) (N := ["sides", "value", "name"]) (sc := defScope s_law_are_own) (by decide +kernel)) (fun _ _ _ _ _ => pg_name (i := 2) sc_law_are_own.nd rfl (Or.inl rfl)) (fun _ _ _ _ _ => pts_one (pt_cmpR (show OpR _ (compareOp .In) (rIn K false) from op_in_seq) (pv 2) (pe_call c__law_all_names.1 (hr.mono (by decide)) rfl c__law_all_names.2.1 c__law_all_names.2.2.1 c__law_all_names.2.2.2 .nil pass0 (pa_cons (pv 0) pa_nil)) rfl)) (fun _ _ _ _ _ => (pv 2))) (pe_lst pa_nil) (nomark _)))))))), ?_⟩
    have kk : ∀ {G G' : Hp}, Same G G' → Kp All G G' := fun m => Kp.same m
    have kx : ∀ {G G' : Hp}, Same G G' → Kp ex G G' := fun m => Kp.same m
    have hL := sizeLine_eq
    refine ⟨_, rfl, _, _, _, _, _, rfl, .ty _, dv.ty, kitT d, _, rfl, ?_⟩
    cases e : isTupD d with
    | false =>
      have no : ownsD ps ns us d = false := by cases d <;> first | rfl | (cases e; done)
      have := k H Same.refl
      rw [no] at this
      exact iteT (iteT this)
    | true =>
      obtain ⟨ds, rfl⟩ : ∃ ds, d = .tuple ds := by cases d <;> first | exact ⟨_, rfl⟩ | (cases e; done)
      obtain ⟨o, xs, rfl, to, dl⟩ := dv.tupI
      have hl := dl.len
      have q : ∀ H', Same H H' → Q (.bl ((decide (ds.length ≤ 2) && (ds.all (freshD ps ns us) && decide ((strsD ds).Nodup))) && !ds.isEmpty)) H' := k
      refine iteF ⟨_, rfl, _, _, rfl, .inr ⟨_, to.sq, rfl⟩, by show 2 ≤ sizeLine; decide, fun L hLn => ⟨L, _, rfl, .inl (SqL.of upd_same), rfl, rfl, _, rfl, ?_⟩⟩
      have m1 : Same H (upd H L (.lst [.int 1, .int 2])) := Same.upd hLn
      generalize upd H L (.lst [.int 1, .int 2]) = H1 at m1 ⊢
      rw [show (if true = true then !inV (V.int (xs.length : Int)) [V.int 1, V.int 2] else inV (V.int (xs.length : Int)) [V.int 1, V.int 2]) = !decide (xs.length = 1 ∨ xs.length = 2) from congrArg (! ·) (by
        show (((1 : Int) == (xs.length : Int)) || (((2 : Int) == (xs.length : Int)) || false)) = _
        by_cases h1 : xs.length = 1
        · rw [h1]; rfl
        · by_cases h2 : xs.length = 2
          · rw [h2]; rfl
          · rw [decide_eq_false (by omega), beq_eq_false_iff_ne.mpr (show (1 : Int) ≠ (xs.length : Int) by omega), beq_eq_false_iff_ne.mpr (show (2 : Int) ≠ (xs.length : Int) by omega)]
            rfl)]
      by_cases hz : xs.length = 1 ∨ xs.length = 2
      case neg =>
        rw [decide_eq_false hz]
        have := q H1 m1
        rw [show ((decide (ds.length ≤ 2) && (ds.all (freshD ps ns us) && decide ((strsD ds).Nodup))) && !ds.isEmpty) = false from ?_] at this
        · exact iteT this
        · by_cases h2 : ds.length ≤ 2
          · have : ds = [] := List.eq_nil_of_length_eq_zero (by omega)
            rw [this]
            simp
          · rw [decide_eq_false h2]
            rfl
      rw [decide_eq_true hz]
      have hd2 : ds.length ≤ 2 := by omega
      have hne : ds.isEmpty = false := by
        cases ds with
        | nil =>
          simp only [List.length_nil] at hl
          omega
        | cons _ _ => rfl
      rw [decide_eq_true hd2, hne, Bool.true_and, Bool.not_false, Bool.and_true] at q
      have bad : ∀ {e : PyData}, e ∈ ds → nameD e = false → (ds.all (freshD ps ns us) && decide ((strsD ds).Nodup)) = false := fun {e} he hn => by
        rw [show ds.all (freshD ps ns us) = false from List.all_eq_false.mpr ⟨e, he, by
          show ¬ (nameD e && !hasD ps ns us e) = true
          rw [hn]
          exact Bool.false_ne_true⟩]
        rfl
      refine iteF ⟨_, rfl, o, rfl, ⟨_, ((kx m1).tup to).sq⟩, for_it (walk_tup (K := K) (a := o) (xs := xs)) (fun i σ G => ∃ v2 : Option V, σ = [some (.ref R), some (.ref o), v2] ∧ Same H G ∧ ∀ j, j < i → ∀ e, ds[j]? = some e → nameD e = true)
        ⟨none, rfl, m1, fun j hj => absurd hj (Nat.not_lt_zero _)⟩ (fun i σ G _ ⟨_, _, sm, _⟩ => ((kx sm).tup to).sq) ?_ ?_⟩
      · rintro i x σ G G' hi ⟨v2, rfl, sm, hall⟩ ⟨rfl, hx⟩
        obtain ⟨e, he, dve⟩ := dl.get hx
        have dve' := dve.kp (kx sm)
        have hmem := List.mem_of_getElem? he
        have hce : cost e ≤ 8000000 := cost_tup hc hmem
        have nx : nameD e = true → ∀ j, j < i + 1 → ∀ f, ds[j]? = some f → nameD f = true := fun hn j hj f hf => by
          by_cases hji : j = i
          · subst hji
            rw [he] at hf
            cases hf
            exact hn
          · exact hall j (by omega) f hf
        refine ⟨_, rfl, _, _, _, _, _, rfl, .ty _, dve'.ty, kitS e, _, rfl, ?_⟩
        cases es : isStrD e with
        | false =>
          have hn : nameD e = false := by cases e <;> first | rfl | (cases es; done)
          have := q G' sm
          rw [bad hmem hn] at this
          exact iteT (iteT this)
        | true =>
          obtain ⟨z, rfl⟩ : ∃ z, e = .str z := by cases e <;> first | exact ⟨_, rfl⟩ | (cases es; done)
          cases dve'.strI
          have hzl : z.length ≤ sizeLine := by
            simp only [cost] at hce
            omega
          have ns := nameD_strip z
          refine iteF ⟨_, rfl, rfl, _, rfl, ?_⟩
          rw [show decide (V.str z = V.str "") = decide (z = "") from decide_eq_decide.mpr ⟨fun e => by injection e, fun e => congrArg V.str e⟩]
          cases e1 : decide (z = "") with
          | true =>
            rw [e1] at ns
            have := q G' sm
            rw [bad hmem ns] at this
            exact iteT (iteT this)
          | false =>
            rw [e1] at ns
            refine iteF ⟨_, rfl, _, _, rfl, ⟨hzl, rfl⟩, _, _, rfl, rfl, _, rfl, ?_⟩
            cases e2 : decide (8 < (z.length : Int)) with
            | true =>
              rw [e2] at ns
              have := q G' sm
              rw [bad hmem ns] at this
              exact iteT (iteT this)
            | false =>
              rw [e2] at ns
              refine iteF ⟨_, rfl, ⟨z, rfl⟩, z, _, rfl, rfl, hzl, rfl, _, rfl, ?_⟩
              rw [show decide (V.str (Txt.stripChars z "abcdefghijklmnopqrstuvwxyz") = V.str "") = decide (Txt.stripChars z "abcdefghijklmnopqrstuvwxyz" = "") from decide_eq_decide.mpr ⟨fun e => by injection e, fun e => congrArg V.str e⟩]
              cases e3 : decide (Txt.stripChars z "abcdefghijklmnopqrstuvwxyz" = "") with
              | false =>
                rw [e3] at ns
                have := q G' sm
                rw [bad hmem ns] at this
                exact iteT this
              | true =>
                rw [e3] at ns
                exact iteF ⟨_, rfl, sm, nx ns⟩
      · rintro σ G ⟨v2, rfl, sm, hall⟩
        have alln : ∀ e ∈ ds, nameD e = true := fun e he => by
          obtain ⟨j, hj⟩ := List.mem_iff_getElem?.mp he
          exact hall j (by have := (List.getElem?_eq_some_iff.mp hj).1; omega) e hj
        obtain ⟨ow, rfl⟩ : ∃ ow : List Str, ds = ow.map .str := ⟨strsD ds, names_map alln⟩
        rw [DvL.strsI dl] at to hl
        have h2 : ow.length ≤ 2 := by simpa using hd2
        rw [strsD_map] at q
        have tx := (kx sm).tup to
        have ef := fresh_filter (ps := ps) (ns := ns) (us := us) alln
        rw [ef] at q
        refine ⟨_, rfl, o, ow, rfl, tx.sq, by omega, _, rfl, _, _, rfl, .inr ⟨_, tx.sq, rfl⟩, rfl, ?_⟩
        refine ⟨_, rfl, ?_⟩
        rw [show decide (V.int ((uniq ow).length : Int) = V.int ((ow.map V.str).length : Int)) = decide ow.Nodup by rw [← nodup_uniq, List.length_map]; exact decide_eq_decide.mpr ⟨fun e => by injection e, fun e => congrArg V.int e⟩]
        cases en : decide ow.Nodup with
        | false =>
          rw [en, Bool.and_false] at q
          exact iteF (q _ sm)
        | true =>
          rw [en, Bool.and_true] at q
          refine iteT ⟨_, rfl, o, rfl, ⟨_, tx.sq⟩, fun D hD => ?_⟩
          refine lc_o (walk_tup (K := K) (a := o) (xs := ow.map V.str)) (fun i => ow[i]?.bind fun z => if z ∈ anL ps ns us then some (.str z) else none) (by rw [List.length_map]; omega) hD (fun Hx sx => ((kx (sm.trans sx)).tup to).sq) ?_ ?_
          · rintro i y Hx H' Nx hi sx hDx ⟨rfl, hy⟩ hno hyes
            rw [List.getElem?_map] at hy
            cases hz : ow[i]? with
            | none => rw [hz] at hy; cases hy
            | some z =>
            rw [hz] at hy
            cases hy
            refine ⟨rfl, _, rfl, _, rfl, R, va, vp, vv, ps, ns, us, rfl, rc.same (sm.trans sx), fun D2 H2 hD2 s2 e2 => ?_⟩
            refine ⟨D2, _, rfl, .inl (SqL.of e2), rfl, flat_strs _, _, rfl, ?_⟩
            rw [show (if false = true then !inV (V.str z) ((anL ps ns us).map V.str) else inV (V.str z) ((anL ps ns us).map V.str)) = decide (z ∈ anL ps ns us) from inV_str z _]
            by_cases hm : z ∈ anL ps ns us
            · rw [decide_eq_true hm]
              exact iteT ⟨_, rfl, hyes _ (by rw [hz]; exact if_pos hm) _ s2⟩
            · rw [decide_eq_false hm]
              exact iteF (hno (by rw [hz]; exact if_neg hm) _ s2)
          intro H2 s2 hD2
          have efl : (List.range (ow.map V.str).length).filterMap (fun i => ow[i]?.bind fun z => if z ∈ anL ps ns us then some (V.str z) else none) = (ow.filter fun z => decide (z ∈ anL ps ns us)).map V.str := by
            rw [List.length_map, range_bind (fun z => if z ∈ anL ps ns us then some (V.str z) else none) ow]
            exact filt_map _ ow
          rw [efl] at hD2
          refine ⟨by show 0 ≤ sizeLine; exact Nat.zero_le _, fun L2 hL2 => ⟨D, L2, _, rfl, rfl, SqL.of (Same.upd hL2 _ _ hD2), SqL.of upd_same, ?_⟩⟩
          rw [List.isEmpty_map]
          exact q _ ((sm.trans s2).trans (Same.upd hL2))
end
end Kx
namespace Kx
open PySem PySem.Spec PyProof.Rows L2
def claimL (ps : List (Str × Str)) (ns us : List Str) : PyData → Bool
  | .tuple [a, b, c, e] => if strInD cops b then (if eqS "val" a then bodyTermD ps ns us [] c && bodyTermD ps ns us [] e else eqS "pos" a && (placeD ps ns us [] c && placeD ps ns us [] e)) else false
  | _ => false
theorem all_four {a b c e : PyData} (h : startD "all" 4 (.tuple [a, b, c, e]) = false) : eqS "all" a = false := by
  have h2 : headW "all" [a, b, c, e] = false := h
  cases a <;> first | rfl | skip
  exact h2
theorem okN_claim {ps : List (Str × Str)} {ns us : List Str} {j : Nat} {d : PyData} (hj : joinD d = false) (hn : startD "not" 2 d = false) (ha : startD "all" 4 d = false) : okN ps ns us (j + 1) ⟨"claim", [], d⟩ = claimL ps ns us d := by
  refine okN_leaf ?_
  match d, hj, hn, ha with
  | .tuple [a, b], hj, hn, _ =>
    rw [join_two] at hj
    show (if eqS "not" a && decide (("claim" : Str) ≠ "guard") then _ else if strInD ["and", "or"] a && isTupD b then _ else none) = _
    rw [hj, not_two hn]
    rfl
  | .tuple [a, b, c, e], _, _, ha =>
    show (if eqS "all" a then _ else if (if ("claim" : Str) = "guard" then _ else if strInD cops b then (if eqS "val" a then bodyTermD ps ns us [] c && bodyTermD ps ns us [] e else decide (("claim" : Str) = "claim") && (eqS "pos" a && (placeD ps ns us [] c && placeD ps ns us [] e))) else false) then some [] else none) = _
    rw [if_neg (show ¬ ("claim" : Str) = "guard" by decide), all_four ha, decide_eq_true (rfl : ("claim" : Str) = "claim"), Bool.true_and]
    rfl
  | .tuple [], _, _, _ => rfl
  | .tuple [_], _, _, _ => rfl
  | .tuple [_, _, _], _, _, _ => rfl
  | .tuple (_ :: _ :: _ :: _ :: _ :: _), _, _, _ => rfl
  | .none, _, _, _ => rfl
  | .bool _, _, _, _ => rfl
  | .int _, _, _, _ => rfl
  | .str _, _, _, _ => rfl
  | .list _, _, _, _ => rfl
  | .dict _, _, _, _ => rfl
theorem okN_all {ps : List (Str × Str)} {ns us : List Str} {j : Nat} {a b c : PyData} : okN ps ns us (j + 1) ⟨"claim", [], .tuple [.str "all", a, b, c]⟩ = (ownsD ps ns us a && (okN ps ns us j ⟨"guard", strsD (itemsD a), b⟩ && okN ps ns us j ⟨"body", strsD (itemsD a), c⟩)) := by
  have e : needD ps ns us ⟨"claim", [], .tuple [.str "all", a, b, c]⟩ = if ownsD ps ns us a then some [⟨"guard", strsD (itemsD a), b⟩, ⟨"body", strsD (itemsD a), c⟩] else none := by
    show (if eqS "all" (.str "all") then (if decide (("claim" : Str) = "claim") && ownsD ps ns us a then some ([⟨"guard", strsD (itemsD a), b⟩, ⟨"body", strsD (itemsD a), c⟩] : List Nd) else none) else (if atomD ps ns us "claim" [] (.str "all") a b c then some [] else none)) = _
    rw [decide_eq_true (rfl : ("claim" : Str) = "claim"), Bool.true_and]
    rfl
  show (match needD ps ns us ⟨"claim", [], .tuple [.str "all", a, b, c]⟩ with | none => false | some l => l.all (okN ps ns us j)) = _
  rw [e]
  cases ownsD ps ns us a with
  | false => rfl
  | true =>
    show (okN ps ns us j _ && (okN ps ns us j _ && true)) = _
    rw [Bool.and_true, Bool.true_and]
theorem claimL_no {ps : List (Str × Str)} {ns us : List Str} {d : PyData} (h1 : startD "pos" 4 d = false) (h2 : startD "val" 4 d = false) : claimL ps ns us d = false := by
  match d, h1, h2 with
  | .tuple [a, b, c, e], h1, h2 =>
    have g1 : headW "pos" [a, b, c, e] = false := h1
    have g2 : headW "val" [a, b, c, e] = false := h2
    have e1 : eqS "pos" a = false := by
      cases a <;> first | rfl | skip
      exact g1
    have e2 : eqS "val" a = false := by
      cases a <;> first | rfl | skip
      exact g2
    show (if strInD cops b then (if eqS "val" a then bodyTermD ps ns us [] c && bodyTermD ps ns us [] e else eqS "pos" a && (placeD ps ns us [] c && placeD ps ns us [] e)) else false) = false
    rw [e1, e2]
    cases strInD cops b <;> rfl
  | .tuple [], _, _ => rfl
  | .tuple [_], _, _ => rfl
  | .tuple [_, _], _, _ => rfl
  | .tuple [_, _, _], _, _ => rfl
  | .tuple (_ :: _ :: _ :: _ :: _ :: _), _, _ => rfl
  | .none, _, _ => rfl
  | .bool _, _, _ => rfl
  | .int _, _, _ => rfl
  | .str _, _, _ => rfl
  | .list _, _, _ => rfl
  | .dict _, _, _ => rfl
theorem start_no {w : Str} {n : Nat} {z : Str} {ds : List PyData} (h : z ≠ w ∨ ds.length + 1 ≠ n) : startD w n (.tuple (.str z :: ds)) = false := by
  show (decide ((PyData.str z :: ds).length = n) && decide (z = w)) = false
  rcases h with h | h
  · rw [decide_eq_false h, Bool.and_false]
  · rw [decide_eq_false (show ¬ (PyData.str z :: ds).length = n from h), Bool.false_and]
section
variable {P : Program} {w : World} {K : PySem.W.Frag} {mg : Str → Option Value} {base : Heap}
abbrev N_law_is_claim : List Str := ["sides", "value", "part"]
abbrev P_law_is_claim : List Str := ["sides", "value"]
theorem sc_law_is_claim : FnScope N_law_is_claim P_law_is_claim (defScope s_law_is_claim) := ⟨rfl, rfl, rfl, by decide +kernel, rfl, by decide +kernel, by decide +kernel⟩
def spJC (j : Nat) : Sp := fun vs H Q _ => ∃ (ex : Addr → Prop) (R : Addr) (v va vp vv : V) (d : PyData) (ps : List (Str × Str)) (ns us : List Str), vs = [.ref R, v] ∧ d.depth < j ∧ RecAt H R va vp vv ps ns us ∧ Sides ps ns us ∧ Dv ex H v d ∧ cost d ≤ 8000000 ∧ ∀ H', Same H H' → Q (.bl (okN ps ns us j ⟨"claim", [], d⟩)) H'
theorem ok_jc (T : Bt mg) (h : Has K mg "_law_is_claim" s_law_is_claim) (C1 : Ca P w K mg base 1 "_law_are_joined" P_law_are_joined (spJudge joinD)) (C2 : Ca P w K mg base 1 "_law_starts" P_law_starts spSt) (C3 : Ca P w K mg base 1 "_law_is_op" P_law_is_op (spOp (K := K))) (C4 : Ca P w K mg base 2 "_law_is_place" P_law_is_place (spJT placeD)) (C5 : Ca P w K mg base 2 "_law_are_own" P_law_are_own spJO)
    (C6 : ∀ j : Nat, Ca P w K mg base (3 + j) "_law_is_guard" P_law_is_guard (spJN "guard" j)) (C7 : ∀ j : Nat, Ca P w K mg base (4 + j) "_law_is_body" P_law_is_body (spJN "body" j)) :
    ∀ j : Nat, Ca P w K mg base (6 + j) "_law_is_claim" P_law_is_claim (spJC j)
  | 0 => by
    refine cal_of h sc_law_is_claim (fun _ _ _ _ _ _ us hl => match us, hl with | [_, _], _ => rfl) (fun vs H Q E h => ?_) (fun f cdv A outer s H vs Q E hr h => ?_)
    · obtain ⟨_, _, _, _, _, _, _, _, _, _, _, z, _⟩ := h
      exact absurd z (Nat.not_lt_zero _)
    · obtain ⟨_, _, _, _, _, _, _, _, _, _, _, z, _⟩ := h
      exact absurd z (Nat.not_lt_zero _)
  | j + 1 => by
    obtain ⟨_, _, c__law_is_claim⟩ := ok_jc T h C1 C2 C3 C4 C5 C6 C7 j
    obtain ⟨_, _, c__law_are_joined⟩ := C1
    obtain ⟨_, _, c__law_starts⟩ := C2
    obtain ⟨_, _, c__law_is_op⟩ := C3
    obtain ⟨_, _, c__law_is_place⟩ := C4
    obtain ⟨_, _, c__law_are_own⟩ := C5
    obtain ⟨_, _, c__law_is_guard⟩ := C6 j
    obtain ⟨_, _, c__law_is_body⟩ := C7 j
    obtain ⟨_, _, c__law_is_body1⟩ := C7 (j + 1)
    refine cal_of (k := 6 + j) h sc_law_is_claim (fun _ _ _ _ _ _ us hl => match us, hl with | [_, _], _ => rfl) (fun vs H Q E h => ?_) (fun f cdv A outer s H vs Q E hr h => ?_)
    · obtain ⟨ex, R, v, va, vp, vv, d, ps, ns, us, rfl, _⟩ := h
      rfl
    · obtain ⟨ex, R, v, va, vp, vv, d, ps, ns, us, rfl, hdp, rc, sd, dv, hc, q⟩ := h
      refine ⟨_, (pss_cons (ps_if (pt_val (pe_call c__law_are_joined.1 (hr.mono (by omega)) rfl c__law_are_joined.2.1 c__law_are_joined.2.2.1 c__law_are_joined.2.2.2 .nil pass0 (pa_cons (pv 1) pa_nil))) (pss_one (ps_ret (pe_cmpR (op_eqL0 hr.units0) (pe_lc (own := [("part", 2)]) (g := (gName 2)) (by rfl) sc_law_is_claim.nd (pi_tup (pe_ix (show IxR _ (rIxT K) from ix_tup) (pv 1) pe_int (fun _ _ => rfl))) (blkOk_by (own := [("part", 2)]) (N := ["sides", "value", "part"]) (sc := defScope s_law_is_claim) (by decide +kernel)) (fun _ _ _ _ _ => pg_name (i := 2) sc_law_is_claim.nd rfl (Or.inl rfl)) (fun _ _ _ _ _ => pts_one (pt_not (pt_val (pe_call c__law_is_claim.1 (hr.mono (by omega)) rfl c__law_is_claim.2.1 c__law_is_claim.2.2.1 c__law_is_claim.2.2.2 .nil pass0 (pa_cons (pv 0) (pa_cons (pv 2) pa_nil)))))) (fun _ _ _ _ _ => (pv 2))) (pe_lst pa_nil) (nomark _)))) pss_nil)
        (pss_cons (ps_if (pt_val (pe_call c__law_starts.1 (hr.mono (by omega)) rfl c__law_starts.2.1 c__law_starts.2.2.1 c__law_starts.2.2.2 .nil pass0 (pa_cons (pv 1) (pa_cons pe_str (pa_cons pe_int pa_nil))))) (pss_one (ps_ret (pe_call c__law_is_claim.1 (hr.mono (by omega)) rfl c__law_is_claim.2.1 c__law_is_claim.2.2.1 c__law_is_claim.2.2.2 .nil pass0 (pa_cons (pv 0) (pa_cons (pe_ix ix_tup (pv 1) pe_int (fun _ _ => rfl)) pa_nil))))) pss_nil)
        (pss_cons (ps_if (pt_val (pe_call c__law_starts.1 (hr.mono (by omega)) rfl c__law_starts.2.1 c__law_starts.2.2.1 c__law_starts.2.2.2 .nil pass0 (pa_cons (pv 1) (pa_cons pe_str (pa_cons pe_int pa_nil))))) (pss_cons (ps_if (pt_not (pt_val (pe_call c__law_are_own.1 (hr.mono (by omega)) rfl c__law_are_own.2.1 c__law_are_own.2.2.1 c__law_are_own.2.2.2 .nil pass0 (pa_cons (pv 0) (pa_cons (pe_ix ix_tup (pv 1) pe_int (fun _ _ => rfl)) pa_nil))))) (pss_one (ps_ret pe_bl)) pss_nil)
          (pss_one (ps_ret (pe_and (pe_call c__law_is_guard.1 (hr.mono (by omega)) rfl c__law_is_guard.2.1 c__law_is_guard.2.2.1 c__law_is_guard.2.2.2 .nil pass0 (pa_cons (pv 0) (pa_cons (pe_ix ix_tup (pv 1) pe_int (fun _ _ => rfl)) (pa_cons (pe_ix ix_tup (pv 1) pe_int (fun _ _ => rfl)) pa_nil)))) (pe_one (pe_call c__law_is_body.1 (hr.mono (by omega)) rfl c__law_is_body.2.1 c__law_is_body.2.2.1 c__law_is_body.2.2.2 .nil pass0 (pa_cons (pv 0) (pa_cons (pe_ix ix_tup (pv 1) pe_int (fun _ _ => rfl)) (pa_cons (pe_ix ix_tup (pv 1) pe_int (fun _ _ => rfl)) pa_nil))))))))) pss_nil)
        (pss_cons (ps_if (PW.pt (pw_and (pt_val (pe_call c__law_starts.1 (hr.mono (by omega)) rfl c__law_starts.2.1 c__law_starts.2.2.1 c__law_starts.2.2.2 .nil pass0 (pa_cons (pv 1) (pa_cons pe_str (pa_cons pe_int pa_nil))))) (pw_and1 (pt_val (pe_call c__law_is_op.1 (hr.mono (by omega)) rfl c__law_is_op.2.1 c__law_is_op.2.2.1 c__law_is_op.2.2.2 .nil pass0 (pa_cons (pe_ix ix_tup (pv 1) pe_int (fun _ _ => rfl)) (pa_cons (pe_lst (pa_cons pe_str (pa_cons pe_str (pa_cons pe_str pa_nil)))) pa_nil))))))) (pss_one (ps_ret (pe_and (pe_call c__law_is_place.1 (hr.mono (by omega)) rfl c__law_is_place.2.1 c__law_is_place.2.2.1 c__law_is_place.2.2.2 .nil pass0 (pa_cons (pv 0) (pa_cons (pe_ix ix_tup (pv 1) pe_int (fun _ _ => rfl)) (pa_cons (pe_tupF pa_nil) pa_nil)))) (pe_one (pe_call c__law_is_place.1 (hr.mono (by omega)) rfl c__law_is_place.2.1 c__law_is_place.2.2.1 c__law_is_place.2.2.2 .nil pass0 (pa_cons (pv 0) (pa_cons (pe_ix ix_tup (pv 1) pe_int (fun _ _ => rfl)) (pa_cons (pe_tupF pa_nil) pa_nil)))))))) pss_nil)
        (pss_one (ps_ret (pe_and (pe_call c__law_starts.1 (hr.mono (by omega)) rfl c__law_starts.2.1 c__law_starts.2.2.1 c__law_starts.2.2.2 .nil pass0 (pa_cons (pv 1) (pa_cons pe_str (pa_cons pe_int pa_nil)))) (pe_one (pe_call c__law_is_body1.1 (hr.mono (by omega)) rfl c__law_is_body1.2.1 c__law_is_body1.2.2.1 c__law_is_body1.2.2.2 .nil pass0 (pa_cons (pv 0) (pa_cons (pv 1) (pa_cons (pe_tupF pa_nil) pa_nil)))))))))))), ?_⟩
      have hL := sizeLine_eq
      have kk : ∀ {G G' : Hp}, Same G G' → Kp All G G' := fun m => Kp.same m
      have kx : ∀ {G G' : Hp}, Same G G' → Kp ex G G' := fun m => Kp.same m
      refine ⟨_, rfl, ex, _, d, rfl, dv, hc, fun H1 m1 => ⟨_, rfl, ?_⟩⟩
      cases ej : joinD d with
      | true =>
        obtain ⟨z, ds, rfl, hz⟩ := joinI ej
        rw [okN_join hz] at q
        obtain ⟨a, xs, rfl, ht, dl⟩ := dv.tupI
        obtain ⟨a0, a1, rfl, dv0, dv1⟩ := dl.two
        obtain ⟨aB, ys, rfl, tB, dB⟩ := dv1.tupI
        have yl := dB.len
        have cl := costL_len ds
        have cB : costL ds + 4 ≤ 8000000 := by
          simp only [cost, costL] at hc
          omega
        refine iteT ⟨_, rfl, a, _, 1, _, rfl, rfl, ((kx m1).tup ht).sq, rfl, aB, rfl, ⟨_, ((kx m1).tup tB).sq⟩, fun D hD => ?_⟩
        refine lc_o (walk_tup (K := K) (a := aB) (xs := ys)) (selO (fun p => !okN ps ns us j ⟨"claim", [], p⟩) ys ds) (by rw [hL]; omega) hD (fun Hx sm => ((kx (m1.trans sm)).tup tB).sq) ?_ ?_
        · rintro i y Hx H' Nx hi sm hDx ⟨rfl, hy⟩ hno hyes
          obtain ⟨e, he, dve⟩ := dB.get hy
          have hm := List.mem_of_getElem? he
          have mx := m1.trans sm
          have so : selO (fun p => !okN ps ns us j ⟨"claim", [], p⟩) ys ds i = if (!okN ps ns us j ⟨"claim", [], e⟩) then some y else none := by
            unfold selO
            rw [he, hy]
            rfl
          refine ⟨rfl, _, rfl, _, rfl, ex, R, y, va, vp, vv, e, ps, ns, us, rfl, ?_, rc.same mx, sd, dve.kp (kx mx), ?_, fun H2 m2 => ⟨_, rfl, ?_⟩⟩
          · have := depth_tup hm
            have h2 : (PyData.tuple ds).depth < (PyData.tuple [.str z, .tuple ds]).depth := depth_tup (by simp)
            omega
          · exact Nat.le_trans (costL_mem hm) (by omega)
          cases e3 : okN ps ns us j ⟨"claim", [], e⟩ with
          | true =>
            rw [e3] at so
            exact iteF (hno so _ m2)
          | false =>
            rw [e3] at so
            exact iteT ⟨_, rfl, hyes _ so _ m2⟩
        · intro H3 m3 hD3
          rw [sel_range _ _ _ yl] at hD3
          refine ⟨by show 0 ≤ sizeLine; exact Nat.zero_le _, fun L hLn => ⟨D, L, _, rfl, rfl, SqL.of (Same.upd hLn _ _ hD3), SqL.of upd_same, ?_⟩⟩
          rw [selV_empty yl]
          simp only [Bool.not_not]
          exact q _ ((m1.trans m3).trans (Same.upd hLn))
      | false =>
        refine iteF ⟨_, rfl, ex, _, d, "not", 2, rfl, by decide, dv.kp (kx m1), ⟨_, rfl, ?_⟩⟩
        cases en : startD "not" 2 d with
        | true =>
          obtain ⟨ds1, rfl, hl1⟩ := startI en
          obtain ⟨d1, rfl⟩ : ∃ d1, ds1 = [d1] := match ds1, hl1 with | [_], _ => ⟨_, rfl⟩
          rw [okN_not (by decide)] at q
          obtain ⟨a, xs, rfl, ht, dl⟩ := dv.tupI
          obtain ⟨a0, a1, rfl, dv0, dv1⟩ := dl.two
          refine iteT ⟨_, rfl, _, rfl, a, _, 1, a1, rfl, rfl, ((kx m1).tup ht).sq, rfl, ex, R, a1, va, vp, vv, d1, ps, ns, us, rfl, ?_, rc.same m1, sd, dv1.kp (kx m1), cost_tup hc (by simp), fun H2 m2 => q _ (m1.trans m2)⟩
          have : d1.depth < (PyData.tuple [.str "not", d1]).depth := depth_tup (by simp)
          omega
        | false =>
        refine iteF ⟨_, rfl, ex, _, d, "all", 4, rfl, by decide, dv.kp (kx m1), ⟨_, rfl, ?_⟩⟩
        cases ea : startD "all" 4 d with
        | true =>
          obtain ⟨ds3, rfl, hl3⟩ := startI ea
          obtain ⟨d1, d2, d3, rfl⟩ : ∃ d1 d2 d3, ds3 = [d1, d2, d3] := match ds3, hl3 with | [_, _, _], _ => ⟨_, _, _, rfl⟩
          rw [okN_all] at q
          obtain ⟨a, xs, rfl, ht, dl⟩ := dv.tupI
          obtain ⟨a0, a1, a2, a3, rfl, dv0, dv1, dv2, dv3⟩ := dl.four
          have p2 : d2.depth < (PyData.tuple [.str "all", d1, d2, d3]).depth := depth_tup (by simp)
          have p3 : d3.depth < (PyData.tuple [.str "all", d1, d2, d3]).depth := depth_tup (by simp)
          refine iteT ⟨_, rfl, _, rfl, a, _, 1, a1, rfl, rfl, ((kx m1).tup ht).sq, rfl, ex, R, a1, va, vp, vv, d1, ps, ns, us, rfl, rc.same m1, sd, dv1.kp (kx m1), cost_tup hc (by simp), fun H2 m2 => ⟨_, rfl, ?_⟩⟩
          have m2 := m1.trans m2
          cases eo : ownsD ps ns us d1 with
          | false =>
            rw [eo] at q
            exact iteT (q _ m2)
          | true =>
            rw [eo, Bool.true_and] at q
            obtain ⟨es, rfl, e2, e3, e4, e5⟩ := own_names (and_l eo)
            have q2 : ∀ H', Same H H' → Q (.bl (okN ps ns us j ⟨"guard", strsD es, d2⟩ && okN ps ns us j ⟨"body", strsD es, d3⟩)) H' := q
            clear q
            obtain ⟨o, os, rfl, to, dlo⟩ := dv1.tupI
            generalize strsD es = ow at e2 e4 e5 q2
            subst e2
            rw [DvL.strsI dlo] at to
            have lo : ow.length ≤ 5 := by
              rw [List.length_map] at e3
              omega
            refine iteF ⟨_, rfl, _, rfl, a, _, 2, a2, rfl, rfl, ((kx m2).tup ht).sq, rfl, _, rfl, a, _, 1, _, rfl, rfl, ((kx m2).tup ht).sq, rfl, ex, R, o, a2, va, vp, vv, d2, ps, ns, us, ow, rfl, by omega, rc.same m2, sd, dv2.kp (kx m2), cost_tup hc (by simp), (kx m2).tup to, lo, fun H3 m3 => ⟨_, rfl, ?_⟩⟩
            have m3 := m2.trans m3
            cases eg : okN ps ns us j ⟨"guard", ow, d2⟩ with
            | false =>
              rw [eg] at q2
              exact iteF (q2 _ m3)
            | true =>
              rw [eg, Bool.true_and] at q2
              exact iteT ⟨_, rfl, _, rfl, a, _, 3, a3, rfl, rfl, ((kx m3).tup ht).sq, rfl, _, rfl, a, _, 1, _, rfl, rfl, ((kx m3).tup ht).sq, rfl, ex, R, o, a3, va, vp, vv, d3, ps, ns, us, ow, rfl, by omega, rc.same m3, sd, dv3.kp (kx m3), cost_tup hc (by simp), (kx m3).tup to, lo, fun H4 m4 => q2 _ (m3.trans m4)⟩
        | false =>
        rw [okN_claim ej en ea] at q
        refine iteF ⟨_, rfl, ex, _, d, "pos", 4, rfl, by decide, dv.kp (kx m1), ⟨_, rfl, ?_⟩⟩
        cases es : startD "pos" 4 d with
        | true =>
          obtain ⟨ds3, rfl, hl3⟩ := startI es
          obtain ⟨d1, d2, d3, rfl⟩ : ∃ d1 d2 d3, ds3 = [d1, d2, d3] := match ds3, hl3 with | [_, _, _], _ => ⟨_, _, _, rfl⟩
          have q : ∀ H', Same H H' → Q (.bl (if strInD cops d1 then placeD ps ns us [] d2 && placeD ps ns us [] d3 else false)) H' := q
          obtain ⟨a, xs, rfl, ht, dl⟩ := dv.tupI
          obtain ⟨a0, a1, a2, a3, rfl, dv0, dv1, dv2, dv3⟩ := dl.four
          refine iteT ⟨_, rfl, a, _, 1, a1, rfl, rfl, ((kx m1).tup ht).sq, rfl, by show 3 ≤ sizeLine; decide, fun L hLn => ?_⟩
          have m2 := m1.trans (Same.upd (o := .lst [.str "<=", .str "<", .str "=="]) hLn)
          refine ⟨ex, a1, d1, L, cops, rfl, SqL.of upd_same, dv1.kp (kx m2), ⟨_, rfl, ?_⟩⟩
          cases eo : strInD cops d1 with
          | false =>
            rw [eo] at q
            refine iteF ⟨_, rfl, ex, _, _, "val", 4, rfl, by decide, dv.kp (kx m2), ⟨_, rfl, ?_⟩⟩
            rw [start_no (.inl (by decide))]
            exact iteF (q _ m2)
          | true =>
            rw [eo, if_pos rfl] at q
            refine iteT ⟨_, rfl, _, rfl, a, _, 2, a2, rfl, rfl, ((kx m2).tup ht).sq, rfl, by show 0 ≤ sizeLine; exact Nat.zero_le _, fun o3 G3 s3 h3 => ?_⟩
            have m3 := m2.trans s3
            refine ⟨ex, R, o3, a2, va, vp, vv, d2, ps, ns, us, [], rfl, rc.same m3, sd, dv2.kp (kx m3), cost_tup hc (by simp), h3, by decide, fun H4 m4 => ⟨_, rfl, ?_⟩⟩
            have m4 := m3.trans m4
            cases e2 : placeD ps ns us [] d2 with
            | false =>
              rw [e2] at q
              exact iteF (q _ m4)
            | true =>
              rw [e2, Bool.true_and] at q
              refine iteT ⟨_, rfl, _, rfl, a, _, 3, a3, rfl, rfl, ((kx m4).tup ht).sq, rfl, by show 0 ≤ sizeLine; exact Nat.zero_le _, fun o5 G5 s5 h5 => ?_⟩
              have m5 := m4.trans s5
              exact ⟨ex, R, o5, a3, va, vp, vv, d3, ps, ns, us, [], rfl, rc.same m5, sd, dv3.kp (kx m5), cost_tup hc (by simp), h5, by decide, fun H6 m6 => q _ (m5.trans m6)⟩
        | false =>
          refine iteF ⟨_, rfl, ex, _, d, "val", 4, rfl, by decide, dv.kp (kx m1), ⟨_, rfl, ?_⟩⟩
          cases ev : startD "val" 4 d with
          | false =>
            rw [claimL_no es ev] at q
            exact iteF (q _ m1)
          | true =>
            have eb := okN_body (ps := ps) (ns := ns) (us := us) (ow := []) (j := j) ej en
            refine iteT ⟨_, rfl, _, rfl, by show 0 ≤ sizeLine; exact Nat.zero_le _, fun o3 G3 s3 h3 => ?_⟩
            have m3 := m1.trans s3
            refine ⟨ex, R, o3, _, va, vp, vv, d, ps, ns, us, [], rfl, hdp, rc.same m3, sd, dv.kp (kx m3), hc, h3, by decide, fun H4 m4 => ?_⟩
            rw [eb]
            have q2 := q _ (m3.trans m4)
            obtain ⟨ds3, rfl, hl3⟩ := startI ev
            obtain ⟨d1, d2, d3, rfl⟩ : ∃ d1 d2 d3, ds3 = [d1, d2, d3] := match ds3, hl3 with | [_, _, _], _ => ⟨_, _, _, rfl⟩
            have e5 : claimL ps ns us (.tuple [.str "val", d1, d2, d3]) = bodyL ps ns us [] (.tuple [.str "val", d1, d2, d3]) := by
              show (if strInD cops d1 then (if eqS "val" (.str "val") then _ else _) else false) = (eqS "val" (.str "val") && (strInD cops d1 && _))
              rw [show eqS "val" (.str "val") = true by decide +kernel, Bool.true_and]
              cases strInD cops d1 <;> rfl
            rw [← e5]
            exact q2
end
end Kx
namespace Kx
open PySem PySem.Spec PyProof.Rows L2
section
variable {X : Cx}
/-- repr of any datum -/
def rRepr3 : List V → Hp → VK → Prop := fun xs H Q => ∃ v d, xs = [v] ∧ Dv (fun _ => False) H v d ∧ okD d ∧ d.depth ≤ 60 ∧ cost d ≤ sizeLine ∧ Q (.str d.shown) H
theorem call_repr3 {om : Obj} (hK : X.K.lookup sysModules = some om) (hg : X.A.guards = some []) (hu : X.A.units + 64 < cLine) : CallR X (.builtin "repr") rRepr3 := by
  intro pins s σ H xs us Q I r h
  obtain ⟨v, d, rfl, dv, ok, hd, hc, q⟩ := h
  have hsm : H sysModules = none := (I.bs _ _ (I.ok.mod.kin _ _ hK)).2
  obtain ⟨u, rfl, rx⟩ := vals1 r
  have sh := okD_showable d ok
  have fit := Nat.le_trans (shown_le d ok) hc
  have text : ∀ (z : Str) (t : Tok), z = d.shown → ∃ v1 H1, Inv X pins σ H1 { s with toks := s.toks + 1 } ∧ RelV v1 (Value.str z t) ∧ Q v1 H1 := fun z t e => ⟨.str z, H, I.tok _, ⟨t, rfl⟩, e ▸ q⟩
  cases dv with
  | non =>
    cases rx
    exact PySem.P.repr_of_none (text _ _ (by simp only [PyData.shown]))
  | bl b =>
    cases rx
    exact PySem.P.repr_of_bool (text _ _ (by simp only [PyData.shown]))
  | int i =>
    obtain ⟨t, rfl⟩ := rx
    exact PySem.P.repr_of_int (by simpa [PyData.showable] using sh) (text _ _ (by simp only [PyData.shown]))
  | str x =>
    obtain ⟨t, rfl⟩ := rx
    exact PySem.P.repr_of_str (text _ _ (by simp only [PyData.shown])) (by simpa only [PyData.shown] using fit)
  | lst a b c =>
    obtain ⟨as, hr, hs⟩ := Dv.reads I hsm _ _ _ (Dv.lst a b c) rx
    cases rx
    exact repr_of_reads' hr sh (fun _ => hs) hg (by omega) (fun _ _ e => e) (fun h' u tk hk => ⟨.str _, H, I.kept hk, ⟨u, rfl⟩, q⟩) fit
  | tup a b c =>
    obtain ⟨as, hr, hs⟩ := Dv.reads I hsm _ _ _ (Dv.tup a b c) rx
    cases rx
    exact repr_of_reads' hr sh (fun _ => hs) hg (by omega) (fun _ _ e => e) (fun h' u tk hk => ⟨.str _, H, I.kept hk, ⟨u, rfl⟩, q⟩) fit
  | dic a b c =>
    obtain ⟨as, hr, hs⟩ := Dv.reads I hsm _ _ _ (Dv.dic a b c) rx
    cases rx
    exact repr_of_reads' hr sh (fun _ => hs) hg (by omega) (fun _ _ e => e) (fun h' u tk hk => ⟨.str _, H, I.kept hk, ⟨u, rfl⟩, q⟩) fit
end
theorem need_flat {ps : List (Str × Str)} {ns us : List Str} {n : Nd} (h : n.d.depth = 0) : needD ps ns us n = none := by
  obtain ⟨role, ow, d⟩ := n
  cases d with
  | tuple ds => simp only [PyData.depth] at h; omega
  | _ => rfl
theorem okN_more {ps : List (Str × Str)} {ns us : List Str} : ∀ (k : Nat) (n : Nd), n.d.depth ≤ k → okN ps ns us (k + 1) n = okN ps ns us k n
  | 0, n, h => by
    show (match needD ps ns us n with | none => false | some l => l.all (okN ps ns us 0)) = false
    rw [need_flat (by omega)]
  | k + 1, n, h => by
    show (match needD ps ns us n with | none => false | some l => l.all (okN ps ns us (k + 1))) = (match needD ps ns us n with | none => false | some l => l.all (okN ps ns us k))
    cases e : needD ps ns us n with
    | none => rfl
    | some l =>
      have hd := need_depth e
      show l.all (okN ps ns us (k + 1)) = l.all (okN ps ns us k)
      have : ∀ l' : List Nd, (∀ c ∈ l', c.d.depth < n.d.depth) → l'.all (okN ps ns us (k + 1)) = l'.all (okN ps ns us k) := by
        intro l'
        induction l' with
        | nil => intro _; rfl
        | cons c r ih =>
          intro hc
          rw [List.all_cons, List.all_cons, ih fun x hx => hc x (List.mem_cons_of_mem _ hx), okN_more k c (by have := hc c List.mem_cons_self; omega)]
      exact this l hd
theorem okN_same {ps : List (Str × Str)} {ns us : List Str} {n : Nd} {a b : Nat} (ha : n.d.depth ≤ a) (hab : a ≤ b) : okN ps ns us b n = okN ps ns us a n := by
  obtain ⟨k, rfl⟩ : ∃ k, b = a + k := ⟨b - a, by omega⟩
  induction k with
  | zero => rfl
  | succ k ih =>
    rw [← ih (by omega)]
    exact okN_more (a + k) n (by omega)
theorem bools_ok (a b c : Bool) : okD (.list [.bool a, .bool b, .bool c]) ∧ (PyData.list [.bool a, .bool b, .bool c]).depth ≤ 60 ∧ cost (.list [.bool a, .bool b, .bool c]) ≤ sizeLine := by
  refine ⟨?_, ?_, ?_⟩
  · simp only [okD, okL, and_self]
  · simp [PyData.depth, PyData.depthAll]
  · simp only [cost, costL]
    have := sizeLine_eq
    omega
section
variable {P : Program} {w : World} {K : PySem.W.Frag} {mg : Str → Option Value} {base : Heap}
abbrev N_law_all_judged : List Str := ["sides", "frame", "own", "value", "due", "text", "turn", "told"]
abbrev P_law_all_judged : List Str := ["sides", "frame", "own", "value"]
theorem sc_law_all_judged : FnScope N_law_all_judged P_law_all_judged (defScope s_law_all_judged) := ⟨rfl, rfl, rfl, by decide +kernel, rfl, by decide +kernel, by decide +kernel⟩
def spAJ (C : Addr) : Sp := fun vs H Q _ => ∃ (ex : Addr → Prop) (R x o : Addr) (v va vp vv wa wp wv : V) (d : PyData) (ps : List (Str × Str)) (ns us ow : List Str), vs = [.ref R, .ref x, .ref o, v] ∧ RecAt H R va vp vv ps ns us ∧ Sides ps ns us ∧ FrameAt C H x wa wp wv ps ns us ∧ TupF H o (ow.map V.str) ∧ OwnTup ps ns us ow ∧ Dv ex H v d ∧ d.depth ≤ 12 ∧ cost d ≤ 8000000 ∧ okD d ∧ ∀ H', Same H H' → Q (.bl true) H'
theorem ok_aj {om : Obj} (hK : K.lookup sysModules = some om) (T : Bt mg) {C : Addr} (h : Has K mg "_law_all_judged" s_law_all_judged) (C1 : ∀ j : Nat, Ca P w K mg base (6 + j) "_law_is_claim" P_law_is_claim (spJC j)) (C2 : ∀ j : Nat, Ca P w K mg base (3 + j) "_law_is_guard" P_law_is_guard (spJN "guard" j)) (C3 : ∀ j : Nat, Ca P w K mg base (4 + j) "_law_is_body" P_law_is_body (spJN "body" j))
    (D1 : Ca P w K mg base 9 "is_claim" P_is_claim (spIC C)) (D2 : Ca P w K mg base 9 "is_guard" P_is_guard (spIG C "guard")) (D3 : Ca P w K mg base 9 "is_body" P_is_body (spIG C "body")) : CaG P w K mg base 20 "_law_all_judged" P_law_all_judged (spAJ C) := by
  obtain ⟨_, _, c__law_is_claim⟩ := C1 13
  obtain ⟨_, _, c__law_is_guard⟩ := C2 13
  obtain ⟨_, _, c__law_is_body⟩ := C3 13
  obtain ⟨_, _, c_is_claim⟩ := D1
  obtain ⟨_, _, c_is_guard⟩ := D2
  obtain ⟨_, _, c_is_body⟩ := D3
  refine calG_of h sc_law_all_judged (fun _ _ _ _ _ _ us hl => match us, hl with | [_, _, _, _], _ => rfl) (fun vs H Q E h => ?_) (fun f cdv A outer s H vs Q E hgd hr h => ?_)
  · obtain ⟨ex, R, x, o, v, va, vp, vv, wa, wp, wv, d, ps, ns, us, ow, rfl, _⟩ := h
    rfl
  · obtain ⟨ex, R, x, o, v, va, vp, vv, wa, wp, wv, d, ps, ns, us, ow, rfl, rc, sd, fr, to, hw, dv, hdp, hc, hok, k⟩ := h
    refine ⟨_, (pss_cons (ps_set (i := 4) sc_law_all_judged.nd rfl (.inl rfl) (pe_lst (pa_cons (pe_call c__law_is_claim.1 (hr.mono (by decide)) rfl c__law_is_claim.2.1 c__law_is_claim.2.2.1 c__law_is_claim.2.2.2 .nil pass0 (pa_cons (pv 0) (pa_cons (pv 3) pa_nil))) (pa_cons (pe_call c__law_is_guard.1 (hr.mono (by decide)) rfl c__law_is_guard.2.1 c__law_is_guard.2.2.1 c__law_is_guard.2.2.2 .nil pass0 (pa_cons (pv 0) (pa_cons (pv 3) (pa_cons (pv 2) pa_nil)))) (pa_cons (pe_call c__law_is_body.1 (hr.mono (by decide)) rfl c__law_is_body.2.1 c__law_is_body.2.2.1 c__law_is_body.2.2.2 .nil pass0 (pa_cons (pv 0) (pa_cons (pv 3) (pa_cons (pv 2) pa_nil)))) pa_nil)))))
      (pss_cons (ps_set (i := 5) sc_law_all_judged.nd rfl (.inl rfl) (pe_callB (call_repr3 hK hgd hr.units) (by rfl) T.repr (by decide +kernel) (pa_cons (pv 3) pa_nil)))
      (pss_cons (ps_for PassesOwn.never rfl (pi_range1 rfl T.range (pa_cons pe_int pa_nil)) (pg_name (i := 6) sc_law_all_judged.nd rfl (.inl rfl))
        (pss_cons (ps_set (i := 7) sc_law_all_judged.nd rfl (.inl rfl) (pe_lst (pa_cons (pe_call c_is_claim.1 (hr.mono (by decide)) rfl c_is_claim.2.1 c_is_claim.2.2.1 c_is_claim.2.2.2 .nil pass0 (pa_cons (pv 1) (pa_cons (pv 3) pa_nil))) (pa_cons (pe_call c_is_guard.1 (hr.mono (by decide)) rfl c_is_guard.2.1 c_is_guard.2.2.1 c_is_guard.2.2.2 .nil pass0 (pa_cons (pv 1) (pa_cons (pv 2) (pa_cons (pv 3) pa_nil)))) (pa_cons (pe_call c_is_body.1 (hr.mono (by decide)) rfl c_is_body.2.1 c_is_body.2.2.1 c_is_body.2.2.2 .nil pass0 (pa_cons (pv 1) (pa_cons (pv 2) (pa_cons (pv 3) pa_nil)))) pa_nil)))))
        (pss_one (ps_if (PW.pt (pw_or (pt_cmpR op_ne (pe_callB (call_repr3 hK hgd hr.units) (by rfl) T.repr (by decide +kernel) (pa_cons (pv 7) pa_nil)) (pe_callB (call_repr3 hK hgd hr.units) (by rfl) T.repr (by decide +kernel) (pa_cons (pv 4) pa_nil)) (nomark _)) (pw_or1 (pt_cmpR op_ne (pe_callB (call_repr3 hK hgd hr.units) (by rfl) T.repr (by decide +kernel) (pa_cons (pv 3) pa_nil)) (pv 5) (nomark _))))) (pss_one (ps_ret pe_bl)) pss_nil))))
      (pss_one (ps_ret pe_bl))))), ?_⟩
    have hL := sizeLine_eq
    have lo : ow.length ≤ 5 := by
      have := hw.2.1
      omega
    have kk : ∀ {G G' : Hp}, Same G G' → Kp All G G' := fun m => Kp.same m
    have kx : ∀ {G G' : Hp}, Same G G' → Kp ex G G' := fun m => Kp.same m
    have rep : ∀ {G : Hp}, Same H G → Dv (fun _ => False) G v d ∧ okD d ∧ d.depth ≤ 60 ∧ cost d ≤ sizeLine := fun m => ⟨(dv.kp (kx m)).mono Kp.refl fun _ z => z.elim, hok, by omega, by omega⟩
    refine ⟨_, rfl, _, rfl, ex, R, v, va, vp, vv, d, ps, ns, us, rfl, by omega, rc, sd, dv, hc, fun H1 m1 => ?_⟩
    refine ⟨_, rfl, _, rfl, _, rfl, ex, R, o, v, va, vp, vv, d, ps, ns, us, ow, rfl, by omega, rc.same m1, sd, dv.kp (kx m1), hc, (kx m1).tup to, lo, fun H2 m2 => ?_⟩
    have m2 := m1.trans m2
    refine ⟨_, rfl, _, rfl, _, rfl, ex, R, o, v, va, vp, vv, d, ps, ns, us, ow, rfl, by omega, rc.same m2, sd, dv.kp (kx m2), hc, (kx m2).tup to, lo, fun H3 m3 => ?_⟩
    have m3 := m2.trans m3
    rw [okN_same (a := d.depth + 1) (b := 13) (n := ⟨"guard", ow, d⟩) (Nat.le_succ _) (by omega), okN_same (a := d.depth + 1) (b := 13) (n := ⟨"body", ow, d⟩) (Nat.le_succ _) (by omega), okN_same (a := 12) (b := 13) (n := ⟨"claim", [], d⟩) hdp (by decide)]
    generalize e1 : okN ps ns us 12 ⟨"claim", [], d⟩ = b1
    generalize e2 : okN ps ns us (d.depth + 1) ⟨"guard", ow, d⟩ = b2
    generalize e3 : okN ps ns us (d.depth + 1) ⟨"body", ow, d⟩ = b3
    refine ⟨by show 3 ≤ sizeLine; decide, fun L hLn => ?_⟩
    have m4 := m3.trans (Same.upd (o := .lst [.bl b1, .bl b2, .bl b3]) hLn)
    have eL : (upd H3 L (.lst [.bl b1, .bl b2, .bl b3])) L = some (.lst [.bl b1, .bl b2, .bl b3]) := upd_same
    generalize upd H3 L (.lst [.bl b1, .bl b2, .bl b3]) = H4 at m4 eL ⊢
    obtain ⟨r1, r2, r3, r4⟩ := rep m4
    refine ⟨_, rfl, v, d, rfl, r1, r2, r3, r4, ?_⟩
    refine ⟨2, rfl, by decide, by decide, for_it (walk_range (lo := 0) (n := 2)) (fun i σ G => ∃ v6 v7 : Option V, σ = [some (.ref R), some (.ref x), some (.ref o), some v, some (.ref L), some (.str d.shown), v6, v7] ∧ Same H4 G)
      ⟨none, none, rfl, Same.refl⟩ (fun _ _ _ _ _ => trivial) ?_ ?_⟩
    · rintro i y σ G G' hi ⟨v6, v7, rfl, sm⟩ ⟨rfl, rfl⟩
      have n1 := m4.trans sm
      refine ⟨_, rfl, _, rfl, ex, x, wa, wp, wv, v, d, ps, ns, us, rfl, fr.same n1, dv.kp (kx n1), hc, fun G1 s1 => ?_⟩
      have n2 := n1.trans s1
      refine ⟨_, rfl, _, rfl, _, rfl, ex, x, o, wa, wp, wv, v, d, ps, ns, us, ow, rfl, fr.same n2, (kx n2).tup to, hw, dv.kp (kx n2), hc, fun G2 s2 => ?_⟩
      have n3 := n2.trans s2
      refine ⟨_, rfl, _, rfl, _, rfl, ex, x, o, wa, wp, wv, v, d, ps, ns, us, ow, rfl, fr.same n3, (kx n3).tup to, hw, dv.kp (kx n3), hc, fun G3 s3 => ?_⟩
      have n4 := n3.trans s3
      rw [e1, e2, e3]
      refine ⟨by show 3 ≤ sizeLine; decide, fun L2 hL2 => ?_⟩
      have s5 := (((sm.trans s1).trans s2).trans s3).trans (Same.upd (o := .lst [.bl b1, .bl b2, .bl b3]) hL2)
      have n5 := n4.trans (Same.upd (o := .lst [.bl b1, .bl b2, .bl b3]) hL2)
      have eL2 : (upd G3 L2 (.lst [.bl b1, .bl b2, .bl b3])) L2 = some (.lst [.bl b1, .bl b2, .bl b3]) := upd_same
      generalize upd G3 L2 (.lst [.bl b1, .bl b2, .bl b3]) = G5 at s5 n5 eL2 ⊢
      have bo := bools_ok b1 b2 b3
      refine ⟨_, rfl, .ref L2, .list [.bool b1, .bool b2, .bool b3], rfl, Dv.lst id eL2 (.cons (.bl _) (.cons (.bl _) (.cons (.bl _) .nil))), bo.1, bo.2.1, bo.2.2, ?_⟩
      refine ⟨_, rfl, .ref L, .list [.bool b1, .bool b2, .bool b3], rfl, Dv.lst id (s5 _ _ eL) (.cons (.bl _) (.cons (.bl _) (.cons (.bl _) .nil))), bo.1, bo.2.1, bo.2.2, rfl, _, rfl, ?_⟩
      rw [decide_eq_true (rfl : V.str (PyData.list [.bool b1, .bool b2, .bool b3]).shown = V.str (PyData.list [.bool b1, .bool b2, .bool b3]).shown)]
      obtain ⟨g1, g2, g3, g4⟩ := rep n5
      refine iteF ⟨_, rfl, v, d, rfl, g1, g2, g3, g4, _, rfl, rfl, _, rfl, ?_⟩
      rw [decide_eq_true (rfl : V.str d.shown = V.str d.shown)]
      exact iteF ⟨_, _, rfl, s5⟩
    · rintro σ G ⟨v6, v7, rfl, sm⟩
      exact k _ (m4.trans sm)
end
end Kx
namespace Kx
open PySem PySem.Spec PyProof.Rows L2
/-- a datum within bounds; only p may change -/
def Dt (p : Addr) (H : Hp) (v : V) (c k : Nat) : Prop := ∃ d, Dv (fun a => a = p) H v d ∧ cost d ≤ c ∧ okD d ∧ d.depth ≤ k
theorem Dt.kp {p : Addr} {H H' : Hp} {v : V} {c k : Nat} (h : Dt p H v c k) (m : KpP p H H') : Dt p H' v c k := let ⟨d, a, b⟩ := h; ⟨d, a.kp m, b⟩
theorem Dt.up {p : Addr} {H : Hp} {v : V} {c k c' k' : Nat} (h : Dt p H v c k) (hc : c ≤ c') (hk : k ≤ k') : Dt p H v c' k' := let ⟨d, a, b, e, f⟩ := h; ⟨d, a, by omega, e, by omega⟩
def Dts (p : Addr) (H : Hp) (vs : List V) (c k n : Nat) : Prop := ∃ ds, DvL (fun a => a = p) H vs ds ∧ costL ds ≤ c ∧ okL ds ∧ PyData.depthAll ds ≤ k ∧ ds.length = n
/-- an expression that makes a small datum -/
structure Mk (p : Addr) (σ : L2.St) (te : TE) (c k : Nat) : Prop where
  go : ∀ (H : Hp) (Q : VK), H p ≠ none → (∀ v H', Same H H' → Dt p H' v c k → Q v H') → te σ H Q
structure Mks (p : Addr) (σ : L2.St) (ta : TA) (c k n : Nat) : Prop where
  go : ∀ (H : Hp) (Q : List V → Hp → Prop), H p ≠ none → (∀ vs H', Same H H' → Dts p H' vs c k n → Q vs H') → ta σ H Q
structure Mka (p : Addr) (σ : L2.St) (ta : TA) (c k n : Nat) : Prop where
  go : ∀ (H : Hp) (Q : List V → Hp → Prop), H p ≠ none → (∀ vs H', Same H H' → vs.length = n → (∀ v ∈ vs, Dt p H' v c k) → Q vs H') → ta σ H Q
theorem hold {p : Addr} {H H' : Hp} (h : H p ≠ none) (m : Same H H') : H' p ≠ none := by
  cases e : H p with
  | none => exact absurd e h
  | some o => rw [m _ _ e]; simp
section
variable {p : Addr} {σ : L2.St}
theorem Mk.str {z : Str} (hz : okS z) (hl : z.length ≤ 9) : Mk p σ (tC (.str z)) 200 0 := ⟨fun H Q _ k => k _ _ Same.refl ⟨_, .str z, by simp only [cost]; omega, hz, by simp only [PyData.depth]; omega⟩⟩
theorem Mk.non : Mk p σ (tC .non) 200 0 := ⟨fun H Q _ k => k _ _ Same.refl ⟨_, .non, by simp only [cost]; omega, trivial, by simp only [PyData.depth]; omega⟩⟩
theorem Mk.bl {b : Bool} : Mk p σ (tC (.bl b)) 200 0 := ⟨fun H Q _ k => k _ _ Same.refl ⟨_, .bl b, by simp only [cost]; omega, trivial, by simp only [PyData.depth]; omega⟩⟩
theorem Mk.int {i : Int} (hi : i.natAbs < 10 ^ 100) : Mk p σ (tC (.int i)) 200 0 := ⟨fun H Q _ k => k _ _ Same.refl ⟨_, .int i, by simp only [cost]; omega, hi, by simp only [PyData.depth]; omega⟩⟩
theorem Mk.var {i : Nat} {z : Str} (e : σ[i]? = some (some (.str z))) (hz : okS z) (hl : z.length ≤ 9) : Mk p σ (tVar i) 200 0 := ⟨fun H Q _ k => ⟨_, e, k _ _ Same.refl ⟨_, .str z, by simp only [cost]; omega, hz, by simp only [PyData.depth]; omega⟩⟩⟩
theorem Mks.nil : Mks p σ tNil 0 0 0 := ⟨fun H Q _ k => k _ _ Same.refl ⟨[], .nil, by simp [costL], trivial, by simp [PyData.depthAll], rfl⟩⟩
theorem Mks.cons {te : TE} {ta : TA} {c k c2 k2 n : Nat} (a : Mk p σ te c k) (b : Mks p σ ta c2 k2 n) : Mks p σ (tCons te ta) (c + c2 + 2) (max k k2) (n + 1) := ⟨fun H Q hp q =>
  a.go H _ hp fun v H1 s1 d1 => b.go H1 _ (hold hp s1) fun vs H2 s2 ⟨ds, b1, b2, b3, b4, b5⟩ => by
    obtain ⟨d, a1, a2, a3, a4⟩ := d1
    refine q _ _ (s1.trans s2) ⟨d :: ds, .cons (a1.kp (Kp.same s2)) b1, by simp only [costL]; omega, ⟨a3, b3⟩, by simp only [PyData.depthAll]; omega, by simp only [List.length_cons]; omega⟩⟩
theorem Mka.nil {c k : Nat} : Mka p σ tNil c k 0 := ⟨fun H Q _ q => q _ _ Same.refl rfl fun v h => by cases h⟩
theorem Mka.cons {te : TE} {ta : TA} {c k c2 k2 n : Nat} (a : Mk p σ te c k) (hc : c ≤ c2) (hk : k ≤ k2) (b : Mka p σ ta c2 k2 n) : Mka p σ (tCons te ta) c2 k2 (n + 1) := ⟨fun H Q hp q =>
  a.go H _ hp fun v H1 s1 d1 => b.go H1 _ (hold hp s1) fun vs H2 s2 hl hv => q _ _ (s1.trans s2) (by rw [List.length_cons, hl]) fun x hx => by
    rcases List.mem_cons.mp hx with rfl | hx
    · exact (d1.kp (Kp.same s2)).up hc hk
    · exact hv x hx⟩
theorem Mk.tup {ta : TA} {c k n : Nat} (a : Mks p σ ta c k n) (hn : n ≤ 100) : Mk p σ (tTupF ta) (c + 3) (k + 1) := ⟨fun H Q hp q =>
  a.go H _ hp fun vs H1 s1 ⟨ds, b1, b2, b3, b4, b5⟩ => ⟨by have := b1.len; have := sizeLine_eq; omega, fun t H2 s2 ht => q _ _ (s1.trans s2) ⟨.tuple ds, .tupM ht (b1.kp (Kp.same s2)), by simp only [cost]; omega, b3, by simp only [PyData.depth]; omega⟩⟩⟩
theorem Mk.lst {ta : TA} {c k n : Nat} (a : Mks p σ ta c k n) (hn : n ≤ 100) : Mk p σ (tLst ta) (c + 3) (k + 1) := ⟨fun H Q hp q =>
  a.go H _ hp fun vs H1 s1 ⟨ds, b1, b2, b3, b4, b5⟩ => ⟨by have := b1.len; have := sizeLine_eq; omega, fun L hL => q _ _ (s1.trans (Same.upd hL)) ⟨.list ds, .lst (fun e => hold hp s1 (e ▸ hL)) upd_same (b1.kp (Kp.same (Same.upd hL))), by simp only [cost]; omega, b3, by simp only [PyData.depth]; omega⟩⟩⟩
theorem Mk.neg : Mk p σ (tUn (rU fun i => V.int (-i)) (tC (V.int 1))) 200 0 := ⟨fun H Q _ k => ⟨_, rfl, k _ _ Same.refl ⟨_, .int _, by simp only [cost]; omega, show (-1 : Int).natAbs < 10 ^ 100 by decide +kernel, by simp only [PyData.depth]; omega⟩⟩⟩
theorem Mk.pow : Mk p σ (tOp (rI CPow fun i j => V.int (i ^ j.toNat)) (tC (V.int 10)) (tC (V.int 60))) 200 0 := ⟨fun H Q _ k => ⟨_, _, rfl, rfl, ⟨by decide, by decide, by decide⟩, k _ _ Same.refl ⟨_, .int _, by simp only [cost]; omega, show (10 ^ (60 : Int).toNat : Int).natAbs < 10 ^ 100 by decide +kernel, by simp only [PyData.depth]; omega⟩⟩⟩
theorem Mka.lstAt {ta : TA} {n : Nat} {H : Hp} {Q : VK} (m : Mka p σ ta 3000 3 n) (hn : n ≤ 100) (hp : H p ≠ none) (q : ∀ vs L H', Same H H' → H' L = some (.lst vs) → vs.length = n → (∀ v ∈ vs, Dt p H' v 3000 3) → Q (.ref L) H') : tLst ta σ H Q :=
  m.go H _ hp fun vs H1 s1 hl hv => ⟨by have := sizeLine_eq; omega, fun L hL => q vs L _ (s1.trans (Same.upd hL)) upd_same hl fun v hx => (hv v hx).kp (Kp.same (Same.upd hL))⟩
theorem Mk.dict : Mk p σ tDNewK 200 1 := ⟨fun H Q hp q D hD => q _ _ (Same.upd hD) ⟨.dict [], .dic (fun e => hp (e ▸ hD)) upd_same .nil, by simp only [cost, costK]; omega, trivial, by decide +kernel⟩⟩
end
section
variable {P : Program} {w : World} {K : PySem.W.Frag} {mg : Str → Option Value} {base : Heap}
def OD9 : List Str := ["", "k", "kk", "z", "own", "K", "ninelette", "not", "*1"]
theorem od9_ok : ∀ z ∈ OD9, okS z ∧ z.length ≤ 9 := by
  have h : (OD9.all fun z => (z.cps.toList.all fun c => decide (c < 128)) && decide (z.length ≤ 9)) = true := by decide +kernel
  intro z hz
  have := List.all_eq_true.mp h z hz
  exact ⟨okS_by (and_l this), of_decide_eq_true (and_r this)⟩
theorem w14_9 : ∀ z ∈ W14, okS z ∧ z.length ≤ 9 := by
  have h : (W14.all fun z => (z.cps.toList.all fun c => decide (c < 128)) && decide (z.length ≤ 9)) = true := by decide +kernel
  intro z hz
  have := List.all_eq_true.mp h z hz
  exact ⟨okS_by (and_l this), of_decide_eq_true (and_r this)⟩
theorem PotAt.some {H : Hp} {p : Addr} {n : Nat} (h : PotAt H p n) : H p ≠ none := by
  obtain ⟨a, b, c, e, _⟩ := h
  rw [e]
  simp
abbrev N_law_odd : List Str := ["keg", "sides", "value", "names", "name", "some"]
abbrev P_law_odd : List Str := ["keg", "sides", "value"]
theorem sc_law_odd : FnScope N_law_odd P_law_odd (defScope s_law_odd) := ⟨rfl, rfl, rfl, by decide +kernel, rfl, by decide +kernel, by decide +kernel⟩
def spOd : Sp := fun vs H Q _ => ∃ (p R : Addr) (n : Nat) (va vp vv v : V) (ps : List (Str × Str)) (ns us : List Str), vs = [.ref p, .ref R, v] ∧ PotAt H p n ∧ n ≤ 800000 ∧ R ≠ p ∧ RecAt H R va vp vv ps ns us ∧ Sides ps ns us ∧
  ∀ (v : V) (H' : Hp), Dt p H' v 3000 3 → PotAt H' p (n + 2) → KpP p H H' → Q v H'
theorem ok_od (T : Bt mg) (h : Has K mg "_law_odd" s_law_odd) (C2 : Ca P w K mg base 2 "_law_choice" P_law_choice spChoice) (C3 : Ca P w K mg base 1 "_law_all_names" P_law_all_names spAN) : Ca P w K mg base 3 "_law_odd" P_law_odd spOd := by
  obtain ⟨_, _, c__law_choice⟩ := C2
  obtain ⟨_, _, c__law_all_names⟩ := C3
  refine cal_of h sc_law_odd (fun _ _ _ _ _ _ us hl => match us, hl with | [_, _, _], _ => rfl) (fun vs H Q E h => ?_) (fun f cdv A outer s H vs Q E hr h => ?_)
  · obtain ⟨p, R, n, va, vp, vv, v, ps, ns, us, rfl, _⟩ := h
    rfl
  · obtain ⟨p, R, n, va, vp, vv, v, ps, ns, us, rfl, hp, hn, hRp, rc, sd, k⟩ := h
    refine ⟨_, (pss_cons (ps_set (i := 3) sc_law_odd.nd rfl (.inl rfl) (pe_op op_cat (pe_call c__law_all_names.1 (hr.mono (by decide)) rfl c__law_all_names.2.1 c__law_all_names.2.2.1 c__law_all_names.2.2.2 .nil pass0 (pa_cons (pv 1) pa_nil)) (pe_lst (pa_cons pe_str (pa_cons pe_str (pa_cons pe_str (pa_cons pe_str (pa_cons pe_str (pa_cons pe_str (pa_cons pe_str (pa_cons pe_str (pa_cons pe_str pa_nil))))))))))))
      (pss_cons (ps_set (i := 4) sc_law_odd.nd rfl (.inl rfl) (pe_call c__law_choice.1 (hr.mono (by decide)) rfl c__law_choice.2.1 c__law_choice.2.2.1 c__law_choice.2.2.2 .nil pass0 (pa_cons (pv 0) (pa_cons (pv 3) pa_nil))))
      (pss_cons (ps_set (i := 5) sc_law_odd.nd rfl (.inl rfl) (pe_lst (pa_cons (pv 4) (pa_cons (pe_tupF (pa_cons (pv 4) (pa_cons pe_int pa_nil))) (pa_cons (pe_tupF (pa_cons (pv 4) (pa_cons pe_int pa_nil))) (pa_cons (pe_tupF (pa_cons (pv 4) (pa_cons (pe_un un_neg pe_int) pa_nil))) (pa_cons (pe_tupF (pa_cons pe_str (pa_cons (pe_op op_pow pe_int pe_int) pa_nil))) (pa_cons (pe_tupF (pa_cons (pv 4) (pa_cons pe_bl pa_nil))) (pa_cons (pe_tupF (pa_cons (pv 4) (pa_cons pe_non pa_nil))) (pa_cons (pe_tupF (pa_cons (pv 4) pa_nil)) (pa_cons pe_non (pa_cons pe_int (pa_cons pe_bl pa_nil)))))))))))))
      (pss_cons (ps_set (i := 5) sc_law_odd.nd rfl (.inl rfl) (pe_op op_cat (pv 5) (pe_lst (pa_cons (pe_tupF (pa_cons (pv 4) (pa_cons pe_str (pa_cons pe_int (pa_cons pe_int pa_nil))))) (pa_cons (pe_tupF (pa_cons (pv 4) (pa_cons (pv 4) (pa_cons pe_int (pa_cons pe_int pa_nil))))) (pa_cons (pe_tupF (pa_cons (pv 4) (pa_cons pe_str (pa_cons pe_int (pa_cons pe_int pa_nil))))) (pa_cons (pe_tupF (pa_cons (pv 4) (pa_cons pe_str (pa_cons pe_int (pa_cons pe_int pa_nil))))) (pa_cons (pe_tupF (pa_cons (pv 4) (pa_cons pe_str (pa_cons pe_int (pa_cons pe_str pa_nil))))) pa_nil))))))))
      (pss_cons (ps_set (i := 5) sc_law_odd.nd rfl (.inl rfl) (pe_op op_cat (pv 5) (pe_lst (pa_cons (pe_tupF (pa_cons pe_str (pa_cons (pe_tupF pa_nil) pa_nil))) (pa_cons (pe_tupF (pa_cons pe_str (pa_cons (pe_lst pa_nil) pa_nil))) (pa_cons (pe_tupF (pa_cons pe_str (pa_cons (pe_tupF pa_nil) pa_nil))) (pa_cons (pe_tupF (pa_cons pe_str (pa_cons (pe_tupF (pa_cons pe_non pa_nil)) pa_nil))) (pa_cons (pe_lst pa_nil) (pa_cons pe_dnewK (pa_cons (pe_tupF pa_nil) (pa_cons pe_str (pa_cons pe_str (pa_cons pe_str (pa_cons pe_str (pa_cons pe_str pa_nil)))))))))))))))
      (pss_cons (ps_set (i := 5) sc_law_odd.nd rfl (.inl rfl) (pe_op op_cat (pv 5) (pe_lst (pa_cons (pe_tupF (pa_cons pe_str (pa_cons pe_str (pa_cons (pe_tupF (pa_cons pe_str (pa_cons pe_int pa_nil))) (pa_cons (pe_tupF (pa_cons (pv 4) (pa_cons pe_int pa_nil))) pa_nil))))) (pa_cons (pe_tupF (pa_cons pe_str (pa_cons pe_str (pa_cons (pe_tupF (pa_cons pe_str (pa_cons pe_int pa_nil))) (pa_cons (pe_tupF (pa_cons pe_str (pa_cons pe_int pa_nil))) pa_nil))))) pa_nil)))))
      (pss_cons (ps_expr (pe_bm PySem.F.plainAttrs_list PySem.F.slot_list_append PySem.F.type_list_append mt_append (pv 5) (pa_cons (pe_tupF (pa_cons pe_str (pa_cons pe_str (pa_cons (pe_tupF (pa_cons (pv 4) (pa_cons pe_int pa_nil))) (pa_cons (pe_tupF (pa_cons pe_str (pa_cons pe_int pa_nil))) pa_nil))))) pa_nil)))
      (pss_cons (ps_set (i := 5) sc_law_odd.nd rfl (.inl rfl) (pe_op op_cat (pv 5) (pe_lst (pa_cons (pe_tupF (pa_cons pe_str (pa_cons (pe_tupF (pa_cons pe_str pa_nil)) (pa_cons (pe_tupF (pa_cons pe_str (pa_cons (pe_tupF pa_nil) pa_nil))) (pa_cons (pe_tupF (pa_cons pe_str (pa_cons (pe_tupF pa_nil) pa_nil))) pa_nil))))) (pa_cons (pe_tupF (pa_cons pe_str pa_nil)) (pa_cons (pe_tupF (pa_cons pe_str (pa_cons pe_str pa_nil))) (pa_cons (pe_tupF (pa_cons pe_str (pa_cons pe_str pa_nil))) (pa_cons (pe_tupF (pa_cons (pv 4) (pa_cons pe_str pa_nil))) (pa_cons (pe_lst (pa_cons pe_str pa_nil)) pa_nil)))))))))
      (pss_cons (ps_set (i := 5) sc_law_odd.nd rfl (.inl rfl) (pe_op op_cat (pv 5) (pe_lst (pa_cons pe_str (pa_cons pe_str (pa_cons pe_str (pa_cons pe_str (pa_cons pe_str (pa_cons pe_str (pa_cons pe_str (pa_cons (pe_tupF (pa_cons pe_str (pa_cons pe_str (pa_cons (pe_tupF (pa_cons pe_str (pa_cons pe_int pa_nil))) (pa_cons (pe_tupF (pa_cons (pv 4) (pa_cons pe_int pa_nil))) pa_nil))))) (pa_cons pe_int (pa_cons (pe_un un_neg pe_int) pa_nil)))))))))))))
      (pss_one (ps_ret (pe_call c__law_choice.1 (hr.mono (by decide)) rfl c__law_choice.2.1 c__law_choice.2.2.1 c__law_choice.2.2.2 .nil pass0 (pa_cons (pv 0) (pa_cons (pv 5) pa_nil)))))))))))))), ?_⟩
    have hL := sizeLine_eq
    refine ⟨_, rfl, R, va, vp, vv, ps, ns, us, rfl, rc, fun D H1 hD m1 e1 => ⟨by show 9 ≤ sizeLine; decide, fun L hLn => ?_⟩⟩
    have l1 : (anL ps ns us).length ≤ 100 := by
      have := sd.l1
      have := sd.l2
      have := sd.l3
      simp only [anL, List.length_append, List.length_map]
      omega
    have m2 : Same H1 (upd H1 L (.lst (OD9.map V.str))) := Same.upd hLn
    refine ⟨D, L, _, _, rfl, rfl, m2 _ _ e1, upd_same, by rw [List.length_map]; show _ + 9 ≤ _; omega, fun D2 hD2 => ?_⟩
    have m3 : Same H (upd (upd H1 L (.lst (OD9.map V.str))) D2 (.lst ((anL ps ns us).map V.str ++ OD9.map V.str))) := (m1.trans m2).trans (Same.upd hD2)
    refine ⟨_, rfl, _, rfl, p, n, .ref D2, _, rfl, hp.same m3, by omega, .inl ⟨D2, rfl, fun e => hold hp.some (m1.trans m2) (e ▸ hD2), upd_same⟩, by rw [List.length_append]; show 1 ≤ _ + 9; omega, by rw [List.length_append, List.length_map]; show _ + 9 ≤ 1000; omega, fun i v4 H4 hv hp4' hk4 => ?_⟩
    obtain ⟨z, rfl, hzo, hzl⟩ : ∃ z, v4 = .str z ∧ okS z ∧ z.length ≤ 9 := by
      have hm := List.mem_of_getElem? hv
      rcases (List.mem_append.mp hm : _ ∨ v4 ∈ OD9.map V.str) with h | h
      · obtain ⟨z, hz, rfl⟩ := List.mem_map.mp h
        have n := w14_9 z (sd.w14 z hz)
        exact ⟨z, rfl, n.1, n.2⟩
      · obtain ⟨z, hz, rfl⟩ := List.mem_map.mp h
        have n := od9_ok z hz
        exact ⟨z, rfl, n.1, n.2⟩
    have k4 : KpP p H H4 := (Kp.same m3).trans hk4
    have hp4 : H4 p ≠ none := hp4'.some
    clear hv hk4 m3 hD2 m2 hLn
    dsimp only [gName]
    change (tSeq _ _) _ [some (V.ref p), some (V.ref R), some v, some (V.ref D2), some (V.str z), none] H4
    dsimp only [tSeq, tAsg]
    refine Mka.lstAt (n := 11) (by repeat' (first | exact Mka.nil | exact Mks.nil | exact Mk.non | exact Mk.bl | exact Mk.var rfl hzo hzl | exact Mk.int (by decide +kernel) | exact Mk.str (okS_by (by decide +kernel)) (by decide +kernel) | exact Mk.neg | exact Mk.pow | exact Mk.dict | apply Mka.cons | apply Mks.cons | apply Mk.tup | apply Mk.lst | decide)) (by decide) hp4 fun X5 W5 H5 s5 w5 x5 b5 => ?_
    dsimp only [gName]
    change (tSeq _ _) _ [some (V.ref p), some (V.ref R), some v, some (V.ref D2), some (V.str z), some (V.ref W5)] H5
    dsimp only [tSeq, tAsg, tOp]
    refine ⟨_, rfl, ?_⟩
    refine Mka.lstAt (n := 5) (by repeat' (first | exact Mka.nil | exact Mks.nil | exact Mk.non | exact Mk.bl | exact Mk.var rfl hzo hzl | exact Mk.int (by decide +kernel) | exact Mk.str (okS_by (by decide +kernel)) (by decide +kernel) | exact Mk.neg | exact Mk.pow | exact Mk.dict | apply Mka.cons | apply Mks.cons | apply Mk.tup | apply Mk.lst | decide)) (by decide) (hold hp4 s5) fun v6 L6 G6 t6 e6 l6 a6 => ⟨W5, L6, _, _, rfl, rfl, t6 _ _ w5, e6, by omega, fun D6 hD6 => ?_⟩
    have s6 := (s5.trans t6).trans (Same.upd (o := .lst (X5 ++ v6)) hD6)
    have w6 : (upd G6 D6 (.lst (X5 ++ v6))) D6 = some (.lst (X5 ++ v6)) := upd_same
    have b6 : ∀ v ∈ X5 ++ v6, Dt p (upd G6 D6 (.lst (X5 ++ v6))) v 3000 3 := fun v hv => by
      rcases List.mem_append.mp hv with h | h
      · exact (b5 v h).kp ((Kp.same t6).trans (Kp.same (Same.upd hD6)))
      · exact (a6 v h).kp (Kp.same (Same.upd hD6))
    have x6 : (X5 ++ v6).length = X5.length + 5 := by rw [List.length_append, l6]
    generalize X5 ++ v6 = X6 at s6 w6 b6 x6 ⊢
    generalize upd G6 D6 (.lst X6) = H6 at s6 w6 b6 ⊢
    obtain ⟨W6, hW6⟩ : ∃ W, W = D6 := ⟨_, rfl⟩
    rw [← hW6] at w6 ⊢
    clear a6 e6 t6 l6 b5 w5
    dsimp only [gName]
    change (tSeq _ _) _ [some (V.ref p), some (V.ref R), some v, some (V.ref D2), some (V.str z), some (V.ref W6)] H6
    dsimp only [tSeq, tAsg, tOp]
    refine ⟨_, rfl, ?_⟩
    refine Mka.lstAt (n := 12) (by repeat' (first | exact Mka.nil | exact Mks.nil | exact Mk.non | exact Mk.bl | exact Mk.var rfl hzo hzl | exact Mk.int (by decide +kernel) | exact Mk.str (okS_by (by decide +kernel)) (by decide +kernel) | exact Mk.neg | exact Mk.pow | exact Mk.dict | apply Mka.cons | apply Mks.cons | apply Mk.tup | apply Mk.lst | decide)) (by decide) (hold hp4 s6) fun v7 L7 G7 t7 e7 l7 a7 => ⟨W6, L7, _, _, rfl, rfl, t7 _ _ w6, e7, by omega, fun D7 hD7 => ?_⟩
    have s7 := (s6.trans t7).trans (Same.upd (o := .lst (X6 ++ v7)) hD7)
    have w7 : (upd G7 D7 (.lst (X6 ++ v7))) D7 = some (.lst (X6 ++ v7)) := upd_same
    have b7 : ∀ v ∈ X6 ++ v7, Dt p (upd G7 D7 (.lst (X6 ++ v7))) v 3000 3 := fun v hv => by
      rcases List.mem_append.mp hv with h | h
      · exact (b6 v h).kp ((Kp.same t7).trans (Kp.same (Same.upd hD7)))
      · exact (a7 v h).kp (Kp.same (Same.upd hD7))
    have x7 : (X6 ++ v7).length = X6.length + 12 := by rw [List.length_append, l7]
    generalize X6 ++ v7 = X7 at s7 w7 b7 x7 ⊢
    generalize upd G7 D7 (.lst X7) = H7 at s7 w7 b7 ⊢
    obtain ⟨W7, hW7⟩ : ∃ W, W = D7 := ⟨_, rfl⟩
    rw [← hW7] at w7 ⊢
    clear a7 e7 t7 l7 b6 w6
    dsimp only [gName]
    change (tSeq _ _) _ [some (V.ref p), some (V.ref R), some v, some (V.ref D2), some (V.str z), some (V.ref W7)] H7
    dsimp only [tSeq, tAsg, tOp]
    refine ⟨_, rfl, ?_⟩
    refine Mka.lstAt (n := 2) (by repeat' (first | exact Mka.nil | exact Mks.nil | exact Mk.non | exact Mk.bl | exact Mk.var rfl hzo hzl | exact Mk.int (by decide +kernel) | exact Mk.str (okS_by (by decide +kernel)) (by decide +kernel) | exact Mk.neg | exact Mk.pow | exact Mk.dict | apply Mka.cons | apply Mks.cons | apply Mk.tup | apply Mk.lst | decide)) (by decide) (hold hp4 s7) fun v8 L8 G8 t8 e8 l8 a8 => ⟨W7, L8, _, _, rfl, rfl, t8 _ _ w7, e8, by omega, fun D8 hD8 => ?_⟩
    have s8 := (s7.trans t8).trans (Same.upd (o := .lst (X7 ++ v8)) hD8)
    have w8 : (upd G8 D8 (.lst (X7 ++ v8))) D8 = some (.lst (X7 ++ v8)) := upd_same
    have g8 : Same G8 (upd G8 D8 (.lst (X7 ++ v8))) := Same.upd hD8
    have h48 : Same H4 G8 := s7.trans t8
    have b8 : ∀ v ∈ X7 ++ v8, Dt p G8 v 3000 3 := fun v hv => by
      rcases List.mem_append.mp hv with h | h
      · exact (b7 v h).kp (Kp.same t8)
      · exact a8 v h
    have x8 : (X7 ++ v8).length = X7.length + 2 := by rw [List.length_append, l8]
    generalize X7 ++ v8 = X8 at s8 w8 b8 x8 g8 ⊢
    generalize upd G8 D8 (.lst X8) = H8 at s8 w8 g8 ⊢
    obtain ⟨W8, hW8⟩ : ∃ W, W = D8 := ⟨_, rfl⟩
    rw [← hW8] at w8 hD8 ⊢
    clear a8 e8 t8 l8 b7 w7
    dsimp only [gName]
    change (tSeq _ _) _ [some (V.ref p), some (V.ref R), some v, some (V.ref D2), some (V.str z), some (V.ref W8)] H8
    dsimp only [tSeq, tDrop, tBM]
    refine ⟨_, rfl, .inl ⟨rfl, _, SqL.of w8⟩, ?_⟩
    refine ⟨_, rfl, by show 2 ≤ sizeLine; decide, fun t1 K1 q1 h1 => ⟨by show 2 ≤ sizeLine; decide, fun t2 K2 q2 h2 => ⟨by show 4 ≤ sizeLine; decide, fun t3 K3 q3 h3 => ?_⟩⟩⟩
    have q13 := (q1.trans q2).trans q3
    refine ⟨W8, X8, .ref t3, rfl, rfl, q13 _ _ w8, by omega, ?_⟩
    have gW : Same G8 (upd K3 W8 (.lst (X8 ++ [.ref t3]))) := fun b o e => by
      rw [upd_ne (ne_of_none e hD8)]
      exact q13 _ _ (g8 _ _ e)
    have kW : Kp All K3 (upd K3 W8 (.lst (X8 ++ [.ref t3]))) := Kp.at trivial (q13 _ _ w8)
    have s9 := h48.trans gW
    have w9 : (upd K3 W8 (.lst (X8 ++ [.ref t3]))) W8 = some (.lst (X8 ++ [.ref t3])) := upd_same
    have kk : ∀ {G G' : Hp}, Same G G' → Kp All G G' := fun m => Kp.same m
    have b9 : ∀ v ∈ X8 ++ [.ref t3], Dt p (upd K3 W8 (.lst (X8 ++ [.ref t3]))) v 3000 3 := fun v hv => by
      rcases List.mem_append.mp hv with h | h
      · exact (b8 v h).kp (Kp.same gW)
      · rw [List.mem_singleton.mp h]
        refine ⟨.tuple [.str "val", .str "<", .tuple [.str z, .int 0], .tuple [.str "", .int 0]], (Dv.tupM (kW.tup h3) (.cons (.str _) (.cons (.str _) (.cons (.tupM (kW.tup ((kk (q2.trans q3)).tup h1)) (.cons (.str _) (.cons (.int _) .nil))) (.cons (.tupM (kW.tup ((kk q3).tup h2)) (.cons (.str _) (.cons (.int _) .nil))) .nil))))).mono Kp.refl fun _ _ => trivial, ?_, ?_, ?_⟩
        · simp only [cost, costL]
          have e1 : (("val" : Str)).length = 3 := by decide +kernel
          have e2 : (("<" : Str)).length = 1 := by decide +kernel
          have e3 : (("" : Str)).length = 0 := by decide +kernel
          omega
        · exact ⟨okS_by (by decide +kernel), okS_by (by decide +kernel), ⟨hzo, show (0 : Int).natAbs < 10 ^ 100 by decide +kernel, trivial⟩, ⟨okS_by (by decide +kernel), show (0 : Int).natAbs < 10 ^ 100 by decide +kernel, trivial⟩, trivial⟩
        · simp only [PyData.depth, PyData.depthAll]
          omega
    have x9 : (X8 ++ [V.ref t3]).length = X8.length + 1 := by rw [List.length_append]; rfl
    generalize X8 ++ [V.ref t3] = X9 at s9 w9 b9 x9 ⊢
    generalize upd K3 W8 (.lst X9) = H9 at s9 w9 b9 ⊢
    obtain ⟨W9, hW9⟩ : ∃ W, W = W8 := ⟨_, rfl⟩
    rw [← hW9] at w9 ⊢
    clear b8 w8 h1 h2 h3 gW kW g8 h48 q13 q1 q2 q3 s8 s7 s6 s5
    dsimp only [tAsg, tOp]
    refine ⟨_, rfl, ?_⟩
    refine Mka.lstAt (n := 6) (by repeat' (first | exact Mka.nil | exact Mks.nil | exact Mk.non | exact Mk.bl | exact Mk.var rfl hzo hzl | exact Mk.int (by decide +kernel) | exact Mk.str (okS_by (by decide +kernel)) (by decide +kernel) | exact Mk.neg | exact Mk.pow | exact Mk.dict | apply Mka.cons | apply Mks.cons | apply Mk.tup | apply Mk.lst | decide)) (by decide) (hold hp4 s9) fun v10 L10 G10 t10 e10 l10 a10 => ⟨W9, L10, _, _, rfl, rfl, t10 _ _ w9, e10, by omega, fun D10 hD10 => ?_⟩
    have s10 := (s9.trans t10).trans (Same.upd (o := .lst (X9 ++ v10)) hD10)
    have w10 : (upd G10 D10 (.lst (X9 ++ v10))) D10 = some (.lst (X9 ++ v10)) := upd_same
    have b10 : ∀ v ∈ X9 ++ v10, Dt p (upd G10 D10 (.lst (X9 ++ v10))) v 3000 3 := fun v hv => by
      rcases List.mem_append.mp hv with h | h
      · exact (b9 v h).kp ((Kp.same t10).trans (Kp.same (Same.upd hD10)))
      · exact (a10 v h).kp (Kp.same (Same.upd hD10))
    have x10 : (X9 ++ v10).length = X9.length + 6 := by rw [List.length_append, l10]
    generalize X9 ++ v10 = X10 at s10 w10 b10 x10 ⊢
    generalize upd G10 D10 (.lst X10) = H10 at s10 w10 b10 ⊢
    obtain ⟨W10, hW10⟩ : ∃ W, W = D10 := ⟨_, rfl⟩
    rw [← hW10] at w10 ⊢
    clear a10 e10 t10 l10 b9 w9
    dsimp only [gName]
    change (tSeq _ _) _ [some (V.ref p), some (V.ref R), some v, some (V.ref D2), some (V.str z), some (V.ref W10)] H10
    dsimp only [tSeq, tAsg, tOp]
    refine ⟨_, rfl, ?_⟩
    refine Mka.lstAt (n := 10) (by repeat' (first | exact Mka.nil | exact Mks.nil | exact Mk.non | exact Mk.bl | exact Mk.var rfl hzo hzl | exact Mk.int (by decide +kernel) | exact Mk.str (okS_by (by decide +kernel)) (by decide +kernel) | exact Mk.neg | exact Mk.pow | exact Mk.dict | apply Mka.cons | apply Mks.cons | apply Mk.tup | apply Mk.lst | decide)) (by decide) (hold hp4 s10) fun v11 L11 G11 t11 e11 l11 a11 => ⟨W10, L11, _, _, rfl, rfl, t11 _ _ w10, e11, by omega, fun D11 hD11 => ?_⟩
    have s11 := (s10.trans t11).trans (Same.upd (o := .lst (X10 ++ v11)) hD11)
    have w11 : (upd G11 D11 (.lst (X10 ++ v11))) D11 = some (.lst (X10 ++ v11)) := upd_same
    have b11 : ∀ v ∈ X10 ++ v11, Dt p (upd G11 D11 (.lst (X10 ++ v11))) v 3000 3 := fun v hv => by
      rcases List.mem_append.mp hv with h | h
      · exact (b10 v h).kp ((Kp.same t11).trans (Kp.same (Same.upd hD11)))
      · exact (a11 v h).kp (Kp.same (Same.upd hD11))
    have x11 : (X10 ++ v11).length = X10.length + 10 := by rw [List.length_append, l11]
    generalize X10 ++ v11 = X11 at s11 w11 b11 x11 ⊢
    generalize upd G11 D11 (.lst X11) = H11 at s11 w11 b11 ⊢
    have z11 : D11 ≠ p := fun e => hold hp4 (s10.trans t11) (e ▸ hD11)
    obtain ⟨W11, hW11⟩ : ∃ W, W = D11 := ⟨_, rfl⟩
    rw [← hW11] at w11 z11 ⊢
    clear a11 e11 t11 l11 b10 w10
    dsimp only [gName]
    change (tRet _) _ [some (V.ref p), some (V.ref R), some v, some (V.ref D2), some (V.str z), some (V.ref W11)] H11
    refine ⟨_, rfl, _, rfl, p, n + 1, .ref W11, X11, rfl, hp4'.same s11, by omega, .inl ⟨W11, rfl, z11, w11⟩, by omega, by omega, fun i v12 H12 hv hp12 hk12 => k v12 H12 ((b11 v12 (List.mem_of_getElem? hv)).kp hk12) hp12 ((k4.trans (Kp.same s11)).trans hk12)⟩
end
end Kx
namespace Kx
open PySem PySem.Spec PyProof.Rows L2
theorem DvL.takeL2 {ex : Addr → Prop} {H : Hp} : ∀ {xs : List V} {d : List PyData} (k : Nat), DvL ex H xs d → DvL ex H (xs.take k) (d.take k)
  | _, _, 0, _ => by simpa using DvL.nil
  | _, _, k + 1, .nil => by simpa using DvL.nil
  | _, _, k + 1, .cons a b => .cons a (DvL.takeL2 k b)
theorem DvL.dropL2 {ex : Addr → Prop} {H : Hp} : ∀ {xs : List V} {d : List PyData} (k : Nat), DvL ex H xs d → DvL ex H (xs.drop k) (d.drop k)
  | _, _, 0, h => h
  | _, _, k + 1, .nil => by simpa using DvL.nil
  | _, _, k + 1, .cons a b => DvL.dropL2 k b
theorem snoc_bounds : ∀ (ds : List PyData) (d : PyData), costL (ds ++ [d]) = costL ds + cost d + 2 ∧ (okL ds → okD d → okL (ds ++ [d])) ∧ PyData.depthAll (ds ++ [d]) ≤ max (PyData.depthAll ds) d.depth
  | [], d => ⟨by simp only [List.nil_append, costL]; omega, fun _ b => ⟨b, trivial⟩, by simp only [List.nil_append, PyData.depthAll]; omega⟩
  | x :: r, d => by
    obtain ⟨a, b, c⟩ := snoc_bounds r d
    refine ⟨?_, fun p q => ⟨p.1, b p.2 q⟩, ?_⟩
    · show costL (x :: (r ++ [d])) = _
      simp only [costL]
      omega
    · show PyData.depthAll (x :: (r ++ [d])) ≤ _
      simp only [PyData.depthAll]
      omega
theorem take_bounds : ∀ (ds : List PyData) (k : Nat), costL (ds.take k) ≤ costL ds ∧ (okL ds → okL (ds.take k)) ∧ PyData.depthAll (ds.take k) ≤ PyData.depthAll ds
  | [], k => by rw [List.take_nil]; exact ⟨Nat.le_refl _, id, Nat.le_refl _⟩
  | x :: r, 0 => ⟨by rw [List.take_zero]; simp [costL], fun _ => trivial, by rw [List.take_zero]; simp [PyData.depthAll]⟩
  | x :: r, k + 1 => by
    obtain ⟨a, b, c⟩ := take_bounds r k
    refine ⟨?_, fun p => ⟨p.1, b p.2⟩, ?_⟩
    · show costL (x :: r.take k) ≤ _
      simp only [costL]
      omega
    · show PyData.depthAll (x :: r.take k) ≤ _
      simp only [PyData.depthAll]
      omega
theorem cutV_last5 (xs : List V) (x : V) : cutV (xs ++ [x]) none (some (-1)) = xs := by
  unfold cutV
  have l : (xs ++ [x]).length = xs.length + 1 := by simp
  have e2 : HT.sIx (xs.length + 1) (xs.length + 1) (some (-1)) = xs.length := by
    show (if (-1 : Int) < 0 then (-1 + ((xs.length + 1 : Nat) : Int)).toNat else min (-1 : Int).toNat (xs.length + 1)) = _
    rw [if_pos (by decide)]
    omega
  rw [l, e2, show HT.sIx (xs.length + 1) 0 none = 0 from rfl]
  simp
theorem cut_neg1 (xs : List V) : cutV xs none (some (-1)) = xs.take (xs.length - 1) := by
  cases h : xs.reverse with
  | nil =>
    have : xs = [] := List.reverse_eq_nil_iff.mp h
    rw [this]
    rfl
  | cons x r =>
    have e : xs = r.reverse ++ [x] := by rw [← List.reverse_reverse xs, h, List.reverse_cons]
    have l2 : (r.reverse ++ [x]).length - 1 = r.reverse.length := by simp
    rw [e, cutV_last5, l2, List.take_append_of_le_length (Nat.le_refl _), List.take_length]
/-- one item is put in the place of another -/
theorem put_bounds : ∀ {ds : List PyData} {j : Nat} {dj d' : PyData}, ds[j]? = some dj → costL (ds.take j ++ [d'] ++ ds.drop (j + 1)) + cost dj = costL ds + cost d' ∧ (okL ds → okD d' → okL (ds.take j ++ [d'] ++ ds.drop (j + 1))) ∧ PyData.depthAll (ds.take j ++ [d'] ++ ds.drop (j + 1)) ≤ max (PyData.depthAll ds) d'.depth
  | [], _, _, _, h => by simp at h
  | x :: r, 0, dj, d', h => by
    cases h
    refine ⟨?_, fun a b => ⟨b, a.2⟩, ?_⟩
    · show costL (d' :: r) + _ = _
      simp only [costL]
      omega
    · show PyData.depthAll (d' :: r) ≤ _
      simp only [PyData.depthAll]
      omega
  | x :: r, j + 1, dj, d', h => by
    obtain ⟨a, b, c⟩ := put_bounds (ds := r) (j := j) (dj := dj) (d' := d') h
    refine ⟨?_, fun p q => ⟨p.1, b p.2 q⟩, ?_⟩
    · show costL (x :: (r.take j ++ [d'] ++ r.drop (j + 1))) + _ = _
      simp only [costL]
      omega
    · show PyData.depthAll (x :: (r.take j ++ [d'] ++ r.drop (j + 1))) ≤ _
      simp only [PyData.depthAll]
      omega
section
variable {P : Program} {w : World} {K : PySem.W.Frag} {mg : Str → Option Value} {base : Heap}
abbrev N_law_bent : List Str := ["keg", "sides", "value", "deep", "way", "at", "near"]
abbrev P_law_bent : List Str := ["keg", "sides", "value", "deep"]
theorem sc_law_bent : FnScope N_law_bent P_law_bent (defScope s_law_bent) := ⟨rfl, rfl, rfl, by decide +kernel, rfl, by decide +kernel, by decide +kernel⟩
def spBe (m : Nat) : Sp := fun vs H Q _ => ∃ (p R : Addr) (n e : Nat) (va vp vv v : V) (d : PyData) (ps : List (Str × Str)) (ns us : List Str), vs = [.ref p, .ref R, v, .int (e : Int)] ∧ e < m ∧ PotAt H p n ∧ n + 4 + 2 * e ≤ 700000 ∧ R ≠ p ∧ RecAt H R va vp vv ps ns us ∧ Sides ps ns us ∧ Dv (fun a => a = p) H v d ∧ cost d ≤ 1000000 ∧ okD d ∧
  ∀ (v' : V) (d' : PyData) (H' : Hp), Dv (fun a => a = p) H' v' d' → cost d' ≤ cost d + 3005 → okD d' → d'.depth ≤ d.depth + 3 → PotAt H' p (n + 4 + 2 * e) → KpP p H H' → Q v' H'
theorem ok_be (T : Bt mg) (h : Has K mg "_law_bent" s_law_bent) (C1 : Ca P w K mg base 1 "_law_tap" P_law_tap spTap) (C2 : Ca P w K mg base 3 "_law_odd" P_law_odd spOd) : ∀ m : Nat, Ca P w K mg base (4 + m) "_law_bent" P_law_bent (spBe m)
  | 0 => by
    refine cal_of h sc_law_bent (fun _ _ _ _ _ _ us hl => match us, hl with | [_, _, _, _], _ => rfl) (fun vs H Q E h => ?_) (fun f cdv A outer s H vs Q E hr h => ?_)
    · obtain ⟨_, _, _, _, _, _, _, _, _, _, _, _, _, z, _⟩ := h
      exact absurd z (Nat.not_lt_zero _)
    · obtain ⟨_, _, _, _, _, _, _, _, _, _, _, _, _, z, _⟩ := h
      exact absurd z (Nat.not_lt_zero _)
  | m + 1 => by
    obtain ⟨_, _, c__law_bent⟩ := ok_be T h C1 C2 m
    obtain ⟨_, _, c__law_tap⟩ := C1
    obtain ⟨_, _, c__law_odd⟩ := C2
    refine cal_of (k := 4 + m) h sc_law_bent (fun _ _ _ _ _ _ us hl => match us, hl with | [_, _, _, _], _ => rfl) (fun vs H Q E h => ?_) (fun f cdv A outer s H vs Q E hr h => ?_)
    · obtain ⟨p, R, n, e, va, vp, vv, v, d, ps, ns, us, rfl, _⟩ := h
      rfl
    · obtain ⟨p, R, n, e, va, vp, vv, v, d, ps, ns, us, rfl, he, hp, hn, hRp, rc, sd, dv, hc, hok, k⟩ := h
      refine ⟨_, (pss_cons (ps_if (PW.pt (pw_or (pt_not (pt_val (pe_callB call_isi (by rfl) T.isinstance (by decide +kernel) (pa_cons (pv 2) (pa_cons (pe_bltn (v := .ty "tuple") (by rfl) T.tuple (by decide +kernel) rfl) pa_nil))))) (pw_or (pt_cmpR (op_eqT0 hr.units0) (pv 2) (pe_tupF pa_nil) (nomark _)) (pw_or (pt_cmpR op_eq (pv 3) pe_int (nomark _)) (pw_or1 (pt_cmpR op_eq (pe_call c__law_tap.1 (hr.mono (by omega)) rfl c__law_tap.2.1 c__law_tap.2.2.1 c__law_tap.2.2.2 .nil pass0 (pa_cons (pv 0) (pa_cons pe_int pa_nil))) pe_int (nomark _))))))) (pss_cons (ps_set (i := 4) sc_law_bent.nd rfl (.inl rfl) (pe_call c__law_tap.1 (hr.mono (by omega)) rfl c__law_tap.2.1 c__law_tap.2.2.1 c__law_tap.2.2.2 .nil pass0 (pa_cons (pv 0) (pa_cons pe_int pa_nil))))
          (pss_cons (ps_if (PW.pt (pw_and (pt_val (pe_callB call_isi (by rfl) T.isinstance (by decide +kernel) (pa_cons (pv 2) (pa_cons (pe_bltn (v := .ty "tuple") (by rfl) T.tuple (by decide +kernel) rfl) pa_nil)))) (pw_and1 (pt_cmpR op_eq (pv 4) pe_int (nomark _))))) (pss_one (ps_ret (pe_slice sl_tupF (pv 2) po_none (po_some (pe_un un_neg pe_int))))) pss_nil)
          (pss_cons (ps_if (PW.pt (pw_and (pt_val (pe_callB call_isi (by rfl) T.isinstance (by decide +kernel) (pa_cons (pv 2) (pa_cons (pe_bltn (v := .ty "tuple") (by rfl) T.tuple (by decide +kernel) rfl) pa_nil)))) (pw_and1 (pt_cmpR op_eq (pv 4) pe_int (nomark _))))) (pss_one (ps_ret (pe_op op_catF (pv 2) (pe_tupF (pa_cons (pe_call c__law_odd.1 (hr.mono (by omega)) rfl c__law_odd.2.1 c__law_odd.2.2.1 c__law_odd.2.2.2 .nil pass0 (pa_cons (pv 0) (pa_cons (pv 1) (pa_cons (pv 2) pa_nil)))) pa_nil))))) pss_nil)
          (pss_cons (ps_if (PW.pt (pw_and (pt_val (pe_callB call_isi (by rfl) T.isinstance (by decide +kernel) (pa_cons (pv 2) (pa_cons (pe_bltn (v := .ty "tuple") (by rfl) T.tuple (by decide +kernel) rfl) pa_nil)))) (pw_and1 (pt_cmpR op_eq (pv 4) pe_int (nomark _))))) (pss_one (ps_ret (pe_callTy call_list_of (by rfl) T.list (by decide +kernel) (pa_cons (pv 2) pa_nil)))) pss_nil)
          (pss_one (ps_ret (pe_call c__law_odd.1 (hr.mono (by omega)) rfl c__law_odd.2.1 c__law_odd.2.2.1 c__law_odd.2.2.2 .nil pass0 (pa_cons (pv 0) (pa_cons (pv 1) (pa_cons (pv 2) pa_nil)))))))))) pss_nil)
        (pss_cons (ps_set (i := 5) sc_law_bent.nd rfl (.inl rfl) (pe_call c__law_tap.1 (hr.mono (by omega)) rfl c__law_tap.2.1 c__law_tap.2.2.1 c__law_tap.2.2.2 .nil pass0 (pa_cons (pv 0) (pa_cons (pe_callB call_len (by rfl) T.len (by decide +kernel) (pa_cons (pv 2) pa_nil)) pa_nil))))
        (pss_cons (ps_set (i := 6) sc_law_bent.nd rfl (.inl rfl) (pe_call c__law_bent.1 (hr.mono (by omega)) rfl c__law_bent.2.1 c__law_bent.2.2.1 c__law_bent.2.2.2 .nil pass0 (pa_cons (pv 0) (pa_cons (pv 1) (pa_cons (pe_ix ix_tup (pv 2) (pv 5) (fun _ _ => rfl)) (pa_cons (pe_op op_sub (pv 3) pe_int) pa_nil))))))
        (pss_one (ps_ret (pe_op op_catF (pe_op op_catF (pe_slice sl_tupF (pv 2) po_none (po_some (pv 5))) (pe_tupF (pa_cons (pv 6) pa_nil))) (pe_slice sl_tupF (pv 2) (po_some (pe_op op_add (pv 5) pe_int)) po_none))))))), ?_⟩
      have hL := sizeLine_eq
      have kx : ∀ {G G' : Hp}, Same G G' → KpP p G G' := fun m => Kp.same m
      have tap4 : (0 : Int) ≤ 4 := by decide
      refine ⟨_, rfl, _, _, _, _, _, rfl, .ty _, dv.ty, kitT d, _, rfl, ?_⟩
      cases et : isTupD d with
      | false =>
        refine iteT (iteT ⟨_, rfl, p, n, _, rfl, hp, by omega, by decide, by decide, fun wy H1 w0 w1 hp1 hk1 => ?_⟩)
        have dv1 := dv.kp hk1
        refine ⟨_, rfl, _, _, _, _, _, rfl, .ty _, dv1.ty, kitT d, _, rfl, ?_⟩
        rw [et]
        refine iteF (iteF ⟨_, rfl, _, _, _, _, _, rfl, .ty _, dv1.ty, kitT d, _, rfl, ?_⟩)
        rw [et]
        refine iteF (iteF ⟨_, rfl, _, _, _, _, _, rfl, .ty _, dv1.ty, kitT d, _, rfl, ?_⟩)
        rw [et]
        exact iteF (iteF ⟨_, rfl, _, rfl, _, rfl, p, R, n + 1, va, vp, vv, _, ps, ns, us, rfl, hp1, by omega, hRp, rc.kp hk1 hRp, sd, fun v' H' ⟨d', o1, o2, o3, o4⟩ hp2 hk2 => k v' d' H' o1 (by omega) o3 (by omega) (hp2.mono (by omega)) (hk1.trans hk2)⟩)
      | true =>
        obtain ⟨ds, rfl⟩ : ∃ ds, d = .tuple ds := by cases d <;> first | exact ⟨_, rfl⟩ | (cases et; done)
        obtain ⟨a, xs, rfl, ht, dl⟩ := dv.tupI
        have hl := dl.len
        have dep1 : 1 ≤ (PyData.tuple ds).depth := by simp only [PyData.depth]; omega
        have cds : cost (.tuple ds) = costL ds + 3 := by simp only [cost]
        have lds := costL_len ds
        refine iteF ⟨_, rfl, by show 0 ≤ sizeLine; exact Nat.zero_le _, fun t0 K0 q0 h0 => ⟨a, t0, xs, rfl, rfl, ((Kp.same (ex := All) q0).tup ht).sq, h0.sq, _, rfl, ?_⟩⟩
        apply dupH (S := fun G => PotAt G p (n + 1) ∧ KpP p H G)
        · intro rest
          by_cases hx : ¬ xs.isEmpty = true
          · have hx := Bool.eq_false_iff.mpr hx
            rw [hx]
            refine iteF ⟨_, rfl, rfl, _, rfl, ?_⟩
            by_cases h0e : ¬ e = 0
            · rw [decide_eq_false (fun z : V.int (e : Int) = V.int 0 => h0e (by injection z with z; omega))]
              refine iteF ⟨_, rfl, p, n, _, rfl, hp.same q0, by omega, by decide, by decide, fun wy H1 w0 w1 hp1 hk1 => ⟨rfl, _, rfl, ?_⟩⟩
              have k1 : KpP p H H1 := (kx q0).trans hk1
              by_cases hw : wy = 0
              · rw [decide_eq_true (congrArg V.int hw)]
                exact iteT (rest H1 ⟨hp1, k1⟩)
              · rw [decide_eq_false (fun z : V.int wy = V.int 0 => hw (by injection z))]
                have hx1 : 1 ≤ xs.length := by
                  cases xs with
                  | nil => cases hx
                  | cons _ _ => simp only [List.length_cons]; omega
                refine iteF ⟨_, rfl, _, rfl, _, _, rfl, .inr ⟨_, (k1.tup ht).sq, rfl⟩, p, n + 1, _, rfl, hp1, by omega, by omega, by omega, fun at_ H2 a0 a1 hp2 hk2 => ?_⟩
                obtain ⟨j, rfl⟩ : ∃ j : Nat, at_ = j := ⟨at_.toNat, by omega⟩
                have hj : j < xs.length := by omega
                have k2 := k1.trans hk2
                have hxj : xs[j]? = some xs[j] := List.getElem?_eq_getElem hj
                obtain ⟨dj, hdj, dvj⟩ := dl.get hxj
                have hjd : j < ds.length := by omega
                have hat : atI xs (j : Int) = some xs[j] := by
                  unfold atI ixN
                  rw [if_pos (by omega), if_pos (by omega)]
                  simp
                have cj : cost dj ≤ costL ds := costL_mem (List.mem_of_getElem? hdj)
                obtain ⟨e2, rfl⟩ : ∃ e2, e = e2 + 1 := ⟨e - 1, by omega⟩
                refine ⟨_, rfl, _, rfl, _, rfl, _, rfl, a, _, (j : Int), xs[j], rfl, rfl, (k2.tup ht).sq, hat, _, rfl, _, _, rfl, rfl, p, R, n + 2, e2, va, vp, vv, xs[j], dj, ps, ns, us, (by show ([V.ref p, V.ref R, xs[j], V.int (((e2 + 1 : Nat) : Int) - 1)] : List V) = _; rw [show (((e2 + 1 : Nat) : Int) - 1) = (e2 : Int) by omega]), by omega, hp2, by omega, hRp, rc.kp k2 hRp, sd, dvj.kp k2, by omega, okL_mem.mp hok dj (List.mem_of_getElem? hdj), fun v' d' H3 o1 o2 o3 o4 hp3 hk3 => ?_⟩
                have k3 := k2.trans hk3
                refine ⟨_, rfl, _, rfl, _, rfl, a, xs, rfl, k3.tup ht, fun ta H4 s4 h4 => ?_⟩
                rw [cut_take _ _ (by omega : (0 : Int) ≤ (j : Int)), Int.toNat_natCast] at h4
                refine ⟨_, rfl, by show 1 ≤ sizeLine; decide, fun tb H5 s5 h5 => ?_⟩
                have lt : (xs.take j).length ≤ xs.length := by rw [List.length_take]; omega
                refine ⟨ta, tb, _, _, rfl, rfl, (kx s5).tup h4, h5, by simp only [List.length_cons, List.length_nil]; omega, fun tc H6 s6 h6 => ?_⟩
                have k6 := ((k3.trans (kx s4)).trans (kx s5)).trans (kx s6)
                refine ⟨_, rfl, _, rfl, _, _, rfl, rfl, _, rfl, a, xs, rfl, k6.tup ht, fun td H7 s7 h7 => ?_⟩
                rw [cut_drop _ _ (by omega : (0 : Int) ≤ (j : Int) + 1), show ((j : Int) + 1).toNat = j + 1 by omega] at h7
                refine ⟨tc, td, _, _, rfl, rfl, (kx s7).tup h6, h7, by simp only [List.length_append, List.length_cons, List.length_nil, List.length_take, List.length_drop]; omega, fun te H8 s8 h8 => ?_⟩
                have k8 := (k6.trans (kx s7)).trans (kx s8)
                have k38 := ((((kx s4).trans (kx s5)).trans (kx s6)).trans (kx s7)).trans (kx s8)
                have dl8 := dl.kp k8
                obtain ⟨g1, g2, g3⟩ := put_bounds hdj (d' := d')
                have dep : dj.depth < (PyData.tuple ds).depth := depth_tup (List.mem_of_getElem? hdj)
                refine k (.ref te) (.tuple (ds.take j ++ [d'] ++ ds.drop (j + 1))) H8 (.tupM h8 (((dl8.takeL2 j).app (.cons (o1.kp k38) .nil)).app (dl8.dropL2 (j + 1)))) ?_ (g2 hok o3) ?_ ((((((hp3.same s4).same s5).same s6).same s7).same s8).mono (by omega)) k8
                · simp only [cost]
                  omega
                · simp only [PyData.depth] at dep ⊢
                  omega
            · have h0e := Decidable.not_not.mp h0e
              rw [decide_eq_true (show V.int (e : Int) = V.int 0 by rw [h0e]; rfl)]
              exact iteT (rest K0 ⟨(hp.same q0).mono (by omega), kx q0⟩)
          · have hx := Decidable.not_not.mp hx
            rw [hx]
            exact iteT (iteT (rest K0 ⟨(hp.same q0).mono (by omega), kx q0⟩))
        · rintro G ⟨hpG, kG⟩
          refine ⟨_, rfl, p, n + 1, _, rfl, hpG, by omega, by decide, by decide, fun wy H1 w0 w1 hp1 hk1 => ?_⟩
          have k1 := kG.trans hk1
          have dv1 := dv.kp k1
          have ht1 := k1.tup ht
          have dl1 := dl.kp k1
          refine ⟨_, rfl, _, _, _, _, _, rfl, .ty _, dv1.ty, kitT _, _, rfl, iteT ⟨_, rfl, rfl, _, rfl, ?_⟩⟩
          by_cases y0 : wy = 0
          · rw [decide_eq_true (congrArg V.int y0)]
            refine iteT ⟨_, rfl, _, rfl, _, rfl, a, xs, rfl, ht1, fun ta H2 s2 h2 => ?_⟩
            have c2 := cut_neg1 xs
            have h2 : TupF H2 ta (cutV xs none (some (-1))) := h2
            rw [c2] at h2
            obtain ⟨g1, g2, g3⟩ := take_bounds ds (xs.length - 1)
            refine k (.ref ta) (.tuple (ds.take (xs.length - 1))) H2 (.tupM h2 ((dl1.kp (kx s2)).takeL2 _)) ?_ (g2 hok) ?_ ((hp1.same s2).mono (by omega)) (k1.trans (kx s2))
            · simp only [cost]
              omega
            · simp only [PyData.depth]
              omega
          rw [decide_eq_false (fun z : V.int wy = V.int 0 => y0 (by injection z))]
          refine iteF ⟨_, rfl, _, _, _, _, _, rfl, .ty _, dv1.ty, kitT _, _, rfl, iteT ⟨_, rfl, rfl, _, rfl, ?_⟩⟩
          by_cases y1 : wy = 1
          · rw [decide_eq_true (congrArg V.int y1)]
            refine iteT ⟨_, rfl, _, rfl, _, rfl, _, rfl, p, R, n + 2, va, vp, vv, _, ps, ns, us, rfl, hp1, by omega, hRp, rc.kp k1 hRp, sd, fun v' H2 ⟨d', o1, o2, o3, o4⟩ hp2 hk2 => ⟨by show 1 ≤ sizeLine; decide, fun tb H3 s3 h3 => ?_⟩⟩
            have k3 := (k1.trans hk2).trans (kx s3)
            refine ⟨a, tb, xs, _, rfl, rfl, k3.tup ht, h3, by simp only [List.length_cons, List.length_nil]; omega, fun tc H4 s4 h4 => ?_⟩
            have k4 := k3.trans (kx s4)
            obtain ⟨g1, g2, g3⟩ := snoc_bounds ds d'
            refine k (.ref tc) (.tuple (ds ++ [d'])) H4 (.tupM h4 ((dl.kp k4).app (.cons (o1.kp ((kx s3).trans (kx s4))) .nil))) ?_ (g2 hok o3) ?_ (((hp2.same s3).same s4).mono (by omega)) k4
            · simp only [cost]
              omega
            · simp only [PyData.depth]
              simp only [PyData.depth] at dep1
              omega
          rw [decide_eq_false (fun z : V.int wy = V.int 1 => y1 (by injection z))]
          refine iteF ⟨_, rfl, _, _, _, _, _, rfl, .ty _, dv1.ty, kitT _, _, rfl, iteT ⟨_, rfl, rfl, _, rfl, ?_⟩⟩
          by_cases y2 : wy = 2
          · rw [decide_eq_true (congrArg V.int y2)]
            refine iteT ⟨_, rfl, a, xs, rfl, .inr ht1.sq, fun l hl2 => ?_⟩
            have k2 : KpP p H1 (upd H1 l (.lst xs)) := Kp.new hl2
            exact k (.ref l) (.list ds) _ (.lst (fun e => hp1.some (e ▸ hl2)) upd_same (dl1.kp k2)) (by simp only [cost]; omega) hok (by simp only [PyData.depth]; omega) ((hp1.same (Same.upd hl2)).mono (by omega)) (k1.trans k2)
          rw [decide_eq_false (fun z : V.int wy = V.int 2 => y2 (by injection z))]
          exact iteF ⟨_, rfl, _, rfl, _, rfl, p, R, n + 2, va, vp, vv, _, ps, ns, us, rfl, hp1, by omega, hRp, rc.kp k1 hRp, sd, fun v' H' ⟨d', o1, o2, o3, o4⟩ hp2 hk2 => k v' d' H' o1 (by omega) o3 (by omega) (hp2.mono (by omega)) (k1.trans hk2)⟩
end
end Kx
namespace Kx
open PySem PySem.Spec PyProof.Rows L2
def mxL : List Nat → Nat
  | [] => 0
  | k :: r => max k (mxL r)
mutual
/-- how deep a claim, a guard or a body is -/
inductive Deep : Nat → PyData → Prop
  | atom {w : Str} {x y z : PyData} : (w = "pos" ∨ w = "val") → Deep 1 (.tuple [.str w, x, y, z])
  | neg {k : Nat} {d : PyData} : Deep k d → Deep (k + 1) (.tuple [.str "not", d])
  | join {w : Str} {ks : List Nat} {ds : List PyData} : (w = "and" ∨ w = "or") → DeepL ks ds → Deep (mxL ks + 1) (.tuple [.str w, .tuple ds])
  | all {j k : Nat} {a g b : PyData} : Deep j g → Deep k b → Deep (max j k + 1) (.tuple [.str "all", a, g, b])
inductive DeepL : List Nat → List PyData → Prop
  | nil : DeepL [] []
  | cons {k : Nat} {d : PyData} {ks : List Nat} {ds : List PyData} : Deep k d → DeepL ks ds → DeepL (k :: ks) (d :: ds)
end
theorem mxL_le : ∀ {ks : List Nat} {k : Nat}, k ∈ ks → k ≤ mxL ks
  | x :: r, k, h => by
    show k ≤ max x (mxL r)
    rcases List.mem_cons.mp h with rfl | h
    · omega
    · have := mxL_le h
      omega
theorem mxL_in : ∀ ks : List Nat, mxL ks = 0 ∨ mxL ks ∈ ks
  | [] => .inl rfl
  | x :: r => by
    show max x (mxL r) = 0 ∨ max x (mxL r) ∈ x :: r
    rcases Nat.le_total x (mxL r) with h | h
    · rw [Nat.max_eq_right h]
      rcases mxL_in r with e | e
      · exact .inl e
      · exact .inr (List.mem_cons_of_mem _ e)
    · rw [Nat.max_eq_left h]
      exact .inr List.mem_cons_self
theorem mx_eq {ks : List Nat} {m : Int} (h : m ∈ (0 : Int) :: ks.map fun (k : Nat) => (k : Int)) (ha : ∀ y ∈ (0 : Int) :: ks.map fun (k : Nat) => (k : Int), y ≤ m) : m = (mxL ks : Int) := by
  have h0 := ha 0 List.mem_cons_self
  have h1 : (mxL ks : Int) ≤ m := by
    rcases mxL_in ks with e | e
    · omega
    · exact ha _ (List.mem_cons_of_mem _ (List.mem_map.mpr ⟨_, e, rfl⟩))
  have h2 : m ≤ (mxL ks : Int) := by
    rcases List.mem_cons.mp h with rfl | h
    · omega
    · obtain ⟨k, hk, rfl⟩ := List.mem_map.mp h
      have := mxL_le hk
      omega
  omega
theorem DeepL.getL : ∀ {ks : List Nat} {ds : List PyData} {i : Nat} {d : PyData}, DeepL ks ds → ds[i]? = some d → ∃ k, ks[i]? = some k ∧ Deep k d
  | _, _, 0, _, .cons a _, h => ⟨_, rfl, by cases h; exact a⟩
  | _, _, i + 1, _, .cons _ b, h => DeepL.getL (i := i) b h
  | _, _, _, _, .nil, h => by simp at h
theorem DeepL.lenL : ∀ {ks : List Nat} {ds : List PyData}, DeepL ks ds → ks.length = ds.length
  | _, _, .nil => rfl
  | _, _, .cons _ b => congrArg (· + 1) b.lenL
section
variable {P : Program} {w : World} {K : PySem.W.Frag} {mg : Str → Option Value} {base : Heap}
abbrev N_law_deep : List Str := ["value", "parts", "part"]
abbrev P_law_deep : List Str := ["value"]
theorem sc_law_deep : FnScope N_law_deep P_law_deep (defScope s_law_deep) := ⟨rfl, rfl, rfl, by decide +kernel, rfl, by decide +kernel, by decide +kernel⟩
def spDe (m : Nat) : Sp := fun vs H Q _ => ∃ (v : V) (d : PyData) (k : Nat), vs = [v] ∧ k < m ∧ Deep k d ∧ Dv All H v d ∧ cost d ≤ 1000000 ∧ ∀ H', Same H H' → Q (.int (k : Int)) H'
theorem ok_de (T : Bt mg) (h : Has K mg "_law_deep" s_law_deep) : ∀ m : Nat, Ca P w K mg base (1 + m) "_law_deep" P_law_deep (spDe m)
  | 0 => by
    refine cal_of h sc_law_deep (fun _ _ _ _ _ _ us hl => match us, hl with | [_], _ => rfl) (fun vs H Q E h => ?_) (fun f cdv A outer s H vs Q E hr h => ?_)
    · obtain ⟨_, _, _, _, z, _⟩ := h
      exact absurd z (Nat.not_lt_zero _)
    · obtain ⟨_, _, _, _, z, _⟩ := h
      exact absurd z (Nat.not_lt_zero _)
  | m + 1 => by
    obtain ⟨_, _, c__law_deep⟩ := ok_de T h m
    refine cal_of (k := 1 + m) h sc_law_deep (fun _ _ _ _ _ _ us hl => match us, hl with | [_], _ => rfl) (fun vs H Q E h => ?_) (fun f cdv A outer s H vs Q E hr h => ?_)
    · obtain ⟨v, d, k, rfl, _⟩ := h
      rfl
    · obtain ⟨v, d, k, rfl, hk, dp, dv, hc, q⟩ := h
      refine ⟨_, (pss_cons (ps_if (pt_cmpR op_in_seq (pe_ix ix_tup (pv 0) pe_int (fun _ _ => rfl)) (pe_lst (pa_cons pe_str (pa_cons pe_str pa_nil))) rfl) (pss_one (ps_ret pe_int)) pss_nil)
        (pss_cons (ps_set (i := 1) sc_law_deep.nd rfl (.inl rfl) (pe_ifExp (pt_cmpR op_eq (pe_ix ix_tup (pv 0) pe_int (fun _ _ => rfl)) pe_str (nomark _)) (pe_lst (pa_cons (pe_ix ix_tup (pv 0) pe_int (fun _ _ => rfl)) pa_nil)) (pe_ifExp (pt_cmpR op_eq (pe_ix ix_tup (pv 0) pe_int (fun _ _ => rfl)) pe_str (nomark _)) (pe_callTy call_list_of (by rfl) T.list (by decide +kernel) (pa_cons (pe_slice sl_tupF (pv 0) (po_some pe_int) po_none) pa_nil)) (pe_callTy call_list_of (by rfl) T.list (by decide +kernel) (pa_cons (pe_ix ix_tup (pv 0) pe_int (fun _ _ => rfl)) pa_nil)))))
        (pss_one (ps_ret (pe_op op_add pe_int (pe_callB (cr_max rfl) (by rfl) T.max (by decide +kernel) (pa_cons (pe_op op_cat (pe_lst (pa_cons pe_int pa_nil)) (pe_lc (own := [("part", 2)]) (g := (gName 2)) (tt := tYes) (by rfl) sc_law_deep.nd (pi_seq (pv 1)) (blkOk_by (own := [("part", 2)]) (N := ["value", "parts", "part"]) (sc := defScope s_law_deep) (by decide +kernel)) (fun _ _ _ _ _ => pg_name (i := 2) sc_law_deep.nd rfl (Or.inl rfl)) (fun _ _ _ _ _ => pts_nil) (fun _ _ _ _ _ => (pe_call c__law_deep.1 (hr.mono (by omega)) rfl c__law_deep.2.1 c__law_deep.2.2.1 c__law_deep.2.2.2 .nil pass0 (pa_cons (pv 2) pa_nil))))) pa_nil))))))), ?_⟩
      have hL := sizeLine_eq
      have kk : ∀ {G G' : Hp}, Same G G' → Kp All G G' := fun m => Kp.same m
      obtain ⟨w0, ds0, rfl⟩ : ∃ w0 ds0, d = .tuple (.str w0 :: ds0) := by cases dp <;> exact ⟨_, _, rfl⟩
      obtain ⟨a, xs, rfl, ht, dl⟩ := dv.tupI
      cases dl with
      | @cons x0 xs1 _ _ dv0 dl1 =>
      obtain rfl := dv0.strI
      refine ⟨_, rfl, a, _, 0, .str w0, rfl, rfl, ht.sq, atI_0, by show 2 ≤ sizeLine; decide, fun L hLn => ⟨L, _, rfl, .inl (SqL.of upd_same), rfl, rfl, _, rfl, ?_⟩⟩
      have m1 : Same H (upd H L (.lst [.str "pos", .str "val"])) := Same.upd hLn
      generalize upd H L (.lst [.str "pos", .str "val"]) = H1 at m1 ⊢
      rw [show (if false = true then !inV (V.str w0) [.str "pos", .str "val"] else inV (V.str w0) [.str "pos", .str "val"]) = decide (w0 ∈ (["pos", "val"] : List Str)) from inV_str w0 ["pos", "val"]]
      have key : (k = 1 ∧ w0 ∈ (["pos", "val"] : List Str)) ∨ (¬ w0 ∈ (["pos", "val"] : List Str) ∧ ∃ ks dsq, DeepL ks dsq ∧ k = mxL ks + 1 ∧ ((w0 = "not" ∧ ds0 = dsq ∧ dsq.length = 1) ∨ (w0 ≠ "not" ∧ w0 ≠ "all" ∧ ds0 = [.tuple dsq]) ∨ (w0 ≠ "not" ∧ w0 = "all" ∧ ∃ a0, ds0 = a0 :: dsq ∧ dsq.length = 2))) := by
        cases dp with
        | atom hw => exact .inl ⟨rfl, by rcases hw with rfl | rfl <;> decide +kernel⟩
        | @neg k d hd => exact .inr ⟨by decide +kernel, [k], [d], .cons hd .nil, by show k + 1 = max k 0 + 1; omega, .inl ⟨rfl, rfl, rfl⟩⟩
        | @join w ks ds hw hd => exact .inr ⟨by rcases hw with rfl | rfl <;> decide +kernel, ks, ds, hd, rfl, .inr (.inl ⟨by rcases hw with rfl | rfl <;> decide +kernel, by rcases hw with rfl | rfl <;> decide +kernel, rfl⟩)⟩
        | @all j k a g b hj hk2 => exact .inr ⟨by decide +kernel, [j, k], [g, b], .cons hj (.cons hk2 .nil), by show max j k + 1 = max j (max k 0) + 1; omega, .inr (.inr ⟨by decide +kernel, rfl, a, rfl, rfl⟩)⟩
      rcases key with ⟨ek, hw⟩ | ⟨hw, ks, dsq, dq, ek, sh⟩
      · rw [decide_eq_true hw]
        rw [ek] at q
        exact iteT (q _ m1)
      rw [decide_eq_false hw]
      refine iteF ?_
      have m1x := (kk m1).tup ht
      apply dupW (S := fun G w => ∃ (Lp : Addr) (ys : List V), w = .ref Lp ∧ G Lp = some (.lst ys) ∧ DvL All G ys dsq ∧ costL dsq ≤ 1000000 ∧ Same H G)
      · intro rest
        have cc : costL (.str w0 :: ds0) + 3 ≤ 1000000 := by simpa only [cost] using hc
        refine ⟨_, rfl, a, _, 0, .str w0, rfl, rfl, m1x.sq, atI_0, rfl, _, rfl, ?_⟩
        rw [show decide (V.str w0 = V.str "not") = decide (w0 = "not") from decide_eq_decide.mpr ⟨fun e => by injection e, fun e => congrArg V.str e⟩]
        by_cases h1 : w0 = "not"
        · rw [decide_eq_true h1]
          obtain ⟨x1, ex⟩ : ∃ x1, xs1 = [x1] := by
            rcases sh with ⟨_, e, l⟩ | ⟨n, _⟩ | ⟨n, _⟩
            · have := dl1.len
              rw [e, l] at this
              exact match xs1, this with | [x], _ => ⟨x, rfl⟩
            · exact absurd h1 n
            · exact absurd h1 n
          have sq1 : SqT K H1 a [.str w0, x1] := by rw [← ex]; exact m1x.sq
          refine iteT ⟨_, rfl, a, _, 1, x1, rfl, rfl, sq1, rfl, by show 1 ≤ sizeLine; decide, fun Lp hLp => ?_⟩
          have e : ds0 = dsq := by
            rcases sh with ⟨_, e, l⟩ | ⟨n, _⟩ | ⟨n, _⟩
            · exact e
            · exact absurd h1 n
            · exact absurd h1 n
          have fin : ∃ (Lp' : Addr) (ys : List V), V.ref Lp = .ref Lp' ∧ (upd H1 Lp (.lst [x1])) Lp' = some (.lst ys) ∧ DvL All (upd H1 Lp (.lst [x1])) ys dsq ∧ costL dsq ≤ 1000000 ∧ Same H (upd H1 Lp (.lst [x1])) := ⟨Lp, _, rfl, upd_same, by rw [← e, ← ex]; exact dl1.kp ((kk m1).trans (Kp.new hLp)), by rw [← e]; simp only [costL] at cc; omega, m1.trans (Same.upd hLp)⟩
          generalize upd H1 Lp (.lst [x1]) = G at fin ⊢
          dsimp only [gName]
          change (tRet _) _ [some (V.ref a), some (V.ref Lp), none] G
          generalize V.ref Lp = w9 at fin ⊢
          exact rest G w9 fin
        · rw [decide_eq_false h1]
          refine iteF ⟨_, rfl, a, _, 0, .str w0, rfl, rfl, m1x.sq, atI_0, rfl, _, rfl, ?_⟩
          rw [show decide (V.str w0 = V.str "all") = decide (w0 = "all") from decide_eq_decide.mpr ⟨fun e => by injection e, fun e => congrArg V.str e⟩]
          by_cases h2 : w0 = "all"
          · rw [decide_eq_true h2]
            obtain ⟨a0, e, l⟩ : ∃ a0, ds0 = a0 :: dsq ∧ dsq.length = 2 := by
              rcases sh with ⟨n, _⟩ | ⟨_, n, _⟩ | ⟨_, _, r⟩
              · exact absurd n h1
              · exact absurd h2 n
              · exact r
            obtain ⟨y0, ys, e2, dv1, dl2⟩ : ∃ y0 ys, xs1 = y0 :: ys ∧ Dv All H y0 a0 ∧ DvL All H ys dsq := by
              rw [e] at dl1
              cases dl1 with
              | cons p q => exact ⟨_, _, rfl, p, q⟩
            have tp : TupF H1 a (.str w0 :: y0 :: ys) := by rw [← e2]; exact m1x
            refine iteT ⟨_, rfl, _, rfl, a, _, rfl, tp, fun p4 H5 m5 hp4 => ?_⟩
            have hp5 : TupF H5 p4 (cutV (.str w0 :: y0 :: ys) (some 2) none) := hp4
            rw [cut_drop _ _ (by decide : (0 : Int) ≤ 2)] at hp5
            refine ⟨p4, _, rfl, .inr hp5.sq, fun Lp hLp => ?_⟩
            have fin : ∃ (Lp' : Addr) (ys' : List V), V.ref Lp = .ref Lp' ∧ (upd H5 Lp (.lst ys)) Lp' = some (.lst ys') ∧ DvL All (upd H5 Lp (.lst ys)) ys' dsq ∧ costL dsq ≤ 1000000 ∧ Same H (upd H5 Lp (.lst ys)) := ⟨Lp, _, rfl, upd_same, dl2.kp (((kk m1).trans (kk m5)).trans (Kp.new hLp)), by rw [e] at cc; simp only [costL] at cc; omega, (m1.trans m5).trans (Same.upd hLp)⟩
            show gName 1 _ _ (upd H5 Lp (.lst ys)) _
            generalize upd H5 Lp (.lst ys) = G at fin ⊢
            dsimp only [gName]
            change (tRet _) _ [some (V.ref a), some (V.ref Lp), none] G
            generalize V.ref Lp = w9 at fin ⊢
            exact rest G w9 fin
          · rw [decide_eq_false h2]
            have e : ds0 = [.tuple dsq] := by
              rcases sh with ⟨n, _⟩ | ⟨_, _, r⟩ | ⟨_, n, _⟩
              · exact absurd n h1
              · exact r
              · exact absurd n h2
            obtain ⟨o1, ys, e2, t1, dl2⟩ : ∃ o1 ys, xs1 = [.ref o1] ∧ TupF H o1 ys ∧ DvL All H ys dsq := by
              rw [e] at dl1
              cases dl1 with
              | cons p q =>
                cases q
                obtain ⟨o1, ys, rfl, t1, d1⟩ := p.tupI
                exact ⟨o1, ys, rfl, t1, d1⟩
            have sq1 : SqT K H1 a [.str w0, .ref o1] := by rw [← e2]; exact m1x.sq
            refine iteF ⟨_, rfl, a, _, 1, _, rfl, rfl, sq1, rfl, o1, _, rfl, .inr ((kk m1).tup t1).sq, fun Lp hLp => ?_⟩
            have fin : ∃ (Lp' : Addr) (ys' : List V), V.ref Lp = .ref Lp' ∧ (upd H1 Lp (.lst ys)) Lp' = some (.lst ys') ∧ DvL All (upd H1 Lp (.lst ys)) ys' dsq ∧ costL dsq ≤ 1000000 ∧ Same H (upd H1 Lp (.lst ys)) := ⟨Lp, _, rfl, upd_same, dl2.kp ((kk m1).trans (Kp.new hLp)), by rw [e] at cc; simp only [costL, cost] at cc; omega, m1.trans (Same.upd hLp)⟩
            generalize upd H1 Lp (.lst ys) = G at fin ⊢
            dsimp only [gName]
            change (tRet _) _ [some (V.ref a), some (V.ref Lp), none] G
            generalize V.ref Lp = w9 at fin ⊢
            exact rest G w9 fin
      · rintro G w9 ⟨Lp, ys, rfl, eL, dly, cy, mG⟩
        have hkl := dq.lenL
        have ylen := dly.len
        have lds := costL_len dsq
        refine ⟨by show 1 ≤ sizeLine; decide, fun L0 hL0 => ?_⟩
        have s0 : Same G (upd G L0 (.lst [.int 0])) := Same.upd hL0
        have e0 : (upd G L0 (.lst [.int 0])) L0 = some (.lst [.int 0]) := upd_same
        generalize upd G L0 (.lst [.int 0]) = G1 at s0 e0 ⊢
        refine ⟨_, rfl, Lp, rfl, .inl ⟨⟨_, SqL.of (s0 _ _ eL)⟩, fun D hD => ?_⟩⟩
        refine lc_o (walk_list (K := K) (a := Lp) (xs := ys)) (fun i => ks[i]?.map fun (k : Nat) => V.int (k : Int)) (by omega) hD (fun Hx sm => SqL.of (sm _ _ (s0 _ _ eL))) ?_ ?_
        · rintro i y Hx H' Nx hi sm hDx ⟨rfl, hy⟩ hno hyes
          obtain ⟨e, he, dve⟩ := dly.get hy
          obtain ⟨ki, hki, dpi⟩ := dq.getL he
          have hle := mxL_le (List.mem_of_getElem? hki)
          exact ⟨rfl, yes ⟨_, rfl, y, e, ki, rfl, by omega, dpi, dve.kp ((kk s0).trans (kk sm)), Nat.le_trans (costL_mem (List.mem_of_getElem? he)) cy, fun H2 m2 => hyes _ (by rw [hki]; rfl) _ m2⟩⟩
        intro H2 s2 hD2
        rw [show ys.length = ks.length by omega, range_list] at hD2
        refine ⟨L0, D, _, _, rfl, rfl, s2 _ _ e0, hD2, by simp only [List.length_cons, List.length_nil, List.length_map]; omega, fun D2 hD3 => ?_⟩
        have ei : ([V.int 0] ++ ks.map fun (k : Nat) => V.int (k : Int)) = ((0 : Int) :: ks.map fun (k : Nat) => (k : Int)).map V.int := by
          rw [List.map_cons, List.map_map]
          rfl
        rw [ei]
        refine ⟨D2, _, rfl, SqL.of upd_same, by simp, fun mm hm hall => ⟨_, _, rfl, rfl, ?_⟩⟩
        have em : (1 : Int) + mm = (k : Int) := by
          rw [ek]
          have := mx_eq hm hall
          omega
        show Q (V.int (1 + mm)) _
        rw [em]
        exact q _ (((mG.trans s0).trans s2).trans (Same.upd hD3))
end
end Kx
namespace Kx
open PySem PySem.Spec PyProof.Rows L2
variable {ps : List (Str × Str)} {ns us : List Str}
theorem nxt_app (a b : List Nd) : nxt ps ns us (a ++ b) = nxt ps ns us a ++ nxt ps ns us b := by
  unfold nxt
  rw [List.flatMap_append]
theorem lvF_nil : ∀ k : Nat, lvF ps ns us k [] = 0
  | 0 => rfl
  | _ + 1 => rfl
theorem lvF_app : ∀ (k : Nat) (a b : List Nd), lvF ps ns us k (a ++ b) = max (lvF ps ns us k a) (lvF ps ns us k b)
  | 0, _, _ => rfl
  | k + 1, [], b => by rw [List.nil_append, lvF_nil]; omega
  | k + 1, x :: r, [] => by rw [List.append_nil, lvF_nil]; omega
  | k + 1, x :: r, y :: t => by
    show 1 + lvF ps ns us k (nxt ps ns us ((x :: r) ++ (y :: t))) = max (1 + lvF ps ns us k (nxt ps ns us (x :: r))) (1 + lvF ps ns us k (nxt ps ns us (y :: t)))
    rw [nxt_app, lvF_app k]
    omega
/-- the levels of one -/
theorem lvF_one {k : Nat} {n : Nd} {l : List Nd} (h : needD ps ns us n = some l) : lvF ps ns us (k + 1) [n] = 1 + lvF ps ns us k l := by
  show 1 + lvF ps ns us k (nxt ps ns us [n]) = _
  have : nxt ps ns us [n] = l := by
    unfold nxt
    rw [List.flatMap_cons, h]
    show l ++ [] = l
    rw [List.append_nil]
  rw [this]
/-- right within k levels, and of just k levels -/
def Lv (ps : List (Str × Str)) (ns us : List Str) (role : Str) (ow : List Str) (k : Nat) (d : PyData) : Prop := okN ps ns us k ⟨role, ow, d⟩ = true ∧ lvF ps ns us k [⟨role, ow, d⟩] = k ∧ Deep k d
theorem Lv.neg {role : Str} {ow : List Str} {k : Nat} {d : PyData} (hr : role ≠ "guard") (h : Lv ps ns us role ow k d) : Lv ps ns us role ow (k + 1) (.tuple [.str "not", d]) := by
  obtain ⟨a, b, c⟩ := h
  refine ⟨by rw [okN_not hr]; exact a, ?_, .neg c⟩
  have e : needD ps ns us ⟨role, ow, .tuple [.str "not", d]⟩ = some [⟨role, ow, d⟩] := by
    show (if eqS "not" (.str "not") && decide (role ≠ "guard") then _ else _) = _
    rw [decide_eq_true hr]
    rfl
  rw [lvF_one e, b]
  omega
theorem need_join {role z : Str} {ow : List Str} {ds : List PyData} (hz : z = "and" ∨ z = "or") : needD ps ns us ⟨role, ow, .tuple [.str z, .tuple ds]⟩ = some (ds.map fun p => ⟨role, ow, p⟩) := by
  show (if eqS "not" (.str z) && decide (role ≠ "guard") then _ else if strInD ["and", "or"] (.str z) && isTupD (.tuple ds) then _ else _) = _
  have h1 : eqS "not" (.str z) = false := decide_eq_false fun e => by
    subst e
    rcases hz with h | h <;> exact absurd h (by decide +kernel)
  have h2 : strInD ["and", "or"] (.str z) = true := decide_eq_true (by rcases hz with rfl | rfl <;> decide +kernel)
  rw [h1, h2]
  rfl
theorem leaf_of {n : Nd} (h : okN ps ns us 1 n = true) : needD ps ns us n = some [] := by
  have h : (match needD ps ns us n with | none => false | some l => l.all (okN ps ns us 0)) = true := h
  cases e : needD ps ns us n with
  | none => rw [e] at h; cases h
  | some l =>
    rw [e] at h
    cases l with
    | nil => rfl
    | cons x r => cases h
theorem leaf_ok {n : Nd} (h : needD ps ns us n = some []) (k : Nat) : okN ps ns us (k + 1) n = true ∧ lvF ps ns us (k + 1) [n] = 1 := by
  refine ⟨?_, by rw [lvF_one h, lvF_nil]⟩
  show (match needD ps ns us n with | none => false | some l => l.all (okN ps ns us k)) = true
  rw [h]
  rfl
/-- beside one of k levels stands a leaf -/
theorem Lv.leaf {role z : Str} {ow : List Str} {k : Nat} {a d : PyData} (hz : z = "and" ∨ z = "or") (la : needD ps ns us ⟨role, ow, a⟩ = some []) (da : Deep 1 a) (h : Lv ps ns us role ow (k + 1) d) :
    Lv ps ns us role ow (k + 2) (.tuple [.str z, .tuple [a, d]]) ∧ Lv ps ns us role ow (k + 2) (.tuple [.str z, .tuple [d, a]]) := by
  have hz2 : z ∈ (["and", "or"] : List Str) := by rcases hz with rfl | rfl <;> decide +kernel
  obtain ⟨l1, l2⟩ := leaf_ok la k
  refine ⟨⟨?_, ?_, ?_⟩, ⟨?_, ?_, ?_⟩⟩
  · rw [okN_join hz2, List.all_cons, List.all_cons, l1, h.1]
    rfl
  · rw [lvF_one (need_join hz)]
    show 1 + lvF ps ns us (k + 1) ([⟨role, ow, a⟩] ++ [⟨role, ow, d⟩]) = _
    rw [lvF_app, l2, h.2.1]
    omega
  · have := Deep.join hz (.cons da (.cons h.2.2 .nil))
    rw [show mxL [1, k + 1] = k + 1 by show max 1 (max (k + 1) 0) = _; omega] at this
    exact this
  · rw [okN_join hz2, List.all_cons, List.all_cons, l1, h.1]
    rfl
  · rw [lvF_one (need_join hz)]
    show 1 + lvF ps ns us (k + 1) ([⟨role, ow, d⟩] ++ [⟨role, ow, a⟩]) = _
    rw [lvF_app, l2, h.2.1]
    omega
  · have := Deep.join hz (.cons h.2.2 (.cons da .nil))
    rw [show mxL [k + 1, 1] = k + 1 by show max (k + 1) (max 1 0) = _; omega] at this
    exact this
/-- the same twice -/
theorem Lv.twice {role z : Str} {ow : List Str} {k : Nat} {d : PyData} (hz : z = "and" ∨ z = "or") (h : Lv ps ns us role ow k d) : Lv ps ns us role ow (k + 1) (.tuple [.str z, .tuple [d, d]]) := by
  have hz2 : z ∈ (["and", "or"] : List Str) := by rcases hz with rfl | rfl <;> decide +kernel
  refine ⟨?_, ?_, ?_⟩
  · rw [okN_join hz2, List.all_cons, List.all_cons, h.1]
    rfl
  · rw [lvF_one (need_join hz)]
    show 1 + lvF ps ns us k ([⟨role, ow, d⟩] ++ [⟨role, ow, d⟩]) = _
    rw [lvF_app, h.2.1]
    omega
  · have := Deep.join hz (.cons h.2.2 (.cons h.2.2 .nil))
    rw [show mxL [k, k] = k by show max k (max k 0) = _; omega] at this
    exact this
theorem Lv.one {role z : Str} {ow : List Str} {k : Nat} {d : PyData} (hz : z = "and" ∨ z = "or") (h : Lv ps ns us role ow k d) : Lv ps ns us role ow (k + 1) (.tuple [.str z, .tuple [d]]) := by
  have hz2 : z ∈ (["and", "or"] : List Str) := by rcases hz with rfl | rfl <;> decide +kernel
  refine ⟨?_, ?_, ?_⟩
  · rw [okN_join hz2, List.all_cons, h.1]
    rfl
  · rw [lvF_one (need_join hz)]
    show 1 + lvF ps ns us k [⟨role, ow, d⟩] = _
    rw [h.2.1]
    omega
  · have := Deep.join hz (.cons h.2.2 .nil)
    rw [show mxL [k] = k by show max k 0 = _; omega] at this
    exact this
end Kx
namespace Kx
open PySem PySem.Spec PyProof.Rows L2
theorem FrameAt.kpp {C x p : Addr} {n : Nat} {H H' : Hp} {va vp vv : V} {ps : List (Str × Str)} {ns us : List Str} (h : FrameAt C H x va vp vv ps ns us) (hp : PotAt H p n) (k : KpP p H H') : FrameAt C H' x va vp vv ps ns us := by
  obtain ⟨a, b, c, ep, _⟩ := hp
  have ne : ∀ {b : Addr} {o : HO}, H b = some o → (∀ xs, o ≠ .lst xs) → ¬ b = p := fun e n q => by
    rw [q, ep] at e
    cases e
    exact n _ rfl
  obtain ⟨⟨dx, LB, LT, KD, h1, h2, h3, h4⟩, da, dp, dv, r1, r2, r3, r4, r5⟩ := h
  exact ⟨⟨dx, LB, LT, KD, k.get h1 (ne h1 fun _ z => by cases z), k.get h2 (ne h2 fun _ z => by cases z), k.tup h3, k.get h4 (ne h4 fun _ z => by cases z)⟩, da.kp k.all, dp.kp k.all, dv.kp k.all, r1, r2, r3, r4, r5⟩
section
variable {P : Program} {w : World} {K : PySem.W.Frag} {mg : Str → Option Value} {base : Heap}
abbrev N_law_limits_right : List Str := ["keg", "sides", "frame", "value", "turn", "more", "inner", "whole"]
abbrev P_law_limits_right : List Str := ["keg", "sides", "frame"]
theorem sc_law_limits_right : FnScope N_law_limits_right P_law_limits_right (defScope s_law_limits_right) := ⟨rfl, rfl, rfl, by decide +kernel, rfl, by decide +kernel, by decide +kernel⟩
def spLR (C : Addr) : Sp := fun vs H Q _ => ∃ (p R x : Addr) (n : Nat) (va vp vv wa wp wv : V) (ps : List (Str × Str)) (ns us : List Str), vs = [.ref p, .ref R, .ref x] ∧ PotAt H p n ∧ n ≤ 500000 ∧ R ≠ p ∧ RecAt H R va vp vv ps ns us ∧ Sides ps ns us ∧ FrameAt C H x wa wp wv ps ns us ∧
  ∀ (H' : Hp), PotAt H' p (n + 3000) → KpP p H H' → Q (.bl true) H'
theorem ok_lr {om : Obj} (hK : K.lookup sysModules = some om) (T : Bt mg) {C : Addr} (h : Has K mg "_law_limits_right" s_law_limits_right) (C1 : ∀ m : Nat, Ca P w K mg base (8 + m) "_law_claim" P_law_claim (spCl m)) (C2 : Ca P w K mg base 2 "_law_choice" P_law_choice spChoice) (C3 : ∀ m : Nat, Ca P w K mg base (1 + m) "_law_deep" P_law_deep (spDe m))
    (D1 : Ca P w K mg base 9 "is_claim" P_is_claim (spIC C)) (D2 : Ca P w K mg base 10 "claim_depth" P_claim_depth (spCD C)) : Ca P w K mg base 15 "_law_limits_right" P_law_limits_right (spLR C) := by
  obtain ⟨_, _, c__law_claim⟩ := C1 1
  obtain ⟨_, _, c__law_choice⟩ := C2
  obtain ⟨_, _, c__law_deep⟩ := C3 13
  obtain ⟨_, _, c_is_claim⟩ := D1
  obtain ⟨_, _, c_claim_depth⟩ := D2
  refine cal_of (k := 14) h sc_law_limits_right (fun _ _ _ _ _ _ us hl => match us, hl with | [_, _, _], _ => rfl) (fun vs H Q E h => ?_) (fun f cdv A outer s H vs Q E hr h => ?_)
  · obtain ⟨p, R, x, n, va, vp, vv, wa, wp, wv, ps, ns, us, rfl, _⟩ := h
    rfl
  · obtain ⟨p, R, x, n, va, vp, vv, wa, wp, wv, ps, ns, us, rfl, hp, hn, hRp, rc, sd, fr, k⟩ := h
    refine ⟨_, (pss_cons (ps_set (i := 3) sc_law_limits_right.nd rfl (.inl rfl) (pe_call c__law_claim.1 (hr.mono (by decide)) rfl c__law_claim.2.1 c__law_claim.2.2.1 c__law_claim.2.2.2 .nil pass0 (pa_cons (pv 0) (pa_cons (pv 1) (pa_cons pe_int pa_nil)))))
      (pss_cons (ps_for PassesOwn.never rfl (pi_range1 rfl T.range (pa_cons pe_int pa_nil)) (pg_name (i := 4) sc_law_limits_right.nd rfl (.inl rfl))
        (pss_cons (ps_set (i := 5) sc_law_limits_right.nd rfl (.inl rfl) (pe_call c__law_claim.1 (hr.mono (by decide)) rfl c__law_claim.2.1 c__law_claim.2.2.1 c__law_claim.2.2.2 .nil pass0 (pa_cons (pv 0) (pa_cons (pv 1) (pa_cons pe_int pa_nil)))))
        (pss_one (ps_set (i := 3) sc_law_limits_right.nd rfl (.inl rfl) (pe_call c__law_choice.1 (hr.mono (by decide)) rfl c__law_choice.2.1 c__law_choice.2.2.1 c__law_choice.2.2.2 .nil pass0 (pa_cons (pv 0) (pa_cons (pe_lst (pa_cons (pe_tupF (pa_cons pe_str (pa_cons (pv 3) pa_nil))) (pa_cons (pe_tupF (pa_cons pe_str (pa_cons (pe_tupF (pa_cons (pv 5) (pa_cons (pv 3) pa_nil))) pa_nil))) (pa_cons (pe_tupF (pa_cons pe_str (pa_cons (pe_tupF (pa_cons (pv 3) pa_nil)) pa_nil))) (pa_cons (pe_tupF (pa_cons pe_str (pa_cons (pe_tupF (pa_cons (pv 3) (pa_cons (pv 5) pa_nil))) pa_nil))) pa_nil))))) pa_nil)))))))
      (pss_cons (ps_if (pt_cmpR (op_neDv hK hr.units) (pe_lst (pa_cons (pe_call c__law_deep.1 (hr.mono (by decide)) rfl c__law_deep.2.1 c__law_deep.2.2.1 c__law_deep.2.2.2 .nil pass0 (pa_cons (pv 3) pa_nil)) (pa_cons (pe_call c_is_claim.1 (hr.mono (by decide)) rfl c_is_claim.2.1 c_is_claim.2.2.1 c_is_claim.2.2.2 .nil pass0 (pa_cons (pv 2) (pa_cons (pv 3) pa_nil))) (pa_cons (pe_call c_claim_depth.1 (hr.mono (by decide)) rfl c_claim_depth.2.1 c_claim_depth.2.2.1 c_claim_depth.2.2.2 .nil pass0 (pa_cons (pv 2) (pa_cons (pv 3) pa_nil))) pa_nil)))) (pe_lst (pa_cons pe_int (pa_cons pe_bl (pa_cons pe_int pa_nil)))) (nomark _)) (pss_one (ps_ret pe_bl)) pss_nil)
      (pss_cons (ps_set (i := 6) sc_law_limits_right.nd rfl (.inl rfl) (pe_tupF (pa_cons pe_str (pa_cons pe_str (pa_cons (pe_tupF (pa_cons pe_str (pa_cons pe_int pa_nil))) (pa_cons (pe_tupF (pa_cons pe_str (pa_cons pe_int pa_nil))) pa_nil))))))
      (pss_cons (ps_for PassesOwn.never rfl (pi_range1 rfl T.range (pa_cons pe_int pa_nil)) (pg_name (i := 4) sc_law_limits_right.nd rfl (.inl rfl))
        (pss_one (ps_set (i := 6) sc_law_limits_right.nd rfl (.inl rfl) (pe_call c__law_choice.1 (hr.mono (by decide)) rfl c__law_choice.2.1 c__law_choice.2.2.1 c__law_choice.2.2.2 .nil pass0 (pa_cons (pv 0) (pa_cons (pe_lst (pa_cons (pe_tupF (pa_cons pe_str (pa_cons (pv 6) pa_nil))) (pa_cons (pe_tupF (pa_cons pe_str (pa_cons (pe_tupF (pa_cons (pv 6) pa_nil)) pa_nil))) (pa_cons (pe_tupF (pa_cons pe_str (pa_cons (pe_tupF (pa_cons (pv 6) (pa_cons (pv 6) pa_nil))) pa_nil))) pa_nil)))) pa_nil))))))
      (pss_cons (ps_set (i := 7) sc_law_limits_right.nd rfl (.inl rfl) (pe_tupF (pa_cons pe_str (pa_cons (pe_tupF (pa_cons pe_str pa_nil)) (pa_cons (pe_tupF (pa_cons pe_str (pa_cons (pe_tupF pa_nil) pa_nil))) (pa_cons (pv 6) pa_nil))))))
      (pss_one (ps_ret (pe_cmpR (op_eqDv hK hr.units) (pe_lst (pa_cons (pe_call c_is_claim.1 (hr.mono (by decide)) rfl c_is_claim.2.1 c_is_claim.2.2.1 c_is_claim.2.2.2 .nil pass0 (pa_cons (pv 2) (pa_cons (pv 7) pa_nil))) (pa_cons (pe_call c_claim_depth.1 (hr.mono (by decide)) rfl c_claim_depth.2.1 c_claim_depth.2.2.1 c_claim_depth.2.2.2 .nil pass0 (pa_cons (pv 2) (pa_cons (pv 7) pa_nil))) pa_nil))) (pe_lst (pa_cons pe_bl (pa_cons pe_int pa_nil))) (nomark _)))))))))), ?_⟩
    have e1B : pB 1 = 100 := rfl
    refine ⟨_, rfl, _, rfl, p, R, n, va, vp, vv, ps, ns, us, rfl, by decide, hp, by omega, hRp, rc, sd, fun v0 d0 H1 dv0 g0 ac0 hp1 hk1 => ?_⟩
    have kz : ∀ {X Y : Hp}, Same X Y → Kp All X Y := fun h => Kp.same h
    have hL := sizeLine_eq
    have at1 : ∀ {d : PyData}, AtomC ps ns us d → needD ps ns us ⟨"claim", [], d⟩ = some [] ∧ Deep 1 d := fun {d} h => by
      obtain ⟨h1, wd, x1, x2, x3, rfl, hw⟩ := h
      exact ⟨leaf_of h1, .atom hw⟩
    refine ⟨11, rfl, by decide, by decide, for_it (walk_range (lo := 0) (n := 11)) (fun i σ G => ∃ (v : V) (d : PyData) (v4 v5 : Option V), σ = [some (.ref p), some (.ref R), some (.ref x), some v, v4, v5, none, none] ∧ Dv All G v d ∧ Lv ps ns us "claim" [] (i + 1) d ∧ cost d ≤ 2100 * (i + 1) ∧ PotAt G p (n + 200 + 201 * i) ∧ KpP p H G)
      ⟨v0, d0, none, none, rfl, dv0, ?_, ?_, hp1.mono (by omega), hk1⟩ (fun _ _ _ _ _ => trivial) ?_ ?_⟩
    · obtain ⟨l1, l2⟩ := at1 (ac0 rfl)
      have := leaf_ok l1 0
      exact ⟨this.1, this.2, l2⟩
    · have := g0.c
      have c1 : cB 1 = 2000 := rfl
      omega
    · rintro i y σ G G' hi ⟨v, d, v4, v5, rfl, dv, lv, cd, hpG, kG⟩ ⟨rfl, rfl⟩
      refine ⟨_, rfl, _, rfl, p, R, _, va, vp, vv, ps, ns, us, rfl, by decide, hpG, by omega, hRp, rc.kp kG hRp, sd, fun a da H2 dva ga aca hp2 hk2 => ?_⟩
      obtain ⟨l1, l2⟩ := at1 (aca rfl)
      have ca := ga.c
      have c1 : cB 1 = 2000 := rfl
      have k2 := kG.trans hk2
      refine ⟨_, rfl, _, rfl, by show 2 ≤ sizeLine; decide, fun t1 K1 q1 h1 => ?_⟩
      refine ⟨_, rfl, _, rfl, by show 2 ≤ sizeLine; decide, fun t2 K2 q2 h2 => ⟨by show 2 ≤ sizeLine; decide, fun t3 K3 q3 h3 => ?_⟩⟩
      refine ⟨_, rfl, by show 1 ≤ sizeLine; decide, fun t4 K4 q4 h4 => ⟨by show 2 ≤ sizeLine; decide, fun t5 K5 q5 h5 => ?_⟩⟩
      refine ⟨_, rfl, _, rfl, by show 2 ≤ sizeLine; decide, fun t6 K6 q6 h6 => ⟨by show 2 ≤ sizeLine; decide, fun t7 K7 q7 h7 => ?_⟩⟩
      refine ⟨by show 4 ≤ sizeLine; decide, fun L hLn => ?_⟩
      have m7 : Same H2 K7 := (((((q1.trans q2).trans q3).trans q4).trans q5).trans q6).trans q7
      have m8 : Same H2 (upd K7 L (.lst [.ref t1, .ref t3, .ref t5, .ref t7])) := m7.trans (Same.upd hLn)
      refine ⟨p, n + 200 + 201 * i + 2 * pB 1, .ref L, _, rfl, hp2.same m8, by omega, .inl ⟨L, rfl, (hp2.same m7).ne hLn, upd_same⟩, by show 1 ≤ 4; decide, by show 4 ≤ 1000; decide, fun j w9 H9 hv hp9 hk9 => ?_⟩
      have k29 : Kp All H2 H9 := (kz m8).trans hk9.all
      have dvd := (dv.kp hk2.all).kp k29
      have dvda := dva.kp k29
      have kt : ∀ {Y : Hp}, Same Y K7 → Kp All Y H9 := fun m => ((kz m).trans (kz (Same.upd hLn))).trans hk9.all
      have all : ∀ v ∈ ([.ref t1, .ref t3, .ref t5, .ref t7] : List V), ∃ d', Dv All H9 v d' ∧ Lv ps ns us "claim" [] (i + 2) d' ∧ cost d' ≤ 2100 * (i + 2) := by
        have le3 : (("not" : Str)).length = 3 := by decide +kernel
        have le4 : (("and" : Str)).length = 3 := by decide +kernel
        have le5 : (("or" : Str)).length = 2 := by decide +kernel
        obtain ⟨a1, a2⟩ := Lv.leaf (role := "claim") (ow := []) (z := "and") (k := i) (.inl rfl) l1 l2 lv
        refine List.forall_mem_cons.mpr ⟨⟨_, .tupM ((kt (((((q2.trans q3).trans q4).trans q5).trans q6).trans q7)).tup h1) (.cons (.str _) (.cons dvd .nil)), lv.neg (by decide), by simp only [cost, costL]; omega⟩, ?_⟩
        refine List.forall_mem_cons.mpr ⟨⟨_, .tupM ((kt (((q4.trans q5).trans q6).trans q7)).tup h3) (.cons (.str _) (.cons (.tupM ((kt ((((q3.trans q4).trans q5).trans q6).trans q7)).tup h2) (.cons dvda (.cons dvd .nil))) .nil)), a1, by simp only [cost, costL]; omega⟩, ?_⟩
        refine List.forall_mem_cons.mpr ⟨⟨_, .tupM ((kt (q6.trans q7)).tup h5) (.cons (.str _) (.cons (.tupM ((kt ((q5.trans q6).trans q7)).tup h4) (.cons dvd .nil)) .nil)), lv.one (.inr rfl), by simp only [cost, costL]; omega⟩, ?_⟩
        exact List.forall_mem_cons.mpr ⟨⟨_, .tupM ((kt Same.refl).tup h7) (.cons (.str _) (.cons (.tupM ((kt q7).tup h6) (.cons dvd (.cons dvda .nil))) .nil)), a2, by simp only [cost, costL]; omega⟩, List.forall_mem_nil _⟩
      obtain ⟨d', e1, e2, e3⟩ := all w9 (List.mem_of_getElem? hv)
      exact ⟨w9, d', _, _, rfl, e1, e2, e3, hp9.mono (by omega), (k2.trans (Kp.same m8)).trans hk9⟩
    · rintro σ G ⟨v, d, v4, v5, rfl, dv, lv, cd, hpG, kG⟩
      have frG := fr.kpp hp kG
      have lv : Lv ps ns us "claim" [] 12 d := lv
      refine ⟨_, rfl, v, d, 12, rfl, by decide, lv.2.2, dv, by omega, fun G1 s1 => ?_⟩
      refine ⟨_, rfl, _, rfl, All, x, wa, wp, wv, v, d, ps, ns, us, rfl, frG.same s1, dv.kp (kz s1), by omega, fun G2 s2 => ?_⟩
      refine ⟨_, rfl, _, rfl, All, x, wa, wp, wv, v, d, ps, ns, us, rfl, frG.same (s1.trans s2), dv.kp (kz (s1.trans s2)), by omega, lv.1, fun G3 s3 => ?_⟩
      rw [lv.1, lv.2.1]
      refine ⟨by show 3 ≤ sizeLine; decide, fun L1 hL1 => ⟨by show 3 ≤ sizeLine; decide, fun L2 hL2 => ?_⟩⟩
      have m5 : Same G (upd (upd G3 L1 (.lst [.int 12, .bl true, .int 12])) L2 (.lst [.int 12, .bl true, .int 12])) := (((s1.trans s2).trans s3).trans (Same.upd hL1)).trans (Same.upd hL2)
      have f1 : (upd (upd G3 L1 (.lst [.int 12, .bl true, .int 12])) L2 (.lst [.int 12, .bl true, .int 12])) L1 = some (.lst [.int 12, .bl true, .int 12]) := Same.upd hL2 _ _ upd_same
      have f2 : (upd (upd G3 L1 (.lst [.int 12, .bl true, .int 12])) L2 (.lst [.int 12, .bl true, .int 12])) L2 = some (.lst [.int 12, .bl true, .int 12]) := upd_same
      refine ⟨fun _ => False, fun _ => False, .list [.int 12, .bool true, .int 12], .list [.int 12, .bool true, .int 12], .lst id f1 (.cons (.int _) (.cons (.bl _) (.cons (.int _) .nil))), .lst id f2 (.cons (.int _) (.cons (.bl _) (.cons (.int _) .nil))), by decide +kernel, by decide +kernel, _, rfl, ?_⟩
      rw [show PyData.eqv (.list [.int 12, .bool true, .int 12]) (.list [.int 12, .bool true, .int 12]) = true by decide +kernel]
      refine iteF ?_
      have hpM : PotAt (upd (upd G3 L1 (.lst [.int 12, .bl true, .int 12])) L2 (.lst [.int 12, .bl true, .int 12])) p (n + 200 + 201 * 11) := hpG.same m5
      have kM : KpP p H (upd (upd G3 L1 (.lst [.int 12, .bl true, .int 12])) L2 (.lst [.int 12, .bl true, .int 12])) := kG.trans (Kp.same m5)
      generalize upd (upd G3 L1 (.lst [.int 12, .bl true, .int 12])) L2 (.lst [.int 12, .bl true, .int 12]) = M at hpM kM ⊢
      have wor : ∀ i : Int, i.natAbs < 10 ^ 20 → Wor ps ns us ["own"] (.tuple [.str "", .int i]) := fun i hi => ⟨by
        show (((eqS "" (.str "") || kindD ps ns us "value" (.str "")) && intD (.int i)) && bTail ["own"] (.tuple [.str "", .int i])) = true
        rw [show eqS "" (.str "") = true by decide +kernel, show intD (.int i) = true from decide_eq_true (by unfold lim; omega)]
        rfl, by simp only [cost, costL]; rw [show (("" : Str)).length = 0 by decide +kernel]; omega, ⟨okS_by (by decide +kernel), show i.natAbs < 10 ^ 100 by omega, trivial⟩, by simp only [PyData.depth, PyData.depthAll]; rfl⟩
      have la : needD ps ns us ⟨"body", ["own"], .tuple [.str "val", .str "<=", .tuple [.str "", .int 0], .tuple [.str "", .int 1]]⟩ = some [] := body_atom (by decide) ⟨"<=", _, _, rfl, by decide +kernel, wor 0 (by decide +kernel), wor 1 (by decide +kernel)⟩
      refine ⟨by show 2 ≤ sizeLine; decide, fun t1 M1 r1 g1 => ⟨by show 2 ≤ sizeLine; decide, fun t2 M2 r2 g2 => ⟨by show 4 ≤ sizeLine; decide, fun t3 M3 r3 g3 => ?_⟩⟩⟩
      have r13 := (r1.trans r2).trans r3
      refine ⟨10, rfl, by decide, by decide, for_it (walk_range (lo := 0) (n := 10)) (fun i σ G => ∃ (v' : V) (d' : PyData) (v4' : Option V), σ = [some (.ref p), some (.ref R), some (.ref x), some v, v4', v5, some v', none] ∧ Dv All G v' d' ∧ Lv ps ns us "body" ["own"] (i + 1) d' ∧ cost d' + 60 ≤ 700 * 2 ^ i ∧ PotAt G p (n + 200 + 201 * 11 + i) ∧ KpP p H G)
        ⟨.ref t3, .tuple [.str "val", .str "<=", .tuple [.str "", .int 0], .tuple [.str "", .int 1]], v4, rfl, .tupM g3 (.cons (.str _) (.cons (.str _) (.cons (.tupM ((kz (r2.trans r3)).tup g1) (.cons (.str _) (.cons (.int _) .nil))) (.cons (.tupM ((kz r3).tup g2) (.cons (.str _) (.cons (.int _) .nil))) .nil)))), ⟨(leaf_ok la 0).1, (leaf_ok la 0).2, .atom (.inr rfl)⟩, by decide +kernel, (hpM.same r13).mono (by omega), kM.trans (Kp.same r13)⟩ (fun _ _ _ _ _ => trivial) ?_ ?_⟩
      · rintro i y σ N N' hi ⟨v', d', v4', rfl, dv', lv', cd', hpN, kN⟩ ⟨rfl, rfl⟩
        refine ⟨_, rfl, _, rfl, by show 2 ≤ sizeLine; decide, fun t1 K1 q1 h1 => ?_⟩
        refine ⟨_, rfl, by show 1 ≤ sizeLine; decide, fun t2 K2 q2 h2 => ⟨by show 2 ≤ sizeLine; decide, fun t3 K3 q3 h3 => ?_⟩⟩
        refine ⟨_, rfl, _, rfl, by show 2 ≤ sizeLine; decide, fun t4 K4 q4 h4 => ⟨by show 2 ≤ sizeLine; decide, fun t5 K5 q5 h5 => ?_⟩⟩
        refine ⟨by show 3 ≤ sizeLine; decide, fun L hLn => ?_⟩
        have m5' : Same N' K5 := (((q1.trans q2).trans q3).trans q4).trans q5
        have m6' : Same N' (upd K5 L (.lst [.ref t1, .ref t3, .ref t5])) := m5'.trans (Same.upd hLn)
        refine ⟨p, _, .ref L, _, rfl, hpN.same m6', by omega, .inl ⟨L, rfl, (hpN.same m5').ne hLn, upd_same⟩, by show 1 ≤ 3; decide, by show 3 ≤ 1000; decide, fun j w9 H9 hv hp9 hk9 => ?_⟩
        have k29 : Kp All N' H9 := (kz m6').trans hk9.all
        have dvd := dv'.kp k29
        have kt : ∀ {Y : Hp}, Same Y K5 → Kp All Y H9 := fun m => ((kz m).trans (kz (Same.upd hLn))).trans hk9.all
        have pw : 2 ^ (i + 1) = 2 * 2 ^ i := by rw [Nat.pow_succ]; omega
        have all : ∀ v ∈ ([.ref t1, .ref t3, .ref t5] : List V), ∃ d2, Dv All H9 v d2 ∧ Lv ps ns us "body" ["own"] (i + 2) d2 ∧ cost d2 + 60 ≤ 700 * 2 ^ (i + 1) := by
          have le3 : (("not" : Str)).length = 3 := by decide +kernel
          have le4 : (("and" : Str)).length = 3 := by decide +kernel
          have le5 : (("or" : Str)).length = 2 := by decide +kernel
          refine List.forall_mem_cons.mpr ⟨⟨_, .tupM ((kt ((((q2.trans q3).trans q4).trans q5))).tup h1) (.cons (.str _) (.cons dvd .nil)), lv'.neg (by decide), by simp only [cost, costL]; omega⟩, ?_⟩
          refine List.forall_mem_cons.mpr ⟨⟨_, .tupM ((kt (q4.trans q5)).tup h3) (.cons (.str _) (.cons (.tupM ((kt ((q3.trans q4).trans q5)).tup h2) (.cons dvd .nil)) .nil)), lv'.one (.inl rfl), by simp only [cost, costL]; omega⟩, ?_⟩
          exact List.forall_mem_cons.mpr ⟨⟨_, .tupM ((kt Same.refl).tup h5) (.cons (.str _) (.cons (.tupM ((kt q5).tup h4) (.cons dvd (.cons dvd .nil))) .nil)), lv'.twice (.inr rfl), by simp only [cost, costL]; omega⟩, List.forall_mem_nil _⟩
        obtain ⟨d2, e1, e2, e3⟩ := all w9 (List.mem_of_getElem? hv)
        exact ⟨w9, d2, _, rfl, e1, e2, e3, hp9.mono (by omega), (kN.trans (Kp.same m6')).trans hk9⟩
      · rintro σ N ⟨v', d', v4', rfl, dv', lv', cd', hpN, kN⟩
        have lv' : Lv ps ns us "body" ["own"] 11 d' := lv'
        have frN := fr.kpp hp kN
        have cd2 : cost d' + 60 ≤ 716800 := cd'
        refine ⟨by show 1 ≤ sizeLine; decide, fun t1 K1 q1 h1 => ⟨by show 0 ≤ sizeLine; exact Nat.zero_le _, fun t2 K2 q2 h2 => ⟨by show 2 ≤ sizeLine; decide, fun t3 K3 q3 h3 => ⟨_, rfl, by show 4 ≤ sizeLine; decide, fun t4 K4 q4 h4 => ?_⟩⟩⟩⟩
        have m4 := ((q1.trans q2).trans q3).trans q4
        have dW : Dv All K4 (.ref t4) (.tuple [.str "all", .tuple [.str "own"], .tuple [.str "and", .tuple []], d']) := .tupM h4 (.cons (.str _) (.cons (.tupM ((kz ((q2.trans q3).trans q4)).tup h1) (.cons (.str _) .nil)) (.cons (.tupM ((kz q4).tup h3) (.cons (.str _) (.cons (.tupM ((kz (q3.trans q4)).tup h2) .nil) .nil))) (.cons (dv'.kp (kz m4)) .nil))))
        have cW : cost (.tuple [.str "all", .tuple [.str "own"], .tuple [.str "and", .tuple []], d']) ≤ 8000000 := by
          simp only [cost, costL]
          have le1 : (("all" : Str)).length = 3 := by decide +kernel
          have le2 : (("own" : Str)).length = 3 := by decide +kernel
          have le3 : (("and" : Str)).length = 3 := by decide +kernel
          omega
        have no : ¬ ("own" : Str) ∈ allN ps ns us := fun e => absurd (sd.w14 _ ((an_all _).mpr e)) (by decide +kernel)
        have ow : ownsD ps ns us (.tuple [.str "own"]) = true := by
          show ((decide (1 ≤ 2) && (((nameD (.str "own") && !decide (("own" : Str) ∈ allN ps ns us)) && true) && decide ((["own"] : List Str).Nodup))) && true) = true
          rw [decide_eq_false no, show nameD (.str "own") = true by decide +kernel]
          decide +kernel
        have lg : needD ps ns us ⟨"guard", ["own"], .tuple [.str "and", .tuple []]⟩ = some [] := need_join (.inl rfl)
        obtain ⟨g1', g2'⟩ := leaf_ok lg 10
        have okW : okN ps ns us 12 ⟨"claim", [], .tuple [.str "all", .tuple [.str "own"], .tuple [.str "and", .tuple []], d']⟩ = true := by
          rw [okN_all, ow]
          show (true && (okN ps ns us 11 ⟨"guard", ["own"], _⟩ && okN ps ns us 11 ⟨"body", ["own"], d'⟩)) = true
          rw [g1', lv'.1]
          rfl
        have nW : needD ps ns us ⟨"claim", [], .tuple [.str "all", .tuple [.str "own"], .tuple [.str "and", .tuple []], d']⟩ = some ([⟨"guard", ["own"], .tuple [.str "and", .tuple []]⟩] ++ [⟨"body", ["own"], d'⟩]) := by
          show (if eqS "all" (.str "all") then (if decide (("claim" : Str) = "claim") && ownsD ps ns us (.tuple [.str "own"]) then some ([⟨"guard", strsD (itemsD (.tuple [.str "own"])), .tuple [.str "and", .tuple []]⟩, ⟨"body", strsD (itemsD (.tuple [.str "own"])), d'⟩] : List Nd) else none) else (if atomD ps ns us "claim" [] (.str "all") (.tuple [.str "own"]) (.tuple [.str "and", .tuple []]) d' then some [] else none)) = _
          rw [ow]
          rfl
        have lvW : lvF ps ns us 12 [⟨"claim", [], .tuple [.str "all", .tuple [.str "own"], .tuple [.str "and", .tuple []], d']⟩] = 12 := by
          rw [lvF_one nW, lvF_app, g2', lv'.2.1]
          decide
        refine ⟨_, rfl, _, rfl, All, x, wa, wp, wv, _, _, ps, ns, us, rfl, frN.same m4, dW, cW, fun Z1 s1' => ?_⟩
        refine ⟨_, rfl, _, rfl, All, x, wa, wp, wv, _, _, ps, ns, us, rfl, frN.same (m4.trans s1'), dW.kp (kz s1'), cW, okW, fun Z2 s2' => ?_⟩
        rw [okW, lvW]
        refine ⟨by show 2 ≤ sizeLine; decide, fun L3 hL3 => ⟨by show 2 ≤ sizeLine; decide, fun L4 hL4 => ?_⟩⟩
        have f1' : (upd (upd Z2 L3 (.lst [.bl true, .int 12])) L4 (.lst [.bl true, .int 12])) L3 = some (.lst [.bl true, .int 12]) := Same.upd hL4 _ _ upd_same
        have f2' : (upd (upd Z2 L3 (.lst [.bl true, .int 12])) L4 (.lst [.bl true, .int 12])) L4 = some (.lst [.bl true, .int 12]) := upd_same
        refine ⟨fun _ => False, fun _ => False, .list [.bool true, .int 12], .list [.bool true, .int 12], .lst id f1' (.cons (.bl _) (.cons (.int _) .nil)), .lst id f2' (.cons (.bl _) (.cons (.int _) .nil)), by decide +kernel, by decide +kernel, ?_⟩
        rw [show PyData.eqv (.list [.bool true, .int 12]) (.list [.bool true, .int 12]) = true by decide +kernel]
        have mE := (((m4.trans s1').trans s2').trans (Same.upd (o := .lst [.bl true, .int 12]) hL3)).trans (Same.upd (o := .lst [.bl true, .int 12]) hL4)
        exact k _ ((hpN.same mE).mono (by omega)) (kN.trans (Kp.same mE))
end
end Kx
namespace Kx
open PySem PySem.Spec PyProof.Rows L2
section
variable {P : Program} {w : World} {K : PySem.W.Frag} {mg : Str → Option Value} {base : Heap}
theorem calG_at {x : Str} {st : Stmt} {N ps : List Str} {k : Nat} {sp : Sp} {f : Addr} {fd : FuncData} (F : FunD K x x (defArgs st) (defBody st) (defScope st) [] [] f fd) (S : FnScope N ps (defScope st)) (len : ∀ vs H Q E, sp vs H Q E → vs.length = ps.length)
    (body : ∀ (f : Addr) (cdv : Value) (A : Around) (outer : List Env) (s : Shared) (H : Hp) (vs : List V) (Q : VK) (E : XK), (A.deeper (envOfC x (defScope st) s.heap.objs.size f cdv)).guards = some [] → Room k (A.deeper (envOfC x (defScope st) s.heap.objs.size f cdv)) → sp vs H Q E →
      ∃ t, PSs (cxOf CX0 P w K mg base N x (defScope st) f cdv A outer s H E).nox (defBody st) t ∧ t { nx := fun _ H' => Q .non H', rt := Q } (start N vs) H) : FnOkG P w K mg base CX0 (k + 1) f fd ps sp :=
  okG F S len (fun cdv A outer s H vs Q E hgd hr h => let ⟨t, ht, q⟩ := body f cdv A outer s H vs Q E hgd hr h; ⟨t, PSs.nox ht, q⟩)
abbrev N_law : List Str := ["script", "at", "keg", "sides", "frame", "own", "good", "value", "turn", "near"]
abbrev P_law : List Str := ["script"]
theorem sc_law : FnScope N_law P_law (defScope s_law) := ⟨rfl, rfl, rfl, by decide +kernel, rfl, by decide +kernel, by decide +kernel⟩
def spLaw (K : PySem.W.Frag) : Sp := fun vs H Q _ => ∃ (a : Addr) (ns : List Int), vs = [.ref a] ∧ SqL K H a (ns.map V.int) ∧ ns.length ≤ 63 ∧ ∀ H', Q (.bl true) H'
theorem ok_law (T : Bt mg) {C fL : Addr} {fdL : FuncData} (FL : FunD K "law" "law" (defArgs s_law) (defBody s_law) (defScope s_law) [] [] fL fdL)
    (C1 : Ca P w K mg base 1 "_law_keg" P_law_keg (spKeg K)) (C2 : Ca P w K mg base 3 "_law_sides" P_law_sides spSides) (C3 : Ca P w K mg base 7 "_law_frame_of" P_law_frame_of (spFO C)) (C4 : Ca P w K mg base 3 "_law_own_names" P_law_own_names spON)
    (C5 : ∀ m : Nat, Ca P w K mg base (8 + m) "_law_claim" P_law_claim (spCl m)) (C6 : ∀ m : Nat, Ca P w K mg base (6 + m) "_law_guard" P_law_guard (spGu m)) (C7 : ∀ m : Nat, Ca P w K mg base (6 + m) "_law_body" P_law_body (spBo m)) (C8 : ∀ m : Nat, Ca P w K mg base (4 + m) "_law_bent" P_law_bent (spBe m))
    (C9 : CaG P w K mg base 20 "_law_all_judged" P_law_all_judged (spAJ C)) (C10 : Ca P w K mg base 15 "_law_limits_right" P_law_limits_right (spLR C)) :
    FnOkG P w K mg base CX0 21 fL fdL P_law (spLaw K) := by
  obtain ⟨_, _, c__law_keg⟩ := C1
  obtain ⟨_, _, c__law_sides⟩ := C2
  obtain ⟨_, _, c__law_frame_of⟩ := C3
  obtain ⟨_, _, c__law_own_names⟩ := C4
  obtain ⟨_, _, c__law_claim⟩ := C5 3
  obtain ⟨_, _, c__law_guard⟩ := C6 3
  obtain ⟨_, _, c__law_body⟩ := C7 3
  obtain ⟨_, _, c__law_bent⟩ := C8 7
  obtain ⟨_, _, c__law_all_judged⟩ := C9
  obtain ⟨_, _, c__law_limits_right⟩ := C10
  refine calG_at (k := 20) FL sc_law (fun vs H Q E h => ?_) (fun f cdv A outer s H vs Q E hgd hr h => ?_)
  · obtain ⟨a, ns, rfl, _⟩ := h
    rfl
  · obtain ⟨a, ns, rfl, hS, hl, kq⟩ := h
    refine ⟨_, (pss_cons (ps_for PassesOwn.never rfl (pi_range1 rfl T.range (pa_cons (pe_callB (call_max2 rfl) (by rfl) T.max (by decide +kernel) (pa_cons pe_int (pa_cons (pe_callB (call_min2 rfl) (by rfl) T.min (by decide +kernel) (pa_cons pe_int (pa_cons (pe_callB call_len (by rfl) T.len (by decide +kernel) (pa_cons (pv 0) pa_nil)) pa_nil))) pa_nil))) pa_nil)) (pg_name (i := 1) sc_law.nd rfl (.inl rfl))
        (pss_cons (ps_set (i := 2) sc_law.nd rfl (.inl rfl) (pe_call c__law_keg.1 (hr.mono (by decide)) rfl c__law_keg.2.1 c__law_keg.2.2.1 c__law_keg.2.2.2 .nil pass0 (pa_cons (pv 0) (pa_cons (pv 1) pa_nil))))
        (pss_cons (ps_set (i := 3) sc_law.nd rfl (.inl rfl) (pe_call c__law_sides.1 (hr.mono (by decide)) rfl c__law_sides.2.1 c__law_sides.2.2.1 c__law_sides.2.2.2 .nil pass0 (pa_cons (pv 2) (pa_cons pe_int pa_nil))))
        (pss_cons (ps_par (i := 4) (j := 5) (by rfl) sc_law.nd rfl rfl (by decide) rfl rfl (pa_cons (pe_call c__law_frame_of.1 (hr.mono (by decide)) rfl c__law_frame_of.2.1 c__law_frame_of.2.2.1 c__law_frame_of.2.2.2 .nil pass0 (pa_cons (pv 3) pa_nil)) (pa_cons (pe_call c__law_own_names.1 (hr.mono (by decide)) rfl c__law_own_names.2.1 c__law_own_names.2.2.1 c__law_own_names.2.2.2 .nil pass0 (pa_cons (pv 2) (pa_cons (pv 3) pa_nil))) pa_nil)) (by rfl))
        (pss_cons (ps_set (i := 6) sc_law.nd rfl (.inl rfl) (pe_lst (pa_cons (pe_call c__law_claim.1 (hr.mono (by decide)) rfl c__law_claim.2.1 c__law_claim.2.2.1 c__law_claim.2.2.2 .nil pass0 (pa_cons (pv 2) (pa_cons (pv 3) (pa_cons pe_int pa_nil)))) (pa_cons (pe_call c__law_guard.1 (hr.mono (by decide)) rfl c__law_guard.2.1 c__law_guard.2.2.1 c__law_guard.2.2.2 .nil pass0 (pa_cons (pv 2) (pa_cons (pv 3) (pa_cons (pv 5) (pa_cons pe_int pa_nil))))) (pa_cons (pe_call c__law_body.1 (hr.mono (by decide)) rfl c__law_body.2.1 c__law_body.2.2.1 c__law_body.2.2.2 .nil pass0 (pa_cons (pv 2) (pa_cons (pv 3) (pa_cons (pv 5) (pa_cons pe_int pa_nil))))) pa_nil)))))
        (pss_cons (ps_for PassesOwn.never rfl (pi_list (pe_op op_cat (pv 6) (pe_lst (pa_cons (pe_call c__law_claim.1 (hr.mono (by decide)) rfl c__law_claim.2.1 c__law_claim.2.2.1 c__law_claim.2.2.2 .nil pass0 (pa_cons (pv 2) (pa_cons (pv 3) (pa_cons pe_int pa_nil)))) pa_nil)))) (pg_name (i := 7) sc_law.nd rfl (.inl rfl))
          (pss_cons (ps_if (pt_not (pt_val (pe_callG c__law_all_judged.1 hgd (hr.mono (by decide)) rfl c__law_all_judged.2.1 c__law_all_judged.2.2.1 c__law_all_judged.2.2.2 pass0 (pa_cons (pv 3) (pa_cons (pv 4) (pa_cons (pv 5) (pa_cons (pv 7) pa_nil))))))) (pss_one (ps_ret pe_bl)) pss_nil)
          (pss_one (ps_for PassesOwn.never rfl (pi_range1 rfl T.range (pa_cons pe_int pa_nil)) (pg_name (i := 8) sc_law.nd rfl (.inl rfl))
            (pss_cons (ps_set (i := 9) sc_law.nd rfl (.inl rfl) (pe_call c__law_bent.1 (hr.mono (by decide)) rfl c__law_bent.2.1 c__law_bent.2.2.1 c__law_bent.2.2.2 .nil pass0 (pa_cons (pv 2) (pa_cons (pv 3) (pa_cons (pv 7) (pa_cons pe_int pa_nil))))))
            (pss_cons (ps_if (PW.pt (pw_and (pt_cmpR op_gt (pv 8) pe_int (nomark _)) (pw_and1 (pt_val (pe_callB call_isi (by rfl) T.isinstance (by decide +kernel) (pa_cons (pv 9) (pa_cons (pe_bltn (v := .ty "tuple") (by rfl) T.tuple (by decide +kernel) rfl) pa_nil))))))) (pss_one (ps_set (i := 9) sc_law.nd rfl (.inl rfl) (pe_call c__law_bent.1 (hr.mono (by decide)) rfl c__law_bent.2.1 c__law_bent.2.2.1 c__law_bent.2.2.2 .nil pass0 (pa_cons (pv 2) (pa_cons (pv 3) (pa_cons (pv 9) (pa_cons pe_int pa_nil))))))) pss_nil)
            (pss_one (ps_if (pt_not (pt_val (pe_callG c__law_all_judged.1 hgd (hr.mono (by decide)) rfl c__law_all_judged.2.1 c__law_all_judged.2.2.1 c__law_all_judged.2.2.2 pass0 (pa_cons (pv 3) (pa_cons (pv 4) (pa_cons (pv 5) (pa_cons (pv 9) pa_nil))))))) (pss_one (ps_ret pe_bl)) pss_nil))))))))
        (pss_one (ps_if (pt_not (pt_val (pe_call c__law_limits_right.1 (hr.mono (by decide)) rfl c__law_limits_right.2.1 c__law_limits_right.2.2.1 c__law_limits_right.2.2.2 .nil pass0 (pa_cons (pv 2) (pa_cons (pv 3) (pa_cons (pv 4) pa_nil)))))) (pss_one (ps_ret pe_bl)) pss_nil))))))))
      (pss_one (ps_ret pe_bl))), ?_⟩
    have kz : ∀ {ex : Addr → Prop} {X Y : Hp}, Same X Y → Kp ex X Y := fun h => Kp.same h
    have hL := sizeLine_eq
    have p3 : pB 3 = 1600 := by decide
    have c3 : cB 3 = 32000 := by decide
    have sqN : ∀ {G : Hp}, Same H G → SqL K G a (ns.map V.int) := fun e => hS.elim (fun h => .inl (h.elim (fun h => .inl (e _ _ h)) fun ⟨o, h⟩ => .inr ⟨o, e _ _ h⟩)) fun h => .inr h
    refine ⟨_, rfl, _, _, rfl, .inl ⟨_, hS, rfl⟩, 5, _, rfl, 1, _, rfl, ?_⟩
    rw [List.length_map]
    generalize hM : (if (if (ns.length : Int) < 5 then (ns.length : Int) else 5) > 1 then (if (ns.length : Int) < 5 then (ns.length : Int) else 5) else 1) = M1
    have hM0 : 1 ≤ M1 ∧ M1 ≤ 5 := by
      rw [← hM]
      split <;> (try split) <;> (constructor <;> (try split) <;> omega)
    clear hM
    refine ⟨M1, rfl, by omega, by omega, for_it (walk_range (lo := 0) (n := M1.toNat)) (fun i σ G => ∃ v1 v2 v3 v4 v5 v6 v7 v8 v9 : Option V, σ = [some (.ref a), v1, v2, v3, v4, v5, v6, v7, v8, v9] ∧ Same H G)
      ⟨none, none, none, none, none, none, none, none, none, rfl, Same.refl⟩ (fun _ _ _ _ _ => trivial) ?_ ?_⟩
    · rintro i v σ G G' hi ⟨v1, v2, v3, v4, v5, v6, v7, v8, v9, rfl, sm⟩ ⟨rfl, rfl⟩
      refine ⟨_, rfl, _, rfl, a, ns, _, rfl, sqN sm, hl, by omega, by omega, fun p H1 hpn s1 hp1 => ?_⟩
      refine ⟨_, rfl, p, 0, rfl, hp1, by decide, fun R va vp vv ps ns' us H2 rc2 sd hRn hp2 hk2 => ?_⟩
      have hRp : R ≠ p := hp1.ne hRn
      refine ⟨_, rfl, R, va, vp, vv, ps, ns', us, rfl, rc2, sd, fun x H3 fr3 s3 => ?_⟩
      have k3 := hk2.trans (kz s3)
      refine ⟨_, rfl, _, rfl, p, R, 40, va, vp, vv, ps, ns', us, rfl, hp2.same s3, by decide, rc2.same s3, sd, fun o ow H4 to hw hp4 hk4 => ?_⟩
      have rc4 := (rc2.same s3).kp hk4 hRp
      have fr4 := fr3.kpp (hp2.same s3) hk4
      have k4 := k3.trans hk4
      refine ⟨_, _, rfl, _, rfl, _, rfl, p, R, _, va, vp, vv, ps, ns', us, rfl, by decide, hp4, by omega, hRp, rc4, sd, fun w1 d1 H5 dv1 g1 _ hp5 hk5 => ?_⟩
      have to5 := hk5.tup to
      refine ⟨_, rfl, _, rfl, _, rfl, p, R, o, _, va, vp, vv, ps, ns', us, ow, rfl, by decide, hp5, by omega, hRp, rc4.kp hk5 hRp, sd, to5, hw, fun w2 d2 H6 dv2 g2 hp6 hk6 => ?_⟩
      have k46 := hk5.trans hk6
      refine ⟨_, rfl, _, rfl, _, rfl, p, R, o, _, va, vp, vv, ps, ns', us, ow, rfl, by decide, hp6, by omega, hRp, rc4.kp k46 hRp, sd, hk6.tup to5, .inr hw, fun w3 d3 H7 dv3 g3 _ hp7 hk7 => ?_⟩
      have k47 := k46.trans hk7
      refine ⟨by show 3 ≤ sizeLine; decide, fun GL hGL => ?_⟩
      have eGL : (upd H7 GL (.lst [w1, w2, w3])) GL = some (.lst [w1, w2, w3]) := upd_same
      have sGL : Same H7 (upd H7 GL (.lst [w1, w2, w3])) := Same.upd hGL
      have hGp : GL ≠ p := hp7.ne hGL
      generalize upd H7 GL (.lst [w1, w2, w3]) = H8 at eGL sGL ⊢
      have hp8 := hp7.same sGL
      have k48 := k47.trans (kz sGL)
      refine ⟨_, rfl, _, rfl, _, rfl, p, R, _, va, vp, vv, ps, ns', us, rfl, by decide, hp8, by omega, hRp, rc4.kp k48 hRp, sd, fun w4 d4 H9 dv4 g4 _ hp9 hk9 => ?_⟩
      have eG9 := hk9.get eGL hGp
      refine ⟨by show 1 ≤ sizeLine; decide, fun L1 hL1 => ⟨GL, L1, _, _, rfl, rfl, (Same.upd hL1) _ _ eG9, upd_same, by show 4 ≤ sizeLine; decide, fun L2 hL2 => ?_⟩⟩
      have s12 : Same H9 (upd (upd H9 L1 (.lst [w4])) L2 (.lst ([w1, w2, w3] ++ [w4]))) := (Same.upd hL1).trans (Same.upd hL2)
      have eL2 : (upd (upd H9 L1 (.lst [w4])) L2 (.lst ([w1, w2, w3] ++ [w4]))) L2 = some (.lst [w1, w2, w3, w4]) := upd_same
      have hLp : L2 ≠ p := (hp9.same (Same.upd hL1)).ne hL2
      generalize upd (upd H9 L1 (.lst [w4])) L2 (.lst ([w1, w2, w3] ++ [w4])) = J at s12 eL2 ⊢
      have hpJ := hp9.same s12
      have k9J := hk9.trans (kz s12)
      have kJ := k48.trans k9J
      have any : ∀ {X Y : Hp}, KpP p X Y → Kp All X Y := fun k => k.all
      have goods : ∀ v ∈ ([w1, w2, w3, w4] : List V), ∃ d, Dv All J v d ∧ Gen 3 d := by
        refine List.forall_mem_cons.mpr ⟨⟨d1, dv1.kp (any (hk6.trans (hk7.trans ((kz sGL).trans k9J)))), g1⟩, ?_⟩
        refine List.forall_mem_cons.mpr ⟨⟨d2, dv2.kp (any (hk7.trans ((kz sGL).trans k9J))), g2⟩, ?_⟩
        refine List.forall_mem_cons.mpr ⟨⟨d3, dv3.kp (any ((kz sGL).trans k9J)), g3⟩, ?_⟩
        exact List.forall_mem_cons.mpr ⟨⟨d4, dv4.kp (kz s12), g4⟩, List.forall_mem_nil _⟩
      have rcJ := rc4.kp kJ hRp
      have frJ := fr4.kpp hp4 kJ
      have toJ := kJ.tup to
      have kHJ : KpP p H1 J := k4.trans kJ
      clear dv1 dv2 dv3 dv4 hk5 hk6 hk7 hk9 hp5 hp6 hp7 hp8 eG9 eGL k46 k47 k48 to5 k9J kJ rc4 fr4 rc2 fr3 to s12 sGL
      refine ⟨L2, rfl, ⟨_, SqL.of eL2⟩, for_it (walk_list (K := K) (a := L2) (xs := [w1, w2, w3, w4])) (fun j σ G2 => ∃ v7 v8 v9 : Option V, σ = [some (.ref a), some (.int (0 + (i : Int))), some (.ref p), some (.ref R), some (.ref x), some (.ref o), some (.ref GL), v7, v8, v9] ∧ PotAt G2 p (9660 + 300 * j) ∧ KpP p J G2)
        ⟨v7, v8, v9, rfl, hpJ.mono (by omega), Kp.refl⟩ (fun j σ Hx _ ⟨_, _, _, _, _, km⟩ => SqL.of (km.get eL2 hLp)) ?_ ?_⟩
      · rintro j v σ G2 G2' hj ⟨u7, u8, u9, rfl, hpG, kG⟩ ⟨rfl, hv⟩
        obtain ⟨d, dvJ, gd⟩ := goods v (List.mem_of_getElem? hv)
        have gc := gd.c
        have gp := gd.p
        have hj4 : j < 4 := hj
        have dvG := dvJ.kp (any kG)
        refine ⟨_, rfl, _, rfl, _, rfl, _, rfl, All, R, x, o, v, va, vp, vv, _, _, _, d, ps, ns', us, ow, rfl, rcJ.kp kG hRp, sd, frJ.kpp hpJ kG, kG.tup toJ, hw, dvG, by omega, by omega, gd.o, fun G3 s3' => ?_⟩
        have k3' : KpP p J G3 := kG.trans (kz s3')
        have dvP : Dv (fun b => b = p) G3 v d := (dvG.kp (kz s3')).mono Kp.refl fun _ _ => trivial
        have dvPe : Dv (fun b => b = p) J v d := dvJ.mono Kp.refl fun _ _ => trivial
        refine ⟨_, rfl, iteF ⟨7, rfl, by decide, by decide, for_it (walk_range (lo := 0) (n := 7)) (fun m σ G4 => ∃ v8 v9 : Option V, σ = [some (.ref a), some (.int (0 + (i : Int))), some (.ref p), some (.ref R), some (.ref x), some (.ref o), some (.ref GL), some v, v8, v9] ∧ PotAt G4 p (9660 + 300 * j + 30 * m) ∧ KpP p J G4)
          ⟨u8, u9, rfl, (hpG.same s3').mono (by omega), k3'⟩ (fun _ _ _ _ _ => trivial) ?_ ?_⟩⟩
        · rintro m y σ G4 G4' hm ⟨u8', u9', rfl, hpM, kM⟩ ⟨rfl, rfl⟩
          have e32 : d.depth ≤ 6 := by omega
          refine ⟨_, rfl, _, rfl, _, rfl, p, R, _, 6, va, vp, vv, v, d, ps, ns', us, rfl, by decide, hpM, by omega, hRp, rcJ.kp kM hRp, sd, dvPe.kp kM, by omega, gd.o, fun v' d' H' dv' c' o' q' hp' hk' => ?_⟩
          apply dupW (S := fun G w => ∃ dd, Dv (fun b => b = p) G w dd ∧ dd.depth ≤ 12 ∧ cost dd ≤ 8000000 ∧ okD dd ∧ PotAt G p (9660 + 300 * j + 30 * m + 26) ∧ KpP p J G)
          · intro rest
            have kM' := kM.trans hk'
            have hp'' := hp'
            by_cases hi4 : (4 : Int) < 0 + (m : Int)
            · refine ⟨_, rfl, _, _, rfl, rfl, _, rfl, ?_⟩
              rw [decide_eq_true (show (4 : Int) < 0 + (m : Int) from hi4)]
              refine iteT ⟨_, rfl, _, _, _, _, _, rfl, .ty _, dv'.ty, kitT _, _, rfl, ?_⟩
              cases hT : isTupD d' with
              | true =>
                refine iteT ⟨_, rfl, _, rfl, _, rfl, p, R, _, 3, va, vp, vv, v', d', ps, ns', us, rfl, by decide, hp', by omega, hRp, rcJ.kp kM' hRp, sd, dv', by omega, o', fun w0 d2 G c1 c2 c3 c4 c5 c6 => ?_⟩
                have fin : ∃ dd, Dv (fun b => b = p) G w0 dd ∧ dd.depth ≤ 12 ∧ cost dd ≤ 8000000 ∧ okD dd ∧ PotAt G p (9660 + 300 * j + 30 * m + 26) ∧ KpP p J G := ⟨d2, c1, by omega, by omega, c3, c5.mono (by omega), kM'.trans c6⟩
                dsimp only [gName]
                change (tIfS _ _ _) _ [some (V.ref a), some (V.int (0 + (i : Int))), some (V.ref p), some (V.ref R), some (V.ref x), some (V.ref o), some (V.ref GL), some v, some (V.int (0 + (m : Int))), some w0] G
                exact rest G w0 fin
              | false =>
                refine iteF ?_
                have fin : ∃ dd, Dv (fun b => b = p) H' v' dd ∧ dd.depth ≤ 12 ∧ cost dd ≤ 8000000 ∧ okD dd ∧ PotAt H' p (9660 + 300 * j + 30 * m + 26) ∧ KpP p J H' := ⟨d', dv', by omega, by omega, o', hp'.mono (by omega), kM'⟩
                dsimp only [tNext]
                change (tIfS _ _ _) _ [some (V.ref a), some (V.int (0 + (i : Int))), some (V.ref p), some (V.ref R), some (V.ref x), some (V.ref o), some (V.ref GL), some v, some (V.int (0 + (m : Int))), some v'] H'
                exact rest H' v' fin
            · refine ⟨_, rfl, _, _, rfl, rfl, _, rfl, ?_⟩
              rw [decide_eq_false (show ¬ (4 : Int) < 0 + (m : Int) from hi4)]
              refine iteF (iteF ?_)
              have fin : ∃ dd, Dv (fun b => b = p) H' v' dd ∧ dd.depth ≤ 12 ∧ cost dd ≤ 8000000 ∧ okD dd ∧ PotAt H' p (9660 + 300 * j + 30 * m + 26) ∧ KpP p J H' := ⟨d', dv', by omega, by omega, o', hp'.mono (by omega), kM'⟩
              dsimp only [tNext]
              change (tIfS _ _ _) _ [some (V.ref a), some (V.int (0 + (i : Int))), some (V.ref p), some (V.ref R), some (V.ref x), some (V.ref o), some (V.ref GL), some v, some (V.int (0 + (m : Int))), some v'] H'
              exact rest H' v' fin
          · rintro G w0 ⟨dd, dvd, q1, q2, q3, q4, q5⟩
            refine ⟨_, rfl, _, rfl, _, rfl, _, rfl, fun b => b = p, R, x, o, w0, va, vp, vv, _, _, _, dd, ps, ns', us, ow, rfl, rcJ.kp q5 hRp, sd, frJ.kpp hpJ q5, q5.tup toJ, hw, dvd, q1, q2, q3, fun G5 s5 => ⟨_, rfl, iteF ⟨_, _, rfl, (q4.same s5).mono (by omega), q5.trans (kz s5)⟩⟩⟩
        · rintro σ G4 ⟨u8', u9', rfl, hpM, kM⟩
          exact ⟨_, _, _, rfl, hpM.mono (by omega), kM⟩
      · rintro σ G2 ⟨u7, u8, u9, rfl, hpG, kG⟩
        refine ⟨_, rfl, _, rfl, _, rfl, p, R, x, _, va, vp, vv, _, _, _, ps, ns', us, rfl, hpG, by show 9660 + 300 * 4 ≤ 500000; decide, hRp, rcJ.kp kG hRp, sd, frJ.kpp hpJ kG, fun G3 hp3 k3' => ⟨_, rfl, iteF ?_⟩⟩
        have kH3 : KpP p H1 G3 := kHJ.trans (kG.trans k3')
        exact ⟨_, _, _, _, _, _, _, _, _, rfl, fun b ob hb => kH3 b ob (s1 b ob (sm b ob hb)) fun z => absurd z (ne_of_none (sm b ob hb) hpn)⟩
    · rintro σ G ⟨v1, v2, v3, v4, v5, v6, v7, v8, v9, rfl, sm⟩
      exact kq _
end
end Kx
namespace Kx
open PySem PySem.Spec PyProof.Rows L2
theorem Ca.up {P : Program} {w : World} {K : PySem.W.Frag} {mg : Str → Option Value} {base : Heap} {j k : Nat} {x : Str} {ps : List Str} {sp : Sp} (c : Ca P w K mg base j x ps sp) (h : j ≤ k) : Ca P w K mg base k x ps sp := by
  obtain ⟨f, fd, F, r⟩ := c
  exact ⟨f, fd, F.mono h, r⟩
def dd (x : Str) (st : Stmt) : He.DefD := ⟨(x, none), x, x, defArgs st, defBody st, defScope st, [], []⟩
def dm (m q : Str) (st : Stmt) : He.DefD := ⟨("Frame", some m), m, q, defArgs st, defBody st, defScope st, [], []⟩
def fn : List He.DefD := [dd "is_integer" s_is_integer, dd "is_name" s_is_name, dd "are_own_names" s_are_own_names, dd "check_frame" s_check_frame, dd "_are_names" s_are_names, dd "_is_array" s_is_array, dd "_are_arrays" s_are_arrays, dd "_kinds_of" s_kinds_of, dd "parts_of" s_parts_of, dd "is_right" s_is_right, dd "check_claim" s_check_claim, dd "is_body_term" s_is_body_term, dd "_needed_parts" s_needed_parts, dd "_needed_of_two" s_needed_of_two, dd "_needed_of_four" s_needed_of_four, dd "_is_atom" s_is_atom, dd "_is_guard_pair" s_is_guard_pair, dd "is_claim" s_is_claim, dd "is_guard" s_is_guard, dd "is_body" s_is_body, dd "claim_depth" s_claim_depth, dd "_check_own_of_all" s_check_own_of_all, dd "_law_keg" s_law_keg, dd "_law_tap" s_law_tap, dd "_law_choices" s_law_choices, dd "_law_choice" s_law_choice, dd "_law_sides" s_law_sides, dd "_law_frame_of" s_law_frame_of, dd "_law_all_names" s_law_all_names, dd "_law_own_names" s_law_own_names, dd "_law_place_names" s_law_place_names, dd "_law_number" s_law_number, dd "_law_place" s_law_place, dd "_law_worth" s_law_worth, dd "_law_body" s_law_body, dd "_law_guard" s_law_guard, dd "_law_claim" s_law_claim, dd "_law_are_joined" s_law_are_joined, dd "_law_starts" s_law_starts, dd "_law_are_own" s_law_are_own, dd "_law_is_op" s_law_is_op, dd "_law_is_whole" s_law_is_whole, dd "_law_is_place" s_law_is_place, dd "_law_is_guard" s_law_is_guard, dd "_law_is_worth" s_law_is_worth, dd "_law_is_body" s_law_is_body, dd "_law_is_claim" s_law_is_claim, dd "_law_all_judged" s_law_all_judged, dd "_law_odd" s_law_odd, dd "_law_bent" s_law_bent, dd "_law_deep" s_law_deep, dd "_law_limits_right" s_law_limits_right, dd "law" s_law, dm "__init__" "Frame.__init__" s_Frame_init, dm "is_fresh" "Frame.is_fresh" s_Frame_is_fresh, dm "_is_of_kind" "Frame._is_of_kind" s_Frame_is_of_kind, dm "has_place" "Frame.has_place" s_Frame_has_place, dm "has_amount" "Frame.has_amount" s_Frame_has_amount]
def fa : List He.Fa := [.glo "is_integer", .glo "is_name", .glo "are_own_names", .glo "check_frame", .glo "_are_names", .glo "_is_array", .glo "_are_arrays", .glo "_kinds_of", .glo "parts_of", .glo "is_right", .glo "check_claim", .glo "is_body_term", .glo "_needed_parts", .glo "_needed_of_two", .glo "_needed_of_four", .glo "_is_atom", .glo "_is_guard_pair", .glo "is_claim", .glo "is_guard", .glo "is_body", .glo "claim_depth", .glo "_check_own_of_all", .glo "_law_keg", .glo "_law_tap", .glo "_law_choices", .glo "_law_choice", .glo "_law_sides", .glo "_law_frame_of", .glo "_law_all_names", .glo "_law_own_names", .glo "_law_place_names", .glo "_law_number", .glo "_law_place", .glo "_law_worth", .glo "_law_body", .glo "_law_guard", .glo "_law_claim", .glo "_law_are_joined", .glo "_law_starts", .glo "_law_are_own", .glo "_law_is_op", .glo "_law_is_whole", .glo "_law_is_place", .glo "_law_is_guard", .glo "_law_is_worth", .glo "_law_is_body", .glo "_law_is_claim", .glo "_law_all_judged", .glo "_law_odd", .glo "_law_bent", .glo "_law_deep", .glo "_law_limits_right", .glo "law", .glo "InvalidFrame", .glo "Frame", .glo "OPS", .glo "GUARD_OPS", .free "abs", .free "all", .free "dict", .free "enumerate", .free "int", .free "isinstance", .free "len", .free "list", .free "max", .free "min", .free "range", .free "repr", .free "set", .free "sorted", .free "str", .free "sum", .free "tuple", .free "bool", .int "LONGEST_NAME" 8, .int "MAX_ARRAYS" 12, .int "MAX_POSITIONS" 6, .int "MAX_VALUES" 6, .int "MAX_OWN" 2, .int "MAX_DEPTH" 12, .int "LIMIT" 1000000000000000000000000000000000000000000000000000000000000, .cls "Frame", .noat "Frame" "_arrays", .noat "Frame" "_positions", .noat "Frame" "_amounts", .noat "Frame" "_length_by_array", .noat "Frame" "_lengths", .noat "Frame" "_kinds", .meth "Frame" "is_fresh", .meth "Frame" "_is_of_kind", .meth "Frame" "has_place", .meth "Frame" "has_amount", .mkr "Frame", .exc "InvalidFrame"]
def names1 : List Str := ["_wall", "LIMIT", "is_integer", "ClaimError", "InvalidFrame", "InvalidTerm", "InvalidClaim", "LONGEST_NAME", "MAX_ARRAYS", "MAX_POSITIONS", "MAX_VALUES", "MAX_OWN", "is_name", "are_own_names", "check_frame", "_check_own", "_are_names", "_is_array", "_are_arrays", "_kinds_of"]
def names2 : List Str := ["_with_blanks", "Frame", "parts_of", "OPS", "GUARD_OPS", "MAX_DEPTH", "is_right", "check_claim", "is_body_term", "_needed_parts", "_needed_of_two", "_needed_of_four", "_is_atom", "_is_guard_pair", "is_claim", "is_guard", "is_body", "claim_depth", "_check_own_of_all", "_law_keg"]
def names3 : List Str := ["_law_tap", "_law_choices", "_law_choice", "_law_sides", "_law_frame_of", "_law_all_names", "_law_own_names", "_law_place_names", "_law_number", "_law_place", "_law_worth", "_law_body", "_law_guard", "_law_claim", "_law_are_joined", "_law_starts", "_law_are_own", "_law_is_op", "_law_is_whole", "_law_is_place", "_law_is_guard", "_law_is_worth", "_law_is_body", "_law_is_claim", "_law_all_judged", "_law_odd", "_law_bent", "_law_deep", "_law_limits_right"]
/-- what == asks of the class -/
def fiB (K : PySem.W.Frag) (C : Addr) : Bool := He.eqO (PySem.W.findIn K (.ref C) "__class__") (some (some (.builtin "object.__class__"))) && (He.eqO (PySem.W.specialIn K (.builtin "object.__class__") "__get__") (some (some (.builtin "getset_descriptor.__get__"))) &&
  (decide (PySem.W.takesIn K (.builtin "object.__class__") = some true) && (decide (PySem.W.mroIn K C (.type "object") = some true) && (decide (PySem.W.kitOne K (.type "list") (.ref C) = some false) && (PySem.W.notFirst K C (.type "list") &&
  He.eqO (PySem.W.findIn K (.ref C) "__ne__") (some (some (.builtin "object.__ne__"))))))))
theorem fiB_ok {K : PySem.W.Frag} {C : Addr} (c : fiB K C = true) : Fi K C := by
  obtain ⟨c1, c⟩ := He.ba c
  obtain ⟨c2, c⟩ := He.ba c
  obtain ⟨c3, c⟩ := He.ba c
  obtain ⟨c4, c⟩ := He.ba c
  obtain ⟨c5, c⟩ := He.ba c
  obtain ⟨c6, c7⟩ := He.ba c
  exact ⟨He.eqO_ok c1, He.eqO_ok c2, of_decide_eq_true c3, of_decide_eq_true c4, of_decide_eq_true c5, c6, He.eqO_ok c7⟩
def moreB (K : PySem.W.Frag) : Bool := (K.lookup sysModules).isSome && (fiB K (He.ga K "Frame") && (He.tupB K "GUARD_OPS" (gops.map He.Dv.str) && He.tupB K "OPS" (cops.map He.Dv.str)))
abbrev AlX : Type := He.AlD × Bool
def obsX (K : PySem.W.Frag) : AlX := (He.obsD fa fn K, moreB K)
def valX : AlX := (He.valD fn, true)
def newV (g : Addr → Option Obj) (p : List Addr × List Addr) : List Addr := ((p.2.flatMap fun a => match g a with
  | some o => He.refsD o
  | none => []).filter fun a => !p.1.elem a).eraseDups
def nextV (g : Addr → Option Obj) (p : List Addr × List Addr) : List Addr × List Addr := (p.1 ++ newV g p, newV g p)
/-- what the module's names reach in n steps, each object opened once -/
def asV (g : Addr → Option Obj) : Nat → List Addr × List Addr
  | 0 => ([mainGlobals], [mainGlobals])
  | n + 1 => nextV g (asV g n)
def obsXG (g : Addr → Option Obj) : AlX := obsX (He.frG g (sysModules :: (asV g 4).1))
def hkX : PySem.W.Hook where
  α := AlX
  obs := fun s => obsXG s.heap.get?
  val := fun _ => valX
  says := fun _ h => ∃ K : PySem.W.Frag, K.In h ∧ obsX K = valX
  of := fun _ _ e => ⟨_, He.frG_in, e⟩
  keeps := fun _ _ _ ⟨K, hK, c⟩ k => ⟨K, PySem.W.Frag.In.keeps hK k, c⟩
abbrev RR : PySem.W.OpenRow := PySem.W.OpenLaw.row PySem.Challenge.rw_cellsenough_k05_claims_judged
def obX (s : PySem.W.SharedT) : AlX := obsXG (HandSHeadRun.getT s)
theorem obX_eq (s : PySem.W.SharedT) : obX s = hkX.obs s.abs := by
  have e : HandSHeadRun.getT s = s.abs.heap.get? := funext (HandSHeadRun.getT_eq s)
  show obsXG (HandSHeadRun.getT s) = obsXG s.abs.heap.get?
  rw [e]
theorem runX (w : World) : HandSHeadRun.RunEq RR (PySem.W.view RR.prog [76]) hkX obX 4000 (names1 ++ names2 ++ names3) w := by
  intro os
  kernel_rfl
theorem facts {P : Program} {w : World} {K : PySem.W.Frag} {h : Heap} {mg : Str → Option Value} {f : Addr} (X : K.In h) (G : h.Ns mainGlobals mg) (hfa : mg ("law" : Str) = some (.ref f)) (c : obsX K = valX) :
    ∃ fd : FuncData, (∀ (s : Shared) (v : Value), BindsTo s fd ⟨[v], []⟩ [("script", v)]) ∧ ∀ base : Heap, K.In base → base.Ns mainGlobals mg → FnOkG P w K mg base CX0 21 f fd ["script"] (spLaw K) := by
  have cD : He.SaysD fa fn K := congrArg (fun z : AlX => z.1) c
  have c3 : moreB K = true := congrArg (fun z : AlX => z.2) c
  unfold moreB at c3
  obtain ⟨d1, c3⟩ := He.ba c3
  obtain ⟨d2, c3⟩ := He.ba c3
  obtain ⟨d3, d4⟩ := He.ba c3
  obtain ⟨om, hK⟩ := Option.isSome_iff_exists.mp d1
  have FI := fiB_ok d2
  have T : Bt mg := ⟨He.free_ok X G (cD.fact 57 (f := .free "abs") rfl), He.free_ok X G (cD.fact 58 (f := .free "all") rfl), He.free_ok X G (cD.fact 59 (f := .free "dict") rfl), He.free_ok X G (cD.fact 60 (f := .free "enumerate") rfl), He.free_ok X G (cD.fact 61 (f := .free "int") rfl), He.free_ok X G (cD.fact 62 (f := .free "isinstance") rfl), He.free_ok X G (cD.fact 63 (f := .free "len") rfl), He.free_ok X G (cD.fact 64 (f := .free "list") rfl), He.free_ok X G (cD.fact 65 (f := .free "max") rfl), He.free_ok X G (cD.fact 66 (f := .free "min") rfl), He.free_ok X G (cD.fact 67 (f := .free "range") rfl), He.free_ok X G (cD.fact 68 (f := .free "repr") rfl), He.free_ok X G (cD.fact 69 (f := .free "set") rfl), He.free_ok X G (cD.fact 70 (f := .free "sorted") rfl), He.free_ok X G (cD.fact 71 (f := .free "str") rfl), He.free_ok X G (cD.fact 72 (f := .free "sum") rfl), He.free_ok X G (cD.fact 73 (f := .free "tuple") rfl)⟩
  have Tb : mg "bool" = none := He.free_ok X G (cD.fact 74 (f := .free "bool") rfl)
  have gO : ∃ t, mg "MAX_OWN" = some (.int 2 t) := He.int_ok X G (cD.fact 79 (f := .int "MAX_OWN" 2) rfl)
  have gL : ∃ t, mg "LIMIT" = some (.int lim t) := by
    have q : ∃ t, mg "LIMIT" = some (.int 1000000000000000000000000000000000000000000000000000000000000 t) := He.int_ok X G (cD.fact 81 (f := .int "LIMIT" 1000000000000000000000000000000000000000000000000000000000000) rfl)
    rw [show (1000000000000000000000000000000000000000000000000000000000000 : Int) = lim from by decide +kernel] at q
    exact q
  have Co_ : Co mg := ⟨He.int_ok X G (cD.fact 75 (f := .int "LONGEST_NAME" 8) rfl), He.int_ok X G (cD.fact 76 (f := .int "MAX_ARRAYS" 12) rfl), He.int_ok X G (cD.fact 77 (f := .int "MAX_POSITIONS" 6) rfl), He.int_ok X G (cD.fact 78 (f := .int "MAX_VALUES" 6) rfl)⟩
  have X0 : Fx K mg (He.ga K "Frame") := ⟨He.cls_ok (cD.fact 82 (f := .cls "Frame") rfl), He.noat_ok (cD.fact 83 (f := .noat "Frame" "_arrays") rfl), He.noat_ok (cD.fact 84 (f := .noat "Frame" "_positions") rfl), He.noat_ok (cD.fact 85 (f := .noat "Frame" "_amounts") rfl), He.noat_ok (cD.fact 86 (f := .noat "Frame" "_length_by_array") rfl), He.noat_ok (cD.fact 87 (f := .noat "Frame" "_lengths") rfl), He.noat_ok (cD.fact 88 (f := .noat "Frame" "_kinds") rfl), He.glo_ok X G (cD.fact 54 (f := .glo "Frame") rfl)⟩
  have S0 : Sh K mg (He.ga K "GUARD_OPS") (He.ga K "OPS") := ⟨He.glo_ok X G (cD.fact 56 (f := .glo "GUARD_OPS") rfl), fun H => He.tupB_ok d3 H, He.glo_ok X G (cD.fact 55 (f := .glo "OPS") rfl), fun H => He.tupB_ok d4 H, He.int_ok X G (cD.fact 80 (f := .int "MAX_DEPTH" 12) rfl)⟩
  obtain ⟨x1, x2, x3, x4⟩ := He.exc_ok (cD.fact 94 (f := .exc "InvalidFrame") rfl)
  have XI : Ex K mg (He.ga K "InvalidFrame") := ⟨He.glo_ok X G (cD.fact 53 (f := .glo "InvalidFrame") rfl), x1, x2, x3, x4⟩
  have M := He.mkr_ok (cD.fact 93 (f := .mkr "Frame") rfl)
  obtain ⟨fd0, F0⟩ := cD.def_ 53 (d := dm "__init__" "Frame.__init__" s_Frame_init) rfl
  obtain ⟨fdL, FL⟩ := cD.def_ 52 (d := dd "law" s_law) rfl
  have eL := hfa.symm.trans (He.glo_ok X G (cD.fact 52 (f := .glo "law") rfl))
  cases eL
  have b0 : Binds K fd0 P_Frame_init [] := FunD.bindsN F0 fun _ _ _ _ _ _ us hl => match us, hl with | [_, _, _, _], _ => rfl
  have bL := FunD.bindsA (ps := ["script"]) FL fun _ _ _ _ _ _ us hl => match us, hl with | [_], _ => rfl
  refine ⟨fdL, fun s v => bL s [v] rfl, fun base kb nb => ?_⟩
  have hKeg := ok_keg (P := P) (w := w) (K := K) (mg := mg) (base := base) T ⟨_, _, (cD.def_ 22 (d := dd "_law_keg" s_law_keg) rfl).choose_spec, He.glo_ok X G (cD.fact 22 (f := .glo "_law_keg") rfl)⟩
  have hTap := ok_tap (P := P) (w := w) (K := K) (mg := mg) (base := base) T ⟨_, _, (cD.def_ 23 (d := dd "_law_tap" s_law_tap) rfl).choose_spec, He.glo_ok X G (cD.fact 23 (f := .glo "_law_tap") rfl)⟩
  have hCho := ok_choice T ⟨_, _, (cD.def_ 25 (d := dd "_law_choice" s_law_choice) rfl).choose_spec, He.glo_ok X G (cD.fact 25 (f := .glo "_law_choice") rfl)⟩ hTap
  have hChs := ok_chs T ⟨_, _, (cD.def_ 24 (d := dd "_law_choices" s_law_choices) rfl).choose_spec, He.glo_ok X G (cD.fact 24 (f := .glo "_law_choices") rfl)⟩ hTap
  have hIsn := ok_is_name (P := P) (w := w) (K := K) (mg := mg) (base := base) T Co_ ⟨_, _, (cD.def_ 1 (d := dd "is_name" s_is_name) rfl).choose_spec, He.glo_ok X G (cD.fact 1 (f := .glo "is_name") rfl)⟩
  have hAre := ok_are_names T ⟨_, _, (cD.def_ 4 (d := dd "_are_names" s_are_names) rfl).choose_spec, He.glo_ok X G (cD.fact 4 (f := .glo "_are_names") rfl)⟩ hIsn
  have hArr := ok_is_array T ⟨_, _, (cD.def_ 5 (d := dd "_is_array" s_is_array) rfl).choose_spec, He.glo_ok X G (cD.fact 5 (f := .glo "_is_array") rfl)⟩ hAre
  have hArs := ok_are_arrays T Co_ ⟨_, _, (cD.def_ 6 (d := dd "_are_arrays" s_are_arrays) rfl).choose_spec, He.glo_ok X G (cD.fact 6 (f := .glo "_are_arrays") rfl)⟩ hArr
  have hKin := ok_kinds (P := P) (w := w) (K := K) (mg := mg) (base := base) T ⟨_, _, (cD.def_ 7 (d := dd "_kinds_of" s_kinds_of) rfl).choose_spec, He.glo_ok X G (cD.fact 7 (f := .glo "_kinds_of") rfl)⟩
  have hIni := ok_init T Co_ F0 X0 XI hArs hAre hKin
  have mKind := ok_kindD (P := P) (w := w) (K := K) (mg := mg) (base := base) T X0 ⟨_, _, (cD.def_ 55 (d := dm "_is_of_kind" "Frame._is_of_kind" s_Frame_is_of_kind) rfl).choose_spec, He.meth_ok (cD.fact 90 (f := .meth "Frame" "_is_of_kind") rfl)⟩
  have mFre := ok_fresh T X0 ⟨_, _, (cD.def_ 54 (d := dm "is_fresh" "Frame.is_fresh" s_Frame_is_fresh) rfl).choose_spec, He.meth_ok (cD.fact 89 (f := .meth "Frame" "is_fresh") rfl)⟩ hIsn
  have hInt := ok_is_integer (P := P) (w := w) (K := K) (mg := mg) (base := base) T Tb gL ⟨_, _, (cD.def_ 0 (d := dd "is_integer" s_is_integer) rfl).choose_spec, He.glo_ok X G (cD.fact 0 (f := .glo "is_integer") rfl)⟩
  have mPla := ok_place hK T X0 ⟨_, _, (cD.def_ 56 (d := dm "has_place" "Frame.has_place" s_Frame_has_place) rfl).choose_spec, He.meth_ok (cD.fact 91 (f := .meth "Frame" "has_place") rfl)⟩ hInt mKind
  have mAmo := ok_amount hK T X0 ⟨_, _, (cD.def_ 57 (d := dm "has_amount" "Frame.has_amount" s_Frame_has_amount) rfl).choose_spec, He.meth_ok (cD.fact 92 (f := .meth "Frame" "has_amount") rfl)⟩ hInt mKind mPla
  have hOwn := ok_ownD T gO X0 ⟨_, _, (cD.def_ 2 (d := dd "are_own_names" s_are_own_names) rfl).choose_spec, He.glo_ok X G (cD.fact 2 (f := .glo "are_own_names") rfl)⟩ mFre
  have hBt := ok_bt T X0 ⟨_, _, (cD.def_ 11 (d := dd "is_body_term" s_is_body_term) rfl).choose_spec, He.glo_ok X G (cD.fact 11 (f := .glo "is_body_term") rfl)⟩ mAmo
  have hGp := ok_gp T X0 ⟨_, _, (cD.def_ 16 (d := dd "_is_guard_pair" s_is_guard_pair) rfl).choose_spec, He.glo_ok X G (cD.fact 16 (f := .glo "_is_guard_pair") rfl)⟩ mPla
  have hAt := ok_atom T X0 S0 ⟨_, _, (cD.def_ 15 (d := dd "_is_atom" s_is_atom) rfl).choose_spec, He.glo_ok X G (cD.fact 15 (f := .glo "_is_atom") rfl)⟩ hGp hBt mPla
  have hNt := ok_nt (P := P) (w := w) (K := K) (mg := mg) (base := base) T ⟨_, _, (cD.def_ 13 (d := dd "_needed_of_two" s_needed_of_two) rfl).choose_spec, He.glo_ok X G (cD.fact 13 (f := .glo "_needed_of_two") rfl)⟩
  have hNf := ok_nf T ⟨_, _, (cD.def_ 14 (d := dd "_needed_of_four" s_needed_of_four) rfl).choose_spec, He.glo_ok X G (cD.fact 14 (f := .glo "_needed_of_four") rfl)⟩ hAt hOwn
  have hNp := ok_np T ⟨_, _, (cD.def_ 12 (d := dd "_needed_parts" s_needed_parts) rfl).choose_spec, He.glo_ok X G (cD.fact 12 (f := .glo "_needed_parts") rfl)⟩ hNt hNf
  have hIr := ok_ir T ⟨_, _, (cD.def_ 9 (d := dd "is_right" s_is_right) rfl).choose_spec, He.glo_ok X G (cD.fact 9 (f := .glo "is_right") rfl)⟩ hNp
  have hCf := ok_cf (P := P) (w := w) (K := K) (mg := mg) (base := base) T X0 FI ⟨_, _, (cD.def_ 3 (d := dd "check_frame" s_check_frame) rfl).choose_spec, He.glo_ok X G (cD.fact 3 (f := .glo "check_frame") rfl)⟩
  have hCo := ok_co T ⟨_, _, (cD.def_ 21 (d := dd "_check_own_of_all" s_check_own_of_all) rfl).choose_spec, He.glo_ok X G (cD.fact 21 (f := .glo "_check_own_of_all") rfl)⟩ hOwn
  have hIc := ok_ic T S0 ⟨_, _, (cD.def_ 17 (d := dd "is_claim" s_is_claim) rfl).choose_spec, He.glo_ok X G (cD.fact 17 (f := .glo "is_claim") rfl)⟩ hCf hIr
  have hIg := ok_ig T ⟨_, _, (cD.def_ 18 (d := dd "is_guard" s_is_guard) rfl).choose_spec, He.glo_ok X G (cD.fact 18 (f := .glo "is_guard") rfl)⟩ hCf hCo hIr
  have hIb := ok_ib T ⟨_, _, (cD.def_ 19 (d := dd "is_body" s_is_body) rfl).choose_spec, He.glo_ok X G (cD.fact 19 (f := .glo "is_body") rfl)⟩ hCf hCo hIr
  have hCc := ok_cc T S0 ⟨_, _, (cD.def_ 10 (d := dd "check_claim" s_check_claim) rfl).choose_spec, He.glo_ok X G (cD.fact 10 (f := .glo "check_claim") rfl)⟩ hIr
  have hPo := ok_po (P := P) (w := w) (K := K) (mg := mg) (base := base) T ⟨_, _, (cD.def_ 8 (d := dd "parts_of" s_parts_of) rfl).choose_spec, He.glo_ok X G (cD.fact 8 (f := .glo "parts_of") rfl)⟩
  have hCd := ok_cd T ⟨_, _, (cD.def_ 20 (d := dd "claim_depth" s_claim_depth) rfl).choose_spec, He.glo_ok X G (cD.fact 20 (f := .glo "claim_depth") rfl)⟩ hCf hCc hPo
  have hSid := ok_sides T ⟨_, _, (cD.def_ 26 (d := dd "_law_sides" s_law_sides) rfl).choose_spec, He.glo_ok X G (cD.fact 26 (f := .glo "_law_sides") rfl)⟩ hTap hCho hChs
  have hFo := ok_fo T X0 ⟨_, _, (cD.def_ 27 (d := dd "_law_frame_of" s_law_frame_of) rfl).choose_spec, He.glo_ok X G (cD.fact 27 (f := .glo "_law_frame_of") rfl)⟩ M hIni b0
  have hAn := ok_an (P := P) (w := w) (K := K) (mg := mg) (base := base) T ⟨_, _, (cD.def_ 28 (d := dd "_law_all_names" s_law_all_names) rfl).choose_spec, He.glo_ok X G (cD.fact 28 (f := .glo "_law_all_names") rfl)⟩
  have hOn := ok_on T ⟨_, _, (cD.def_ 29 (d := dd "_law_own_names" s_law_own_names) rfl).choose_spec, He.glo_ok X G (cD.fact 29 (f := .glo "_law_own_names") rfl)⟩ hTap hAn hChs
  have hNum := ok_num T ⟨_, _, (cD.def_ 31 (d := dd "_law_number" s_law_number) rfl).choose_spec, He.glo_ok X G (cD.fact 31 (f := .glo "_law_number") rfl)⟩ hCho
  have hPn := ok_pn (P := P) (w := w) (K := K) (mg := mg) (base := base) T ⟨_, _, (cD.def_ 30 (d := dd "_law_place_names" s_law_place_names) rfl).choose_spec, He.glo_ok X G (cD.fact 30 (f := .glo "_law_place_names") rfl)⟩
  have hPl := ok_pl T ⟨_, _, (cD.def_ 32 (d := dd "_law_place" s_law_place) rfl).choose_spec, He.glo_ok X G (cD.fact 32 (f := .glo "_law_place") rfl)⟩ hCho (hPn.up (by decide)) hNum
  have hWo := ok_wo T ⟨_, _, (cD.def_ 33 (d := dd "_law_worth" s_law_worth) rfl).choose_spec, He.glo_ok X G (cD.fact 33 (f := .glo "_law_worth") rfl)⟩ hTap hCho hNum hPl
  have hBo := ok_bo T ⟨_, _, (cD.def_ 34 (d := dd "_law_body" s_law_body) rfl).choose_spec, He.glo_ok X G (cD.fact 34 (f := .glo "_law_body") rfl)⟩ hTap hCho hWo
  have hGu := ok_gu T ⟨_, _, (cD.def_ 35 (d := dd "_law_guard" s_law_guard) rfl).choose_spec, He.glo_ok X G (cD.fact 35 (f := .glo "_law_guard") rfl)⟩ hTap hCho hPl
  have hCl := ok_cl T ⟨_, _, (cD.def_ 36 (d := dd "_law_claim" s_law_claim) rfl).choose_spec, He.glo_ok X G (cD.fact 36 (f := .glo "_law_claim") rfl)⟩ hTap hCho hPl hOn hBo hGu
  have hJo := ok_jo (P := P) (w := w) (K := K) (mg := mg) (base := base) T ⟨_, _, (cD.def_ 37 (d := dd "_law_are_joined" s_law_are_joined) rfl).choose_spec, He.glo_ok X G (cD.fact 37 (f := .glo "_law_are_joined") rfl)⟩
  have hSt := ok_st (P := P) (w := w) (K := K) (mg := mg) (base := base) T ⟨_, _, (cD.def_ 38 (d := dd "_law_starts" s_law_starts) rfl).choose_spec, He.glo_ok X G (cD.fact 38 (f := .glo "_law_starts") rfl)⟩
  have hOp := ok_op (P := P) (w := w) (K := K) (mg := mg) (base := base) T ⟨_, _, (cD.def_ 40 (d := dd "_law_is_op" s_law_is_op) rfl).choose_spec, He.glo_ok X G (cD.fact 40 (f := .glo "_law_is_op") rfl)⟩
  have hWh := ok_wh (P := P) (w := w) (K := K) (mg := mg) (base := base) T Tb ⟨_, _, (cD.def_ 41 (d := dd "_law_is_whole" s_law_is_whole) rfl).choose_spec, He.glo_ok X G (cD.fact 41 (f := .glo "_law_is_whole") rfl)⟩
  have hJp := ok_jp T ⟨_, _, (cD.def_ 42 (d := dd "_law_is_place" s_law_is_place) rfl).choose_spec, He.glo_ok X G (cD.fact 42 (f := .glo "_law_is_place") rfl)⟩ hWh hPn
  have hJw := ok_jw T ⟨_, _, (cD.def_ 44 (d := dd "_law_is_worth" s_law_is_worth) rfl).choose_spec, He.glo_ok X G (cD.fact 44 (f := .glo "_law_is_worth") rfl)⟩ hWh hJp
  have hJg := ok_jg T ⟨_, _, (cD.def_ 43 (d := dd "_law_is_guard" s_law_is_guard) rfl).choose_spec, He.glo_ok X G (cD.fact 43 (f := .glo "_law_is_guard") rfl)⟩ hJo hSt hOp hJp
  have hJb := ok_jb T ⟨_, _, (cD.def_ 45 (d := dd "_law_is_body" s_law_is_body) rfl).choose_spec, He.glo_ok X G (cD.fact 45 (f := .glo "_law_is_body") rfl)⟩ hJo hSt hOp hJw
  have hJa := ok_ja T ⟨_, _, (cD.def_ 39 (d := dd "_law_are_own" s_law_are_own) rfl).choose_spec, He.glo_ok X G (cD.fact 39 (f := .glo "_law_are_own") rfl)⟩ hAn
  have hJc := ok_jc T ⟨_, _, (cD.def_ 46 (d := dd "_law_is_claim" s_law_is_claim) rfl).choose_spec, He.glo_ok X G (cD.fact 46 (f := .glo "_law_is_claim") rfl)⟩ hJo hSt hOp hJp hJa hJg hJb
  have hAj := ok_aj hK T ⟨_, _, (cD.def_ 47 (d := dd "_law_all_judged" s_law_all_judged) rfl).choose_spec, He.glo_ok X G (cD.fact 47 (f := .glo "_law_all_judged") rfl)⟩ hJc hJg hJb hIc hIg hIb
  have hOd := ok_od T ⟨_, _, (cD.def_ 48 (d := dd "_law_odd" s_law_odd) rfl).choose_spec, He.glo_ok X G (cD.fact 48 (f := .glo "_law_odd") rfl)⟩ hCho hAn
  have hBe := ok_be T ⟨_, _, (cD.def_ 49 (d := dd "_law_bent" s_law_bent) rfl).choose_spec, He.glo_ok X G (cD.fact 49 (f := .glo "_law_bent") rfl)⟩ hTap hOd
  have hDe := ok_de (P := P) (w := w) (K := K) (mg := mg) (base := base) T ⟨_, _, (cD.def_ 50 (d := dd "_law_deep" s_law_deep) rfl).choose_spec, He.glo_ok X G (cD.fact 50 (f := .glo "_law_deep") rfl)⟩
  have hLr := ok_lr hK T ⟨_, _, (cD.def_ 51 (d := dd "_law_limits_right" s_law_limits_right) rfl).choose_spec, He.glo_ok X G (cD.fact 51 (f := .glo "_law_limits_right") rfl)⟩ hCl hCho hDe hIc hCd
  exact ok_law T FL hKeg hSid hFo hOn hCl hGu hBo hBe hAj hLr
end Kx
open PySem PySem.W PySem.Calls PyProof.Rows
theorem PySem.Challenge.cw_cellsenough_k05_claims_judged_holds : PySem.Challenge.rw_cellsenough_k05_claims_judged.Holds := by
  w_on; o_law
  refine HandSHeadRun.head_any (r := OpenLaw.row PySem.Challenge.rw_cellsenough_k05_claims_judged) (q := view (OpenLaw.row PySem.Challenge.rw_cellsenough_k05_claims_judged).prog [76]) (H := Kx.hkX) (ob := Kx.obX) (M := 4000) (loose := Kx.names1 ++ Kx.names2 ++ Kx.names3) (d := HandSHeadRun.topDef (OpenLaw.row PySem.Challenge.rw_cellsenough_k05_claims_judged).prog 76) (kwd := []) Kx.obX_eq
    (by kernel_rfl) (fun s => by kernel_rfl) Kx.runX (by kernel_rfl) (by kernel_rfl) (by kernel_rfl) (by rfl) (by first | assumption | decide +kernel) (by decide +kernel) ⟨rfl, rfl, rfl, rfl, rfl, by decide +kernel⟩ ?hw ?hc
  case hw => w_witness2
  case hc =>
    refine Kx.walk_ofG (l := PySem.Challenge.rw_cellsenough_k05_claims_judged) (n := 63) (k := 21) (x := "script") rfl (by decide) (by kernel_rfl) ⟨rfl, by decide, by decide⟩ ?F
    intro w mg fa h Y G hmg0
    obtain ⟨K, KX, c⟩ := Y
    have hmg : mg ("law" : PySem.Str) = some (.ref fa) := by
      have e : (HandSHeadRun.topDef (OpenLaw.row PySem.Challenge.rw_cellsenough_k05_claims_judged).prog 76).name = ("law" : PySem.Str) := by kernel_rfl
      rw [← e]
      exact hmg0
    obtain ⟨fd, hb, hF⟩ := Kx.facts (P := (PySem.Challenge.rw_cellsenough_k05_claims_judged).prog) (w := w) KX G hmg c
    exact ⟨K, fd, Kx.spLaw K, KX, hb, fun H a ns hl _ hS => ⟨a, ns, rfl, hS, hl, fun _ => rfl⟩, hF⟩
