import PyProof.Rows.All
import Wide.All
import OpenK.AllK
import Wide.FinOn
import KE.KStateDown
import Lean
import HandS.ForMost
import HandS.Exc
import HandS.TryOnly
import HandS.ExcOwn
import HandS.WordsExc
import HandS.Defaults
import HandS.IsInst
import HandS.Wide
import HandS.Flow
import HandS.Style
import HandS.Property
import HandS.DictComp
import HandS.FStr
import HandS.Strs
import HandS.TupAny
import HandS.TupMul
import HandS.Conv
import HandS.More
import PyProof.StrLawsRepr
import PyProof.FitsInt
import KE.KFmtOwn
import PyProof.NeKinds
import PyProof.ListStr
import PyProof.StrOps2
import KE.KDictPairs
import KE.KDictSum
import HandS.HeadEnd
import PyProof.InstNe
import HandS.MakeKwOnly
import HandS.Iter
import HandS.OwnEq
import PySem.Challenge.RW_cellsenough_k01_whole_histories_of_frame
import HandS.Walk
import HandS.StrMore
import HandS.DictSub
import HandS.ExcCtx
import HandS.SuiteRaise
import HandS.HotCalls
import HandS.Comp
import HandS.Zip
import HandS.ExcValue
import KE.KDictZip
import HandS.Deep
import HandS.DeepEq
import HandS.Ends
import HandS.Head0
import HandS.Head1
import HandS.Head2
import HandS.HeadHook1
import HandS.HeadHook2
set_option Elab.async false
set_option linter.all false
set_option maxRecDepth 100000
set_option maxHeartbeats 0
namespace Kx
open PySem PySem.Spec PyProof.Rows L2

/-! ### data that stand in the heap, apart from some addresses -/
def keyD : Key → PyData
  | .inl i => .int i
  | .inr x => .str x
mutual
inductive Dv (ex : Addr → Prop) (H : Hp) : V → PyData → Prop
  | non : Dv ex H .non .none
  | bl (b : Bool) : Dv ex H (.bl b) (.bool b)
  | int (i : Int) : Dv ex H (.int i) (.int i)
  | str (x : Str) : Dv ex H (.str x) (.str x)
  | lst {a : Addr} {xs : List V} {ds : List PyData} : ¬ ex a → H a = some (.lst xs) → DvL ex H xs ds → Dv ex H (.ref a) (.list ds)
  | tup {a : Addr} {o : Obj} {xs : List V} {ds : List PyData} : o.dict = none → H a = some (.frz o (.tup xs)) → DvL ex H xs ds → Dv ex H (.ref a) (.tuple ds)
  | dic {a : Addr} {kvs : List (Key × V)} {es : List (PyData × PyData)} : ¬ ex a → H a = some (.dK kvs) → DvK ex H kvs es → Dv ex H (.ref a) (.dict es)
inductive DvL (ex : Addr → Prop) (H : Hp) : List V → List PyData → Prop
  | nil : DvL ex H [] []
  | cons {v : V} {vs : List V} {d : PyData} {ds : List PyData} : Dv ex H v d → DvL ex H vs ds → DvL ex H (v :: vs) (d :: ds)
inductive DvK (ex : Addr → Prop) (H : Hp) : List (Key × V) → List (PyData × PyData) → Prop
  | nil : DvK ex H [] []
  | cons {k : Key} {v : V} {d : PyData} {kvs : List (Key × V)} {es : List (PyData × PyData)} : Dv ex H v d → DvK ex H kvs es → DvK ex H ((k, v) :: kvs) ((keyD k, d) :: es)
end
/-- a plain tuple that was made here -/
def TupF (H : Hp) (a : Addr) (xs : List V) : Prop := ∃ o : Obj, o.dict = none ∧ H a = some (.frz o (.tup xs))
theorem TupF.sq {K : PySem.W.Frag} {H : Hp} {a : Addr} {xs : List V} (h : TupF H a xs) : SqT K H a xs := let ⟨o, _, e⟩ := h; .inl (.inr ⟨o, e⟩)
/-- all but ex stays, and all that never changes -/
def Kp (ex : Addr → Prop) (H H' : Hp) : Prop := ∀ a o, H a = some o → (ex a → ∃ ob u, o = HO.frz ob u) → H' a = some o
theorem Kp.get {ex : Addr → Prop} {H H' : Hp} (k : Kp ex H H') {a : Addr} {o : HO} (e : H a = some o) (n : ¬ ex a) : H' a = some o := k a o e fun z => absurd z n
theorem Kp.tup {ex : Addr → Prop} {H H' : Hp} (k : Kp ex H H') {a : Addr} {xs : List V} (h : TupF H a xs) : TupF H' a xs := by
  obtain ⟨o, od, e⟩ := h
  exact ⟨o, od, k a _ e fun _ => ⟨_, _, rfl⟩⟩
theorem Kp.refl {ex : Addr → Prop} {H : Hp} : Kp ex H H := fun _ _ e _ => e
theorem Kp.trans {ex : Addr → Prop} {H H1 H2 : Hp} (a : Kp ex H H1) (b : Kp ex H1 H2) : Kp ex H H2 := fun c o e n => b c o (a c o e n) n
theorem Kp.weak {ex ey : Addr → Prop} {H H1 : Hp} (a : Kp ex H H1) (h : ∀ b, ex b → ey b) : Kp ey H H1 := fun c o e n => a c o e fun z => n (h c z)
theorem Kp.new {ex : Addr → Prop} {H : Hp} {p : Addr} {o : HO} (h : H p = none) : Kp ex H (upd H p o) := fun a u e _ => by rw [upd_ne (ne_of_none e h)]; exact e
theorem Kp.at {ex : Addr → Prop} {H : Hp} {p : Addr} {o : HO} {xs : List V} (h : ex p) (hl : H p = some (.lst xs)) : Kp ex H (upd H p o) := fun a u e n => by
  have : a ≠ p := fun z => by
    subst z
    obtain ⟨ob, w, rfl⟩ := n h
    rw [hl] at e
    cases e
  rw [upd_ne this]; exact e
theorem Kp.same {ex : Addr → Prop} {H H1 : Hp} (h : Same H H1) : Kp ex H H1 := fun c o e _ => h c o e
section
variable {ex ey : Addr → Prop} {H H' : Hp}
mutual
theorem Dv.mono (k : Kp ex H H') (hy : ∀ a, ey a → ex a) : ∀ {v : V} {d : PyData}, Dv ex H v d → Dv ey H' v d
  | _, _, .non => .non
  | _, _, .bl b => .bl b
  | _, _, .int i => .int i
  | _, _, .str x => .str x
  | _, _, .lst n e l => .lst (fun z => n (hy _ z)) (k.get e n) (DvL.mono k hy l)
  | _, _, .tup d e l => .tup d (k _ _ e fun _ => ⟨_, _, rfl⟩) (DvL.mono k hy l)
  | _, _, .dic n e l => .dic (fun z => n (hy _ z)) (k.get e n) (DvK.mono k hy l)
theorem DvL.mono (k : Kp ex H H') (hy : ∀ a, ey a → ex a) : ∀ {vs : List V} {ds : List PyData}, DvL ex H vs ds → DvL ey H' vs ds
  | _, _, .nil => .nil
  | _, _, .cons a b => .cons (Dv.mono k hy a) (DvL.mono k hy b)
theorem DvK.mono (k : Kp ex H H') (hy : ∀ a, ey a → ex a) : ∀ {vs : List (Key × V)} {ds : List (PyData × PyData)}, DvK ex H vs ds → DvK ey H' vs ds
  | _, _, .nil => .nil
  | _, _, .cons a b => .cons (Dv.mono k hy a) (DvK.mono k hy b)
end
theorem Dv.kp {v : V} {d : PyData} (h : Dv ex H v d) (k : Kp ex H H') : Dv ex H' v d := h.mono k fun _ z => z
theorem DvL.kp {v : List V} {d : List PyData} (h : DvL ex H v d) (k : Kp ex H H') : DvL ex H' v d := h.mono k fun _ z => z
mutual
theorem Dv.off {n : Addr} (hn : H n = none) : ∀ {v : V} {d : PyData}, Dv ex H v d → Dv (fun a => ex a ∨ a = n) H v d
  | _, _, .non => .non
  | _, _, .bl b => .bl b
  | _, _, .int i => .int i
  | _, _, .str x => .str x
  | _, _, .lst m e l => .lst (fun z => z.elim m (ne_of_none e hn)) e (DvL.off hn l)
  | _, _, .tup d e l => .tup d e (DvL.off hn l)
  | _, _, .dic m e l => .dic (fun z => z.elim m (ne_of_none e hn)) e (DvK.off hn l)
theorem DvL.off {n : Addr} (hn : H n = none) : ∀ {v : List V} {d : List PyData}, DvL ex H v d → DvL (fun a => ex a ∨ a = n) H v d
  | _, _, .nil => .nil
  | _, _, .cons a b => .cons (Dv.off hn a) (DvL.off hn b)
theorem DvK.off {n : Addr} (hn : H n = none) : ∀ {v : List (Key × V)} {d : List (PyData × PyData)}, DvK ex H v d → DvK (fun a => ex a ∨ a = n) H v d
  | _, _, .nil => .nil
  | _, _, .cons a b => .cons (Dv.off hn a) (DvK.off hn b)
end
theorem Dv.tupI {v : V} {ds : List PyData} (h : Dv ex H v (.tuple ds)) : ∃ a xs, v = .ref a ∧ TupF H a xs ∧ DvL ex H xs ds := by
  cases h with
  | tup d e l => exact ⟨_, _, rfl, ⟨_, d, e⟩, l⟩
theorem Dv.tupM {a : Addr} {xs : List V} {ds : List PyData} (h : TupF H a xs) (l : DvL ex H xs ds) : Dv ex H (.ref a) (.tuple ds) := by
  obtain ⟨o, d, e⟩ := h
  exact .tup d e l
theorem Dv.strI {v : V} {x : Str} (h : Dv ex H v (.str x)) : v = .str x := by
  cases h
  rfl
theorem DvL.len : ∀ {v : List V} {d : List PyData}, DvL ex H v d → v.length = d.length
  | _, _, .nil => rfl
  | _, _, .cons _ b => congrArg (· + 1) (DvL.len b)
theorem DvL.get : ∀ {v : List V} {d : List PyData} {i : Nat} {x : V}, DvL ex H v d → v[i]? = some x → ∃ e, d[i]? = some e ∧ Dv ex H x e
  | _, _, 0, _, .cons a _, h => ⟨_, rfl, by cases h; exact a⟩
  | _, _, i + 1, _, .cons _ b, h => DvL.get (i := i) b h
  | _, _, _, _, .nil, h => by simp at h
theorem DvL.getd : ∀ {v : List V} {d : List PyData} {i : Nat} {e : PyData}, DvL ex H v d → d[i]? = some e → ∃ x, v[i]? = some x ∧ Dv ex H x e
  | _, _, 0, _, .cons a _, h => ⟨_, rfl, by cases h; exact a⟩
  | _, _, i + 1, _, .cons _ b, h => DvL.getd (i := i) b h
  | _, _, _, _, .nil, h => by simp at h
theorem DvL.app : ∀ {v w : List V} {d e : List PyData}, DvL ex H v d → DvL ex H w e → DvL ex H (v ++ w) (d ++ e)
  | _, _, _, _, .nil, h => h
  | _, _, _, _, .cons a b, h => .cons a (DvL.app b h)
theorem DvL.take : ∀ (n : Nat) {v : List V} {d : List PyData}, DvL ex H v d → DvL ex H (v.take n) (d.take n)
  | 0, _, _, _ => .nil
  | _ + 1, _, _, .nil => .nil
  | n + 1, _, _, .cons a b => .cons a (DvL.take n b)
theorem DvL.drop : ∀ (n : Nat) {v : List V} {d : List PyData}, DvL ex H v d → DvL ex H (v.drop n) (d.drop n)
  | 0, _, _, h => h
  | _ + 1, _, _, .nil => .nil
  | n + 1, _, _, .cons _ b => DvL.drop n b
theorem DvL.rev : ∀ {v : List V} {d : List PyData}, DvL ex H v d → DvL ex H v.reverse d.reverse
  | _, _, .nil => .nil
  | _, _, .cons a b => by rw [List.reverse_cons, List.reverse_cons]; exact DvL.app (DvL.rev b) (.cons a .nil)
theorem DvL.strs : ∀ (ns : List Str), DvL ex H (ns.map V.str) (ns.map PyData.str)
  | [] => .nil
  | x :: r => .cons (.str x) (DvL.strs r)
end

/-! ### how long a shown datum may be -/
def okS (x : Str) : Prop := ∀ c ∈ x.cps.toList, c < 16 ^ 8
mutual
def cost : PyData → Nat
  | .none => 4
  | .bool _ => 5
  | .int _ => 120
  | .str x => 10 * x.length + 2
  | .list xs | .tuple xs => costL xs + 3
  | .dict es => costK es + 3
def costL : List PyData → Nat
  | [] => 0
  | x :: r => cost x + 2 + costL r
def costK : List (PyData × PyData) → Nat
  | [] => 0
  | (a, b) :: r => cost a + cost b + 4 + costK r
end
mutual
def okD : PyData → Prop
  | .none | .bool _ => True
  | .int i => i.natAbs < 10 ^ 100
  | .str x => okS x
  | .list xs | .tuple xs => okL xs
  | .dict es => okK es
def okL : List PyData → Prop
  | [] => True
  | x :: r => okD x ∧ okL r
def okK : List (PyData × PyData) → Prop
  | [] => True
  | (a, b) :: r => okD a ∧ okD b ∧ okK r
end
theorem none_len : ("None" : Str).length = 4 := by decide +kernel
theorem true_len : ("True" : Str).length ≤ 5 := by decide +kernel
theorem false_len : ("False" : Str).length ≤ 5 := by decide +kernel
theorem colon_len : (": " : Str).length = 2 := by decide +kernel
mutual
theorem shown_le : ∀ d : PyData, okD d → d.shown.length ≤ cost d
  | .none, _ => by simp only [PyData.shown, cost]; exact Nat.le_of_eq none_len
  | .bool true, _ => by simp only [PyData.shown, cost]; exact true_len
  | .bool false, _ => by simp only [PyData.shown, cost]; exact false_len
  | .int i, h => by
    have h' : i.natAbs < 10 ^ 100 := by simpa only [okD] using h
    have := int_text_length_le10 (a := i) (k := 100) (by decide) h'
    simp only [PyData.shown, cost]
    have e : (Str.ofString (toString i)).length = (toString i).length := PySem.ofString_length _
    show (Str.ofString (toString i)).length ≤ 120
    omega
  | .str x, h => by
    have h' : okS x := by simpa only [okD] using h
    simp only [PyData.shown, cost]
    exact StrLaws.reprText_len x h'
  | .list xs, h => by
    have h' : okL xs := by simpa only [okD] using h
    simp only [PyData.shown, cost]
    have := shownAll_le xs h'
    have := listText_len_le (PyData.shownAll xs)
    omega
  | .tuple xs, h => by
    have h' : okL xs := by simpa only [okD] using h
    simp only [PyData.shown, cost]
    have := shownAll_le xs h'
    have := tupleText_len_le (PyData.shownAll xs)
    omega
  | .dict es, h => by
    have h' : okK es := by simpa only [okD] using h
    simp only [PyData.shown, cost]
    have := shownKv_le es h'
    have := dictText_len_le (PyData.shownKv es)
    omega
theorem shownAll_le : ∀ xs : List PyData, okL xs → ((PyData.shownAll xs).map (·.length)).sum + 2 * (PyData.shownAll xs).length ≤ costL xs
  | [], _ => by simp [PyData.shownAll, costL]
  | x :: r, h => by
    have h' : okD x ∧ okL r := by simpa only [okL] using h
    have a := shown_le x h'.1
    have b := shownAll_le r h'.2
    simp only [PyData.shownAll, costL, List.map_cons, List.sum_cons, List.length_cons]
    omega
theorem shownKv_le : ∀ xs : List (PyData × PyData), okK xs → ((PyData.shownKv xs).map (·.length)).sum + 2 * (PyData.shownKv xs).length ≤ costK xs
  | [], _ => by simp [PyData.shownKv, costK]
  | (k, v) :: r, h => by
    have h' : okD k ∧ okD v ∧ okK r := by simpa only [okK] using h
    have a := shown_le k h'.1
    have a2 := shown_le v h'.2.1
    have b := shownKv_le r h'.2.2
    simp only [PyData.shownKv, costK, List.map_cons, List.sum_cons, List.length_cons, strLen_append, colon_len]
    omega
end
mutual
theorem okD_showable : ∀ d : PyData, okD d → d.showable = true
  | .none, _ => by simp only [PyData.showable]
  | .bool _, _ => by simp only [PyData.showable]
  | .str _, _ => by simp only [PyData.showable]
  | .int i, h => by
    have h' : i.natAbs < 10 ^ 100 := by simpa only [okD] using h
    simp only [PyData.showable, decide_eq_true_eq]
    exact Flt.log2_lt_of (by decide) (Nat.lt_trans h' (by decide +kernel))
  | .list xs, h => by simp only [PyData.showable]; exact okL_showable xs (by simpa only [okD] using h)
  | .tuple xs, h => by simp only [PyData.showable]; exact okL_showable xs (by simpa only [okD] using h)
  | .dict es, h => by simp only [PyData.showable]; exact okK_showable es (by simpa only [okD] using h)
theorem okL_showable : ∀ d : List PyData, okL d → PyData.showableAll d = true
  | [], _ => by simp only [PyData.showableAll]
  | x :: r, h => by
    have h' : okD x ∧ okL r := by simpa only [okL] using h
    simp only [PyData.showableAll, okD_showable x h'.1, okL_showable r h'.2, Bool.and_self]
theorem okK_showable : ∀ d : List (PyData × PyData), okK d → PyData.showableKv d = true
  | [], _ => by simp only [PyData.showableKv]
  | (k, v) :: r, h => by
    have h' : okD k ∧ okD v ∧ okK r := by simpa only [okK] using h
    simp only [PyData.showableKv, okD_showable k h'.1, okD_showable v h'.2.1, okK_showable r h'.2.2, Bool.and_self]
end

/-! ### such data are read -/
section
variable {X : Cx} {pins : List (Addr × Obj)} {σ : L2.St} {H : Hp} {s : Shared} {ex : Addr → Prop}
theorem rel_key {k : Key} {v : Value} (h : keyIs k v = true) : ∃ as, Reads s.heap v (keyD k) as ∧ sysModules ∉ as := by
  rcases keyIs_shape h with ⟨i, t, rfl, rfl⟩ | ⟨x, t, rfl, rfl⟩
  · exact ⟨[], Reads.int i t, by simp⟩
  · exact ⟨[], Reads.str x t, by simp⟩
mutual
theorem Dv.reads (I : Inv X pins σ H s) (hsm : H sysModules = none) : ∀ (d : PyData) (v : V) (u : Value), Dv ex H v d → RelV v u → ∃ as, Reads s.heap u d as ∧ sysModules ∉ as
  | .none, _, _, h, r => by cases h; cases r; exact ⟨[], Reads.none, by simp⟩
  | .bool b, _, _, h, r => by cases h; cases r; exact ⟨[], Reads.bool b, by simp⟩
  | .int i, _, _, h, r => by cases h; obtain ⟨t, rfl⟩ := r; exact ⟨[], Reads.int i t, by simp⟩
  | .str x, _, _, h, r => by cases h; obtain ⟨t, rfl⟩ := r; exact ⟨[], Reads.str x t, by simp⟩
  | .list ds, _, _, h, r => by
    cases h with
    | @lst a xs _ na e l =>
      cases r
      obtain ⟨_, its, n, rv, ho⟩ := (show ObjOk X.prog X.w H s.heap a (.lst xs) from I.hok a _ e)
      obtain ⟨as, hr, hs⟩ := Dv.readsAll I hsm ds _ its l rv
      exact ⟨_, Reads.list ho rfl rfl hr, fun z => by
        rcases List.mem_cons.mp z with z | z
        · rw [z] at hsm; rw [hsm] at e; cases e
        · exact hs z⟩
  | .tuple ds, _, _, h, r => by
    cases h with
    | @tup a ob xs _ od e l =>
      cases r
      obtain ⟨_, _, its, rv, o, ho, hc, n, hd⟩ := (show ObjOk X.prog X.w H s.heap a (.frz ob (.tup xs)) from I.hok a _ e)
      obtain ⟨as, hr, hs⟩ := Dv.readsAll I hsm ds _ its l rv
      exact ⟨_, Reads.tuple ho hc hd hr, hs⟩
  | .dict es, _, _, h, r => by
    cases h with
    | @dic a kvs _ na e l =>
      cases r
      obtain ⟨_, hne, vs, rv, o, es', ep, ho, hx, hd, hk, hp, _⟩ := (show ObjOk X.prog X.w H s.heap a (.dK kvs) from I.hok a _ e)
      obtain ⟨as, bs, h1, h2, h3, h4⟩ := Dv.readsKv I hsm es _ vs es'.toList l rv hp
      exact ⟨_, Reads.dict ho hx.1 hd h1 h2, fun z => by
        rcases List.mem_append.mp z with z | z
        · rcases List.mem_cons.mp z with z | z
          · rw [z] at hsm; rw [hsm] at e; cases e
          · exact h3 z
        · exact h4 z⟩
theorem Dv.readsAll (I : Inv X pins σ H s) (hsm : H sysModules = none) : ∀ (ds : List PyData) (vs : List V) (us : List Value), DvL ex H vs ds → Vals vs us → ∃ as, ReadsAll s.heap us ds as ∧ sysModules ∉ as
  | [], _, _, h, r => by cases h; cases r; exact ⟨[], ReadsAll.nil, by simp⟩
  | d :: ds, _, _, h, r => by
    cases h with
    | cons h1 h2 =>
      cases r with
      | cons r1 r2 =>
        obtain ⟨as, q1, n1⟩ := Dv.reads I hsm d _ _ h1 r1
        obtain ⟨bs, q2, n2⟩ := Dv.readsAll I hsm ds _ _ h2 r2
        exact ⟨_, ReadsAll.cons q1 q2, fun z => (List.mem_append.mp z).elim n1 n2⟩
theorem Dv.readsKv (I : Inv X pins σ H s) (hsm : H sysModules = none) : ∀ (es : List (PyData × PyData)) (kvs : List (Key × V)) (vs : List (Key × Value)) (des : List DictEntry), DvK ex H kvs es → KV kvs vs → Pairs (mixKind X.prog X.w) des vs →
    ∃ as bs, ReadsAll s.heap (des.map (·.key)) (es.map (·.1)) as ∧ ReadsAll s.heap (des.map (·.val)) (es.map (·.2)) bs ∧ sysModules ∉ as ∧ sysModules ∉ bs
  | [], _, _, _, h, r, p => by cases h; cases r; cases p; exact ⟨[], [], ReadsAll.nil, ReadsAll.nil, by simp, by simp⟩
  | (kd, d) :: es, _, _, _, h, r, p => by
    cases h with
    | @cons k v _ kvs _ h1 h2 =>
      cases r with
      | @cons _ q _ qs r1 r2 =>
        cases p with
        | @cons en _ ens _ p1 p2 p3 =>
          obtain ⟨as, bs, a1, a2, a3, a4⟩ := Dv.readsKv I hsm es _ _ _ h2 r2 p3
          obtain ⟨rk, rv⟩ := r1
          have pk : keyIs k en.key = true := by
            have : keyIs q.1 en.key = true := p1
            rw [← rk] at this
            exact this
          obtain ⟨cs, c1, c2⟩ := rel_key (s := s) pk
          obtain ⟨ds, d1, d2⟩ := Dv.reads I hsm d _ _ h1 rv
          rw [← p2] at d1
          exact ⟨_, _, ReadsAll.cons c1 a1, ReadsAll.cons d1 a2, fun z => (List.mem_append.mp z).elim c2 a3, fun z => (List.mem_append.mp z).elim d2 a4⟩
end
end
section
variable {X : Cx}
/-- repr of a list of data -/
def rRepr : List V → Hp → VK → Prop := fun xs H Q => ∃ a d, xs = [.ref a] ∧ Dv (fun _ => False) H (.ref a) d ∧ okD d ∧ d.depth ≤ 20 ∧ cost d ≤ sizeLine ∧ Q (.str d.shown) H
theorem call_repr {om : Obj} (hK : X.K.lookup sysModules = some om) (hg : X.A.guards = some []) (hu : X.A.units + 64 < cLine) : CallR X (.builtin "repr") rRepr := by
  intro pins s σ H xs us Q I r h
  obtain ⟨a, d, rfl, dv, ok, hd, hc, q⟩ := h
  have hsm : H sysModules = none := (I.bs _ _ (I.ok.mod.kin _ _ hK)).2
  obtain ⟨u, rfl, rx⟩ := vals1 r
  obtain ⟨as, hr, hs⟩ := Dv.reads I hsm d _ _ dv rx
  cases rx
  refine repr_of_reads' hr (okD_showable d ok) (fun _ => hs) hg (by omega) (fun _ _ e => e) (fun h' u tk hk => ?_) (Nat.le_trans (shown_le d ok) hc)
  exact ⟨.str d.shown, H, I.kept hk, ⟨u, rfl⟩, q⟩
end
end Kx
namespace Kx
open PySem PySem.Spec PyProof.Rows L2

section
variable {X : Cx}
/-! ### numbers -/
theorem big10 : Builtin.Int.intTooBig (((Builtin.Int.intBits (10 ^ 60) : Nat) : Int) * 10) = false := by decide +kernel
/-- (10 ** 60) ** 10 -/
theorem op_powBig : OpR X (binaryOp .Pow) (fun x y H Q => x = .int (10 ^ 60) ∧ y = .int 10 ∧ Q (.int (10 ^ 600)) H) := by
  intro pins s σ H x y v u Q I rx ry h
  obtain ⟨rfl, rfl, q⟩ := h
  obtain ⟨t, rfl⟩ := rx
  obtain ⟨t2, rfl⟩ := ry
  refine PySem.AutoIntOps.pow_4 (by decide) (by decide) (by decide +kernel) (by decide +kernel) (by rw [big10]; decide) ?_
  have e : ((10 : Int) ^ 60) ^ (Int.toNat 10) = 10 ^ 600 := by decide +kernel
  rw [e]
  exact ⟨.int (10 ^ 600), H, I.tok _, ⟨_, rfl⟩, q⟩
/-! ### s * n for texts -/
def repS (x : Str) (n : Nat) : Str := ⟨(List.replicate n x.cps).foldl (· ++ ·) #[]⟩
theorem rep_foldl (c : Array Nat) : ∀ (n : Nat) (acc : Array Nat), ((List.replicate n c).foldl (· ++ ·) acc).size = acc.size + n * c.size
  | 0, acc => by simp
  | n + 1, acc => by
    rw [List.replicate_succ, List.foldl_cons, rep_foldl c n, Array.size_append, Nat.succ_mul]; omega
theorem repS_len (x : Str) (n : Nat) : (repS x n).length = n * x.length := by
  show ((List.replicate n x.cps).foldl (· ++ ·) #[]).size = n * x.cps.size
  rw [rep_foldl]; simp
theorem rep_mem (c : Array Nat) (k : Nat) : ∀ (n : Nat) (acc : Array Nat), k ∈ (List.replicate n c).foldl (· ++ ·) acc → k ∈ acc ∨ k ∈ c
  | 0, acc, h => .inl (by simpa using h)
  | n + 1, acc, h => by
    rw [List.replicate_succ, List.foldl_cons] at h
    rcases rep_mem c k n _ h with h | h
    · rcases Array.mem_append.mp h with h | h
      · exact .inl h
      · exact .inr h
    · exact .inr h
theorem repS_ok {x : Str} {n : Nat} (h : okS x) : okS (repS x n) := fun c hc => by
  have hc' : c ∈ (List.replicate n x.cps).foldl (· ++ ·) #[] := by simpa [repS] using hc
  rcases rep_mem _ _ _ _ hc' with z | z
  · simp at z
  · exact h c (by simpa using z)
theorem op_mulS : OpR X (binaryOp .Mult) (fun x y H Q => ∃ (z : Str) (n : Int), x = .str z ∧ y = .int n ∧ 2 ≤ n ∧ n ≤ 10000 ∧ z.length ≤ 1000 ∧ 1 ≤ z.length ∧ Q (.str (repS z n.toNat)) H) := by
  intro pins s σ H x y v u Q I rx ry h
  obtain ⟨z, n, rfl, rfl, h1, h2, h3, h4, q⟩ := h
  obtain ⟨t, rfl⟩ := rx
  obtain ⟨t2, rfl⟩ := ry
  have hb : z.length * n.toNat ≤ 1000 * 10000 := Nat.mul_le_mul h3 (by omega)
  refine PySem.P.mul_str (by rw [decide_eq_false (by omega), decide_eq_false (by omega)]; rfl) (fun _ _ => ?_) (fun _ _ => ?_) ?_
  · have : (10000 : Int) ≤ (2 ^ 63 - 1) / n := by
      refine Int.le_ediv_of_mul_le (by omega) ?_
      omega
    omega
  · unfold Builtin.Str.tooLong
    exact decide_eq_false (by rw [sizeLine_eq]; omega)
  · rw [if_neg (by omega)]
    have e : (n == 1 || z.length == 0) = false := by
      rw [beq_eq_false_iff_ne.mpr (by omega), beq_eq_false_iff_ne.mpr (by omega)]; rfl
    rw [if_neg (by rw [e]; exact Bool.false_ne_true)]
    refine ⟨?_, ⟨.str (repS z n.toNat), H, I.tok _, ⟨_, rfl⟩, q⟩⟩
    have := repS_len z n.toNat
    show (repS z n.toNat).length ≤ sizeLine
    rw [this, sizeLine_eq, Nat.mul_comm]; omega
/-! ### == () and != [] whatever the items are -/
def rEqT0 (K : PySem.W.Frag) : R2 := fun x y H Q => ∃ a b xs, x = .ref a ∧ y = .ref b ∧ SqT K H a xs ∧ SqT K H b [] ∧ Q (.bl xs.isEmpty) H
theorem op_eqT0 (hu : X.A.units < cLine) : OpR X (compareOp .Eq) (rEqT0 X.K) := by
  intro pins s σ H x y v u Q I rx ry h
  obtain ⟨a, b, xs, rfl, rfl, h1, h2, q⟩ := h
  cases rx
  cases ry
  obtain ⟨its, r, p1, _⟩ := I.tuple h1
  obtain ⟨its2, r2, p2, _⟩ := I.tuple h2
  cases r2
  have e : ((List.range (min its.toArray.size 0)).all (fun _ => true) && its.toArray.size == 0) = xs.isEmpty := by
    have := r.length
    cases xs with
    | nil => cases r; rfl
    | cons y ys => cases r; rfl
  refine SeqAt.eq_tupleAt (e := fun _ => true) p1 p2 hu (fun j hj h2 => absurd h2 (by simp)) ?_
  refine ⟨.bl xs.isEmpty, H, I, ?_, q⟩
  rw [← e]
  rfl
def rNeL0 (K : PySem.W.Frag) : R2 := fun x y H Q => ∃ a b xs, x = .ref a ∧ y = .ref b ∧ SqL K H a xs ∧ SqL K H b [] ∧ Q (.bl (!xs.isEmpty)) H
theorem op_neL0 (hu : X.A.units < cLine) : OpR X (compareOp .NotEq) (rNeL0 X.K) := by
  intro pins s σ H x y v u Q I rx ry h
  obtain ⟨a, b, xs, rfl, rfl, h1, h2, q⟩ := h
  cases rx
  cases ry
  obtain ⟨its, r, p1, _⟩ := I.list h1
  obtain ⟨its2, r2, p2, _⟩ := I.list h2
  cases r2
  cases r with
  | nil => exact PySem.EqBoolInt.of_rcne (SeqAt.RcNeAt.lists (e := fun _ => true) p1.isList p2.isList rfl hu (fun j hj _ => absurd hj (by simp))) ⟨.bl false, H, I, rfl, q⟩
  | cons r0 r1 => exact PySem.EqBoolInt.of_rcne (SeqAt.RcNeAt.lists_lengths p1.isList p2.isList (by simp) hu) ⟨.bl true, H, I, rfl, q⟩
end

/-! ### an own class's in, len, str -/
section
variable {X : Cx} {CX : CXT} {k : Nat} {C f a dx : Addr} {fd : FuncData} {ps : List Str} {sp : Sp} {E : XK}
/-- x not in o, by the own __contains__'s promise -/
def rNotInO (C : Addr) (sp : Sp) (E : XK) : R2 := fun x y H Q => ∃ a dx fs, y = .ref a ∧ H a = some (.ins C dx fs) ∧ sp [.ref a, x] H (fun v H' => ∃ b, v = .bl b ∧ Q (.bl (!b)) H') E
theorem op_notInO (c : Cls X.K C) (hs : PySem.W.findIn X.K (.ref C) "__contains__" = some (some (.ref f))) (hf : PySem.W.isFn X.K (.ref f) = true) (F : FnOk X.prog X.w X.K X.mg X.base CX k f fd ps sp) (hr : Room k X.A) (hb : Binds X.K fd ps [])
    (hx : Passes CX X E) : OpR X (compareOp .NotIn) (rNotInO C sp E) := by
  intro pins s σ H x y v u Q I rx ry h
  obtain ⟨a, dx, fs, rfl, ha, q⟩ := h
  cases ry
  obtain ⟨mA, O, _⟩ := ins_get I.hok ha
  obtain ⟨od, J, _⟩ := O.look
  obtain ⟨m, fr⟩ := I.fr
  refine PySem.W.notIn_K fr I.ok.mod.kin J hs hf ?_
  refine wpAny_mono (run_fn (us := [.ref a, v]) (vs := [.ref a, x]) (ds := []) (dvs := []) F hr hb .nil hx I (.cons rfl (.cons rx .nil)) q) (fun r s' z => ?_) fun _ _ z => z
  obtain ⟨v', H', I', rv, b, rfl, qq⟩ := z
  cases (show r = Value.bool b from rv)
  exact wpAny_truthy_bool ⟨.bl (!b), H', I', rfl, qq⟩
/-- len(o) -/
def rLenO (C : Addr) (sp : Sp) (E : XK) : List V → Hp → VK → Prop := fun xs H Q => ∃ a dx fs, xs = [.ref a] ∧ H a = some (.ins C dx fs) ∧ sp [.ref a] H (fun v H' => ∃ n : Int, v = .int n ∧ 0 ≤ n ∧ n < 2 ^ 63 ∧ Q (.int n) H') E
theorem call_lenO (hs : PySem.W.findIn X.K (.ref C) "__len__" = some (some (.ref f))) (hf : PySem.W.isFn X.K (.ref f) = true) (F : FnOk X.prog X.w X.K X.mg X.base CX k f fd ps sp) (hr : Room (k + 1) X.A) (hb : Binds X.K fd ps [])
    (hx : Passes CX X.nox E) : CallR X (.builtin "len") (rLenO C sp E) := by
  intro pins s σ H xs us Q I r h
  obtain ⟨a, dx, fs, rfl, ha, q⟩ := h
  obtain ⟨u, rfl, rx⟩ := vals1 r
  cases rx
  obtain ⟨mA, O, _⟩ := ins_get I.hok ha
  obtain ⟨od, J, _⟩ := O.look
  obtain ⟨m, fr⟩ := I.fr
  refine PySem.W.len_K fr I.ok.mod.kin J hs hf ?_
  refine wpAny_call (codeAny_mono (F.run X.A.in1 X.stack s H ⟨[.ref a], []⟩ [.ref a] [.ref a] _ E hr.in1 I.env0.in1 (hb s [.ref a] I.kIn ?_) (.cons rfl .nil) q) fun r s' z => ?_)
  · rw [← F.len _ _ _ _ q]; rfl
  · cases r with
    | error e => exact (hx pins σ H s e s' (I.wish _) z).elim
    | ok fl =>
      cases fl with
      | ret u =>
        obtain ⟨v, H', I3, rv, n, rfl, h0, h1, qq⟩ := I.after z
        obtain ⟨t, rfl⟩ := rv
        exact ⟨⟨h0, h1⟩, .int n, H', I3.tok _, ⟨_, rfl⟩, qq⟩
      | next => exact False.elim z
      | brk => exact False.elim z
      | cont => exact False.elim z
/-- str(o) -/
def rStrO (C : Addr) (sp : Sp) (E : XK) : List V → Hp → VK → Prop := fun xs H Q => ∃ a dx fs, xs = [.ref a] ∧ H a = some (.ins C dx fs) ∧ sp [.ref a] H (fun v H' => ∃ z : Str, v = .str z ∧ Q (.str z) H') E
theorem str_own {prog : Program} {w : World} {A : Around} {E : Value → Shared → Prop} {s : Shared} {K : PySem.W.Frag} {x C f : Addr} {ox : Obj} {od : Option Obj} {Q : Value → Shared → Prop}
    (room : A.in1.in1.units < cLine) (X : K.In s.heap) (I : PySem.W.InstAt s.heap x ox C od) (hs : PySem.W.findIn K (.ref C) "__str__" = some (some (.ref f))) (hf : PySem.W.isFn K (.ref f) = true)
    (h : wpAny (model prog w) A.in1.in1 (call (.ref f) [.ref x]) (PySem.W.StrBack Q) E s) : wpAny (model prog w) A (call (.type "str") [.ref x]) Q E s := by
  have made : wpAny (model prog w) A.in1.in1 (PySem.Builtin.Str.strOf (.ref x)) (fun r t => ∃ y u, r = .str y u ∧ Q r t) E s := by
    unfold PySem.Builtin.Str.strOf
    rw [show PySem.Builtin.Str.isExactStr (.ref x) = false from rfl]
    refine wpAny_bind (m := cRoomFor _ _) (wpAny_cRoomFor room ?_)
    refine wpAny_bind (m := callSpecial? (.ref x) (Str.ofString "__str__")) (PySem.W.special_fn X I hs (beq_iff_eq.mp hf) ?_)
    refine wpAny_mono h (fun r s' z => ?_) fun _ _ y => y
    cases r with
    | str y u => exact wpAny_pure ⟨y, u, rfl, z⟩
    | _ => exact z.elim
  refine callType_codes (T := "str") (Bi := Builtin.«object.__init__») (Q₁ := fun r t => ∃ y u, r = .str y u ∧ Q r t) PySem.F.called_str (PySem.F.typeCall_str_1 _) PySem.F.entry_object_init (codeAny_of_tree ?_) ?_
  · show wpAny _ A.in1.in1 (checkBuiltinCall "str.__new__" ⟨[.type "str", .ref x], []⟩ >>= fun _ => again (.builtin "str.__new__" ⟨[.type "str", .ref x], []⟩)) _ _ s
    refine wpAny_bind (wpAny_of_eq (PySem.F.newCall_str_1 _) (wpAny_pure ⟨plainId_quiet (by decide +kernel) _, codeAny_builtin PySem.F.entry_str_new ?_⟩))
    rw [Around.under_plainId (by decide +kernel) _, str_new_tree]
    refine wpAny_bind (wpAny_pure (wpAny_bind (wpAny_of_eq isSubtype_str_str ?_)))
    exact wpAny_bind (wpAny_mono made (fun _ _ z => wpAny_pure z) fun _ _ z => z)
  · rintro obj t ⟨y, u, rfl, z⟩
    exact ⟨typeIs_str _ _ _, PySem.F.args_object_init_2 _ _, object_init_meets PySem.F.called_str.init.lookup PySem.F.called_str.made (by decide) prog w A.in1 _ t ⟨typeIs_str _ _ _, rfl, z⟩⟩
theorem call_strO (hs : PySem.W.findIn X.K (.ref C) "__str__" = some (some (.ref f))) (hf : PySem.W.isFn X.K (.ref f) = true) (F : FnOk X.prog X.w X.K X.mg X.base CX k f fd ps sp) (hr : Room (k + 2) X.A) (hb : Binds X.K fd ps [])
    (hx : Passes CX X.nox E) : CallR X (.type "str") (rStrO C sp E) := by
  intro pins s σ H xs us Q I r h
  obtain ⟨a, dx, fs, rfl, ha, q⟩ := h
  obtain ⟨u, rfl, rx⟩ := vals1 r
  cases rx
  obtain ⟨mA, O, _⟩ := ins_get I.hok ha
  obtain ⟨od, J, _⟩ := O.look
  refine str_own (by have := hr.un; show X.A.units + 1 + 1 < cLine; omega) I.kIn J hs hf ?_
  refine wpAny_call (codeAny_mono (F.run X.A.in1.in1 X.stack s H ⟨[.ref a], []⟩ [.ref a] [.ref a] _ E hr.in1.in1 I.env0.in1.in1 (hb s [.ref a] I.kIn ?_) (.cons rfl .nil) q) fun r s' z => ?_)
  · rw [← F.len _ _ _ _ q]; rfl
  · cases r with
    | error e => exact (hx pins σ H s e s' (I.wish _) z).elim
    | ok fl =>
      cases fl with
      | ret u =>
        obtain ⟨v, H', I3, rv, n, rfl, qq⟩ := I.after z
        obtain ⟨t, rfl⟩ := rv
        exact ⟨.str n, H', I3, ⟨_, rfl⟩, qq⟩
      | next => exact False.elim z
      | brk => exact False.elim z
      | cont => exact False.elim z
end
end Kx
namespace Kx
open PySem PySem.Spec PyProof.Rows L2
theorem vals_at : ∀ {us : List Value} {vs : List V}, us.length = vs.length → (∀ (j : Nat) (u : Value), us[j]? = some u → ∃ v, vs[j]? = some v ∧ RelV v u) → Vals vs us
  | [], [], _, _ => .nil
  | [], _ :: _, hl, _ => by simp at hl
  | _ :: _, [], hl, _ => by simp at hl
  | u :: us, v :: vs, hl, h => by
    obtain ⟨w, e, r⟩ := h 0 u rfl
    cases e
    exact .cons r (vals_at (by simpa using hl) fun j x e => h (j + 1) x e)
section
variable {X : Cx}
/-! ### list(text) -/
def signsV (x : Str) : List V := x.cps.toList.map fun c => V.str ⟨#[c]⟩
theorem call_listS (hcalm : X.calm = true) : CallR X (.type "list") (fun xs H Q => ∃ z : Str, xs = [.str z] ∧ z.length ≤ sizeLine ∧ ∀ p, H p = none → Q (.ref p) (upd H p (.lst (signsV z)))) := by
  intro pins s σ H xs us Q I r h
  obtain ⟨z, rfl, hz, q⟩ := h
  obtain ⟨u, rfl, rx⟩ := vals1 r
  obtain ⟨t, rfl⟩ := rx
  refine call_list_str (I.ok.hd hcalm) z t (fun h' tk acc c' hk hS hacc => ?_) hz
  refine ⟨.ref s.heap.objs.size, _, I.laid (t' := tk) (o := .lst (signsV z)) hk (Nat.le_refl _) ?_, rfl, q _ (I.hok.fresh (Nat.le_refl _))⟩
  refine ⟨by unfold signsV; rw [List.length_map, Array.length_toList]; exact hz, acc.toList, c', vals_at ?_ (fun j v e => ?_), by rw [Array.toArray_toList]; exact hS⟩
  · unfold signsV; rw [List.length_map, Array.length_toList, Array.length_toList]; exact hacc.1
  · obtain ⟨c, w, e1, e2⟩ := hacc.2 j v (by rw [← Array.getElem?_toList]; exact e)
    refine ⟨.str ⟨#[c]⟩, ?_, w, e2⟩
    unfold signsV
    rw [List.getElem?_map, Array.getElem?_toList, e1]
    rfl
/-! ### tuple(dict) -/
theorem call_tupleD (hcalm : X.calm = true) : CallR X (.type "tuple") (fun xs H Q => ∃ (a : Addr) (kvs : List (Key × V)), xs = [.ref a] ∧ Rd H a (.dK kvs) ∧ ∀ p, H p = none → Q (.ref p) (upd H p (.tup (kvs.map fun kv => kV kv.1)))) := by
  intro pins s σ H xs us Q I r h
  obtain ⟨a, kvs, rfl, hd, q⟩ := h
  obtain ⟨u, rfl, rx⟩ := vals1 r
  cases rx
  obtain ⟨z, lo, vs, rel, dd⟩ := dk_rd I.hok hd
  obtain ⟨ep, hat⟩ := dd.dictAt
  have ek : (kvs.map fun kv => kV kv.1) = vs.map fun p => kV p.1 := by
    have e := congrArg (List.map kV) rel.keys
    rw [List.map_map, List.map_map] at e
    exact e
  have lenv : vs.length ≤ sizeLine := by rw [← rel.length]; exact z
  have made : codeAny (model X.prog X.w) X.A.in1 (.call (.builtin "tuple.__new__") ⟨[.type "tuple", .ref a], []⟩) (wants (fun obj s₁ => s₁.TypeIs obj "tuple" ∧ EP X pins σ Q obj s₁) X.xe) s := by
    refine codeAny_of_tree ?_
    show wpAny _ X.A.in1.in1 (checkBuiltinCall "tuple.__new__" ⟨[.type "tuple", .ref a], []⟩ >>= fun _ => again (.builtin "tuple.__new__" ⟨[.type "tuple", .ref a], []⟩)) _ _ s
    refine wpAny_bind (wpAny_of_eq (PySem.F.newCall_tuple_1 _) (wpAny_pure ⟨plainId_quiet PySem.F.plain_tuple_new _, codeAny_builtin PySem.F.entry_tuple_new ?_⟩))
    rw [Around.under_plainId PySem.F.plain_tuple_new _]
    have g1 := sub_tuple_self
    have g2 := init_tuple_lookup
    have g3 := madeHere_tuple
    have g4 : s.TypeIs (.ref a) "dict" := dd.typeIs
    have gh : X.A.in1.in1.handled = none := I.ok.hd hcalm
    wp_walk using wpAny_typeOf g4, PySem.W.kdu_collect (PySem.W.kdl_dict (knd := mixKind X.prog X.w) (kvs := vs) (ep := ep) lo) gh hat lenv
    intro h' tk acc hk hacc
    have hv : Vals (vs.map fun p => kV p.1) acc.toList := keys_at (by rw [Array.length_toList]; exact hacc.1) fun j v e => hacc.2 j v (by rw [← Array.getElem?_toList]; exact e)
    show wpAny _ _ (Builtin.Tuple.tupleExact acc.toList.toArray >>= fun v => ret v) _ _ _
    unfold Builtin.Tuple.tupleExact
    refine wpAny_bind (wpAny_newObj_type ?_ (show acc.toList.toArray.size ≤ sizeLine by rw [Array.toArray_toList, hacc.1]; exact lenv))
    have I1 : Inv X pins σ H { s with heap := h', toks := tk } := I.kept (t' := tk) hk
    refine wpAny_pure ⟨⟨_, Heap.get?_push_size _ rfl, rfl⟩, ?_⟩
    refine ⟨.ref h'.objs.size, _, I1.laid (t' := tk) (o := .tup (kvs.map fun kv => kV kv.1)) (fun b ob e => Heap.get?_push_of_some _ e) (Nat.le_refl _) ?_, rfl, q _ (I1.hok.fresh (Nat.le_refl _))⟩
    exact ⟨by rw [List.length_map]; exact z, acc.toList, by rw [ek]; exact hv, IsTup.new _ _⟩
  refine callType_codes PySem.F.called_tuple (PySem.F.typeCall_tuple_1 _) PySem.F.entry_object_init made fun obj s₁ h₁ => ?_
  exact ⟨h₁.1, PySem.F.args_object_init_2 obj _, object_init_meets PySem.F.called_tuple.init.lookup PySem.F.called_tuple.made (by decide) X.prog X.w X.A.in1 _ s₁ ⟨h₁.1, rfl, h₁.2⟩⟩
end
end Kx
namespace Kx
open PySem PySem.Spec PyProof.Rows L2
/-- a plain tuple has been laid (or stood) -/
def kT (xs : List V) (H : Hp) (Q : VK) : Prop := ∀ p H', Same H H' → TupF H' p xs → Q (.ref p) H'
section
variable {X : Cx} {pins : List (Addr × Obj)} {σ : L2.St} {H : Hp} {s : Shared} {Q : VK}
theorem Same.refl {H : Hp} : Same H H := fun _ _ e => e
theorem Same.upd {H : Hp} {p : Addr} {o : HO} (h : H p = none) : Same H (upd H p o) := fun a u e => by rw [upd_ne (ne_of_none e h)]; exact e
theorem Same.trans {H H1 H2 : Hp} (a : Same H H1) (b : Same H1 H2) : Same H H2 := fun c o e => b c o (a c o e)
theorem laidT (I : Inv X pins σ H s) {xs : List V} {its : List Value} {h' : Heap} {t' n : Nat} (r : Vals xs its) (hz : xs.length ≤ sizeLine) (k : ∀ b o, s.heap.get? b = some o → h'.get? b = some o) {p : Addr} (hp : s.heap.objs.size ≤ p)
    (e : h'.get? p = some { cls := .type "tuple", data := .seq its.toArray n }) (q : kT xs H Q) : EP X pins σ Q (.ref p) { s with heap := h', toks := t' } := by
  have hn := I.hok.fresh hp
  refine ⟨.ref p, upd H p (.frz { cls := .type "tuple", data := .seq its.toArray n } (.tup xs)), I.laid (t' := t') k hp ⟨e, hz, its, r, _, e, rfl, _, rfl⟩, rfl, q _ _ (Same.upd hn) ⟨_, rfl, upd_same⟩⟩
theorem stayT (I : Inv X pins σ H s) {xs : List V} {p : Addr} (h : TupF H p xs) (q : kT xs H Q) : EP X pins σ Q (.ref p) s := ⟨.ref p, H, I, rfl, q _ _ Same.refl h⟩
end
section
variable {X : Cx}
/-- (a, b) -/
def tTupF (t : TA) : TE := fun σ H Q => t σ H fun xs H1 => xs.length ≤ sizeLine ∧ kT xs H1 Q
theorem pe_tupF {es : List Expr} {t : TA} {x1} {pos : Pos} (h : PA X es t) : PE X (.Tuple es x1 pos) (tTupF t) := by
  refine ⟨fun pins s σ H Q I hq => ?_⟩
  refine wpAny_Tuple_spliced (thn (h.run pos pins s σ H _ I hq) fun us s1 ⟨xs, H1, I1, r, z, q⟩ => ⟨by rw [← r.length]; exact z, ?_⟩)
  exact laidT (t' := s1.toks) I1 r z (fun b u e => Heap.get?_push_of_some _ e) (Nat.le_refl _) (Heap.get?_push_size _ rfl) q
/-- tuple(list) -/
theorem call_tupF : CallR X (.type "tuple") (fun xs H Q => ∃ a ys, xs = [.ref a] ∧ SqL X.K H a ys ∧ kT ys H Q) := by
  intro pins s σ H xs us Q I r h
  obtain ⟨a, ys, rfl, ha, q⟩ := h
  obtain ⟨u, rfl, rx⟩ := vals1 r
  cases rx
  obtain ⟨its, r', pl, hz⟩ := I.list ha
  have hlen := r'.length
  refine call_tuple_list pl.isList (fun h' kp => ?_) (by simp only [List.size_toArray] <;> omega)
  exact laidT (t' := s.toks) (I.kept (t' := s.toks) kp) r' hz (fun b o e => Heap.get?_push_of_some _ e) (Nat.le_refl _) (Heap.get?_push_size _ rfl) q
/-- t + u -/
def rCatF : R2 := fun x y H Q => ∃ a b xs ys, x = .ref a ∧ y = .ref b ∧ TupF H a xs ∧ TupF H b ys ∧ xs.length + ys.length ≤ sizeLine ∧ kT (xs ++ ys) H Q
theorem op_catF : OpR X (binaryOp .Add) rCatF := by
  intro pins s σ H x y v u Q I rx ry h
  obtain ⟨a, b, xs, ys, rfl, rfl, ha, hb, hz, q⟩ := h
  cases rx
  cases ry
  obtain ⟨its, r1, p1, _⟩ := I.tuple (ha.sq (K := X.K))
  obtain ⟨its2, r2, p2, _⟩ := I.tuple (hb.sq (K := X.K))
  by_cases hx : xs = []
  · subst hx
    cases r1
    exact L2.cat_tup0 p1 p2 (stayT I hb q)
  · refine HT.cat_tup p1 p2 (fun z => hx (r1.nil_iff.mp z)) (fun z => ?_) (fun z => ?_) (by rw [← r1.length, ← r2.length]; exact hz)
    · have e := r2.nil_iff.mp z
      subst e
      rw [List.append_nil] at q
      exact stayT I ha q
    · exact laidT (t' := s.toks) I (r1.append r2) (by rw [List.length_append]; exact hz) (fun b o e => Heap.get?_push_of_some _ e) (Nat.le_refl _) (Heap.get?_push_size _ rfl) q
/-- t[i:j] -/
def rSlF : V → Option Int → Option Int → Hp → VK → Prop := fun x lo hi H Q => ∃ a xs, x = .ref a ∧ TupF H a xs ∧ kT (cutV xs lo hi) H Q
theorem sl_tupF : SlR X rSlF := by
  intro pins s σ H x v vl vu lo hi sl Q I rx hs pl pu h
  obtain ⟨a, xs, rfl, hx, q⟩ := h
  cases rx
  obtain ⟨its, r, ht, hz⟩ := I.tuple (hx.sq (K := X.K))
  have hlen : its.toArray.size = xs.length := by rw [List.size_toArray]; exact r.length.symm
  refine ⟨"tuple", _, PyProof.Rows.slot_tuple_getitem.lookup, ht.typeIs, ?_⟩
  by_cases hw : HT.sIx xs.length 0 lo = 0 ∧ HT.sIx xs.length xs.length hi = xs.length
  · have e : cutV xs lo hi = xs := by
      unfold cutV
      rw [hw.1, hw.2]
      simp
    rw [e] at q
    exact L2.getItem_tuple_whole ht hs pl pu (by rw [hlen]; exact hw) (stayT I hx q)
  · refine HT.getItem_tuple_cut ht hs pl pu (by rw [hlen]; exact hw) ?_ (by rw [hlen]; exact hz)
    rw [hlen]
    exact laidT (t' := s.toks) I ((r.drop (HT.sIx xs.length 0 lo)).take (HT.sIx xs.length xs.length hi - HT.sIx xs.length 0 lo)) (Nat.le_trans (cutV_length xs lo hi) hz) (fun b o e => Heap.get?_push_of_some _ e) (Nat.le_refl _) (Heap.get?_push_size _ rfl) q
/-! ### tuple(dict) -/
theorem call_tupleDF (hcalm : X.calm = true) : CallR X (.type "tuple") (fun xs H Q => ∃ (a : Addr) (kvs : List (Key × V)), xs = [.ref a] ∧ Rd H a (.dK kvs) ∧ kT (kvs.map fun kv => kV kv.1) H Q) := by
  intro pins s σ H xs us Q I r h
  obtain ⟨a, kvs, rfl, hd, q⟩ := h
  obtain ⟨u, rfl, rx⟩ := vals1 r
  cases rx
  obtain ⟨z, lo, vs, rel, dd⟩ := dk_rd I.hok hd
  obtain ⟨ep, hat⟩ := dd.dictAt
  have ek : (kvs.map fun kv => kV kv.1) = vs.map fun p => kV p.1 := by
    have e := congrArg (List.map kV) rel.keys
    rw [List.map_map, List.map_map] at e
    exact e
  have lenv : vs.length ≤ sizeLine := by rw [← rel.length]; exact z
  have made : codeAny (model X.prog X.w) X.A.in1 (.call (.builtin "tuple.__new__") ⟨[.type "tuple", .ref a], []⟩) (wants (fun obj s₁ => s₁.TypeIs obj "tuple" ∧ EP X pins σ Q obj s₁) X.xe) s := by
    refine codeAny_of_tree ?_
    show wpAny _ X.A.in1.in1 (checkBuiltinCall "tuple.__new__" ⟨[.type "tuple", .ref a], []⟩ >>= fun _ => again (.builtin "tuple.__new__" ⟨[.type "tuple", .ref a], []⟩)) _ _ s
    refine wpAny_bind (wpAny_of_eq (PySem.F.newCall_tuple_1 _) (wpAny_pure ⟨plainId_quiet PySem.F.plain_tuple_new _, codeAny_builtin PySem.F.entry_tuple_new ?_⟩))
    rw [Around.under_plainId PySem.F.plain_tuple_new _]
    have g1 := sub_tuple_self
    have g2 := init_tuple_lookup
    have g3 := madeHere_tuple
    have g4 : s.TypeIs (.ref a) "dict" := dd.typeIs
    have gh : X.A.in1.in1.handled = none := I.ok.hd hcalm
    wp_walk using wpAny_typeOf g4, PySem.W.kdu_collect (PySem.W.kdl_dict (knd := mixKind X.prog X.w) (kvs := vs) (ep := ep) lo) gh hat lenv
    intro h' tk acc hk hacc
    have hv : Vals (vs.map fun p => kV p.1) acc.toList := keys_at (by rw [Array.length_toList]; exact hacc.1) fun j v e => hacc.2 j v (by rw [← Array.getElem?_toList]; exact e)
    show wpAny _ _ (Builtin.Tuple.tupleExact acc.toList.toArray >>= fun v => ret v) _ _ _
    unfold Builtin.Tuple.tupleExact
    refine wpAny_bind (wpAny_newObj_type ?_ (show acc.toList.toArray.size ≤ sizeLine by rw [Array.toArray_toList, hacc.1]; exact lenv))
    have I1 : Inv X pins σ H { s with heap := h', toks := tk } := I.kept (t' := tk) hk
    refine wpAny_pure ⟨⟨_, Heap.get?_push_size _ rfl, rfl⟩, ?_⟩
    have hv2 : Vals (kvs.map fun kv => kV kv.1) acc.toList := by rw [ek]; exact hv
    exact laidT (t' := tk) I1 hv2 (by rw [List.length_map]; exact z) (fun b ob e => Heap.get?_push_of_some _ e) (Nat.le_refl _) (Heap.get?_push_size _ rfl) q
  refine callType_codes PySem.F.called_tuple (PySem.F.typeCall_tuple_1 _) PySem.F.entry_object_init made fun obj s₁ h₁ => ?_
  exact ⟨h₁.1, PySem.F.args_object_init_2 obj _, object_init_meets PySem.F.called_tuple.init.lookup PySem.F.called_tuple.made (by decide) X.prog X.w X.A.in1 _ s₁ ⟨h₁.1, rfl, h₁.2⟩⟩
end
end Kx
namespace Kx
open PySem PySem.Spec PyProof.Rows L2
section
variable {prog : Program} {w : World} {A : Around} {E : Value → Shared → Prop} {s : Shared}
theorem adjust_back (n : Nat) : Builtin.Slice.sliceAdjust none none (-1) (n : Int) = ((n : Int) - 1, -1) := by
  unfold Builtin.Slice.sliceAdjust
  simp
theorem places_back (n : Nat) : Builtin.Slice.slicePlaces ((n : Int) - 1) (-1) (-1) = n := by
  unfold Builtin.Slice.slicePlaces
  simp
  omega
theorem applied_back {sl : Addr} {vl vu vs : Value} {n : Nat} {Q : Int × Int × Nat → Shared → Prop} (hs : s.heap.IsSliceOf sl vl vu vs) (pl : IsPart vl none) (pu : IsPart vu none) (pst : IsPart vs (some (-1)))
    (h : Q ((n : Int) - 1, -1, n) s) : wpAny (model prog w) A (Builtin.Slice.sliceApplied (.ref sl) (pure (n : Int))) Q E s := by
  obtain ⟨os, hos, hcs, hds⟩ := id hs
  unfold Builtin.Slice.sliceApplied Builtin.Slice.sliceFields
  refine wpAny_bind (wpAny_bind (wpAny_field hos hds (x := vl) rfl (wpAny_bind (wpAny_field hos hds (x := vu) rfl (wpAny_bind (wpAny_field hos hds (x := vs) rfl (wpAny_pure ?_)))))))
  refine wpAny_bind (HT.slicePart_ pst ?_)
  show wpAny _ _ (if ((-1 : Int) == 0) = true then _ else _) _ _ s
  rw [if_neg (by decide)]
  refine wpAny_bind (HT.slicePart_ pl (wpAny_bind (HT.slicePart_ pu (wpAny_bind (wpAny_pure ?_)))))
  show wpAny _ _ (match Builtin.Slice.sliceAdjust none none (-1) (n : Int) with | (lo, hi) => pure (lo, (-1 : Int), Builtin.Slice.slicePlaces lo hi (-1))) _ _ s
  rw [adjust_back]
  show wpAny _ _ (pure ((n : Int) - 1, (-1 : Int), Builtin.Slice.slicePlaces ((n : Int) - 1) (-1) (-1))) _ _ s
  rw [places_back]
  exact wpAny_pure h
theorem back_list {α : Type} (l : List α) : ∀ k, k ≤ l.length → (List.range k).filterMap (fun m => l[l.length - 1 - m]?) = l.reverse.take k
  | 0, _ => by simp
  | k + 1, h => by
    rw [List.range_succ, List.filterMap_append, back_list l k (by omega), List.take_succ]
    congr 1
    have e : l.reverse[k]? = l[l.length - 1 - k]? := List.getElem?_reverse (by omega)
    rw [e]
    cases q : l[l.length - 1 - k]? with
    | none => simp [q]
    | some a => simp [q]
theorem pick_back (xs : Array Value) : ((List.range xs.size).filterMap fun (m : Nat) => xs[((((xs.size : Nat) : Int) - 1) + (m : Int) * (-1)).toNat]?) = xs.toList.reverse := by
  have e : (fun (m : Nat) => xs[((((xs.size : Nat) : Int) - 1) + (m : Int) * (-1)).toNat]?) = fun m => xs.toList[xs.toList.length - 1 - m]? := by
    funext m
    have : ((((xs.size : Nat) : Int) - 1) + (m : Int) * (-1)).toNat = xs.toList.length - 1 - m := by
      rw [Array.length_toList]; omega
    rw [this, Array.getElem?_toList]
  rw [e]
  have := back_list xs.toList xs.toList.length (Nat.le_refl _)
  rw [← Array.length_toList, this, ← List.length_reverse, List.take_length]
theorem getItem_tuple_back {t sl : Addr} {items : Array Value} {vl vu vs : Value} {Q : Value → Shared → Prop} (ht : IsTup s.heap t items) (hs : s.heap.IsSliceOf sl vl vu vs) (pl : IsPart vl none) (pu : IsPart vu none) (pst : IsPart vs (some (-1)))
    (h : Q (.ref s.heap.objs.size) { s with heap := s.heap.push { cls := .type "tuple", data := .seq items.toList.reverse.toArray } }) (hsz : items.size ≤ sizeLine) : wpAny (model prog w) A (getItem (.ref t) (.ref sl)) Q E s := by
  have room : sizeOk (.seq items.toList.reverse.toArray) := by
    show items.toList.reverse.toArray.size ≤ sizeLine
    rw [List.size_toArray, List.length_reverse, Array.length_toList]
    exact hsz
  obtain ⟨os, hos, hcs, hds⟩ := id hs
  have hTs : s.TypeIs (.ref sl) "slice" := ⟨os, hos, hcs⟩
  unfold getItem
  try with_reducible refine wpAny_holding ?_
  first | refine wpAny_bind (wpAny_pure ?_) | skip
  refine wpAny_bind (wpAny_sequenceKey ht.typeIs (by decide) ?_)
  refine wpAny_bind (wpAny_callSpecial?_slot (name := Str.ofString "__getitem__") ht.typeIs PyProof.Rows.slot_tuple_getitem (wpAny_call_entry PyProof.Rows.slot_tuple_getitem ht.typeIs entry_tuple_getitem ?_ (args_tuple_getitem _ _)))
  show wpAny _ _ (Builtin.Tuple.tupleItemsOf (.ref t) >>= _) _ _ s
  refine wpAny_bind (tupleItemsOf_ ht (wpAny_bind (wpAny_typeOf hTs ?_)))
  rw [if_pos (by decide)]
  refine wpAny_bind (applied_back hs pl pu pst ?_)
  have off : ¬ ((((items.size : Nat) : Int) - 1 == 0 && (-1 : Int) == 1 && items.size == items.size) = true) := by
    rw [show ((-1 : Int) == 1) = false from rfl, Bool.and_false, Bool.false_and]
    exact Bool.false_ne_true
  show wpAny _ _ (if ((((items.size : Nat) : Int) - 1) == 0 && (-1 : Int) == 1 && items.size == items.size) = true then _ else _) _ _ s
  rw [if_neg off, pick_back]
  first
    | exact wpAny_bind (m := Builtin.Tuple.tupleExact _) (wpAny_newObj_type (wpAny_pure ⟨_, rfl, wpAny_pure h⟩) room)
    | exact wpAny_bind (m := Builtin.Tuple.tupleExact _) (wpAny_newObj_type (wpAny_bind (wpAny_pure (wpAny_pure ⟨_, rfl, wpAny_pure h⟩))) room)
    | exact wpAny_bind (wpAny_bind (m := Builtin.Tuple.tupleExact _) (wpAny_newObj_type (wpAny_pure (wpAny_pure ⟨_, rfl, wpAny_pure h⟩)) room))
    | exact wpAny_bind (wpAny_bind (m := Builtin.Tuple.tupleExact _) (wpAny_newObj_type (wpAny_pure ⟨_, rfl, wpAny_pure h⟩) room))
end
section
variable {X : Cx}
/-- t[::-1] -/
def tRevT (te : TE) : TE := fun σ H Q => te σ H fun x H1 => ∃ a xs, x = .ref a ∧ TupF H1 a xs ∧ kT xs.reverse H1 Q
theorem pe_revT {e : Expr} {te : TE} {k : Nat} {p1 p2 p3 pos : Pos} (he : PE X e te) : PE X (.Subscript e (.Slice none none (some (.UnaryOp .USub (.Constant (.int 1) k p1) p2)) p3) pos) (tRevT te) := by
  refine ⟨fun pins s σ H Q I h => Subscript_ (thn (he.run pins s σ H _ I h) fun v s1 ⟨x, H1, I1, r1, q1⟩ => ?_)⟩
  obtain ⟨a, xs, rfl, hx, q⟩ := q1
  cases r1
  have step : PO X (some (.UnaryOp .USub (.Constant (.int 1) k p1) p2)) (tPart (tUn (rU fun i => .int (-i)) (tC (.int 1)))) := po_some (pe_un un_neg pe_int)
  refine wpAny_Slice (thn (po_none.run pins s1 σ H1 (fun o H2 => o = none ∧ H2 = H1) I1 ⟨rfl, rfl⟩) fun vl s2 ⟨l, H2, I2, pl, el, e2⟩ => ?_)
  subst el e2
  refine thn (po_none.run pins s2 σ H2 (fun o H3 => o = none ∧ H3 = H2) I2 ⟨rfl, rfl⟩) fun vu s3 ⟨u, H3, I3, pu, eu, e3⟩ => ?_
  subst eu e3
  refine thn (step.run pins s3 σ H3 (fun o H4 => o = some (-1) ∧ H4 = H3) I3 ⟨1, rfl, -1, rfl, rfl, rfl⟩) fun vs s4 ⟨o, H4, I4, pst, eo, e4⟩ => ?_
  subst eo e4
  have I5 : Inv X pins σ H4 { s4 with heap := s4.heap.push { cls := .type "slice", data := .fields #[vl, vu, vs] } } := I4.kept (t' := s4.toks) fun b ob q => Heap.get?_push_of_some _ q
  obtain ⟨its, r, ht, hz⟩ := I5.tuple (hx.sq (K := X.K))
  have hlen := r.length
  show wpAny (model X.prog X.w) X.A (subscriptTail e (.Slice none none (some (.UnaryOp .USub (.Constant (.int 1) k p1) p2)) p3) (.ref a) (.ref s4.heap.objs.size)) (EP X pins σ Q) X.xe { s4 with heap := s4.heap.push { cls := .type "slice", data := .fields #[vl, vu, vs] } }
  refine tail_any (ops := [.ref a, .ref s4.heap.objs.size]) ht.typeIs (PyProof.Rows.slot_tuple_getitem.lookup) ?_ (by with_unfolding_all rfl)
  refine getItem_tuple_back ht (Heap.IsSliceOf.new _ vl vu vs) pl pu pst ?_ (by rw [List.size_toArray]; omega)
  exact laidT (t' := s4.toks) I5 r.reverse (by rw [List.length_reverse]; exact hz) (fun b ob q => Heap.get?_push_of_some _ q) (Nat.le_refl _) (Heap.get?_push_size _ rfl) q
end
end Kx
namespace Kx
open PySem PySem.Spec PyProof.Rows L2
section
variable {X : Cx}
theorem pairs_at {pins : List (Addr × Obj)} {σ : L2.St} {H : Hp} {s : Shared} (I : Inv X pins σ H s) : ∀ {ps : List Addr} {kvs : List (Key × V)}, Paired (fun p kv => SqT X.K H p [kV kv.1, kv.2]) ps kvs →
    ∃ (prs : List (Key × Value)) (vps : List (Value × Value)), KV kvs prs ∧ prs.length = ps.length ∧ vps.length = ps.length ∧
      ∀ (j : Nat) (k v : Value), vps[j]? = some (k, v) → ∃ (b : Addr) (kk : Key), ps[j]? = some b ∧ IsTup s.heap b #[k, v] ∧ prs[j]? = some (kk, v) ∧ keyIs kk k = true
  | _, _, .nil => ⟨[], [], .nil, rfl, rfl, fun j k v e => by simp at e⟩
  | _, _, .cons (a := p) (b := kv) h t => by
    obtain ⟨prs, vps, r, h1, h2, hp⟩ := pairs_at I t
    obtain ⟨its, rv, ht, _⟩ := I.tuple h
    obtain ⟨u, y, ei, ru, ry⟩ := vals2 rv
    subst ei
    have hk : keyIs kv.1 u = true := by
      cases e : kv.1 with
      | inl i => rw [e] at ru; obtain ⟨t, rfl⟩ := ru; exact keyIs_int i t
      | inr x => rw [e] at ru; obtain ⟨t, rfl⟩ := ru; exact keyIs_str x t
    refine ⟨(kv.1, y) :: prs, (u, y) :: vps, .cons ⟨rfl, ry⟩ r, by simp [h1], by simp [h2], fun j k v e => ?_⟩
    cases j with
    | zero =>
      cases e
      exact ⟨p, kv.1, rfl, ht, rfl, hk⟩
    | succ j => exact hp j k v e
/-- dict(tuple of pairs) -/
theorem call_dictT (hcalm : X.calm = true) : CallR X (.type "dict") (fun xs H Q => ∃ (a : Addr) (ps : List Addr) (kvs : List (Key × V)), xs = [.ref a] ∧ TupF H a (ps.map V.ref) ∧ Paired (fun p kv => SqT X.K H p [kV kv.1, kv.2]) ps kvs ∧
    ∀ p, H p = none → Q (.ref p) (upd H p (.dK (mergeK [] kvs)))) := by
  intro pins s σ H xs us Q I r q
  obtain ⟨a, ps, kvs, rfl, hq, hp, q⟩ := q
  obtain ⟨u, rfl, rx⟩ := vals1 r
  cases rx
  obtain ⟨ob, od, hob⟩ := hq
  obtain ⟨g1, hz, its, rv, o, g2, oc, n, odat⟩ := (show ObjOk X.prog X.w H s.heap a (.frz ob (.tup (ps.map V.ref))) from I.hok a _ hob)
  rw [g1] at g2
  cases g2
  have ei := refs_at rv
  rw [List.length_map] at hz
  obtain ⟨prs, vps, rel, hl, hl2, hpr⟩ := pairs_at I hp
  have ok : (fun h => PlainSeq "tuple" h a its.toArray ∧ PairItems h its.toArray (fun j => ps.getD j 0) vps) s.heap := by
    refine ⟨⟨ob, n, g1, oc, od, odat⟩, ?_, fun j k v e => ?_⟩
    · rw [List.size_toArray, ei, List.length_map, hl2]
    · obtain ⟨b, kk, e1, e2, _⟩ := hpr j k v e
      refine ⟨?_, ?_⟩
      · show its.toArray[j]? = _
        rw [List.getElem?_toArray, ei, List.getElem?_map, e1]
        simp [e1]
      · show PairAt s.heap (ps.getD j 0) k v
        rw [List.getD_eq_getElem?_getD, e1]
        exact .inl e2
  refine PySem.call_dict_pairs (knd := mixKind X.prog X.w) (kvs := prs) (PairArg.tuple a its.toArray (fun j => ps.getD j 0) vps) (I.ok.hd hcalm) ok ⟨by rw [hl, hl2], fun i k v e => ?_⟩ (by rw [hl2]; exact hz) fun h' tk hd' k => ?_
  · obtain ⟨b, kk, _, _, e3, e4⟩ := hpr i k v e
    exact ⟨kk, e3, e4⟩
  · have hm : (s.heap.objs.size == sysModules) = false := beq_eq_false_iff_ne.mpr (Nat.ne_of_gt I.big)
    have hlen : (mergeK [] kvs).length ≤ sizeLine := by
      refine Nat.le_trans (length_mergeK kvs []) ?_
      rw [List.length_nil, Nat.zero_add, rel.length, hl]
      exact hz
    exact ⟨.ref s.heap.objs.size, upd H s.heap.objs.size (.dK (mergeK [] kvs)), I.laid (t' := tk) (fun b o e => k b o (by simp) e) (Nat.le_refl _) (show ObjOk X.prog X.w _ _ _ (.dK (mergeK [] kvs)) from ⟨hlen, hm, merged [] prs, KV.merge rel .nil, hd'⟩), rfl, q _ (I.hok.fresh (Nat.le_refl _))⟩
/-! ### t * n, the empty one too -/
theorem tuple_mul0 (l : Addr) (n : Nat) (dd : Option Addr) (sl : Array (Option Value)) (x : Int) (u : Tok) (c0 : (decide (x < -(2 ^ 63)) || decide (x ≥ 2 ^ 63)) = false) :
    Meets (Builtin.«tuple.__mul__» ⟨[.ref l, .int x u], []⟩) (fun _ R s => s.heap.get? l = some { cls := .type "tuple", dict := dd, data := .seq #[] n, slots := sl } ∧ R (.ok (.ret (Value.ref l))) s) :=
  .of_wp fun prog w A R s h => by
    obtain ⟨hp, g, d, tk, os⟩ := s
    obtain ⟨hl, h⟩ := h
    have f1 := AutoSeq1.idx_int
    wp_walk using PySem.AutoSeq1.wpAny_loadPart' hl
    refine wpAny_ite_false (decide_eq_false (by rw [c0]; exact Bool.false_ne_true)) ?_
    wp_walk using PySem.AutoSeq1.wpAny_loadPart' hl
    exact ⟨_, rfl, h⟩
def rRepF : R2 := fun x y H Q => ∃ l k xs, x = .ref l ∧ y = .int k ∧ TupF H l xs ∧ 2 ≤ k ∧ k ≤ 1000 ∧ xs.length ≤ 1000 ∧ kT (List.replicate k.toNat xs).flatten H Q
theorem op_repF : OpR X (binaryOp .Mult) rRepF := by
  intro pins s σ H x y v u Q I rx ry h
  obtain ⟨l, k, xs, rfl, rfl, hT, h1, h2, hz, q⟩ := h
  have ryk := ry
  have rxl := rx
  cases rx
  obtain ⟨t, rfl⟩ := ry
  obtain ⟨its, r, ⟨⟨cls, dd, data, sl⟩, ho, hc, n, hd⟩, hs⟩ := I.tuple (hT.sq (K := X.K))
  simp only at hc hd
  subst hc hd
  have c0 : (decide (k < -(2 ^ 63)) || decide (k ≥ 2 ^ 63)) = false := by
    rw [decide_eq_false (by omega), decide_eq_false (by omega)] <;> rfl
  by_cases hne : xs = []
  · subst hne
    cases r
    have e : (List.replicate k.toNat ([] : List V)).flatten = [] := by simp
    rw [e] at q
    refine wpAny_binaryOp_repeat_ref (T := "tuple") (U := "int") (by decide) ⟨_, ho, rfl⟩ (fun s' => typeIs_int s' k t) noFill_tuple_mul PySem.F.fills_int_mul PySem.F.slot_int_rmul repeat_tuple PySem.F.slot_int_index.lookup
      (call_meets PySem.F.slot_int_rmul (typeIs_int s k t) PySem.F.entry_int_rmul (PySem.F.args_int_rmul_2 _ _) (int_rmul_tuple k t l #[] n dd sl)
        ⟨ho, rfl, ⟨_, ho, rfl⟩, call_meets PySem.F.slot_tuple_mul ⟨_, ho, rfl⟩ PySem.F.entry_tuple_mul (PySem.F.args_tuple_mul_2 _ _) (tuple_mul0 l n dd sl k t c0) ⟨ho, ?_⟩⟩)
    exact stayT I hT q
  · have hi : its ≠ [] := fun e => hne (by
      have := r.length
      rw [e] at this
      exact List.eq_nil_of_length_eq_zero this)
    have hie : its.toArray.isEmpty = false := by
      cases its with
      | nil => exact absurd rfl hi
      | cons a b => rfl
    have hl : its.toArray.size = xs.length := by rw [List.size_toArray]; exact r.length.symm
    have hm : ((its.toArray.size : Nat) : Int) * k ≤ 1000000 := by
      rw [hl]
      have a1 : ((xs.length : Nat) : Int) * k ≤ 1000 * k := Int.mul_le_mul_of_nonneg_right (by omega) (by omega)
      omega
    have flen : (List.replicate k.toNat xs).flatten.length ≤ sizeLine := by
      rw [PyProof.Rows.lm_len_rep_flat, sizeLine_eq]
      have a1 : k.toNat * xs.length ≤ 1000 * 1000 := Nat.mul_le_mul (by omega) hz
      omega
    have flen2 : (List.replicate k.toNat its).flatten.length ≤ sizeLine := by
      rw [PyProof.Rows.lm_len_rep_flat, ← r.length, ← PyProof.Rows.lm_len_rep_flat]
      exact flen
    have c1 : (its.toArray.isEmpty || k == 1) = false := by
      rw [hie, Bool.false_or]
      exact beq_eq_false_iff_ne.mpr (by omega)
    have c2 : (decide (k ≤ 0) || its.toArray.isEmpty) = false := by
      rw [hie, Bool.or_false]
      exact decide_eq_false (by omega)
    have c4 : Builtin.Tuple.tupleTooMany (((its.toArray.size : Nat) : Int) * k) = false := by
      unfold Builtin.Tuple.tupleTooMany
      rw [sizeLine_eq]
      exact decide_eq_false (by omega)
    refine wpAny_binaryOp_repeat_ref (T := "tuple") (U := "int") (by decide) ⟨_, ho, rfl⟩ (fun s' => typeIs_int s' k t) noFill_tuple_mul PySem.F.fills_int_mul PySem.F.slot_int_rmul repeat_tuple PySem.F.slot_int_index.lookup
      (call_meets PySem.F.slot_int_rmul (typeIs_int s k t) PySem.F.entry_int_rmul (PySem.F.args_int_rmul_2 _ _) (int_rmul_tuple k t l its.toArray n dd sl)
        ⟨ho, rfl, ⟨_, ho, rfl⟩, call_meets PySem.F.slot_tuple_mul ⟨_, ho, rfl⟩ PySem.F.entry_tuple_mul (PySem.F.args_tuple_mul_2 _ _) (tuple_mulW l its.toArray n dd sl k t c0 c1 c2 (by omega) c4 (by rw [size_rep, List.size_toArray]; exact flen2)) ⟨ho, ?_⟩⟩)
    rw [size_rep]
    exact laidT (t' := s.toks) I (r.rep k.toNat) flen (fun b o e => Heap.get?_push_of_some _ e) (Nat.le_refl _) (Heap.get?_push_size _ rfl) q
end
end Kx
namespace Kx
open PySem PySem.Spec PyProof.Rows L2
/-! ### defs that are called where nothing is being shown -/
structure FnOkG (P : Program) (w : World) (K : PySem.W.Frag) (mg : Str → Option Value) (base : Heap) (CX : CXT) (k : Nat) (f : Addr) (fd : FuncData) (ps : List Str) (sp : Sp) : Prop where
  len : ∀ vs H Q E, sp vs H Q E → vs.length = ps.length
  run : ∀ (A : Around) (outer : List Env) (s : Shared) (H : Hp) (args : Args) (us : List Value) (vs : List V) (Q : VK) (E : XK), A.guards = some [] → Room k A → Env0 P w K mg base A outer s H → BindsTo s fd args (ps.zip us) → Vals vs us → sp vs H Q E →
    codeAny (model P w) A (.call (.ref f) args) (CR CX outer P w H s Q E) s
section
variable {P : Program} {w : World} {K : PySem.W.Frag} {mg : Str → Option Value} {base : Heap} {x qual : Str} {params : Arguments} {body : List Stmt} {scope : Scope} {dvs : List V} {kws : List (Str × V)} {f : Addr} {fd : FuncData}
theorem okG {CX : CXT} {N ps : List Str} {k : Nat} {sp : Sp} (F : FunD K x qual params body scope dvs kws f fd) (S : FnScope N ps scope) (len : ∀ vs H Q E, sp vs H Q E → vs.length = ps.length)
    (hb : ∀ (cdv : Value) (A : Around) (outer : List Env) (s : Shared) (H : Hp) (vs : List V) (Q : VK) (E : XK), A.guards = some [] → Room k (A.deeper (envOfC qual scope s.heap.objs.size f cdv)) → sp vs H Q E →
      ∃ t, PSs (cxOf CX P w K mg base N qual scope f cdv A outer s H E) body t ∧ t { nx := fun _ H' => Q .non H', rt := Q } (start N vs) H) : FnOkG P w K mg base CX (k + 1) f fd ps sp := by
  obtain ⟨oc, od, dV, kV, doc, pm, an, cdv, ct, osl, rfl, lk, hcd, _, _⟩ := F.ex
  refine ⟨len, ?_⟩
  intro A outer s H args us vs Q E hg hr e0 hbd r hsp
  have keepB : ∀ b o, base.get? b = some o → s.heap.get? b = some o := fun b o e => (e0.bs b o e).1
  have inK := e0.mod.kin.keeps keepB
  have kinds : ∀ y ∈ ps.zip us, scope.names.lookup y.1 = some .local ∨ (scope.names.lookup y.1 = some .cell ∧ ((cellsFrom (s.heap.objs.size + 1) scope.names []).lookup y.1).isSome = true) := by
    intro y hy
    obtain ⟨n, v⟩ := y
    exact (S.par n (List.of_mem_zip hy).1).imp id fun q => ⟨q, PySem.W.cellsFrom_some _ _ _ (.inl q)⟩
  refine codeAny_call_function hr.depth (inK _ _ lk) rfl S.co S.gen rfl (PySem.W.codeRec_of inK hcd) (hbd _ _ _ _ (wpAny_newFunctionEnv_cells S.kind kinds ?_))
  intro env he s1 x1
  subst he
  refine ⟨(e0.mod.nolimit.keeps keepB).keeps x1.toInCall.keep, codeAny_func ?_⟩
  obtain ⟨t, ht, hq⟩ := hb cdv A outer s H vs Q E hg (hr.deeper _) hsp
  have I := inv_start (CX := CX) (E := E) S hr.hd e0 (len _ _ _ _ hsp) r x1
  refine wpAny_mono (ht.run [] s1 (start N vs) H _ I hq) (fun fl s' hs => ?_) fun _ _ hs => hs
  cases fl with
  | ret u => exact let ⟨v, _, H', J, rv, q⟩ := hs; ⟨v, H', J.os, J.bare, J.base, J.hok, rv, q⟩
  | next => exact let ⟨_, H', J, q⟩ := hs; ⟨V.non, H', J.os, J.bare, J.base, J.hok, rfl, q⟩
  | brk => exact let ⟨_, _, _, q⟩ := hs; q.elim
  | cont => exact let ⟨_, _, _, q⟩ := hs; q.elim
end
section
variable {X : Cx} {CX : CXT} {k : Nat} {f : Addr} {fd : FuncData} {ps : List Str} {sp : Sp} {E : XK} {x : Str} {p pos : Pos} {e : Expr} {es : List Expr} {t : TA}
theorem pe_callG (F : FnOkG X.prog X.w X.K X.mg X.base CX k f fd ps sp) (hgd : X.A.guards = some []) (hr : Room k X.A) (hg : Gl X x) (hm : X.mg x = some (.ref f)) (hk : PySem.W.keepIn X.K (.ref f) = true) (hb : Binds X.K fd ps []) (hx : Passes CX X E)
    (ha : PA X (e :: es) t) (hdb : (x == ("__debug__" : Str)) = false := by decide) (he : starEach (e :: es) X.env = (false, eval e X.env) :: starEach es X.env := by rfl) (hpl : (backTo pos (starEach es X.env)).any (·.1) = false := by rfl) :
    PE X (.Call (.Name x p) (e :: es) [] pos) (tCall sp [] E t) := by
  refine ⟨fun pins s σ H Q I h => wpAny_Call_Name_kw (ld_glob I hg hm ?_ hdb)⟩
  refine PySem.W.callWith_K (h₀ := X.base) I.ok.mod.kin hk (thn (ha.run pos pins s σ H _ I h) fun us s1 ⟨vs, H1, I1, r, q⟩ => ⟨I1.kIn, ?_⟩) he hpl
  have q' : sp vs H1 Q E := by simpa using q
  have hl : us.length = ps.length := by rw [← r.length]; exact F.len _ _ _ _ q'
  have bd : BindsTo s1 fd ⟨us, []⟩ (ps.zip us) := by simpa using hb s1 us I1.kIn (by simpa using hl)
  refine wpAny_call (codeAny_mono (F.run X.A X.stack s1 H1 ⟨us, []⟩ us vs Q E hgd hr I1.env0 bd r q') fun r s' hq => ?_)
  cases r with
  | error e => exact hx pins σ H1 s1 e s' I1 hq
  | ok fl =>
    cases fl with
    | ret u => exact I1.after hq
    | next => exact hq.elim
    | brk => exact hq.elim
    | cont => exact hq.elim
end
end Kx
namespace Kx
open PySem PySem.Spec PyProof.Rows L2
section
variable {P : Program} {w : World} {K : PySem.W.Frag} {mg mb : Str → Option Value} {k : Nat} {fa a : Addr} {fd : FuncData} {x : Str} {sp : Sp} {s₁ : Shared} {vs : List Value} {ns : List Int}
/-- the call of the law over one abstract heap -/
theorem law_coreG {H : Hp} (hO : Only H) (hS : SqL K H a (ns.map V.int)) (hok : HOk P w H s₁.heap) (hfrz : ∀ b u, H b = some u → ∃ o xs, u = .frz o (.lst xs)) (hA : ∀ b, H b ≠ none → b = a) (hK : H a ≠ none → K.lookup a = none)
    (KX : K.In s₁.heap) (hns : s₁.heap.Ns mainGlobals mg) (hb : s₁.heap.Ns builtinsNs mb) (hbb : ∀ x : Str, x ≠ "__name__" → mb x = bootBuiltins x) (hlim : s₁.heap.NoLimit) (hg : s₁.gens = #[])
    (ha : s₁.heap.get? a = some { cls := .type "list", data := .seq vs.toArray }) (hr : Room k callerA)
    (F : ∀ base : Heap, K.In base → base.Ns mainGlobals mg → FnOkG P w K mg base CX0 k fa fd [x] sp) (hbind : ∀ (s : Shared) (u : Value), BindsTo s fd ⟨[u], []⟩ [(x, u)])
    (hsp : sp [.ref a] H (fun v _ => v = .bl true) fun _ _ _ => False) :
    codeAny (model P w) callerA (.call (.ref fa) ⟨[.ref a], []⟩) (fun r s' => r = .ok (.ret (.bool true)) ∧ OldK s₁.heap s'.heap ∧ s'.os = s₁.os ∧ AllBare s'.gens) s₁ := by
  have inB : ∀ {b : Addr} {o : Obj}, s₁.heap.get? b = some o → H b = none → (hidT s₁.heap H).get? b = some o := fun e n => hidT_get e n
  have free : ∀ {b : Addr} {o : Obj}, s₁.heap.get? b = some o → (b = a → K.lookup a = none → False) → (b = a → H a = none) → H b = none := fun {b o} e _ h2 => by
    cases q : H b with
    | none => rfl
    | some u =>
      have e' := hA b (by rw [q]; simp)
      have := h2 e'
      rw [e', this] at q
      cases q
  have dictFree : ∀ {b : Addr} {o : Obj} {es : Array DictEntry} {ep : Nat}, s₁.heap.get? b = some o → o.data = .dict es ep → H b = none := fun {b o es ep} e d => by
    cases q : H b with
    | none => rfl
    | some u =>
      have e' := hA b (by rw [q]; simp)
      rw [e', ha] at e
      cases e
      cases (show Data.seq vs.toArray _ = Data.dict es ep from d)
  have nsB : ∀ {b : Addr} {m : Str → Option Value}, s₁.heap.Ns b m → (hidT s₁.heap H).Ns b m := fun {b m} h => by
    obtain ⟨o, es, ep, e, d, r⟩ := h
    exact ⟨o, es, ep, inB e (dictFree e d), d, r⟩
  have inKB : K.In (hidT s₁.heap H) := by
    intro b o e
    refine inB (KX b o e) ?_
    cases q : H b with
    | none => rfl
    | some u =>
      have e' := hA b (by rw [q]; simp)
      rw [e'] at e q
      rw [hK (by rw [q]; simp)] at e
      cases e
  have md : Mod K mg (hidT s₁.heap H) := by
    obtain ⟨mc, h1, h2⟩ := hlim
    exact ⟨inKB, nsB hns, ⟨mb, nsB hb, hbb⟩, mc, nsB h1, h2⟩
  have none_in : ∀ b : Addr, ¬ b ∈ ([] : List Addr) := fun b => List.not_mem_nil
  have e0 : Env0 P w K mg (hidT s₁.heap H) callerA [] s₁ H := ⟨rfl, md, fun b o e => of_hidT e, Nat.le_of_eq (hidT_size _ _), trivial, fun b hb => absurd (show b ∈ ([] : List Addr) from hb) (none_in b), hok, .of_eq hg⟩
  refine codeAny_mono ((F _ inKB (nsB hns)).run callerA [] s₁ H ⟨[.ref a], []⟩ [.ref a] [.ref a] _ _ rfl hr e0 (hbind s₁ (.ref a)) (.cons rfl .nil) hsp) ?_
  intro r s' h
  cases r with
  | error e => exact absurd h (by intro z; exact z.elim)
  | ok fl =>
    cases fl with
    | next => exact h.elim
    | brk => exact h.elim
    | cont => exact h.elim
    | ret u =>
      obtain ⟨v, H', os, bare, un, hok', r', q⟩ := h
      obtain rfl : v = .bl true := q
      obtain rfl : u = Value.bool true := r'
      refine ⟨rfl, OldK.of_keep fun b o e => ?_, os, bare⟩
      cases q : H b with
      | none => exact un.keep b o e q (none_in b) (by simp)
      | some u =>
        obtain ⟨ob, xs, rfl⟩ := hfrz b u q
        obtain ⟨e1, _⟩ := hok b _ q
        obtain ⟨e2, _⟩ := hok' b _ (un.frzs b ob _ q)
        rw [e] at e1
        cases e1
        exact e2
theorem law_callG (KX : K.In s₁.heap) (hns : s₁.heap.Ns mainGlobals mg) (hb : s₁.heap.Ns builtinsNs mb) (hbb : ∀ x : Str, x ≠ "__name__" → mb x = bootBuiltins x) (hlim : s₁.heap.NoLimit) (hg : s₁.gens = #[])
    (ha : s₁.heap.get? a = some { cls := .type "list", data := .seq vs.toArray }) (hi : IntsAre vs ns) (hl : ns.length ≤ sizeLine) (hr : Room k callerA)
    (F : ∀ base : Heap, K.In base → base.Ns mainGlobals mg → FnOkG P w K mg base CX0 k fa fd [x] sp) (hbind : ∀ (s : Shared) (u : Value), BindsTo s fd ⟨[u], []⟩ [(x, u)])
    (hsp : ∀ H : Hp, Only H → SqL K H a (ns.map V.int) → sp [.ref a] H (fun v _ => v = .bl true) fun _ _ _ => False) :
    codeAny (model P w) callerA (.call (.ref fa) ⟨[.ref a], []⟩) (fun r s' => r = .ok (.ret (.bool true)) ∧ OldK s₁.heap s'.heap ∧ s'.os = s₁.os ∧ AllBare s'.gens) s₁ := by
  have rv := vals_ints hi
  have hlv : vs.length ≤ sizeLine := by rw [hi.length]; exact hl
  cases hk : K.lookup a with
  | some o =>
    have e := KX a o hk
    rw [ha] at e
    cases e
    have hO : Only (fun _ => none : Hp) := fun _ => .inl rfl
    have hS : SqL K (fun _ => none : Hp) a (ns.map V.int) := .inr ⟨_, vs.toArray, _, hk, rfl, rfl, rfl, by rw [List.size_toArray]; exact hlv, by simpa using rv⟩
    refine law_coreG hO hS (fun b u z => ?_) (fun b u z => ?_) (fun b z => absurd rfl z) (fun z => absurd rfl z) KX hns hb hbb hlim hg ha hr F hbind (hsp _ hO hS)
    · cases (show (none : Option HO) = some u from z)
    · cases (show (none : Option HO) = some u from z)
  | none =>
    let ob : Obj := { cls := .type "list", data := .seq vs.toArray }
    let H : Hp := upd (fun _ => none) a (.frz ob (.lst (ns.map V.int)))
    have H_at : H a = some (.frz ob (.lst (ns.map V.int))) := upd_same
    have H_off : ∀ b, b ≠ a → H b = none := fun b h => upd_ne h
    have H_is : ∀ b u, H b = some u → b = a ∧ u = .frz ob (.lst (ns.map V.int)) := fun b u z => by
      by_cases h : b = a
      · subst h; rw [H_at] at z; cases z; exact ⟨rfl, rfl⟩
      · rw [H_off b h] at z; cases z
    have hO : Only H := fun b => by
      by_cases h : b = a
      · exact .inr ⟨ob, _, h ▸ H_at⟩
      · exact .inl (H_off b h)
    have hS : SqL K H a (ns.map V.int) := .inl (.inr ⟨ob, H_at⟩)
    refine law_coreG hO hS (fun b u z => ?_) (fun b u z => ?_) (fun b z => ?_) (fun _ => hk) KX hns hb hbb hlim hg ha hr F hbind (hsp _ hO hS)
    · obtain ⟨rfl, rfl⟩ := H_is b u z
      exact ⟨ha, by rw [List.length_map]; exact hl, vs, _, rv, ha⟩
    · obtain ⟨_, rfl⟩ := H_is b u z
      exact ⟨_, _, rfl⟩
    · by_cases h : b = a
      · exact h
      · exact absurd (H_off b h) z
end
/-- the end of a law whose def is told by FnOkG -/
theorem walk_ofG {l : PySem.W.OpenLaw} {n k : Nat} {q : Program} {loose : List Str} {XP : (Str → Option Value) → Heap → Prop} {YP : World → Heap → Prop} {d : DefRec} {x : Str}
    (hn : l.most = some n) (hn2 : n ≤ sizeLine) (hdf : d.params.defaults = []) (hr : Room k callerA)
    (F : ∀ (w : World) (mg : Str → Option Value) (fa : Addr) (h : Heap), YP w h → h.Ns mainGlobals mg → mg d.name = some (.ref fa) →
      ∃ (K : PySem.W.Frag) (fd : FuncData) (sp : Sp), K.In h ∧ (∀ (s : Shared) (u : Value), BindsTo s fd ⟨[u], []⟩ [(x, u)]) ∧
        (∀ (H : Hp) (a : Addr) (ns : List Int), ns.length ≤ n → Only H → SqL K H a (ns.map V.int) → sp [.ref a] H (fun v _ => v = .bl true) fun _ _ _ => False) ∧
        ∀ base : Heap, K.In base → base.Ns mainGlobals mg → FnOkG l.prog w K mg base CX0 k fa fd [x] sp) :
    PySem.W.WalkO q loose XP YP l.row.toRowW d [] (fun f vs => PySem.call f vs) := by
  refine Att.attach_call hn hdf ?_
  intro w s₀ s₁ mg mb fa o pm cd doc a vs ns G Y ho hd hcd hmg hobj hints hlen hg
  obtain ⟨K, fd, sp, inK, bd, hs, hF⟩ := F w mg fa _ Y G.T.g hmg
  exact law_callG inK G.T.g G.T.b G.T.builtins G.T.nolimit hg hobj hints (Nat.le_trans hlen hn2) hr hF bd fun H hO hS => hs H a ns hlen hO hS
end Kx
namespace Kx
open PySem PySem.Spec PyProof.Rows L2
/-! ### != by an own == -/
theorem ne_own {prog : Program} {w : World} {A : Around} {E : Value → Shared → Prop} {s : Shared} {K : PySem.W.Frag} {x C f : Addr} {ox : Obj} {od : Option Obj} {b : Value} {Q : Value → Shared → Prop}
    (hu : A.units + 1 < cLine) (X : K.In s.heap) (I : PySem.W.InstAt s.heap x ox C od) (hb : PySem.W.Looks (model prog w) s.heap (typeOf b) (.ref C))
    (hn : PySem.W.findIn K (.ref C) "__ne__" = some (some (.builtin "object.__ne__"))) (hs : PySem.W.findIn K (.ref C) "__eq__" = some (some (.ref f))) (hf : PySem.W.isFn K (.ref f) = true) (hm : PySem.W.mroIn K C (.type "object") = some true)
    (h : wpAny (model prog w) A.in1 (call (.ref f) [.ref x, b]) (fun v s' => ∃ c, v = .bool c ∧ Q (.bool (!c)) s') E s) : wpAny (model prog w) A (richCompare .NotEq (.ref x) b) Q E s := by
  have inner : wpAny (model prog w) A.in1 (Builtin.«object.__ne__» ⟨[.ref x, b], []⟩) (fun fin s' => ∃ c, fin = .done (.ret (.bool (!c))) ∧ Q (.bool (!c)) s') E s := by
    unfold Builtin.«object.__ne__»
    repeat (first
      | with_reducible refine wpAny_cRoomFor hu ?_
      | (refine wpAny_bind (m := callSpecialIfBound? (.ref x) (Str.ofString "__eq__") [b])
          (PySem.W.ifBound_K X I hs hf (wpAny_mono h (fun r s' hr => by
            obtain ⟨c, rfl, hq⟩ := hr
            repeat (first | exact ⟨c, rfl, hq⟩ | exact wpAny_pure ⟨c, rfl, hq⟩ | exact wpAny_truthy_bool ⟨c, rfl, hq⟩ | (refine wpAny_bind (m := truthy (.bool _)) (wpAny_truthy_bool ?_)) | wp_step)) fun _ _ e => e)))
      | wp_step)
  have one : wpAny (model prog w) A (tryCompare (.ref x) "__ne__" b) (fun r s' => ∃ v, r = some v ∧ Q v s') E s := by
    simp only [tryCompare, callSpecialIfBound?, bindSpecialIfBound?]
    have fin : wpAny (model prog w) A (call (.builtin "object.__ne__") [.ref x, b]) (fun v s' => ∃ c, v = .bool (!c) ∧ Q (.bool (!c)) s') E s := by
      refine wpAny_call (codeAny_call_builtin F.cmp_object.ne.plain F.cmpEntry_ne (PySem.W.check_slot (i := "object.__ne__") (owner := "object") (n := "__ne__") F.cmpKind_ne F.cmpSplit_ne (I.type.andThen (PySem.W.looks_mroIn X hm)) (F.cmpArgs_ne _ _) ?_))
      refine wpAny_mono inner (fun fin s' hq => ?_) fun _ _ e => e
      obtain ⟨c, rfl, q⟩ := hq
      exact ⟨c, rfl, q⟩
    refine wpAny_bind (wpAny_holding (wpAny_bind (wpAny_bind (wpAny_bind (I.type.here ((PySem.W.looks_findIn X hn).here ?_))))))
    simp only [F.cmp_object.ne.bind]
    refine wpAny_bind (wpAny_askSetting (wpAny_ite ?_))
    have fin2 : wpAny (model prog w) A (call (.builtin "object.__ne__") ([.ref x] ++ [b]) >>= fun v => pure (some v)) (fun r s' => ∃ c, r = some (.bool (!c)) ∧ Q (.bool (!c)) s') E s :=
      wpAny_bind (wpAny_mono fin (fun v s' h' => wpAny_pure (by obtain ⟨c, rfl, q⟩ := h'; exact ⟨c, rfl, q⟩)) fun _ _ h' => h')
    split
    · exact wpAny_bind (wpAny_pure (wpAny_pure (wpAny_mono fin2 (fun r s' hr => by obtain ⟨c, rfl, q⟩ := hr; exact wpAny_pure ⟨_, rfl, q⟩) fun _ _ e => e)))
    · exact wpAny_tryCatch (wpAny_bind (wpAny_pure (wpAny_pure (wpAny_mono fin2 (fun r s' hr => by obtain ⟨c, rfl, q⟩ := hr; exact wpAny_pure ⟨_, rfl, q⟩) fun _ _ e => e))))
  unfold richCompare
  simp only [oneThing_ref]
  refine wpAny_holding (wpAny_bind (wpAny_cRoomFor (Nat.lt_of_succ_lt hu) ?_))
  refine wpAny_bind (I.type.here (wpAny_bind (hb.here ?_)))
  rw [show (Value.ref C != Value.ref C) = false from by simp]
  simp only [Bool.false_eq_true, if_false]
  refine wpAny_bind (wpAny_pure ?_)
  simp only [Bool.false_eq_true, if_false]
  refine wpAny_bind (wpAny_mono one (fun r s' z => ?_) fun _ _ e => e)
  obtain ⟨v, rfl, hq⟩ := z
  exact wpAny_pure hq
section
variable {X : Cx} {CX : CXT} {k : Nat} {C f : Addr} {fd : FuncData} {ps : List Str} {sp : Sp} {E : XK}
/-- what stands beside an instance in a comparison: an instance of the class, or a list -/
def rEqO (C : Addr) (sp : Sp) (E : XK) : R2 := fun x y H Q => ∃ a dx fs b, x = .ref a ∧ y = .ref b ∧ H a = some (.ins C dx fs) ∧ ((∃ dy gs, H b = some (.ins C dy gs)) ∨ ∃ ys, H b = some (.lst ys)) ∧ sp [.ref a, .ref b] H (fun v H' => ∃ c, v = .bl c ∧ Q (.bl c) H') E
theorem op_eqO (hs : PySem.W.findIn X.K (.ref C) "__eq__" = some (some (.ref f))) (hf : PySem.W.isFn X.K (.ref f) = true) (hl : PySem.W.notFirst X.K C (.type "list") = true) (F : FnOk X.prog X.w X.K X.mg X.base CX k f fd ps sp) (hr : Room k X.A) (hb : Binds X.K fd ps [])
    (hx : Passes CX X E) : OpR X (compareOp .Eq) (rEqO C sp E) := by
  intro pins s σ H x y v u Q I rx ry h
  obtain ⟨a, dx, fs, b, rfl, rfl, ha, hy, q⟩ := h
  cases rx
  cases ry
  obtain ⟨mA, O, _⟩ := ins_get I.hok ha
  obtain ⟨od, J, _⟩ := O.look
  obtain ⟨m, fr⟩ := I.fr
  have go : wpAny (model X.prog X.w) X.A (call (.ref f) [.ref a, .ref b]) (PySem.W.CmpBack (EP X pins σ Q)) X.xe s := by
    refine wpAny_mono (run_fn (us := [.ref a, .ref b]) (vs := [.ref a, .ref b]) (ds := []) (dvs := []) F hr hb .nil hx I (.cons rfl (.cons rfl .nil)) q) (fun r s' z => ?_) fun _ _ z => z
    obtain ⟨v', H', I', rv, c, rfl, qq⟩ := z
    cases (show r = Value.bool c from rv)
    exact ⟨.bl c, H', I', rfl, qq⟩
  show wpAny (model X.prog X.w) X.A (richCompare .Eq (.ref a) (.ref b)) (EP X pins σ Q) X.xe s
  rcases hy with ⟨dy, gs, hb'⟩ | ⟨ys, hb'⟩
  · obtain ⟨mB, O', _⟩ := ins_get I.hok hb'
    obtain ⟨od', J', _⟩ := O'.look
    exact PySem.W.cmp_K (op := .Eq) (tb := .ref C) hr.units0 fr I.ok.mod.kin J J'.type (by simp [PySem.W.notFirst]) hs hf go
  · obtain ⟨_, its, n, _, e⟩ := (show ObjOk X.prog X.w H s.heap b (.lst ys) from I.hok b _ hb')
    exact PySem.W.cmp_K (op := .Eq) (tb := .type "list") hr.units0 fr I.ok.mod.kin J (fun A Q E s' kp q => wpAny_typeOf_ref (kp _ _ e) q) hl hs hf go
def rNeO (C : Addr) (sp : Sp) (E : XK) : R2 := fun x y H Q => ∃ a dx fs b dy gs, x = .ref a ∧ y = .ref b ∧ H a = some (.ins C dx fs) ∧ H b = some (.ins C dy gs) ∧ sp [.ref a, .ref b] H (fun v H' => ∃ c, v = .bl c ∧ Q (.bl (!c)) H') E
theorem op_neO (hs : PySem.W.findIn X.K (.ref C) "__eq__" = some (some (.ref f))) (hn : PySem.W.findIn X.K (.ref C) "__ne__" = some (some (.builtin "object.__ne__"))) (hm : PySem.W.mroIn X.K C (.type "object") = some true) (hf : PySem.W.isFn X.K (.ref f) = true) (F : FnOk X.prog X.w X.K X.mg X.base CX k f fd ps sp) (hr : Room (k + 1) X.A) (hb : Binds X.K fd ps [])
    (hx : Passes CX X.nox E) : OpR X (compareOp .NotEq) (rNeO C sp E) := by
  intro pins s σ H x y v u Q I rx ry h
  obtain ⟨a, dx, fs, b, dy, gs, rfl, rfl, ha, hb', q⟩ := h
  cases rx
  cases ry
  obtain ⟨mA, O, _⟩ := ins_get I.hok ha
  obtain ⟨od, J, _⟩ := O.look
  obtain ⟨mB, O', _⟩ := ins_get I.hok hb'
  obtain ⟨od', J', _⟩ := O'.look
  show wpAny (model X.prog X.w) X.A (richCompare .NotEq (.ref a) (.ref b)) (EP X pins σ Q) X.xe s
  refine ne_own (by have := hr.un; omega) I.kIn J J'.type hn hs hf hm ?_
  refine wpAny_call (codeAny_mono (F.run X.A.in1 X.stack s H ⟨[.ref a, .ref b], []⟩ [.ref a, .ref b] [.ref a, .ref b] _ E hr.in1 I.env0.in1 (hb s [.ref a, .ref b] I.kIn ?_) (.cons rfl (.cons rfl .nil)) q) fun r s' z => ?_)
  · rw [← F.len _ _ _ _ q]; rfl
  · cases r with
    | error e => exact (hx pins σ H s e s' (I.wish _) z).elim
    | ok fl =>
      cases fl with
      | ret u =>
        obtain ⟨v, H', I3, rv, c, rfl, qq⟩ := I.after z
        cases (show u = Value.bool c from rv)
        exact ⟨c, rfl, .bl (!c), H', I3, rfl, qq⟩
      | next => exact False.elim z
      | brk => exact False.elim z
      | cont => exact False.elim z
end
/-! ### a method called by keywords alone -/
def tMethK (C : Addr) (m : Str) (n : Nat) (sp : Sp) (gV : List V → List V → List V) (E : XK) (ta : TE) (tk : TA) : TE := fun σ H Q => ta σ H fun x H1 => ∃ a dx fs, x = .ref a ∧ H1 a = some (.ins C dx fs) ∧ fs.lookup m = none ∧ tk σ H1 fun zs H2 => zs.length = n ∧ sp (gV [.ref a] zs) H2 Q E
section
variable {X : Cx} {CX : CXT} {k : Nat} {f C : Addr} {fd : FuncData} {ps ks : List Str} {sp : Sp} {E : XK} {m : Str} {pos apos : Pos} {o : Expr} {kws : List Keyword} {ta : TE} {tk : TA} {g : List Value → List Value → List Value} {gV : List V → List V → List V}
theorem run_fnKn {pins : List (Addr × Obj)} {σ : L2.St} {H : Hp} {s : Shared} {Q : VK} {us ws : List Value} {vs zs : List V} {n : Nat} (F : FnOk X.prog X.w X.K X.mg X.base CX k f fd ps sp) (hr : Room k X.A) (hb : KBn X.K fd ps n ks g gV) (hx : Passes CX X E)
    (I : Inv X pins σ H s) (r : Vals vs us) (rz : Vals zs ws) (l1 : vs.length = n) (l2 : zs.length = ks.length) (h : sp (gV vs zs) H Q E) : wpAny (model X.prog X.w) X.A (call (.ref f) us (ks.zip ws)) (EP X pins σ Q) X.xe s := by
  have r2 := hb.rel r rz
  refine wpAny_call (codeAny_mono (F.run X.A X.stack s H ⟨us, ks.zip ws⟩ (g us ws) (gV vs zs) Q E hr I.env0 (hb.to s us ws I.kIn (r.length.symm.trans l1) (rz.length.symm.trans l2)) r2 h) fun r s' hq => ?_)
  cases r with
  | error e => exact hx pins σ H s e s' I hq
  | ok fl =>
    cases fl with
    | ret u => exact I.after hq
    | next => exact False.elim hq
    | brk => exact False.elim hq
    | cont => exact False.elim hq
theorem pe_methK {pl : Sem Bool} (he : PE X o ta) (c : Cls X.K C) (hm : Meth X.K C m f) (F : FnOk X.prog X.w X.K X.mg X.base CX k f fd ps sp) (hr : Room k X.A) (hb : KBn X.K fd ps 1 ks g gV) (hx : Passes CX X E) (hkw : PK X kws tk)
    (hall : (backToKw pos (keywordEach kws X.env)).all (·.1.isSome) = true := by rfl) (hks : (backToKw pos (keywordEach kws X.env)).filterMap (·.1) = ks := by rfl)
    (hpl : ((backTo pos (starEach [] X.env)).any (·.1) || (backToKw pos (keywordEach kws X.env)).any (·.1.isNone)) = false := by rfl)
    (ht : eval (.Call (.Attribute o m apos) [] kws pos) X.env = (do
      let ov ← eval o X.env
      standAt apos.atName
      let (f, first) ← holding [ov] (getMethod ov m pl)
      callWith pos f first (backTo pos (starEach [] X.env)) (backToKw pos (keywordEach kws X.env))) := by rfl) :
    PE X (.Call (.Attribute o m apos) [] kws pos) (tMethK C m ks.length sp gV E ta tk) := by
  refine ⟨fun pins s σ H Q I h => ?_⟩
  refine PySem.W.methodCall_KW (pl := pl) (thn (he.run pins s σ H _ I h) fun u s1 ⟨x, H1, I1, rx, a, dx, fs, ex, ea, l, q⟩ => ?_) ht
  subst ex
  obtain rfl : u = Value.ref a := rx
  refine getmeth_ok I1 ea c hm l ?_
  refine PySem.W.callWith_KW0 (first := [.ref a]) (h₀ := X.base) I.ok.mod.kin hm.kp hall ?_ hpl
  refine thn (hkw.run pos pins s1 σ H1 _ I1 q) fun ws s2 ⟨zs, H2, I2, rz, l2, q2⟩ => ⟨I2.kIn, ?_⟩
  rw [hks]
  exact run_fnKn (us := [.ref a]) (vs := [.ref a]) F hr hb hx I2 (.cons rfl .nil) rz rfl l2 q2
end
end Kx
namespace Kx
open PySem PySem.Spec PyProof.Rows L2
def top (i : Nat) : Stmt := PySem.Challenge.pw_cellsenough_k01_whole_histories_of_frame.main.body.getD i (.Pass ⟨0, 0, 0, 0⟩)
abbrev s_wall : Stmt := top 0
abbrev s_copied : Stmt := top 2
abbrev s_UnknownName_init : Stmt := inClass (top 6) 0
abbrev s_is_name : Stmt := top 12
abbrev s_are_names : Stmt := top 13
abbrev s_is_array : Stmt := top 14
abbrev s_are_arrays : Stmt := top 15
abbrev s_kinds_of : Stmt := top 16
abbrev s_with_blanks : Stmt := top 17
abbrev s_Frame_init : Stmt := inClass (top 18) 0
abbrev s_Frame_arrays : Stmt := inClass (top 18) 1
abbrev s_Frame_positions : Stmt := inClass (top 18) 2
abbrev s_Frame_amounts : Stmt := inClass (top 18) 3
abbrev s_Frame_lengths : Stmt := inClass (top 18) 4
abbrev s_Frame_length_of : Stmt := inClass (top 18) 5
abbrev s_Frame_kind_of : Stmt := inClass (top 18) 6
abbrev s_Frame_is_fresh : Stmt := inClass (top 18) 7
abbrev s_Frame_is_position_term : Stmt := inClass (top 18) 8
abbrev s_Frame_is_value_term : Stmt := inClass (top 18) 9
abbrev s_Frame_shifted : Stmt := inClass (top 18) 10
abbrev s_Frame_with_names : Stmt := inClass (top 18) 11
abbrev s_Frame_renamed : Stmt := inClass (top 18) 12
abbrev s_Frame_has_place : Stmt := inClass (top 18) 13
abbrev s_Frame_has_amount : Stmt := inClass (top 18) 14
abbrev s_Frame_is_of_kind : Stmt := inClass (top 18) 15
abbrev s_Frame_contains : Stmt := inClass (top 18) 16
abbrev s_Frame_len : Stmt := inClass (top 18) 17
abbrev s_Frame_eq : Stmt := inClass (top 18) 18
abbrev s_Frame_str : Stmt := inClass (top 18) 19
abbrev s_law_filled : Stmt := top 20
abbrev s_law_dip : Stmt := top 21
abbrev s_law_choose : Stmt := top 22
abbrev s_law_shuffled : Stmt := top 23
abbrev s_law_name : Stmt := top 24
abbrev s_law_names : Stmt := top 25
abbrev s_law_parts : Stmt := top 26
abbrev s_law_lengths : Stmt := top 27
abbrev s_law_all_names : Stmt := top 28
abbrev s_law_is_let : Stmt := top 29
abbrev s_law_is_told : Stmt := top 30
abbrev s_law_more : Stmt := top 31
abbrev s_law_turned : Stmt := top 32
abbrev s_law_right : Stmt := top 33
abbrev s_law : Stmt := top 34
/-- a def of the top stands under its name -/
def Has (K : PySem.W.Frag) (mg : Str → Option Value) (x : Str) (st : Stmt) : Prop := ∃ f fd, FunD K x x (defArgs st) (defBody st) (defScope st) [] [] f fd ∧ mg x = some (.ref f)
/-- it keeps a promise -/
structure Cal (P : Program) (w : World) (K : PySem.W.Frag) (mg : Str → Option Value) (base : Heap) (CX : CXT) (k : Nat) (x : Str) (ps : List Str) (sp : Sp) (f : Addr) (fd : FuncData) : Prop where
  ok : FnOk P w K mg base CX k f fd ps sp
  g : mg x = some (.ref f)
  kp : PySem.W.keepIn K (.ref f) = true
  b : Binds K fd ps []
abbrev Ca (P : Program) (w : World) (K : PySem.W.Frag) (mg : Str → Option Value) (base : Heap) (k : Nat) (x : Str) (ps : List Str) (sp : Sp) : Prop := ∃ f fd, FnOk P w K mg base CX0 k f fd ps sp ∧ mg x = some (.ref f) ∧ PySem.W.keepIn K (.ref f) = true ∧ Binds K fd ps []
section
variable {P : Program} {w : World} {K : PySem.W.Frag} {mg : Str → Option Value} {base : Heap}
theorem cal_of {x : Str} {st : Stmt} {N ps : List Str} {k : Nat} {sp : Sp} (h : Has K mg x st) (S : FnScope N ps (defScope st))
    (bd : ∀ (kV doc pm : Value) (an : Option Addr) (cdv ct : Value) (us : List Value), us.length = ps.length → bindArgs (PySem.W.fnOf x x (defArgs st) (defBody st) (defScope st) .none kV doc pm an cdv ct) ⟨us, []⟩ = pure (ps.zip us))
    (len : ∀ vs H Q E, sp vs H Q E → vs.length = ps.length)
    (body : ∀ (f : Addr) (cdv : Value) (A : Around) (outer : List Env) (s : Shared) (H : Hp) (vs : List V) (Q : VK) (E : XK), Room k (A.deeper (envOfC x (defScope st) s.heap.objs.size f cdv)) → sp vs H Q E →
      ∃ t, PSs (cxOf CX0 P w K mg base N x (defScope st) f cdv A outer s H E).nox (defBody st) t ∧ t { nx := fun _ H' => Q .non H', rt := Q } (start N vs) H) : Ca P w K mg base (k + 1) x ps sp := by
  obtain ⟨f, fd, F, g⟩ := h
  exact ⟨f, fd, F.ok S len (fun cdv A outer s H vs Q E hr h => let ⟨t, ht, q⟩ := body f cdv A outer s H vs Q E hr h; ⟨t, PSs.nox ht, q⟩), g, F.kp, F.bindsN bd⟩
/-- the built-ins are still there -/
structure Bt (mg : Str → Option Value) : Prop where
  abs : mg "abs" = none
  all : mg "all" = none
  dict : mg "dict" = none
  enumerate : mg "enumerate" = none
  int : mg "int" = none
  isinstance : mg "isinstance" = none
  len : mg "len" = none
  list : mg "list" = none
  max : mg "max" = none
  min : mg "min" = none
  range : mg "range" = none
  repr : mg "repr" = none
  set : mg "set" = none
  str : mg "str" = none
  sum : mg "sum" = none
  tuple : mg "tuple" = none
/-! ### the purse of draws -/
def PotAt (H : Hp) (p : Addr) (n : Nat) : Prop := ∃ a b c : Int, H p = some (.lst [.int a, .int b, .int c]) ∧ 0 ≤ a ∧ 0 ≤ b ∧ b < 2 ^ 61 ∧ 0 ≤ c ∧ c ≤ n
abbrev KpP (p : Addr) (H H' : Hp) : Prop := Kp (fun a => a = p) H H'
theorem PotAt.mono {H : Hp} {p : Addr} {n m : Nat} (h : PotAt H p n) (k : n ≤ m) : PotAt H p m := by
  obtain ⟨a, b, c, e, h1, h2, h3, h4, h5⟩ := h
  exact ⟨a, b, c, e, h1, h2, h3, h4, by omega⟩
theorem PotAt.same {H H' : Hp} {p : Addr} {n : Nat} (h : PotAt H p n) (k : Same H H') : PotAt H' p n := by
  obtain ⟨a, b, c, e, r⟩ := h
  exact ⟨a, b, c, k _ _ e, r⟩
abbrev N_law_filled : List Str := ["script", "at", "cell", "whole", "mixed"]
abbrev P_law_filled : List Str := ["script", "at"]
theorem sc_law_filled : FnScope N_law_filled P_law_filled (defScope s_law_filled) := ⟨rfl, rfl, rfl, by decide +kernel, rfl, by decide +kernel, by decide +kernel⟩
def spFilled (K : PySem.W.Frag) : Sp := fun vs H Q _ => ∃ (a : Addr) (ns : List Int) (i : Int), vs = [.ref a, .int i] ∧ SqL K H a (ns.map V.int) ∧ ns.length ≤ 63 ∧ 0 ≤ i ∧ i ≤ 100 ∧ ∀ (p : Addr) (H' : Hp), H p = none → Same H H' → PotAt H' p 0 → Q (.ref p) H'
theorem natAbs_pow {i : Int} {n : Nat} (h : 0 ≤ i) (h2 : i < 2 ^ n) : i.natAbs < 2 ^ n := by
  have : ((i.natAbs : Nat) : Int) < ((2 ^ n : Nat) : Int) := by
    rw [Int.natAbs_of_nonneg h]
    simpa using h2
  exact_mod_cast this
theorem modN_range (i : Int) {n : Int} (h : 0 < n) : 0 ≤ i.fmod n ∧ i.fmod n < n := by
  rw [Int.fmod_eq_emod_of_nonneg i (by omega)]
  exact ⟨Int.emod_nonneg _ (by omega), Int.emod_lt_of_pos _ h⟩
theorem pow60 : V.int (10 ^ (Int.toNat 60)) = V.int (10 ^ 60) := rfl
theorem ne0 {j : Int} (h : decide (j = 0) = false) : j ≠ 0 := of_decide_eq_false h
theorem ok_filled (T : Bt mg) (h : Has K mg "_law_filled" s_law_filled) : Ca P w K mg base 1 "_law_filled" P_law_filled (spFilled K) := by
  refine cal_of h sc_law_filled (fun _ _ _ _ _ _ us hl => match us, hl with | [_, _], _ => rfl) (fun vs H Q E h => ?_) (fun f cdv A outer s H vs Q E hr h => ?_)
  · obtain ⟨a, ns, i, rfl, _⟩ := h
    rfl
  · obtain ⟨a, ns, i, rfl, hS, hl, h0, h1, k⟩ := h
    refine ⟨_, (pss_cons (ps_set (i := 2) sc_law_filled.nd rfl (.inl rfl) (pe_ifExp (pt_cmpR op_lt (pv 1) (pe_callB call_len (by rfl) T.len (by decide +kernel) (pa_cons (pv 0) pa_nil)) (nomark _)) (pe_ix ix_list (pv 0) (pv 1) (fun _ _ => rfl)) (pe_op op_add (pe_op op_mul pe_int (pv 1)) pe_int)))
      (pss_cons (ps_set (i := 3) sc_law_filled.nd rfl (.inl rfl) (pe_op op_modN (pe_callTy call_int1 (by rfl) T.int (by decide +kernel) (pa_cons (pe_callB call_abs (by rfl) T.abs (by decide +kernel) (pa_cons (pv 2) pa_nil)) pa_nil)) (pe_op op_powBig (pe_op op_pow pe_int pe_int) pe_int)))
      (pss_cons (ps_set (i := 4) sc_law_filled.nd rfl (.inl rfl) (pe_op op_modN (pe_callTy call_int1 (by rfl) T.int (by decide +kernel) (pa_cons (pe_op op_add (pe_op op_add (pe_op op_add (pv 3) (pe_op op_mul pe_int (pv 1))) (pe_op op_mul pe_int (pe_callTy call_int1 (by rfl) T.int (by decide +kernel) (pa_cons (pe_cmpR op_lt (pv 2) pe_int (nomark _)) pa_nil)))) pe_int) pa_nil)) pe_int))
      (pss_one (ps_ret (pe_lst (pa_cons (pe_callB (call_max2 rfl) (by rfl) T.max (by decide +kernel) (pa_cons pe_int (pa_cons (pe_op op_sub (pv 3) (pe_op op_pow pe_int pe_int)) pa_nil))) (pa_cons (pv 4) (pa_cons pe_int pa_nil))))))))), ?_⟩
    refine ⟨_, rfl, _, rfl, _, _, rfl, .inl ⟨_, hS, rfl⟩, _, _, rfl, rfl, _, rfl, ite2 (fun hlt => ?ga) (fun hge => ?gb)⟩
    case' ga =>
      have hlt' : i < ((ns.map V.int).length : Int) := of_decide_eq_true hlt
      rw [List.length_map] at hlt'
      obtain ⟨j, rfl⟩ : ∃ j : Nat, i = j := ⟨i.toNat, by omega⟩
      have hj : j < ns.length := by omega
      have hat : (ns.map V.int)[j]? = some (.int ns[j]) := by rw [List.getElem?_map, List.getElem?_eq_getElem hj]; rfl
      refine ⟨_, rfl, _, rfl, a, _, _, _, rfl, rfl, hS, atI_nat hat, ?_⟩
    case' gb => refine ⟨_, rfl, _, _, rfl, rfl, .inl ⟨by decide, by decide⟩, _, _, rfl, rfl, ?_⟩
    all_goals
      refine ⟨_, rfl, _, rfl, .inl ⟨_, rfl, _, _, rfl, rfl, ⟨by decide, by decide, by decide⟩, pow60, rfl, _, _, rfl, rfl, ne0 (by decide +kernel), ?_⟩⟩
      refine ⟨_, rfl, _, rfl, _, _, rfl, rfl, .inl ⟨by decide, by decide⟩, _, _, rfl, rfl, _, rfl, _, _, rfl, rfl, .inr ⟨_, rfl, _, _, rfl, rfl, .inl ⟨by decide, by decide⟩, _, _, rfl, rfl, _, _, rfl, rfl, .inl ⟨_, rfl, _, _, rfl, rfl, ne0 (by decide), ?_⟩⟩⟩
      refine ⟨_, rfl, _, _, rfl, rfl, ⟨by decide, by decide, by decide⟩, _, _, rfl, rfl, _, _, rfl, _, rfl, by show 3 ≤ sizeLine; decide, fun p hp => ?_⟩
      exact k p _ hp (Same.upd hp) ⟨_, _, 0, upd_same, (by split <;> omega), (modN_range _ (by decide)).1, Int.lt_trans (modN_range _ (by decide)).2 (by decide), by omega, by omega⟩
abbrev N_law_dip : List Str := ["pot", "total", "found", "one", "two"]
abbrev P_law_dip : List Str := ["pot", "total"]
theorem sc_law_dip : FnScope N_law_dip P_law_dip (defScope s_law_dip) := ⟨rfl, rfl, rfl, by decide +kernel, rfl, by decide +kernel, by decide +kernel⟩
def spDip : Sp := fun vs H Q _ => ∃ (p : Addr) (n : Nat) (t : Int), vs = [.ref p, .int t] ∧ PotAt H p n ∧ n ≤ 1000000 ∧ 1 ≤ t ∧ t ≤ 1000000 ∧
  ∀ (d : Int) (H' : Hp), 0 ≤ d → d < t → PotAt H' p (n + 1) → KpP p H H' → Q (.int d) H'
theorem ok_dip (T : Bt mg) (h : Has K mg "_law_dip" s_law_dip) : Ca P w K mg base 1 "_law_dip" P_law_dip spDip := by
  refine cal_of h sc_law_dip (fun _ _ _ _ _ _ us hl => match us, hl with | [_, _], _ => rfl) (fun vs H Q E h => ?_) (fun f cdv A outer s H vs Q E hr h => ?_)
  · obtain ⟨p, n, t, rfl, _⟩ := h
    rfl
  · obtain ⟨p, n, t, rfl, ⟨a, b, c, hp, ha, hb, hb2, hc, hc2⟩, hn, ht, ht2, k⟩ := h
    refine ⟨_, (pss_cons (ps_if (pt_cmpR op_gt (pe_ix ix_list (pv 0) pe_int (fun _ _ => rfl)) pe_int (nomark _)) (pss_cons (ps_set (i := 2) sc_law_dip.nd rfl (.inl rfl) (pe_op op_modN (pe_callTy call_int1 (by rfl) T.int (by decide +kernel) (pa_cons (pe_ix ix_list (pv 0) pe_int (fun _ _ => rfl)) pa_nil)) (pv 1)))
        (pss_cons (ps_asg (pe_op op_fdivN (pe_ix ix_list (pv 0) pe_int (fun _ _ => rfl)) (pv 1)) (pg_sub (pv 0) pe_int set_list))
        (pss_one (ps_ret (pv 2))))) pss_nil)
      (pss_cons (ps_asg (pe_op op_add (pe_ix ix_list (pv 0) pe_int (fun _ _ => rfl)) pe_int) (pg_sub (pv 0) pe_int set_list))
      (pss_cons (ps_set (i := 3) sc_law_dip.nd rfl (.inl rfl) (pe_op op_modN (pe_callTy call_int1 (by rfl) T.int (by decide +kernel) (pa_cons (pe_op op_add (pe_op op_mul (pe_ix ix_list (pv 0) pe_int (fun _ _ => rfl)) pe_int) (pe_op op_mul (pe_ix ix_list (pv 0) pe_int (fun _ _ => rfl)) pe_int)) pa_nil)) pe_int))
      (pss_cons (ps_set (i := 4) sc_law_dip.nd rfl (.inl rfl) (pe_op op_modN (pe_callTy call_int1 (by rfl) T.int (by decide +kernel) (pa_cons (pe_op op_add (pe_op op_mul (pv 3) (pv 3)) (pe_op op_mul pe_int (pe_ix ix_list (pv 0) pe_int (fun _ _ => rfl)))) pa_nil)) pe_int))
      (pss_one (ps_ret (pe_op op_modN (pe_callTy call_int1 (by rfl) T.int (by decide +kernel) (pa_cons (pe_op op_fdivN (pe_op op_modN (pe_callTy call_int1 (by rfl) T.int (by decide +kernel) (pa_cons (pe_op op_add (pe_op op_mul (pv 4) pe_int) (pv 3)) pa_nil)) pe_int) pe_int) pa_nil)) (pv 1)))))))), ?_⟩
    refine ⟨_, rfl, p, _, _, _, rfl, rfl, SqL.of hp, rfl, _, _, rfl, rfl, _, rfl, ?_⟩
    refine ite2 (fun hpos => ?_) (fun hneg => ?_)
    · have hpos' : 0 < a := of_decide_eq_true hpos
      refine ⟨_, rfl, p, _, _, _, rfl, rfl, SqL.of hp, rfl, .inl ⟨_, rfl, _, rfl, _, _, rfl, rfl, (by omega), ?_⟩⟩
      refine ⟨_, rfl, p, _, _, _, rfl, rfl, SqL.of hp, rfl, _, rfl, _, _, rfl, rfl, ⟨by omega, by omega⟩, _, rfl, p, _, _, 0, rfl, rfl, hp, rfl, ?_⟩
      refine ⟨_, rfl, ?_⟩
      have hd : 0 ≤ a.fmod t ∧ a.fmod t < t := by
        rw [Int.fmod_eq_emod_of_nonneg a (by omega)]
        exact ⟨Int.emod_nonneg _ (by omega), Int.emod_lt_of_pos _ (by omega)⟩
      refine k _ _ hd.1 hd.2 ⟨a.fdiv t, b, c, upd_same, ?_, hb, hb2, hc, by omega⟩ (Kp.at rfl hp)
      rw [Int.fdiv_eq_ediv_of_nonneg a (by omega)]
      exact Int.ediv_nonneg ha (by omega)
    · refine ⟨_, rfl, p, _, _, _, rfl, rfl, SqL.of hp, rfl, _, _, rfl, rfl, _, rfl, p, _, _, 2, rfl, rfl, hp, rfl, ?_⟩
      have hp2 : upd H p (HO.lst [V.int a, V.int b, V.int (c + 1)]) p = some (.lst [.int a, .int b, .int (c + 1)]) := upd_same
      refine ⟨_, rfl, p, _, _, _, rfl, rfl, SqL.of hp2, rfl, _, _, rfl, rfl, .inl ⟨by omega, by omega⟩, _, rfl, p, _, _, _, rfl, rfl, SqL.of hp2, rfl, _, _, rfl, rfl, .inl ⟨by omega, by omega⟩, _, _, rfl, rfl, .inl ⟨_, rfl, _, _, rfl, rfl, ne0 (by decide), ?_⟩⟩
      have m1 := modN_range (b * 3935559000370003845 + (c + 1) * 2691343689449507681) (n := 2305843009213693951) (by decide)
      refine ⟨_, rfl, _, rfl, _, _, rfl, rfl, .inl ⟨by omega, by omega⟩, _, rfl, p, _, _, _, rfl, rfl, SqL.of hp2, rfl, _, _, rfl, rfl, .inl ⟨by decide, by decide⟩, _, _, rfl, rfl, .inl ⟨_, rfl, _, _, rfl, rfl, ne0 (by decide), ?_⟩⟩
      have m2 := modN_range ((b * 3935559000370003845 + (c + 1) * 2691343689449507681).fmod 2305843009213693951 * (b * 3935559000370003845 + (c + 1) * 2691343689449507681).fmod 2305843009213693951 + 40503 * (c + 1)) (n := 1152921504606846883) (by decide)
      refine ⟨_, rfl, _, _, rfl, rfl, .inl ⟨by omega, by omega⟩, _, rfl, _, _, rfl, rfl, .inl ⟨_, rfl, _, _, rfl, rfl, ne0 (by decide), _, _, rfl, rfl, ⟨by decide, by decide⟩, .inl ⟨_, rfl, _, rfl, _, _, rfl, rfl, (by omega), ?_⟩⟩⟩
      exact k _ _ (modN_range _ (by omega)).1 (modN_range _ (by omega)).2 ⟨a, b, c + 1, upd_same, ha, hb, hb2, by omega, by omega⟩ (Kp.at rfl hp)
end
end Kx
namespace Kx
open PySem PySem.Spec PyProof.Rows L2
section
variable {P : Program} {w : World} {K : PySem.W.Frag} {mg : Str → Option Value} {base : Heap}
theorem yes {σ : L2.St} {H : Hp} {A B : Hp → Prop} (h : A H) : tYes σ H (fun b H3 => if b = true then A H3 else B H3) := by
  show if true = true then A H else B H
  rw [if_pos rfl]
  exact h
/-- x can be chosen from: a list, a tuple, a text -/
def Pick (H : Hp) (p : Addr) (x : V) (xs : List V) : Prop :=
  (∃ a, x = .ref a ∧ a ≠ p ∧ H a = some (.lst xs)) ∨ (∃ a, x = .ref a ∧ a ≠ p ∧ TupF H a xs) ∨ ∃ z : Str, x = .str z ∧ z.length ≤ 1000 ∧ xs = signsV z
abbrev N_law_choose : List Str := ["pot", "items"]
abbrev P_law_choose : List Str := ["pot", "items"]
theorem sc_law_choose : FnScope N_law_choose P_law_choose (defScope s_law_choose) := ⟨rfl, rfl, rfl, by decide +kernel, rfl, by decide +kernel, by decide +kernel⟩
def spChoose : Sp := fun vs H Q _ => ∃ (p : Addr) (n : Nat) (x : V) (xs : List V), vs = [.ref p, x] ∧ PotAt H p n ∧ n ≤ 1000000 ∧ Pick H p x xs ∧ 1 ≤ xs.length ∧ xs.length ≤ 1000 ∧
  ∀ (i : Nat) (v : V) (H' : Hp), xs[i]? = some v → PotAt H' p (n + 1) → KpP p H H' → Q v H'
theorem ok_choose (T : Bt mg) (h : Has K mg "_law_choose" s_law_choose) (C1 : Ca P w K mg base 1 "_law_dip" P_law_dip spDip) : Ca P w K mg base 2 "_law_choose" P_law_choose spChoose := by
  obtain ⟨_, _, c__law_dip⟩ := C1
  refine cal_of h sc_law_choose (fun _ _ _ _ _ _ us hl => match us, hl with | [_, _], _ => rfl) (fun vs H Q E h => ?_) (fun f cdv A outer s H vs Q E hr h => ?_)
  · obtain ⟨p, n, x, xs, rfl, _⟩ := h
    rfl
  · obtain ⟨p, n, x, xs, rfl, hp, hn, hx, h1, h2, k⟩ := h
    refine ⟨_, (pss_one (ps_ret (pe_ix ix_seq (pv 1) (pe_call c__law_dip.1 (hr.mono (by decide)) rfl c__law_dip.2.1 c__law_dip.2.2.1 c__law_dip.2.2.2 .nil pass0 (pa_cons (pv 0) (pa_cons (pe_callB call_len (by rfl) T.len (by decide +kernel) (pa_cons (pv 1) pa_nil)) pa_nil))) (fun _ _ => rfl)))), ?_⟩
    have room : ∀ m : Nat, m ≤ 1000 → m ≤ sizeLine := fun m hm => by rw [sizeLine_eq]; omega
    have after : ∀ (d : Int) (H' : Hp), 0 ≤ d → d < (xs.length : Int) → PotAt H' p (n + 1) → KpP p H H' → ∃ i v, d = ((i : Nat) : Int) ∧ xs[i]? = some v ∧ Q v H' := fun d H' h0 hd hp' hk => by
      have hi : d.toNat < xs.length := by omega
      exact ⟨d.toNat, _, by omega, List.getElem?_eq_getElem hi, k d.toNat _ H' (List.getElem?_eq_getElem hi) hp' hk⟩
    rcases hx with ⟨a, rfl, hne, ha⟩ | ⟨a, rfl, hne, ha⟩ | ⟨z, rfl, hz, rfl⟩
    · refine ⟨_, rfl, _, rfl, _, rfl, _, _, rfl, .inl ⟨_, SqL.of ha, rfl⟩, p, n, _, rfl, hp, hn, by omega, by omega, fun d H' h0 hd hp' hk => ?_⟩
      obtain ⟨i, v, rfl, hv, q⟩ := after d H' h0 hd hp' hk
      exact .inl ⟨a, _, _, _, rfl, rfl, SqL.of (hk.get ha hne), atI_nat hv, q⟩
    · refine ⟨_, rfl, _, rfl, _, rfl, _, _, rfl, .inr ⟨_, ha.sq, rfl⟩, p, n, _, rfl, hp, hn, by omega, by omega, fun d H' h0 hd hp' hk => ?_⟩
      obtain ⟨i, v, rfl, hv, q⟩ := after d H' h0 hd hp' hk
      obtain ⟨o, od, e⟩ := ha
      exact .inr (.inl ⟨a, _, _, _, rfl, rfl, (hk.tup ⟨o, od, e⟩).sq, atI_nat hv, q⟩)
    · have el : (signsV z).length = z.length := by unfold signsV; rw [List.length_map, Array.length_toList]; rfl
      refine ⟨_, rfl, _, rfl, _, rfl, _, _, rfl, ⟨room _ hz, rfl⟩, p, n, _, rfl, hp, hn, by omega, by omega, fun d H' h0 hd hp' hk => ?_⟩
      obtain ⟨i, v, rfl, hv, q⟩ := after d H' h0 (by omega) hp' hk
      unfold signsV at hv
      rw [List.getElem?_map] at hv
      cases e : z.cps.toList[i]? with
      | none => rw [e] at hv; cases hv
      | some c =>
        rw [e] at hv
        cases hv
        exact .inr (.inr ⟨z, _, c, rfl, rfl, room _ hz, atI_nat e, q⟩)
/-! ### names -/
def NameS (z : Str) : Prop := 1 ≤ z.length ∧ z.length ≤ 8 ∧ ∀ c ∈ z.cps.toList, 97 ≤ c ∧ c ≤ 122
instance (z : Str) : Decidable (NameS z) := inferInstanceAs (Decidable (_ ∧ _ ∧ _))
theorem TL.joinL_nil : ∀ ps : List (List Nat), TL.joinL [] ps = ps.flatten
  | [] => rfl
  | [p] => by simp [TL.joinL]
  | p :: q :: r => by
    show p ++ ([] ++ TL.joinL [] (q :: r)) = _
    rw [TL.joinL_nil (q :: r)]
    simp
theorem join0 (ys : List Str) : (Txt.join Str.empty ys).cps.toList = (ys.map fun y => y.cps.toList).flatten := by
  rw [TL.join_eq]
  have := TL.tl_join Str.empty ys
  rw [show TL.tl Str.empty = [] from rfl, TL.joinL_nil] at this
  exact this
theorem nameS_join {ys : List Str} (h1 : 1 ≤ ys.length) (h2 : ys.length ≤ 8) (h : ∀ y ∈ ys, ∃ c, y = ⟨#[c]⟩ ∧ 97 ≤ c ∧ c ≤ 122) : NameS (Txt.join Str.empty ys) := by
  have e := join0 ys
  have len : (Txt.join Str.empty ys).length = ys.length := by
    have : (Txt.join Str.empty ys).length = (Txt.join Str.empty ys).cps.toList.length := by rw [Array.length_toList]; rfl
    rw [this, e]
    clear e this h1 h2
    induction ys with
    | nil => rfl
    | cons y r ih =>
      obtain ⟨c, rfl, _⟩ := h y List.mem_cons_self
      rw [List.map_cons, List.flatten_cons, List.length_append, ih fun z hz => h z (List.mem_cons_of_mem _ hz)]
      simp; omega
  refine ⟨by omega, by omega, fun c hc => ?_⟩
  rw [e] at hc
  obtain ⟨l, hl, hcl⟩ := List.mem_flatten.mp hc
  obtain ⟨y, hy, rfl⟩ := List.mem_map.mp hl
  obtain ⟨d, rfl, hd⟩ := h y hy
  have : c = d := by simpa using hcl
  rw [this]; exact hd
def LetV (v : V) : Prop := ∃ z : Str, v = .str z ∧ (1 ≤ z.length ∧ z.length ≤ 26 ∧ ∀ c ∈ z.cps.toList, 97 ≤ c ∧ c ≤ 122)
theorem PotAt.ne {H : Hp} {p l : Addr} {n : Nat} (h : PotAt H p n) (hl : H l = none) : l ≠ p := by
  obtain ⟨a, b, c, e, _⟩ := h
  exact (ne_of_none e hl).symm
abbrev N_law_name : List Str := ["pot", "letters", "word", "turn"]
abbrev P_law_name : List Str := ["pot"]
theorem sc_law_name : FnScope N_law_name P_law_name (defScope s_law_name) := ⟨rfl, rfl, rfl, by decide +kernel, rfl, by decide +kernel, by decide +kernel⟩
def spName : Sp := fun vs H Q _ => ∃ (p : Addr) (n : Nat), vs = [.ref p] ∧ PotAt H p n ∧ n ≤ 900000 ∧ ∀ (z : Str) (H' : Hp), NameS z → PotAt H' p (n + 12) → KpP p H H' → Q (.str z) H'
theorem ok_name (T : Bt mg) (h : Has K mg "_law_name" s_law_name) (C1 : Ca P w K mg base 1 "_law_dip" P_law_dip spDip) (C2 : Ca P w K mg base 2 "_law_choose" P_law_choose spChoose) : Ca P w K mg base 3 "_law_name" P_law_name spName := by
  obtain ⟨_, _, c__law_dip⟩ := C1
  obtain ⟨_, _, c__law_choose⟩ := C2
  refine cal_of h sc_law_name (fun _ _ _ _ _ _ us hl => match us, hl with | [_], _ => rfl) (fun vs H Q E h => ?_) (fun f cdv A outer s H vs Q E hr h => ?_)
  · obtain ⟨p, n, rfl, _⟩ := h
    rfl
  · obtain ⟨p, n, rfl, hp, hn, k⟩ := h
    refine ⟨_, (pss_cons (ps_set (i := 1) sc_law_name.nd rfl (.inr rfl) (pe_call c__law_choose.1 (hr.mono (by decide)) rfl c__law_choose.2.1 c__law_choose.2.2.1 c__law_choose.2.2.2 .nil pass0 (pa_cons (pv 0) (pa_cons (pe_lst (pa_cons pe_str (pa_cons pe_str (pa_cons pe_str (pa_cons pe_str pa_nil))))) pa_nil))))
      (pss_cons (ps_set (i := 2) sc_law_name.nd rfl (.inl rfl) (pe_join pe_str (pe_lc (own := [("turn", 3)]) (g := (gName 3)) (tt := tYes) (by rfl) sc_law_name.nd (pi_range1 rfl T.range (pa_cons (pe_op op_add pe_int (pe_call c__law_dip.1 (hr.mono (by decide)) rfl c__law_dip.2.1 c__law_dip.2.2.1 c__law_dip.2.2.2 .nil pass0 (pa_cons (pv 0) (pa_cons (pe_call c__law_choose.1 (hr.mono (by decide)) rfl c__law_choose.2.1 c__law_choose.2.2.1 c__law_choose.2.2.2 .nil pass0 (pa_cons (pv 0) (pa_cons (pe_lst (pa_cons pe_int (pa_cons pe_int (pa_cons pe_int pa_nil)))) pa_nil))) pa_nil)))) pa_nil)) (blkOk_by (own := [("turn", 3)]) (N := ["pot", "letters", "word", "turn"]) (sc := defScope s_law_name) (by decide +kernel)) (fun _ _ _ _ _ => pg_name (i := 3) sc_law_name.nd rfl (Or.inl rfl)) (fun _ _ _ _ _ => pts_nil) (fun _ _ _ _ _ => (pe_call c__law_choose.1 (hr.mono (by decide)) rfl c__law_choose.2.1 c__law_choose.2.2.1 c__law_choose.2.2.2 .nil pass0 (pa_cons (pv 0) (pa_cons (pv 1) pa_nil)))))))
      (pss_one (ps_ret (pe_call c__law_choose.1 (hr.mono (by decide)) rfl c__law_choose.2.1 c__law_choose.2.2.1 c__law_choose.2.2.2 .nil pass0 (pa_cons (pv 0) (pa_cons (pe_lst (pa_cons (pv 2) (pa_cons (pv 2) (pa_cons (pv 2) (pa_cons (pv 2) (pa_cons pe_str (pa_cons pe_str (pa_cons pe_str (pa_cons pe_str (pa_cons pe_str (pa_cons pe_str (pa_cons pe_str (pa_cons pe_str pa_nil))))))))))))) pa_nil))))))), ?_⟩
    -- letters
    refine ⟨_, rfl, by show 4 ≤ sizeLine; decide, fun l hl => ⟨p, n, _, _, rfl, hp.same (Same.upd hl), by omega, .inl ⟨l, rfl, hp.ne hl, upd_same⟩, by decide, by decide, fun i v H1 hv hp1 hk1 => ?_⟩⟩
    have hk1 : KpP p H H1 := (Kp.new hl).trans hk1
    have lv : LetV v := by
      have all : ∀ v ∈ ([.str "ijk", .str "abcdefghijklmnopqrstuvwxyz", .str "an", .str "k"] : List V), LetV v := (by repeat (first | exact List.forall_mem_nil _ | refine List.forall_mem_cons.mpr ⟨⟨_, rfl, by decide +kernel⟩, ?_⟩))
      exact all v (List.mem_of_getElem? hv)
    obtain ⟨z, rfl, hz⟩ := lv
    clear hv
    -- how many
    refine ⟨⟨_, rfl⟩, _, rfl, _, rfl, by show 3 ≤ sizeLine; decide, fun l2 hl2 => ⟨p, n + 1, _, _, rfl, hp1.same (Same.upd hl2), by omega, .inl ⟨l2, rfl, hp1.ne hl2, upd_same⟩, by decide, by decide, fun i v H2 hv hp2 hk2 => ?_⟩⟩
    have hk2 : KpP p H H2 := hk1.trans ((Kp.new hl2).trans hk2)
    obtain ⟨m, rfl, hm1, hm2⟩ : ∃ m : Int, v = .int m ∧ 1 ≤ m ∧ m ≤ 8 := by
      have all : ∀ v ∈ ([.int 1, .int 2, .int 8] : List V), ∃ m : Int, v = .int m ∧ 1 ≤ m ∧ m ≤ 8 := (by repeat (first | exact List.forall_mem_nil _ | refine List.forall_mem_cons.mpr ⟨⟨_, rfl, by decide, by decide⟩, ?_⟩))
      exact all v (List.mem_of_getElem? hv)
    clear hv
    refine ⟨p, n + 2, m, rfl, hp2, by omega, by omega, by omega, fun d H3 hd1 hd2 hp3 hk3 => ⟨_, _, rfl, rfl, ?_⟩⟩
    have hk3 : KpP p H H3 := hk2.trans hk3
    have hnn : 0 ≤ 1 + d ∧ 1 + d < 2 ^ 62 := by constructor <;> omega
    refine ⟨_, rfl, by omega, by omega, fun D hD => ?_⟩
    have hDp : D ≠ p := hp3.ne hD
    obtain ⟨hz1, hz2, hz3⟩ := hz
    have el : (signsV z).length = z.length := by unfold signsV; rw [List.length_map, Array.length_toList]; rfl
    refine lc_range (lo := 0) (n := (1 + d).toNat) (fun i Hx => ∃ ys : List Str, Hx D = some (.lst (ys.map V.str)) ∧ ys.length = i ∧ (∀ y ∈ ys, ∃ c, y = ⟨#[c]⟩ ∧ 97 ≤ c ∧ c ≤ 122) ∧ PotAt Hx p (n + 3 + i) ∧ KpP p H Hx)
      ⟨[], upd_same, rfl, (fun y hy => nomatch hy), hp3.same (Same.upd hD), hk3.trans (Kp.new hD)⟩ ?_ ?_
    · rintro i Hx hi ⟨ys, hDx, hyl, hy, hpx, hkx⟩
      refine ⟨rfl, ?_⟩
      refine yes ?_
      refine ⟨_, rfl, _, rfl, p, n + 3 + i, _, _, rfl, hpx, by omega, .inr (.inr ⟨z, rfl, by omega, rfl⟩), by omega, by omega, fun j v H4 hv hp4 hk4 => ?_⟩
      obtain ⟨c, hc, rfl⟩ : ∃ c, c ∈ z.cps.toList ∧ v = .str ⟨#[c]⟩ := by
        have := List.mem_of_getElem? hv
        obtain ⟨c, hc, e⟩ := List.mem_map.mp this
        exact ⟨c, hc, e.symm⟩
      refine ⟨_, hk4.get hDx hDp, by rw [List.length_map, hyl, sizeLine_eq]; omega, ys ++ [⟨#[c]⟩], by rw [upd_same, List.map_append]; rfl, by rw [List.length_append, hyl]; rfl, fun y hy' => ?_, ?_, ?_⟩
      · rcases List.mem_append.mp hy' with h | h
        · exact hy y h
        · exact ⟨c, List.mem_singleton.mp h, hz3 c hc⟩
      · obtain ⟨a1, b1, c1, e1, r1⟩ := hp4
        exact PotAt.mono ⟨a1, b1, c1, by rw [upd_ne hDp.symm]; exact e1, r1⟩ (by omega)
      · refine fun b o hb hbp => ?_
        have hbD : b ≠ D := fun e => by
          have := hk3 b o hb hbp
          rw [e, hD] at this
          cases this
        rw [upd_ne hbD]
        exact hk4 b o (hkx b o hb hbp) hbp
    · rintro H5 ⟨ys, hDx, hyl, hy, hp5, hk5⟩
      have hyl2 : ys.length ≤ 8 := by omega
      refine ⟨_, D, ys, rfl, rfl, .inl (SqL.of hDx), ?_, ?_⟩
      · have : (ys.map (·.length)).sum ≤ ys.length := by
          clear hDx hyl hyl2
          induction ys with
          | nil => exact Nat.le_refl _
          | cons y r ih =>
            obtain ⟨c, rfl, _⟩ := hy y List.mem_cons_self
            rw [List.map_cons, List.sum_cons, List.length_cons]
            have := ih fun z hz => hy z (List.mem_cons_of_mem _ hz)
            have e : (⟨#[c]⟩ : Str).length = 1 := rfl
            omega
        have e0 : (("" : Str)).length = 0 := by decide +kernel
        show (ys.map (·.length)).sum + ys.length * ("" : Str).length ≤ 16777216
        rw [e0]
        omega
      · have hw : NameS (Txt.join "" ys) := nameS_join (by omega) hyl2 hy
        generalize Txt.join "" ys = word at hw
        refine ⟨_, rfl, _, rfl, _, rfl, _, rfl, _, rfl, by show 12 ≤ sizeLine; decide, fun l6 hl6 => ⟨p, n + 11, _, _, rfl, (hp5.mono (by omega)).same (Same.upd hl6), by omega, .inl ⟨l6, rfl, hp5.ne hl6, upd_same⟩, by show 1 ≤ 12; decide, by show 12 ≤ 1000; decide, fun i v H6 hv hp6 hk6 => ?_⟩⟩
        have all : ∀ v ∈ ([.str word, .str word, .str word, .str word, .str "pos", .str "val", .str "all", .str "not", .str "k", .str "kk", .str "wa", .str "end"] : List V), ∃ z, v = .str z ∧ NameS z := (by repeat (first | exact List.forall_mem_nil _ | refine List.forall_mem_cons.mpr ⟨⟨_, rfl, by first | exact hw | decide +kernel⟩, ?_⟩))
        obtain ⟨z6, rfl, hz6⟩ := all v (List.mem_of_getElem? hv)
        exact k z6 H6 hz6 hp6 (hk5.trans ((Kp.new hl6).trans hk6))
end
end Kx
namespace Kx
open PySem PySem.Spec PyProof.Rows L2
/-- a comprehension that changes nothing: the i-th turn adds o i, or nothing -/
theorem lc_o {J : It} {n : Nat} {G : Hp → Prop} {Y : Nat → Hp → V → Hp → Prop} (w : Walk J n G Y) {g : TG} {tt : TT} {te : TE} {vs : List Nat} {σ : L2.St} {H1 : Hp} {D : Addr} {Qd : Hp → Prop} (o : Nat → Option V) (hn : n < sizeLine)
    (hD : H1 D = none) (hG : ∀ H, Same H1 H → G H)
    (hs : ∀ i x H H' (Nx : Hp → Prop), i < n → Same H1 H → H D ≠ none → Y i H x H' → (o i = none → ∀ H3, Same H H3 → Nx H3) → (∀ y, o i = some y → ∀ H4, Same H H4 → ∃ acc, H4 D = some (.lst acc) ∧ acc.length < sizeLine ∧ Nx (upd H4 D (.lst (acc ++ [y])))) →
      g x (wipe σ vs) H' fun σ2 H2 => wipe σ2 vs = wipe σ vs ∧ tt σ2 H2 fun b H3 => if b = true then te σ2 H3 fun y H4 => ∃ acc, H4 D = some (.lst acc) ∧ acc.length < sizeLine ∧ Nx (upd H4 D (.lst (acc ++ [y]))) else Nx H3)
    (hd : ∀ H, Same H1 H → H D = some (.lst ((List.range n).filterMap o)) → Qd H) :
    ∃ W : Nat → Nat → Hp → Prop, (∃ m, W 0 m (upd H1 D (.lst []))) ∧ ∀ i m H, W i m H →
      (J.stop i H ∧ Qd H) ∨ (J.go i H ∧ ∃ Nx : Hp → Prop, (∀ H', Nx H' → ∃ m', m' < m ∧ W (i + 1) m' H') ∧ ∀ x H', J.yld i H x H' → g x (wipe σ vs) H' fun σ2 H2 => wipe σ2 vs = wipe σ vs ∧ tt σ2 H2 fun b H3 =>
        if b = true then te σ2 H3 fun y H4 => ∃ acc, H4 D = some (.lst acc) ∧ acc.length < sizeLine ∧ Nx (upd H4 D (.lst (acc ++ [y]))) else Nx H3) := by
  have off : ∀ {H : Hp} {xs : List V}, Same H1 H → Same H1 (upd H D (.lst xs)) := fun {H xs} h b u e => by
    rw [upd_ne (ne_of_none e hD)]
    exact h b u e
  refine lc_it w (fun i H => Same H1 H ∧ H D = some (.lst ((List.range i).filterMap o))) ⟨Same.upd hD, upd_same⟩ (fun i H _ h => hG H h.1) (fun i x H H' hi h y => ?_) (fun H h => hd H h.1 h.2)
  have step : ∀ (q : Option V), o i = q → (List.range (i + 1)).filterMap o = (List.range i).filterMap o ++ q.toList := fun q e => by
    rw [List.range_succ, List.filterMap_append]
    cases q with
    | none => simp [e]
    | some z => simp [e]
  refine hs i x H H' _ hi h.1 (by rw [h.2]; simp) y (fun e H3 k => ⟨h.1.trans k, ?_⟩) (fun z e H4 k => ⟨_, k _ _ h.2, ?_, off (h.1.trans k), ?_⟩)
  · rw [step none e, k _ _ h.2]
    simp
  · have := List.length_filterMap_le o (List.range i)
    rw [List.length_range] at this
    omega
  · rw [upd_same, step (some z) e]
    rfl
theorem range_bind {α β : Type} (f : α → Option β) : ∀ (xs : List α), (List.range xs.length).filterMap (fun i => xs[i]?.bind f) = xs.filterMap f := fun xs => by
  have key : ∀ k, k ≤ xs.length → (List.range k).filterMap (fun i => xs[i]?.bind f) = (xs.take k).filterMap f := fun k => by
    induction k with
    | zero => intro _; simp
    | succ k ih =>
      intro h
      have hk : k < xs.length := by omega
      rw [List.range_succ, List.filterMap_append, ih (by omega), List.take_succ, List.filterMap_append]
      congr 1
      rw [List.getElem?_eq_getElem hk]
      cases hf : f xs[k] with
      | none => simp [List.getElem?_eq_getElem hk, hf]
      | some b => simp [List.getElem?_eq_getElem hk, hf]
  have := key xs.length (Nat.le_refl _)
  rw [List.take_length] at this
  exact this
theorem nodup_le {α : Type} [DecidableEq α] : ∀ (l m : List α), l.Nodup → (∀ x ∈ l, x ∈ m) → l.length ≤ m.length
  | [], _, _, _ => Nat.zero_le _
  | a :: l, m, hn, h => by
    have ha := h a List.mem_cons_self
    have hn' := List.nodup_cons.mp hn
    have := nodup_le l (m.erase a) hn'.2 fun x hx => by
      have hne : x ≠ a := fun e => hn'.1 (e ▸ hx)
      exact (List.mem_erase_of_ne hne).mpr (h x (List.mem_cons_of_mem _ hx))
    rw [List.length_erase_of_mem ha] at this
    have := List.length_pos_of_mem ha
    rw [List.length_cons]
    omega
section
variable {P : Program} {w : World} {K : PySem.W.Frag} {mg : Str → Option Value} {base : Heap}
theorem eqV_str (a b : Str) : eqV (.str a) (.str b) = decide (a = b) := by
  first
    | rfl
    | (show (a == b) = decide (a = b); by_cases h : a = b <;> simp [h])
theorem inV_str (z : Str) (zs : List Str) : inV (.str z) (zs.map V.str) = decide (z ∈ zs) := by
  unfold inV
  induction zs with
  | nil => simp
  | cons a r ih =>
    rw [List.map_cons, List.any_cons, ih, eqV_str]
    by_cases h : a = z
    · subst h; simp
    · have : ¬ z = a := fun e => h e.symm
      simp [h, this]
theorem flat_strs (zs : List Str) : (zs.map V.str).all flatV = true := by
  rw [List.all_eq_true]
  intro v hv
  obtain ⟨z, _, rfl⟩ := List.mem_map.mp hv
  rfl
/-! ### some different names -/
def abcL : List Nat := [97, 98, 99, 100, 101, 102, 103, 104, 105, 106, 107, 108]
theorem abc_cps : (("abcdefghijkl" : Str)).cps = abcL.toArray := by decide +kernel
theorem qrs_cps : (("qrs" : Str)).cps = #[113, 114, 115] := by decide +kernel
def spareL : List Str := (["q", "r", "s"] : List Str).flatMap fun a => (["a", "b", "c", "d", "e", "f", "g", "h", "i", "j", "k", "l"] : List Str).map fun b => a ++ b
theorem spare_len : spareL.length = 36 := by decide +kernel
theorem spare_nd : spareL.Nodup := by decide +kernel
theorem spare_ok : ∀ z ∈ spareL, NameS z := by decide +kernel
abbrev N_law_names : List Str := ["pot", "many", "found", "spare", "letter", "turn", "name", "other", "one"]
abbrev P_law_names : List Str := ["pot", "many"]
theorem sc_law_names : FnScope N_law_names P_law_names (defScope s_law_names) := ⟨rfl, rfl, rfl, by decide +kernel, rfl, by decide +kernel, by decide +kernel⟩
def spNames : Sp := fun vs H Q _ => ∃ (p : Addr) (n : Nat) (m : Int), vs = [.ref p, .int m] ∧ PotAt H p n ∧ n ≤ 800000 ∧ 0 ≤ m ∧ m ≤ 36 ∧
  ∀ (D : Addr) (zs : List Str) (H' : Hp), H D = none → (zs.length : Int) = m → zs.Nodup → (∀ z ∈ zs, NameS z) → H' D = some (.lst (zs.map V.str)) → PotAt H' p (n + 12 * m.toNat) → KpP p H H' → Q (.ref D) H'
theorem ok_names (T : Bt mg) (h : Has K mg "_law_names" s_law_names) (C1 : Ca P w K mg base 3 "_law_name" P_law_name spName) : Ca P w K mg base 4 "_law_names" P_law_names spNames := by
  obtain ⟨_, _, c__law_name⟩ := C1
  refine cal_of h sc_law_names (fun _ _ _ _ _ _ us hl => match us, hl with | [_, _], _ => rfl) (fun vs H Q E h => ?_) (fun f cdv A outer s H vs Q E hr h => ?_)
  · obtain ⟨p, n, m, rfl, _⟩ := h
    rfl
  · obtain ⟨p, n, m, rfl, hp, hn, hm0, hm1, k⟩ := h
    refine ⟨_, (pss_cons (ps_asg (pe_tupF (pa_cons (pe_lst pa_nil) (pa_cons (pe_lst pa_nil) pa_nil))) (pg_tup (by rfl) (pgs_cons (pg_name (i := 2) sc_law_names.nd rfl (.inr rfl)) (pgs_cons (pg_name (i := 3) sc_law_names.nd rfl (.inl rfl)) pgs_nil))))
      (pss_cons (ps_for PassesOwn.never rfl (pi_str pe_str) (pg_name (i := 4) sc_law_names.nd rfl (.inr rfl))
        (pss_one (ps_set (i := 3) sc_law_names.nd rfl (.inl rfl) (pe_op op_cat (pv 3) (pe_lc (own := [("other", 7)]) (g := (gName 7)) (tt := tYes) (by rfl) sc_law_names.nd (pi_str pe_str) (blkOk_by (own := [("other", 7)]) (N := ["pot", "many", "found", "spare", "letter", "turn", "name", "other", "one"]) (sc := defScope s_law_names) (by decide +kernel)) (fun _ _ _ _ _ => pg_name (i := 7) sc_law_names.nd rfl (Or.inl rfl)) (fun _ _ _ _ _ => pts_nil) (fun _ _ _ _ _ => (pe_op op_add_str (pv 4) (pv 7))))))))
      (pss_cons (ps_for PassesOwn.never rfl (pi_range1 rfl T.range (pa_cons (pv 1) pa_nil)) (pg_name (i := 5) sc_law_names.nd rfl (.inl rfl))
        (pss_cons (ps_set (i := 6) sc_law_names.nd rfl (.inl rfl) (pe_call c__law_name.1 (hr.mono (by decide)) rfl c__law_name.2.1 c__law_name.2.2.1 c__law_name.2.2.2 .nil pass0 (pa_cons (pv 0) pa_nil)))
        (pss_one (ps_expr (pe_bm PySem.F.plainAttrs_list PySem.F.slot_list_append PySem.F.type_list_append mt_append (pv 2) (pa_cons (pe_ifExp (pt_cmpR op_notIn_seq (pv 6) (pv 2) rfl) (pv 6) (pe_ix ix_list (pe_lc (own := [("one", 8)]) (g := (gName 8)) (by rfl) sc_law_names.nd (pi_list (pv 3)) (blkOk_by (own := [("one", 8)]) (N := ["pot", "many", "found", "spare", "letter", "turn", "name", "other", "one"]) (sc := defScope s_law_names) (by decide +kernel)) (fun _ _ _ _ _ => pg_name (i := 8) sc_law_names.nd rfl (Or.inl rfl)) (fun _ _ _ _ _ => pts_one (pt_cmpR (show OpR _ (compareOp .NotIn) (rIn K true) from op_notIn_seq) (pv 8) (pv 2) rfl)) (fun _ _ _ _ _ => (pv 8))) pe_int (fun _ _ => rfl))) pa_nil))))))
      (pss_one (ps_ret (pv 2)))))), ?_⟩
    refine ⟨Nat.zero_le _, fun F0 hF0 => ⟨Nat.zero_le _, fun S0 hS0 => ⟨by show 2 ≤ sizeLine; decide, fun t H1 hs1 ht1 => ⟨_, _, rfl, ht1.sq, rfl, ?_⟩⟩⟩⟩
    have hF1 : H1 F0 = some (.lst []) := hs1 _ _ (by rw [upd_ne (ne_of_none upd_same hS0)]; exact upd_same)
    have hS1 : H1 S0 = some (.lst []) := hs1 _ _ upd_same
    have sm1 : Same H H1 := (Same.upd hF0).trans ((Same.upd hS0).trans hs1)
    have nFp : F0 ≠ p := hp.ne hF0
    have nSp : S0 ≠ p := (hp.same (Same.upd hF0)).ne hS0
    -- spare
    refine ⟨_, _, rfl, _, _, rfl, rfl, _, rfl, for_it walk_str (fun i σ Hx => ∃ (S : Addr) (v4 : Option V), σ = [some (.ref p), some (.int m), some (.ref F0), some (.ref S), v4, none, none, none, none] ∧ Same H1 Hx ∧ Hx S = some (.lst ((spareL.take (12 * i)).map V.str)) ∧ S ≠ p ∧ S ≠ F0)
      ⟨S0, none, rfl, Same.refl, hS1, nSp, fun e => by rw [e, upd_same] at hS0; cases hS0⟩ (fun _ _ _ _ _ => trivial) ?_ ?_⟩
    · rintro i x σ Hx H' hi ⟨S, v4, rfl, sm, hS, nS, nSF⟩ ⟨rfl, c, hc, rfl⟩
      refine ⟨_, rfl, _, rfl, fun D hD => ?_⟩
      refine lc_o walk_str (fun j => (abcL[j]?).map fun d => V.str (⟨#[c]⟩ ++ ⟨#[d]⟩)) (by rw [abc_cps, sizeLine_eq]; decide) hD (fun _ _ => trivial) ?_ ?_
      · rintro j y Hy H'' Nx hj smy hDy ⟨rfl, d, hd, rfl⟩ hno hyes
        refine ⟨rfl, yes ⟨_, rfl, _, rfl, _, _, rfl, rfl, by rw [sizeLine_eq]; show 1 + 1 ≤ _; omega, ?_⟩⟩
        rw [abc_cps, List.getElem?_toArray] at hd
        exact hyes _ (by rw [hd]; rfl) _ Same.refl
      · intro Hy smy hDy
        refine ⟨_, _, _, _, rfl, rfl, smy _ _ hS, hDy, ?_, fun p' hp' => ?_⟩
        · have := List.length_filterMap_le (fun j => (abcL[j]?).map fun d => V.str (⟨#[c]⟩ ++ ⟨#[d]⟩)) (List.range ("abcdefghijkl" : Str).cps.size)
          rw [List.length_range, abc_cps] at this
          rw [List.length_map, List.length_take, spare_len, sizeLine_eq, abc_cps]
          have e : abcL.toArray.size = 12 := rfl
          omega
        · have nn : ∀ b o, Hy b = some o → b ≠ p' := fun b o e => ne_of_none e hp'
          refine ⟨p', _, rfl, (sm.trans smy).trans (Same.upd hp'), ?_, ?_, ?_⟩
          · rw [upd_same]
            congr 2
            have three : i < 3 := by rw [qrs_cps] at hi; exact hi
            rw [qrs_cps] at hc
            rw [abc_cps]
            rcases (show i = 0 ∨ i = 1 ∨ i = 2 by omega) with rfl | rfl | rfl
            · obtain rfl : 113 = c := by simpa using hc
              decide +kernel
            · obtain rfl : 114 = c := by simpa using hc
              decide +kernel
            · obtain rfl : 115 = c := by simpa using hc
              decide +kernel
          · obtain ⟨a1, b1, c1, e1, _⟩ := hp.same (sm1.trans (sm.trans smy))
            exact (nn _ _ e1).symm
          · exact (nn _ _ ((sm.trans smy) _ _ hF1)).symm
    · rintro σ Hx ⟨S, v4, rfl, sm, hS, nS, nSF⟩
      have e36 : (spareL.take (12 * ("qrs" : Str).cps.size)) = spareL := by rw [qrs_cps]; decide +kernel
      rw [e36] at hS
      -- the names
      refine ⟨_, rfl, m, rfl, by omega, by omega, for_it (walk_range (lo := 0) (n := m.toNat)) (fun i σ Hx => ∃ (v4 v5 v6 : Option V) (zs : List Str), σ = [some (.ref p), some (.int m), some (.ref F0), some (.ref S), v4, v5, v6, none, none] ∧
        Hx F0 = some (.lst (zs.map V.str)) ∧ Hx S = some (.lst (spareL.map V.str)) ∧ zs.length = i ∧ zs.Nodup ∧ (∀ z ∈ zs, NameS z) ∧ PotAt Hx p (n + 12 * i) ∧ KpP p H Hx)
        ⟨v4, none, none, [], rfl, sm _ _ hF1, hS, rfl, List.nodup_nil, (fun z hz => nomatch hz), hp.same (sm1.trans sm), Kp.same (sm1.trans sm)⟩ (fun _ _ _ _ _ => trivial) ?_ ?_⟩
      · rintro i x σ Hy H' hi ⟨v4, v5, v6, zs, rfl, hF, hSy, hl, hnd, hok, hpy, hky⟩ ⟨rfl, rfl⟩
        refine ⟨_, rfl, p, n + 12 * i, rfl, hpy, by omega, fun z H2 hz hp2 hk2 => ?_⟩
        have hF2 := hk2.get hF nFp
        have hS2 := hk2.get hSy nS
        have fin : ∀ (y : Str) (H3 : Hp), y ∉ zs → NameS y → Same H2 H3 → ∃ (v4' v5' v6' : Option V) (zs' : List Str), [some (V.ref p), some (.int m), some (.ref F0), some (.ref S), v4, some (.int (0 + (i : Int))), some (.str z), none, none] = [some (.ref p), some (.int m), some (.ref F0), some (.ref S), v4', v5', v6', none, none] ∧
            (upd H3 F0 (.lst (zs.map V.str ++ [.str y]))) F0 = some (.lst (zs'.map V.str)) ∧ (upd H3 F0 (.lst (zs.map V.str ++ [.str y]))) S = some (.lst (spareL.map V.str)) ∧ zs'.length = i + 1 ∧ zs'.Nodup ∧ (∀ z ∈ zs', NameS z) ∧
            PotAt (upd H3 F0 (.lst (zs.map V.str ++ [.str y]))) p (n + 12 * (i + 1)) ∧ KpP p H (upd H3 F0 (.lst (zs.map V.str ++ [.str y]))) := fun y H3 hy hyo sm3 => by
          refine ⟨v4, _, _, zs ++ [y], rfl, by rw [upd_same, List.map_append]; rfl, by rw [upd_ne nSF]; exact sm3 _ _ hS2, by rw [List.length_append, hl]; rfl, ?_, ?_, ?_, ?_⟩
          · exact List.nodup_append.mpr ⟨hnd, List.nodup_cons.mpr ⟨List.not_mem_nil, List.nodup_nil⟩, fun a ha b hb => by
              rw [List.mem_singleton.mp hb]
              exact fun e => hy (e ▸ ha)⟩
          · intro w hw
            rcases List.mem_append.mp hw with h | h
            · exact hok w h
            · rw [List.mem_singleton.mp h]; exact hyo
          · obtain ⟨a1, b1, c1, e1, r1⟩ := hp2.same sm3
            exact PotAt.mono ⟨a1, b1, c1, by rw [upd_ne nFp.symm]; exact e1, r1⟩ (by omega)
          · intro b o hb hbp
            rw [upd_ne (ne_of_none hb hF0)]
            exact sm3 _ _ (hk2 b o (hky b o hb hbp) hbp)
        have hsz : (zs.map V.str).length < sizeLine := by rw [List.length_map, hl, sizeLine_eq]; omega
        refine ⟨_, rfl, .inl ⟨rfl, _, SqL.of hF2⟩, _, rfl, _, rfl, F0, _, rfl, .inl (SqL.of hF2), rfl, flat_strs _, _, rfl, ?_⟩
        by_cases hin : z ∈ zs
        · rw [inV_str, decide_eq_true hin]
          refine iteF ?_
          refine ⟨_, rfl, S, rfl, ⟨_, SqL.of hS2⟩, fun D hD => lc_o (walk_list (K := K) (a := S) (xs := spareL.map V.str)) (fun j => spareL[j]?.bind fun y => if y ∈ zs then none else some (V.str y)) (by rw [List.length_map, spare_len, sizeLine_eq]; decide) hD (fun Hq sq => SqL.of (sq _ _ hS2)) ?_ ?_⟩
          · rintro j x Hq H'' Nx hj sq hDne ⟨rfl, hx⟩ hno hyes
            rw [List.getElem?_map] at hx
            cases ey : spareL[j]? with
            | none => rw [ey] at hx; cases hx
            | some y =>
              rw [ey] at hx
              cases hx
              refine ⟨rfl, _, rfl, _, rfl, F0, _, rfl, .inl (SqL.of (sq _ _ hF2)), rfl, flat_strs _, _, rfl, ?_⟩
              by_cases hy : y ∈ zs
              · rw [inV_str, decide_eq_true hy]
                refine iteF (hno ?_ _ Same.refl)
                rw [ey]
                simp [hy]
              · rw [inV_str, decide_eq_false hy]
                refine iteT ⟨_, rfl, hyes _ ?_ _ Same.refl⟩
                rw [ey]
                simp [hy]
          · intro Hq sq hDq
            have e1 : ((List.range (spareL.map V.str).length).filterMap fun j => spareL[j]?.bind fun y => if y ∈ zs then none else some (V.str y)) = spareL.filterMap fun y => if y ∈ zs then none else some (V.str y) := by
              rw [List.length_map]
              exact range_bind _ _
            rw [e1] at hDq
            cases eq : spareL.filterMap (fun y => if y ∈ zs then none else some (V.str y)) with
            | nil =>
              exfalso
              have hall : ∀ y ∈ spareL, y ∈ zs := fun y hy => by
                by_cases h : y ∈ zs
                · exact h
                · have : V.str y ∈ spareL.filterMap (fun y => if y ∈ zs then none else some (V.str y)) := List.mem_filterMap.mpr ⟨y, hy, by rw [if_neg h]⟩
                  rw [eq] at this
                  cases this
              have := nodup_le spareL zs spare_nd hall
              rw [spare_len] at this
              omega
            | cons v vs =>
              rw [eq] at hDq
              obtain ⟨y, hy, hv⟩ := List.mem_filterMap.mp (show v ∈ spareL.filterMap (fun y => if y ∈ zs then none else some (V.str y)) from by rw [eq]; exact List.mem_cons_self)
              by_cases hyz : y ∈ zs
              · rw [if_pos hyz] at hv
                cases hv
              · rw [if_neg hyz] at hv
                cases hv
                exact ⟨D, _, _, _, rfl, rfl, SqL.of hDq, atI_nat (j := 0) rfl, F0, _, _, rfl, rfl, sq _ _ hF2, hsz, fin y Hq hyz (spare_ok y hy) sq⟩
        · rw [inV_str, decide_eq_false hin]
          refine iteT ?_
          refine ⟨_, rfl, F0, _, _, rfl, rfl, hF2, hsz, ?_⟩
          exact fin z H2 hin hz Same.refl
      · rintro σ Hy ⟨v4, v5, v6, zs, rfl, hF, hSy, hl, hnd, hok, hpy, hky⟩
        exact ⟨_, rfl, k F0 zs Hy hF0 (by omega) hnd hok hF (hpy.mono (by omega)) hky⟩
end
end Kx
namespace Kx
open PySem PySem.Spec PyProof.Rows L2
def uniqF (acc : List Str) (x : Str) : List Str := if x ∈ acc then acc else acc ++ [x]
/-- each once, where it stands first -/
def uniq (l : List Str) : List Str := l.foldl uniqF []
def pairD (q : Str × Str) : PyData := .tuple [.str q.1, .str q.2]
theorem uniqF_nd {acc : List Str} {x : Str} (h : acc.Nodup) : (uniqF acc x).Nodup := by
  unfold uniqF
  split
  · exact h
  · rename_i hx
    exact List.nodup_append.mpr ⟨h, List.nodup_cons.mpr ⟨List.not_mem_nil, List.nodup_nil⟩, fun a ha b hb e => hx (by rw [List.mem_singleton.mp hb] at e; exact e ▸ ha)⟩
theorem uniq_gen (l : List Str) : ∀ acc : List Str, acc.Nodup → (l.foldl uniqF acc).Nodup ∧ ∀ z, z ∈ l.foldl uniqF acc ↔ z ∈ acc ∨ z ∈ l := by
  induction l with
  | nil => intro acc h; exact ⟨h, fun z => by simp⟩
  | cons x r ih =>
    intro acc h
    obtain ⟨h1, h2⟩ := ih (uniqF acc x) (uniqF_nd h)
    refine ⟨h1, fun z => (h2 z).trans ?_⟩
    unfold uniqF
    split
    · rename_i hx
      rw [List.mem_cons]
      refine ⟨fun q => q.elim .inl fun q => .inr (.inr q), fun q => q.elim .inl fun q => q.elim (fun e => .inl (e ▸ hx)) .inr⟩
    · rw [List.mem_append, List.mem_singleton, List.mem_cons, or_assoc]
theorem uniq_nd (l : List Str) : (uniq l).Nodup := (uniq_gen l [] List.nodup_nil).1
theorem uniq_mem (l : List Str) (z : Str) : z ∈ uniq l ↔ z ∈ l := by
  have := (uniq_gen l [] List.nodup_nil).2 z
  exact this.trans (by simp)
theorem uniqF_len (acc : List Str) (x : Str) : (uniqF acc x).length ≤ acc.length + 1 := by
  unfold uniqF
  split <;> simp
theorem uniq_take (l : List Str) (i : Nat) (h : i < l.length) : uniq (l.take (i + 1)) = uniqF (uniq (l.take i)) l[i] := by
  unfold uniq
  rw [List.take_succ, List.getElem?_eq_getElem h, List.foldl_append]
  rfl
theorem uniq_len (l : List Str) : (uniq l).length ≤ l.length := by
  refine nodup_le _ _ (uniq_nd l) fun x hx => (uniq_mem l x).mp hx
theorem Dv.pairI {ex : Addr → Prop} {H : Hp} {v : V} {q : Str × Str} (h : Dv ex H v (pairD q)) : ∃ b, v = .ref b ∧ TupF H b [.str q.1, .str q.2] := by
  obtain ⟨b, xs, rfl, ht, l⟩ := h.tupI
  cases l with
  | cons a l =>
    cases l with
    | cons a2 l =>
      cases l
      rw [a.strI, a2.strI] at ht
      exact ⟨b, rfl, ht⟩
section
variable {P : Program} {w : World} {K : PySem.W.Frag} {mg : Str → Option Value} {base : Heap}
abbrev N_law_lengths : List Str := ["pairs", "found", "name", "length"]
abbrev P_law_lengths : List Str := ["pairs"]
theorem sc_law_lengths : FnScope N_law_lengths P_law_lengths (defScope s_law_lengths) := ⟨rfl, rfl, rfl, by decide +kernel, rfl, by decide +kernel, by decide +kernel⟩
def spLengths : Sp := fun vs H Q _ => ∃ (ex : Addr → Prop) (v : V) (ps : List (Str × Str)), vs = [v] ∧ Dv ex H v (.tuple (ps.map pairD)) ∧ ps.length ≤ 100 ∧
  ∀ (D : Addr) (H' : Hp), H D = none → Same H H' → H' D = some (.lst ((uniq (ps.map (·.2))).map V.str)) → Q (.ref D) H'
theorem ok_lengths (T : Bt mg) (h : Has K mg "_law_lengths" s_law_lengths) : Ca P w K mg base 1 "_law_lengths" P_law_lengths spLengths := by
  refine cal_of h sc_law_lengths (fun _ _ _ _ _ _ us hl => match us, hl with | [_], _ => rfl) (fun vs H Q E h => ?_) (fun f cdv A outer s H vs Q E hr h => ?_)
  · obtain ⟨ex, v, ps, rfl, _⟩ := h
    rfl
  · obtain ⟨ex, v, ps, rfl, dv, hl, k⟩ := h
    obtain ⟨a, xs, rfl, ht, hd⟩ := dv.tupI
    have hxl := hd.len
    rw [List.length_map] at hxl
    refine ⟨_, (pss_cons (ps_set (i := 1) sc_law_lengths.nd rfl (.inl rfl) (pe_lst pa_nil))
      (pss_cons (ps_for PassesOwn.never rfl (pi_tup (pv 0)) (pg_tup (by rfl) (pgs_cons (pg_name (i := 2) sc_law_lengths.nd rfl (.inl rfl)) (pgs_cons (pg_name (i := 3) sc_law_lengths.nd rfl (.inl rfl)) pgs_nil)))
        (pss_one (ps_if (pt_cmpR op_notIn_seq (pv 3) (pv 1) rfl) (pss_one (ps_expr (pe_bm PySem.F.plainAttrs_list PySem.F.slot_list_append PySem.F.type_list_append mt_append (pv 1) (pa_cons (pv 3) pa_nil)))) pss_nil)))
      (pss_one (ps_ret (pv 1))))), ?_⟩
    refine ⟨Nat.zero_le _, fun D hD => ⟨_, rfl, a, rfl, ⟨_, (show TupF (upd H D (.lst [])) a xs from (Kp.new (ex := ex) hD).tup ht).sq⟩, for_it (walk_tup (K := K) (a := a) (xs := xs)) (fun i σ Hx => ∃ (v2 v3 : Option V), σ = [some (.ref a), some (.ref D), v2, v3] ∧ Same H Hx ∧ Hx D = some (.lst ((uniq ((ps.map (·.2)).take i)).map V.str)))
      ⟨none, none, rfl, Same.upd hD, upd_same⟩ (fun i σ Hx _ ⟨_, _, _, sm, _⟩ => ((Kp.same (ex := ex) sm).tup ht).sq) ?_ ?_⟩⟩
    · rintro i x σ Hx H' hi ⟨v2, v3, rfl, sm, hDx⟩ ⟨rfl, hx⟩
      obtain ⟨e, he, dve⟩ := hd.get hx
      rw [List.getElem?_map] at he
      have hi' : i < ps.length := by omega
      rw [List.getElem?_eq_getElem hi'] at he
      cases he
      obtain ⟨b, rfl, hb⟩ := dve.pairI
      have hmap : i < (ps.map (·.2)).length := by rw [List.length_map]; exact hi'
      have e2 : (ps.map (·.2))[i] = ps[i].2 := List.getElem_map _
      have hsz : ((uniq ((ps.map (·.2)).take i)).map V.str).length < sizeLine := by
        have := uniq_len ((ps.map (·.2)).take i)
        rw [List.length_take, List.length_map] at this
        rw [List.length_map, sizeLine_eq]
        omega
      refine ⟨b, _, rfl, ((Kp.same (ex := ex) sm).tup hb).sq, rfl, _, _, rfl, _, _, rfl, rfl, ?_⟩
      refine ⟨_, rfl, _, rfl, D, _, rfl, .inl (SqL.of hDx), rfl, flat_strs _, _, rfl, ?_⟩
      by_cases hin : ps[i].2 ∈ uniq ((ps.map (·.2)).take i)
      · rw [inV_str, decide_eq_true hin]
        refine iteF ⟨_, _, rfl, sm, ?_⟩
        rw [uniq_take _ i hmap, e2, uniqF, if_pos hin]
        exact hDx
      · rw [inV_str, decide_eq_false hin]
        refine iteT ⟨_, rfl, .inl ⟨rfl, _, SqL.of hDx⟩, _, rfl, D, _, _, rfl, rfl, hDx, hsz, _, _, rfl, ?_, ?_⟩
        · intro b o hb
          rw [upd_ne (ne_of_none hb hD)]
          exact sm b o hb
        · rw [upd_same, uniq_take _ i hmap, e2, uniqF, if_neg hin, List.map_append]
          rfl
    · rintro σ Hx ⟨v2, v3, rfl, sm, hDx⟩
      refine ⟨_, rfl, k D Hx hD sm ?_⟩
      rw [hDx, List.take_of_length_le (by rw [List.length_map]; omega)]
/-! ### the parts of a frame -/
theorem cut_take (xs : List V) (i : Int) (h : 0 ≤ i) : cutV xs none (some i) = xs.take i.toNat := by
  obtain ⟨j, rfl⟩ : ∃ j : Nat, i = j := ⟨i.toNat, by omega⟩
  unfold cutV
  rw [HT.sIx_nat]
  show (xs.drop 0).take (min j xs.length - 0) = _
  rw [List.drop_zero, Nat.sub_zero, List.take_eq_take_iff]
  simp
theorem cut_drop (xs : List V) (i : Int) (h : 0 ≤ i) : cutV xs (some i) none = xs.drop i.toNat := by
  obtain ⟨j, rfl⟩ : ∃ j : Nat, i = j := ⟨i.toNat, by omega⟩
  unfold cutV
  rw [HT.sIx_nat]
  show (xs.drop (min j xs.length)).take (xs.length - min j xs.length) = xs.drop j
  rw [List.take_of_length_le (by rw [List.length_drop]; omega)]
  by_cases hj : j ≤ xs.length
  · rw [Nat.min_eq_left hj]
  · rw [Nat.min_eq_right (by omega), List.drop_length, List.drop_of_length_le (by omega)]
/-- the parts of a frame are right -/
def Good (ps : List (Str × Str)) (ns vs : List Str) : Prop :=
  ps.length ≤ 12 ∧ ns.length ≤ 6 ∧ vs.length ≤ 6 ∧ (∀ z ∈ ps.map (·.1) ++ (ps.map (·.2) ++ (ns ++ vs)), NameS z) ∧ (ps.map (·.1) ++ (uniq (ps.map (·.2)) ++ (ns ++ vs))).Nodup
theorem good_of {zs : List Str} {qs : List (Str × Str)} {M N s1 s2 : Nat} (hnd : zs.Nodup) (hok : ∀ z ∈ zs, NameS z) (hl : zs.length = M + N + s1 + s2) (hM : M ≤ 12) (h1 : s1 ≤ 6) (h2 : s2 ≤ 6)
    (ha : qs.map (·.1) = zs.take M) (hb : ∀ q ∈ qs, q.2 ∈ (zs.drop M).take N) : Good qs ((zs.drop (M + N)).take s1) ((zs.drop (M + N)).drop s1) := by
  have split : zs = zs.take M ++ ((zs.drop M).take N ++ zs.drop (M + N)) := by
    rw [← List.drop_drop, List.take_append_drop, List.take_append_drop]
  have hq : qs.length ≤ 12 := by
    have := congrArg List.length ha
    rw [List.length_map, List.length_take] at this
    omega
  have hsub : ∀ z ∈ qs.map (·.2), z ∈ (zs.drop M).take N := fun z hz => by
    obtain ⟨q, hq, rfl⟩ := List.mem_map.mp hz
    exact hb q hq
  have inz : ∀ z, z ∈ zs.take M ∨ z ∈ (zs.drop M).take N ∨ z ∈ zs.drop (M + N) → z ∈ zs := fun z hz => by
    rw [split]
    rw [List.mem_append, List.mem_append]
    exact hz
  refine ⟨hq, ?_, ?_, ?_, ?_⟩
  · rw [List.length_take]; omega
  · rw [List.length_drop, List.length_drop]; omega
  · intro z hz
    rw [List.take_append_drop, ha, List.mem_append, List.mem_append] at hz
    refine hok z (inz z ?_)
    rcases hz with h | h | h
    · exact .inl h
    · exact .inr (.inl (hsub z h))
    · exact .inr (.inr h)
  · rw [List.take_append_drop, ha]
    rw [split] at hnd
    obtain ⟨n1, n2, n3⟩ := List.nodup_append.mp hnd
    obtain ⟨n4, n5, n6⟩ := List.nodup_append.mp n2
    refine List.nodup_append.mpr ⟨n1, List.nodup_append.mpr ⟨uniq_nd _, n5, fun a h1 b h2 => n6 a (hsub a ((uniq_mem _ a).mp h1)) b h2⟩, fun a h1 b h2 => n3 a h1 b ?_⟩
    rcases List.mem_append.mp h2 with h | h
    · exact List.mem_append.mpr (.inl (hsub b ((uniq_mem _ b).mp h)))
    · exact List.mem_append.mpr (.inr h)
theorem DvL.snoc {ex : Addr → Prop} {H : Hp} {xs : List V} {ds : List PyData} {v : V} {d : PyData} (h : DvL ex H xs ds) (a : Dv ex H v d) : DvL ex H (xs ++ [v]) (ds ++ [d]) := h.app (.cons a .nil)
abbrev N_law_parts : List Str := ["pot", "top", "most", "many", "sizes", "lengths", "names", "pairs", "rest", "at", "name"]
abbrev P_law_parts : List Str := ["pot", "top", "most"]
theorem sc_law_parts : FnScope N_law_parts P_law_parts (defScope s_law_parts) := ⟨rfl, rfl, rfl, by decide +kernel, rfl, by decide +kernel, by decide +kernel⟩
def spParts : Sp := fun vs H Q _ => ∃ (p : Addr) (n : Nat) (t m : Int), vs = [.ref p, .int t, .int m] ∧ PotAt H p n ∧ n ≤ 700000 ∧ 0 ≤ t ∧ t ≤ 12 ∧ 0 ≤ m ∧ m ≤ 6 ∧
  ∀ (R : Addr) (x y z : V) (ps : List (Str × Str)) (ns vs : List Str) (H' : Hp), H R = none → H' R = some (.lst [x, y, z]) → Good ps ns vs → (∀ ex, Dv ex H' x (.tuple (ps.map pairD))) → (∀ ex, Dv ex H' y (.tuple (ns.map .str))) → (∀ ex, Dv ex H' z (.tuple (vs.map .str))) →
    PotAt H' p (n + 400) → KpP p H H' → Q (.ref R) H'
theorem ok_parts (T : Bt mg) (h : Has K mg "_law_parts" s_law_parts) (C1 : Ca P w K mg base 1 "_law_dip" P_law_dip spDip) (C2 : Ca P w K mg base 4 "_law_names" P_law_names spNames) : Ca P w K mg base 5 "_law_parts" P_law_parts spParts := by
  obtain ⟨_, _, c__law_dip⟩ := C1
  obtain ⟨_, _, c__law_names⟩ := C2
  refine cal_of h sc_law_parts (fun _ _ _ _ _ _ us hl => match us, hl with | [_, _, _], _ => rfl) (fun vs H Q E h => ?_) (fun f cdv A outer s H vs Q E hr h => ?_)
  · obtain ⟨p, n, t, m, rfl, _⟩ := h
    rfl
  · obtain ⟨p, n, t, m, rfl, hp, hn, ht0, ht1, hm0, hm1, k⟩ := h
    refine ⟨_, (pss_cons (ps_set (i := 3) sc_law_parts.nd rfl (.inl rfl) (pe_call c__law_dip.1 (hr.mono (by decide)) rfl c__law_dip.2.1 c__law_dip.2.2.1 c__law_dip.2.2.2 .nil pass0 (pa_cons (pv 0) (pa_cons (pe_op op_add (pv 1) pe_int) pa_nil))))
      (pss_cons (ps_set (i := 4) sc_law_parts.nd rfl (.inl rfl) (pe_lst (pa_cons (pe_call c__law_dip.1 (hr.mono (by decide)) rfl c__law_dip.2.1 c__law_dip.2.2.1 c__law_dip.2.2.2 .nil pass0 (pa_cons (pv 0) (pa_cons (pe_op op_add (pv 2) pe_int) pa_nil))) (pa_cons (pe_call c__law_dip.1 (hr.mono (by decide)) rfl c__law_dip.2.1 c__law_dip.2.2.1 c__law_dip.2.2.2 .nil pass0 (pa_cons (pv 0) (pa_cons (pe_op op_add (pv 2) pe_int) pa_nil))) pa_nil))))
      (pss_cons (ps_set (i := 5) sc_law_parts.nd rfl (.inl rfl) (pe_callB (call_max2 rfl) (by rfl) T.max (by decide +kernel) (pa_cons pe_int (pa_cons (pe_callB (call_min2 rfl) (by rfl) T.min (by decide +kernel) (pa_cons (pv 3) (pa_cons (pe_op op_add pe_int (pe_call c__law_dip.1 (hr.mono (by decide)) rfl c__law_dip.2.1 c__law_dip.2.2.1 c__law_dip.2.2.2 .nil pass0 (pa_cons (pv 0) (pa_cons pe_int pa_nil)))) pa_nil))) pa_nil))))
      (pss_cons (ps_set (i := 6) sc_law_parts.nd rfl (.inl rfl) (pe_call c__law_names.1 (hr.mono (by decide)) rfl c__law_names.2.1 c__law_names.2.2.1 c__law_names.2.2.2 .nil pass0 (pa_cons (pv 0) (pa_cons (pe_op op_add (pe_op op_add (pe_op op_add (pv 3) (pv 5)) (pe_ix ix_list (pv 4) pe_int (fun _ _ => rfl))) (pe_ix ix_list (pv 4) pe_int (fun _ _ => rfl))) pa_nil))))
      (pss_cons (ps_par (i := 7) (j := 8) (by rfl) sc_law_parts.nd rfl rfl (by decide) rfl rfl (pa_cons (pe_lst pa_nil) (pa_cons (pe_slice sl_list (pv 6) (po_some (pe_op op_add (pv 3) (pv 5))) po_none) pa_nil)) (by rfl))
      (pss_cons (ps_for PassesOwn.never rfl (pi_enum (by rfl) T.enumerate (pa_cons (pe_slice sl_list (pv 6) po_none (po_some (pv 3))) pa_nil)) (pg_tup (by rfl) (pgs_cons (pg_name (i := 9) sc_law_parts.nd rfl (.inl rfl)) (pgs_cons (pg_name (i := 10) sc_law_parts.nd rfl (.inl rfl)) pgs_nil)))
        (pss_one (ps_expr (pe_bm PySem.F.plainAttrs_list PySem.F.slot_list_append PySem.F.type_list_append mt_append (pv 7) (pa_cons (pe_tupF (pa_cons (pv 10) (pa_cons (pe_ix ix_list (pv 6) (pe_op op_add (pv 3) (pe_ifExp (pt_cmpR op_lt (pv 9) (pv 5) (nomark _)) (pv 9) (pe_call c__law_dip.1 (hr.mono (by decide)) rfl c__law_dip.2.1 c__law_dip.2.2.1 c__law_dip.2.2.2 .nil pass0 (pa_cons (pv 0) (pa_cons (pv 5) pa_nil))))) (fun _ _ => rfl)) pa_nil))) pa_nil)))))
      (pss_one (ps_ret (pe_lst (pa_cons (pe_callTy call_tupF (by rfl) T.tuple (by decide +kernel) (pa_cons (pv 7) pa_nil)) (pa_cons (pe_callTy call_tupF (by rfl) T.tuple (by decide +kernel) (pa_cons (pe_slice sl_list (pv 8) po_none (po_some (pe_ix ix_list (pv 4) pe_int (fun _ _ => rfl)))) pa_nil)) (pa_cons (pe_callTy call_tupF (by rfl) T.tuple (by decide +kernel) (pa_cons (pe_slice sl_list (pv 8) (po_some (pe_ix ix_list (pv 4) pe_int (fun _ _ => rfl))) po_none) pa_nil)) pa_nil)))))))))))), ?_⟩
    -- many, sizes, lengths
    refine ⟨_, rfl, _, rfl, _, _, rfl, rfl, p, n, _, rfl, hp, by omega, by omega, by omega, fun many H1 a0 a1 hp1 hk1 => ?_⟩
    refine ⟨_, rfl, _, rfl, _, _, rfl, rfl, p, n + 1, _, rfl, hp1, by omega, by omega, by omega, fun s1 H2 b0 b1 hp2 hk2 => ⟨_, rfl, _, rfl, _, _, rfl, rfl, p, n + 2, _, rfl, hp2, by omega, by omega, by omega, fun s2 H3 c0 c1 hp3 hk3 => ⟨by show 2 ≤ sizeLine; decide, fun SZ hSZ => ?_⟩⟩⟩
    refine ⟨_, rfl, _, rfl, p, n + 3, 3, rfl, hp3.same (Same.upd hSZ), by omega, by decide, by decide, fun d H4 d0 d1 hp4 hk4 => ⟨_, _, rfl, rfl, _, _, rfl, _, _, rfl, ?_⟩⟩
    generalize hL : (if (if 1 + d < many then 1 + d else many) > 1 then (if 1 + d < many then 1 + d else many) else 1) = L
    have hL2 : 1 ≤ L ∧ L ≤ 3 := by
      rw [← hL]
      split <;> (try split) <;> (constructor <;> (try split) <;> omega)
    have nSp : SZ ≠ p := hp3.ne hSZ
    have hS4 : H4 SZ = some (.lst [.int s1, .int s2]) := hk4.get upd_same nSp
    have k4 : KpP p H H4 := hk1.trans (hk2.trans (hk3.trans ((Kp.new hSZ).trans hk4)))
    -- names
    refine ⟨_, rfl, _, rfl, _, rfl, _, _, rfl, rfl, _, rfl, SZ, _, _, _, rfl, rfl, SqL.of hS4, rfl, _, _, rfl, rfl, _, rfl, SZ, _, _, _, rfl, rfl, SqL.of hS4, rfl, _, _, rfl, rfl, p, n + 4, _, rfl, hp4, by omega, by omega, by omega, fun D zs H5 hD hzl hnd hok hD5 hp5 hk5 => ?_⟩
    have nDp : D ≠ p := hp4.ne hD
    have hS5 : H5 SZ = some (.lst [.int s1, .int s2]) := hk5.get hS4 nSp
    have k5 : KpP p H H5 := k4.trans hk5
    obtain ⟨M, rfl⟩ : ∃ M : Nat, many = M := ⟨many.toNat, by omega⟩
    obtain ⟨N, rfl⟩ : ∃ N : Nat, L = N := ⟨L.toNat, by omega⟩
    obtain ⟨u1, rfl⟩ : ∃ u : Nat, s1 = u := ⟨s1.toNat, by omega⟩
    obtain ⟨u2, rfl⟩ : ∃ u : Nat, s2 = u := ⟨s2.toNat, by omega⟩
    have hzl' : zs.length = M + N + u1 + u2 := by omega
    -- pairs, rest
    refine ⟨Nat.zero_le _, fun PL hPL => ⟨_, rfl, _, rfl, _, rfl, _, _, rfl, rfl, _, rfl, D, _, rfl, SqL.of ((Kp.new (ex := fun a => a = p) hPL).get hD5 nDp), fun RS hRS => ⟨_, _, rfl, ?_⟩⟩⟩
    have eRS : cutV (zs.map V.str) (some ((M : Int) + (N : Int))) none = (zs.drop (M + N)).map V.str := by
      rw [cut_drop _ _ (by omega), show ((M : Int) + (N : Int)).toNat = M + N by omega, List.map_drop]
    rw [eRS] at *
    have nPp : PL ≠ p := hp5.ne hPL
    have hp6 := hp5.same (Same.upd (o := .lst []) hPL)
    have nRp : RS ≠ p := hp6.ne hRS
    have nRP : RS ≠ PL := (ne_of_none upd_same hRS).symm
    have nDP : D ≠ PL := ne_of_none hD5 hPL
    have sm7 : Same H5 (upd (upd H5 PL (.lst [])) RS (.lst ((zs.drop (M + N)).map V.str))) := (Same.upd hPL).trans (Same.upd hRS)
    have hP7 : (upd (upd H5 PL (.lst [])) RS (.lst ((zs.drop (M + N)).map V.str))) PL = some (.lst []) := by rw [upd_ne nRP.symm]; exact upd_same
    have hR7 : (upd (upd H5 PL (.lst [])) RS (.lst ((zs.drop (M + N)).map V.str))) RS = some (.lst ((zs.drop (M + N)).map V.str)) := upd_same
    generalize upd (upd H5 PL (.lst [])) RS (.lst ((zs.drop (M + N)).map V.str)) = H7 at sm7 hP7 hR7 ⊢
    -- enumerate(names[:many])
    have hD7 : H7 D = some (.lst (zs.map V.str)) := sm7 _ _ hD5
    have hp7 : PotAt H7 p (n + 4 + 12 * 30) := (hp5.same sm7).mono (by omega)
    refine ⟨_, rfl, _, rfl, _, rfl, D, _, rfl, SqL.of hD7, fun EN hEN => ?_⟩
    rw [cut_take _ _ (by omega : (0 : Int) ≤ (M : Int)), Int.toNat_natCast]
    have sm8 : Same H7 (upd H7 EN (.lst ((zs.map V.str).take M))) := Same.upd hEN
    have hE8 : (upd H7 EN (.lst ((zs.map V.str).take M))) EN = some (.lst ((zs.map V.str).take M)) := upd_same
    have nEp : EN ≠ p := hp7.ne hEN
    have nEP : EN ≠ PL := (ne_of_none hP7 hEN).symm
    generalize upd H7 EN (.lst ((zs.map V.str).take M)) = H8 at sm8 hE8 ⊢
    have k8 : KpP p H H8 := k5.trans (Kp.same (sm7.trans sm8))
    have hMz : M ≤ zs.length := by omega
    have eM : ((zs.map V.str).take M).length = M := by rw [List.length_take, List.length_map]; omega
    refine ⟨EN, _, rfl, SqL.of hE8, for_it (walk_enum (K := K) (a := EN) (xs := (zs.map V.str).take M)) (fun i σ Hx => ∃ (v9 v10 : Option V) (qs : List (Str × Str)) (xs : List V),
      σ = [some (.ref p), some (.int t), some (.int m), some (.int M), some (.ref SZ), some (.int N), some (.ref D), some (.ref PL), some (.ref RS), v9, v10] ∧ Hx PL = some (.lst xs) ∧ DvL (fun _ => True) Hx xs (qs.map pairD) ∧ qs.length = i ∧ qs.map (·.1) = (zs.take M).take i ∧
      (∀ q ∈ qs, q.2 ∈ (zs.drop M).take N) ∧ PotAt Hx p (n + 364 + i) ∧ Kp (fun a => a = p ∨ a = PL) H8 Hx)
      ⟨none, none, [], [], rfl, sm8 _ _ hP7, .nil, rfl, by simp, (fun q hq => nomatch hq), hp7.same sm8, Kp.refl⟩ (fun i σ Hx _ ⟨_, _, _, _, _, _, _, _, _, _, _, kk⟩ => SqL.of (kk.get hE8 (fun z => z.elim nEp nEP))) ?_ ?_⟩
    · rintro i x σ Hx H' hi ⟨v9, v10, qs, xs, rfl, hPx, hdx, hql, hqa, hqb, hpx, kx⟩ ⟨T0, y1, y2, rfl, hT0, rfl, e1, e2⟩
      cases e1
      rw [eM] at hi
      have hiz : i < zs.length := by omega
      have e3 : y2 = .str zs[i] := by
        have e2 : ((zs.map V.str).take M)[i]? = some y2 := e2
        rw [List.getElem?_take_of_lt hi, List.getElem?_map, List.getElem?_eq_getElem hiz] at e2
        cases e2
        rfl
      subst e3
      have kT0 : Kp (fun a => a = p ∨ a = PL) H8 (upd Hx T0 (.tup [.int (i : Nat), .str zs[i]])) := kx.trans (Kp.new hT0)
      have hP0 : (upd Hx T0 (.tup [.int (i : Nat), .str zs[i]])) PL = some (.lst xs) := by rw [upd_ne (ne_of_none hPx hT0)]; exact hPx
      have hd0 : DvL (fun _ => True) (upd Hx T0 (.tup [.int (i : Nat), .str zs[i]])) xs (qs.map pairD) := hdx.kp (Kp.new hT0)
      have hp0 := hpx.same (Same.upd (o := .tup [.int (i : Nat), .str zs[i]]) hT0)
      have hT1 : (upd Hx T0 (.tup [.int (i : Nat), .str zs[i]])) T0 = some (.tup [.int (i : Nat), .str zs[i]]) := upd_same
      generalize upd Hx T0 (.tup [.int (i : Nat), .str zs[i]]) = H9 at kT0 hP0 hd0 hp0 hT1 ⊢
      have nI : ∀ a, a ≠ p → a ≠ PL → ¬ (a = p ∨ a = PL) := fun a h1 h2 z => z.elim h1 h2
      have fin : ∀ (j : Int) (Hd : Hp), 0 ≤ j → j < N → KpP p H9 Hd → PotAt Hd p (n + 364 + (i + 1)) →
          ∃ y, atI (zs.map V.str) ((M : Int) + j) = some (.str y) ∧ ∀ (t2 : Addr) (H2 : Hp), Same Hd H2 → TupF H2 t2 [.str zs[i], .str y] → H2 PL = some (.lst xs) ∧
            ∃ (v9' v10' : Option V) (qs' : List (Str × Str)) (xs' : List V),
              [some (V.ref p), some (.int t), some (.int m), some (.int M), some (.ref SZ), some (.int N), some (.ref D), some (.ref PL), some (.ref RS), some (.int (i : Nat)), some (.str zs[i])] = [some (.ref p), some (.int t), some (.int m), some (.int M), some (.ref SZ), some (.int N), some (.ref D), some (.ref PL), some (.ref RS), v9', v10'] ∧
              (upd H2 PL (.lst (xs ++ [.ref t2]))) PL = some (.lst xs') ∧ DvL (fun _ => True) (upd H2 PL (.lst (xs ++ [.ref t2]))) xs' (qs'.map pairD) ∧ qs'.length = i + 1 ∧ qs'.map (·.1) = (zs.take M).take (i + 1) ∧
              (∀ q ∈ qs', q.2 ∈ (zs.drop M).take N) ∧ PotAt (upd H2 PL (.lst (xs ++ [.ref t2]))) p (n + 364 + (i + 1)) ∧ Kp (fun a => a = p ∨ a = PL) H8 (upd H2 PL (.lst (xs ++ [.ref t2]))) := by
        intro j Hd hj0 hj1 kd hpd
        obtain ⟨j, rfl⟩ : ∃ k : Nat, j = k := ⟨j.toNat, by omega⟩
        have hjz : M + j < zs.length := by omega
        refine ⟨zs[M + j], ?_, fun t2 H2 sm2 ht2 => ?_⟩
        · have : (zs.map V.str)[M + j]? = some (.str zs[M + j]) := by rw [List.getElem?_map, List.getElem?_eq_getElem hjz]; rfl
          have := atI_nat this
          rw [show ((M + j : Nat) : Int) = (M : Int) + (j : Int) by omega] at this
          exact this
        have hP2 : H2 PL = some (.lst xs) := sm2 _ _ (kd.get hP0 nPp)
        have kU : Kp (fun a => a = PL) H2 (upd H2 PL (.lst (xs ++ [.ref t2]))) := Kp.at rfl hP2
        have hd2 : DvL (fun _ => True) H2 xs (qs.map pairD) := hd0.kp ((kd.weak fun _ _ => trivial).trans (Kp.same sm2))
        refine ⟨hP2, _, _, qs ++ [(zs[i], zs[M + j])], xs ++ [.ref t2], rfl, upd_same, ?_, by rw [List.length_append, hql]; rfl, ?_, ?_, ?_, ?_⟩
        · rw [List.map_append]
          exact (hd2.kp (kU.weak fun _ _ => trivial)).snoc (Dv.tupM (kU.tup ht2) (.cons (.str _) (.cons (.str _) .nil)))
        · rw [List.map_append, hqa, List.take_succ, List.getElem?_take_of_lt hi, List.getElem?_eq_getElem hiz]
          rfl
        · intro q hq
          rcases List.mem_append.mp hq with h | h
          · exact hqb q h
          · rw [List.mem_singleton.mp h]
            refine List.mem_iff_getElem?.mpr ⟨j, ?_⟩
            rw [List.getElem?_take_of_lt (by omega), List.getElem?_drop, List.getElem?_eq_getElem hjz]
        · obtain ⟨a1, b1, c1, g1, r1⟩ := hpd.same sm2
          exact ⟨a1, b1, c1, by rw [upd_ne nPp.symm]; exact g1, r1⟩
        · exact kT0.trans ((kd.weak fun _ => .inl).trans ((Kp.same sm2).trans (kU.weak fun _ => .inr)))
      have hsz : xs.length < sizeLine := by
        have := hd0.len
        rw [List.length_map] at this
        rw [sizeLine_eq]
        omega
      have hD9 : H9 D = some (.lst (zs.map V.str)) := kT0.get (sm8 _ _ hD7) (nI _ nDp nDP)
      refine ⟨T0, _, rfl, .inl (.inl hT1), rfl, _, _, rfl, _, _, rfl, rfl, ?_⟩
      refine ⟨_, rfl, .inl ⟨rfl, _, SqL.of hP0⟩, _, rfl, _, rfl, _, rfl, _, rfl, _, rfl, _, _, rfl, rfl, _, rfl, ite2 (fun hlt => ?_) (fun hge => ?_)⟩
      · have hlt' : ((i : Nat) : Int) < (N : Int) := of_decide_eq_true hlt
        obtain ⟨y, hy, hfin⟩ := fin i H9 (by omega) hlt' Kp.refl (hp0.mono (by omega))
        refine ⟨_, rfl, _, _, rfl, rfl, D, _, _, _, rfl, rfl, SqL.of hD9, hy, by show 2 ≤ sizeLine; decide, fun t2 H2 sm2 ht2 => ?_⟩
        obtain ⟨g1, g2⟩ := hfin t2 H2 sm2 ht2
        exact ⟨PL, _, _, rfl, rfl, g1, hsz, g2⟩
      · refine ⟨_, rfl, _, rfl, p, _, _, rfl, hp0, by omega, by omega, by omega, fun j Hd hj0 hj1 hpd hkd => ?_⟩
        obtain ⟨y, hy, hfin⟩ := fin j Hd hj0 hj1 hkd (hpd.mono (by omega))
        refine ⟨_, _, rfl, rfl, D, _, _, _, rfl, rfl, SqL.of (hkd.get hD9 nDp), hy, by show 2 ≤ sizeLine; decide, fun t2 H2 sm2 ht2 => ?_⟩
        obtain ⟨g1, g2⟩ := hfin t2 H2 sm2 ht2
        exact ⟨PL, _, _, rfl, rfl, g1, hsz, g2⟩
    · rintro σ Hx ⟨v9, v10, qs, xs, rfl, hPx, hdx, hql, hqa, hqb, hpx, kx⟩
      rw [eM] at hql hqa hpx
      rw [List.take_take, Nat.min_self] at hqa
      have hRx : Hx RS = some (.lst ((zs.drop (M + N)).map V.str)) := kx.get (sm8 _ _ hR7) (fun z => z.elim nRp nRP)
      have hSx : Hx SZ = some (.lst [.int u1, .int u2]) := kx.get ((sm7.trans sm8) _ _ hS5) (fun z => z.elim nSp (ne_of_none hS5 hPL))
      have all : ∀ {H1 H2 : Hp} {ds : List PyData} {vs : List V}, Same H1 H2 → DvL (fun _ => True) H1 vs ds → DvL (fun _ => True) H2 vs ds := fun sm d => d.kp (Kp.same sm)
      refine ⟨_, rfl, PL, _, rfl, SqL.of hPx, fun t1 Ha sa ta => ?_⟩
      refine ⟨_, rfl, _, rfl, SZ, _, _, _, rfl, rfl, SqL.of (sa _ _ hSx), rfl, _, rfl, RS, _, rfl, SqL.of (sa _ _ hRx), fun P1 hP1 => ⟨P1, _, rfl, SqL.of upd_same, fun t2 Hb sb tb => ?_⟩⟩
      have sab : Same Ha Hb := (Same.upd hP1).trans sb
      refine ⟨_, rfl, _, rfl, SZ, _, _, _, rfl, rfl, SqL.of ((sa.trans sab) _ _ hSx), rfl, _, rfl, RS, _, rfl, SqL.of ((sa.trans sab) _ _ hRx), fun P2 hP2 => ⟨P2, _, rfl, SqL.of upd_same, fun t3 Hc sc tc => ⟨by show 3 ≤ sizeLine; decide, fun R hR => ?_⟩⟩⟩
      have sbc : Same Hb Hc := (Same.upd hP2).trans sc
      have sR : Same Hc (upd Hc R (.lst [.ref t1, .ref t2, .ref t3])) := Same.upd hR
      rw [cut_take _ _ (by omega : (0 : Int) ≤ (u1 : Int)), Int.toNat_natCast, ← List.map_take] at tb
      rw [cut_drop _ _ (by omega : (0 : Int) ≤ (u1 : Int)), Int.toNat_natCast, ← List.map_drop] at tc
      have kHx : KpP p H Hx := fun b o hb hn => kx b o (k8 b o hb hn) fun z => z.elim hn fun e => by
        have := k5 b o hb hn
        rw [e, hPL] at this
        cases this
      have kHc : KpP p H Hc := kHx.trans (Kp.same (sa.trans (sab.trans sbc)))
      have free : H R = none := by
        cases q : H R with
        | none => rfl
        | some o =>
          exfalso
          by_cases e : R = p
          · obtain ⟨a2, b2, c2, g2, _⟩ := hpx.same (sa.trans (sab.trans sbc))
            rw [e, g2] at hR
            cases hR
          · have := kHc R o q fun z => absurd z e
            rw [hR] at this
            cases this
      refine k R _ _ _ qs ((zs.drop (M + N)).take u1) ((zs.drop (M + N)).drop u1) _ free upd_same (good_of hnd hok hzl' (by omega) (by omega) (by omega) hqa hqb) ?_ ?_ ?_ ?_ ?_
      · intro ex
        exact (Dv.tupM ((Kp.same (ex := fun _ => True) ((sab.trans sbc).trans sR)).tup ta) (all (sa.trans ((sab.trans sbc).trans sR)) hdx)).mono Kp.refl fun _ _ => trivial
      · intro ex
        exact (Dv.tupM ((Kp.same (ex := fun _ => True) (sbc.trans sR)).tup tb) (DvL.strs _)).mono Kp.refl fun _ _ => trivial
      · intro ex
        exact (Dv.tupM ((Kp.same (ex := fun _ => True) sR).tup tc) (DvL.strs _)).mono Kp.refl fun _ _ => trivial
      · exact ((hpx.same (sa.trans ((sab.trans sbc).trans sR)))).mono (by omega)
      · exact kHc.trans (Kp.same sR)
end
end Kx
namespace Kx
open PySem PySem.Spec PyProof.Rows L2
/-! ### what the judges say of data -/
def nameD : PyData → Bool
  | .str s => decide (NameS s)
  | _ => false
def pairOkD : PyData → Bool
  | .tuple [a, b] => nameD a && nameD b
  | _ => false
def namesD (m : Nat) : PyData → Bool
  | .tuple xs => decide (xs.length ≤ m) && xs.all nameD
  | _ => false
def arrsD : PyData → Bool
  | .tuple xs => decide (xs.length ≤ 12) && xs.all pairOkD
  | _ => false
def isStrD : PyData → Bool
  | .str _ => true
  | _ => false
def isTupD : PyData → Bool
  | .tuple _ => true
  | _ => false
def tyD : PyData → String
  | .none => "NoneType"
  | .bool _ => "bool"
  | .int _ => "int"
  | .str _ => "str"
  | .list _ => "list"
  | .tuple _ => "tuple"
  | .dict _ => "dict"
theorem Dv.ty {K : PySem.W.Frag} {ex : Addr → Prop} {H : Hp} {v : V} {d : PyData} (h : Dv ex H v d) : TyX K H v (.type (tyD d)) := by
  cases h with
  | non => exact .base .non
  | bl b => exact .base (.bl b)
  | int i => exact .base (.int i)
  | str x => exact .base (.str x)
  | lst _ e _ => exact .base (.lst e)
  | tup _ e _ => exact .fTuple e
  | dic _ e _ => exact .base (.dK e)
theorem kitS {K : PySem.W.Frag} (d : PyData) : PySem.W.kitOne K (.type (tyD d)) (.type "str") = some (isStrD d) := by
  cases d with
  | none => exact kit_ty (show kitB "NoneType" "str" = some false by decide +kernel)
  | bool _ => exact kit_ty (show kitB "bool" "str" = some false by decide +kernel)
  | int _ => exact kit_ty (show kitB "int" "str" = some false by decide +kernel)
  | str _ => exact kit_ty (show kitB "str" "str" = some true by decide +kernel)
  | list _ => exact kit_ty (show kitB "list" "str" = some false by decide +kernel)
  | tuple _ => exact kit_ty (show kitB "tuple" "str" = some false by decide +kernel)
  | dict _ => exact kit_ty (show kitB "dict" "str" = some false by decide +kernel)
theorem kitT {K : PySem.W.Frag} (d : PyData) : PySem.W.kitOne K (.type (tyD d)) (.type "tuple") = some (isTupD d) := by
  cases d with
  | none => exact kit_ty (show kitB "NoneType" "tuple" = some false by decide +kernel)
  | bool _ => exact kit_ty (show kitB "bool" "tuple" = some false by decide +kernel)
  | int _ => exact kit_ty (show kitB "int" "tuple" = some false by decide +kernel)
  | str _ => exact kit_ty (show kitB "str" "tuple" = some false by decide +kernel)
  | list _ => exact kit_ty (show kitB "list" "tuple" = some false by decide +kernel)
  | tuple _ => exact kit_ty (show kitB "tuple" "tuple" = some true by decide +kernel)
  | dict _ => exact kit_ty (show kitB "dict" "tuple" = some false by decide +kernel)
theorem cost_mem : ∀ {xs : List PyData} {x : PyData}, x ∈ xs → cost x + 2 ≤ costL xs
  | y :: r, x, h => by
    rcases List.mem_cons.mp h with rfl | h
    · simp only [costL]; omega
    · have := cost_mem h
      simp only [costL]; omega
theorem costL_len : ∀ xs : List PyData, 2 * xs.length ≤ costL xs
  | [] => by simp [costL]
  | x :: r => by
    have := costL_len r
    simp only [costL, List.length_cons]; omega
theorem abc_all : ("abcdefghijklmnopqrstuvwxyz" : Str).cps.toList = (List.range 26).map (· + 97) := by decide +kernel
theorem mem_abc (c : Nat) : c ∈ ("abcdefghijklmnopqrstuvwxyz" : Str).cps.toList ↔ 97 ≤ c ∧ c ≤ 122 := by
  rw [abc_all, List.mem_map]
  constructor
  · rintro ⟨i, hi, rfl⟩
    have := List.mem_range.mp hi
    omega
  · intro h
    exact ⟨c - 97, List.mem_range.mpr (by omega), by omega⟩
theorem range_arr {α β : Type} (xs : Array α) (f : α → β) : (List.range xs.size).filterMap (fun i => xs[i]?.map f) = xs.toList.map f := by
  have := range_bind (fun a => some (f a)) xs.toList
  rw [List.filterMap_eq_map', Array.length_toList] at this
  rw [← this]
  refine congrArg (fun g => List.filterMap g _) (funext fun i => ?_)
  rw [Array.getElem?_toList]
  cases xs[i]? <;> rfl
theorem range_list {α β : Type} (xs : List α) (f : α → β) : (List.range xs.length).filterMap (fun i => xs[i]?.map f) = xs.map f := by
  have := range_arr xs.toArray f
  simpa using this
section
variable {P : Program} {w : World} {K : PySem.W.Frag} {mg : Str → Option Value} {base : Heap}
structure Co (mg : Str → Option Value) : Prop where
  LONGEST_NAME : ∃ t, mg "LONGEST_NAME" = some (.int 8 t)
  MAX_ARRAYS : ∃ t, mg "MAX_ARRAYS" = some (.int 12 t)
  MAX_POSITIONS : ∃ t, mg "MAX_POSITIONS" = some (.int 6 t)
  MAX_VALUES : ∃ t, mg "MAX_VALUES" = some (.int 6 t)
/-- the promise of a judge of one datum -/
def spJudge (f : PyData → Bool) : Sp := fun vs H Q _ => ∃ (ex : Addr → Prop) (v : V) (d : PyData), vs = [v] ∧ Dv ex H v d ∧ cost d ≤ 8000000 ∧ ∀ H', Same H H' → Q (.bl (f d)) H'
theorem nameS_iff (s : Str) : NameS s ↔ (1 ≤ s.length ∧ s.length ≤ 8) ∧ (s.cps.toList.map fun c => decide (c ∈ ("abcdefghijklmnopqrstuvwxyz" : Str).cps.toList)).all id = true := by
  unfold NameS
  rw [List.all_map, List.all_eq_true]
  constructor
  · rintro ⟨h1, h2, h3⟩
    exact ⟨⟨h1, h2⟩, fun c hc => decide_eq_true ((mem_abc c).mpr (h3 c hc))⟩
  · rintro ⟨⟨h1, h2⟩, h3⟩
    exact ⟨h1, h2, fun c hc => (mem_abc c).mp (of_decide_eq_true (h3 c hc))⟩
theorem nameD_all (z : Str) (hh : 1 ≤ z.length ∧ z.length ≤ 8) : nameD (.str z) = (z.cps.toList.map fun c => decide (c ∈ ("abcdefghijklmnopqrstuvwxyz" : Str).cps.toList)).all id := by
  show decide (NameS z) = _
  cases hB : (z.cps.toList.map fun c => decide (c ∈ ("abcdefghijklmnopqrstuvwxyz" : Str).cps.toList)).all id with
  | true => exact decide_eq_true ((nameS_iff z).mpr ⟨hh, hB⟩)
  | false =>
    refine decide_eq_false fun q => ?_
    have := ((nameS_iff z).mp q).2
    rw [hB] at this
    cases this
theorem ascii_tab : ∀ c : Nat, c < 128 → (Unicode.isAlpha c = (decide (97 ≤ c ∧ c ≤ 122) || decide (65 ≤ c ∧ c ≤ 90))) ∧ (Unicode.isLower c = decide (97 ≤ c ∧ c ≤ 122)) ∧ (Unicode.isUpper c = decide (65 ≤ c ∧ c ≤ 90)) ∧ Unicode.isTitle c = false := by
  decide +kernel
theorem low_iff (z : Str) (hh : 1 ≤ z.length) : (Txt.isascii z && (Txt.isalpha z && Txt.islower z)) = true ↔ ∀ c ∈ z.cps.toList, 97 ≤ c ∧ c ≤ 122 := by
  have hz : z.cps.toList.length = z.length := by rw [Array.length_toList]; rfl
  unfold Txt.isascii Txt.isalpha Txt.islower
  rw [← Array.all_toList, ← Array.all_toList, ← Array.any_toList, ← Array.any_toList]
  simp only [Bool.and_eq_true, Bool.not_eq_true', List.all_eq_true, List.any_eq_true, List.any_eq_false, decide_eq_true_eq]
  constructor
  · rintro ⟨h1, ⟨_, h2⟩, h3, h4⟩ c hc
    have t := ascii_tab c (h1 c hc)
    have a := h2 c hc
    have b := h4 c hc
    rw [t.2.2.1, t.2.2.2, Bool.or_false] at b
    rw [t.1] at a
    simp only [Bool.or_eq_true, decide_eq_true_eq] at a b
    omega
  · intro h
    refine ⟨fun c hc => by have := h c hc; omega, ⟨hh, fun c hc => ?_⟩, ?_, fun c hc => ?_⟩
    · have := h c hc
      rw [(ascii_tab c (by omega)).1, decide_eq_true this]; rfl
    · obtain ⟨c, hc⟩ : ∃ c, c ∈ z.cps.toList := by
        cases e : z.cps.toList with
        | nil => rw [e] at hz; simp at hz; omega
        | cons c r => exact ⟨c, List.mem_cons_self⟩
      have := h c hc
      exact ⟨c, hc, by rw [(ascii_tab c (by omega)).2.1, decide_eq_true this]⟩
    · have := h c hc
      have t := ascii_tab c (by omega)
      rw [t.2.2.1, t.2.2.2, decide_eq_false (by omega)]; decide
theorem nameD_low (z : Str) (hh : 1 ≤ z.length ∧ z.length ≤ 8) : nameD (.str z) = (Txt.isascii z && (Txt.isalpha z && Txt.islower z)) := by
  show decide (NameS z) = _
  rw [Bool.eq_iff_iff, low_iff z hh.1, decide_eq_true_iff]
  exact ⟨fun h => h.2.2, fun h => ⟨hh.1, hh.2, h⟩⟩
theorem pairOkD_eq (ds : List PyData) : pairOkD (.tuple ds) = (decide (ds.length = 2) && ds.all nameD) := by
  match ds with
  | [] => rfl
  | [a] => rfl
  | [a, b] => simp [pairOkD]
  | a :: b :: c :: r => simp [pairOkD]
abbrev N_is_name : List Str := ["value"]
abbrev P_is_name : List Str := ["value"]
theorem sc_is_name : FnScope N_is_name P_is_name (defScope s_is_name) := ⟨rfl, rfl, rfl, by decide +kernel, rfl, by decide +kernel, by decide +kernel⟩
theorem ok_is_name (T : Bt mg) (C : Co mg) (h : Has K mg "is_name" s_is_name) : Ca P w K mg base 1 "is_name" P_is_name (spJudge nameD) := by
  obtain ⟨_, gN⟩ := C.LONGEST_NAME
  refine cal_of h sc_is_name (fun _ _ _ _ _ _ us hl => match us, hl with | [_], _ => rfl) (fun vs H Q E h => ?_) (fun f cdv A outer s H vs Q E hr h => ?_)
  · obtain ⟨ex, v, d, rfl, _⟩ := h
    rfl
  · obtain ⟨ex, v, d, rfl, dv, hc, k⟩ := h
    refine ⟨_, (pss_cons (ps_if (PW.pt (pw_or (pt_not (pt_val (pe_callB call_isi (by rfl) T.isinstance (by decide +kernel) (pa_cons (pv 0) (pa_cons (pe_bltn (v := .ty "str") (by rfl) T.str (by decide +kernel) rfl) pa_nil))))) (pw_or1 (pt_not (pt_chain op_le op_le pe_int (pe_callB call_len (by rfl) T.len (by decide +kernel) (pa_cons (pv 0) pa_nil)) (pe_glob (v := .int 8) rfl gN ⟨_, rfl⟩)))))) (pss_one (ps_ret pe_bl)) pss_nil)
      (pss_one (ps_ret (pe_and (pe_m0 PySem.F.slot_str_isascii PySem.F.type_str_isascii mt_isascii (pv 0)) (pe_and (pe_m0 PySem.F.slot_str_isalpha PySem.F.type_str_isalpha mt_isalpha (pv 0)) (pe_one (pe_m0 PySem.F.slot_str_islower PySem.F.type_str_islower mt_islower (pv 0)))))))), ?_⟩
    refine ⟨_, rfl, _, _, _, _, _, rfl, .ty _, dv.ty, kitS d, _, rfl, ?_⟩
    have no : isStrD d = false → nameD d = false := fun e => by cases d <;> first | rfl | cases e
    cases e : isStrD d with
    | false =>
      refine iteT ?_
      have := k H Same.refl
      rw [no e] at this
      exact iteT this
    | true =>
      refine iteF ?_
      obtain ⟨z, rfl⟩ : ∃ z, d = .str z := by cases d <;> first | exact ⟨_, rfl⟩ | cases e
      cases dv.strI
      have hz : z.length ≤ sizeLine := by
        simp only [cost] at hc
        rw [sizeLine_eq]; omega
      have bad : ¬ (1 ≤ z.length ∧ z.length ≤ 8) → nameD (.str z) = false := fun n => decide_eq_false fun q => n ⟨q.1, q.2.1⟩
      refine ⟨_, rfl, _, _, rfl, ⟨hz, rfl⟩, _, _, rfl, rfl, _, rfl, ?_⟩
      by_cases h1 : (1 : Int) ≤ (z.length : Int)
      · rw [decide_eq_true h1]
        refine iteT ⟨_, _, rfl, rfl, _, rfl, ?_⟩
        by_cases h2 : (z.length : Int) ≤ 8
        · rw [decide_eq_true h2]
          refine iteF ?_
          have := k H Same.refl
          rw [nameD_low z (by omega)] at this
          refine ⟨_, rfl, ⟨_, rfl⟩, _, rfl, rfl, trivial, _, rfl, ?_⟩
          cases e1 : Txt.isascii z with
          | false => rw [e1] at this; exact iteF this
          | true =>
            rw [e1, Bool.true_and] at this
            refine iteT ⟨_, rfl, ⟨_, rfl⟩, _, rfl, rfl, trivial, _, rfl, ?_⟩
            cases e2 : Txt.isalpha z with
            | false => rw [e2] at this; exact iteF this
            | true =>
              rw [e2, Bool.true_and] at this
              exact iteT ⟨_, rfl, ⟨_, rfl⟩, _, rfl, rfl, trivial, this⟩
        · rw [decide_eq_false h2]
          have := k H Same.refl
          rw [bad (by omega)] at this
          exact iteT this
      · rw [decide_eq_false h1]
        have := k H Same.refl
        rw [bad (by omega)] at this
        exact iteF ⟨_, rfl, iteT this⟩
theorem namesD_tup (m : Nat) (ds : List PyData) : namesD m (.tuple ds) = (decide (ds.length ≤ m) && ds.all nameD) := rfl
/-- all([f(part) for part in t]) -/
abbrev N_are_names : List Str := ["value", "most", "part"]
abbrev P_are_names : List Str := ["value", "most"]
theorem sc_are_names : FnScope N_are_names P_are_names (defScope s_are_names) := ⟨rfl, rfl, rfl, by decide +kernel, rfl, by decide +kernel, by decide +kernel⟩
def spAreNames : Sp := fun vs H Q _ => ∃ (ex : Addr → Prop) (v : V) (d : PyData) (m : Nat), vs = [v, .int m] ∧ Dv ex H v d ∧ cost d ≤ 8000000 ∧ ∀ H', Same H H' → Q (.bl (namesD m d)) H'
theorem ok_are_names (T : Bt mg) (h : Has K mg "_are_names" s_are_names) (C1 : Ca P w K mg base 1 "is_name" P_is_name (spJudge nameD)) : Ca P w K mg base 2 "_are_names" P_are_names spAreNames := by
  obtain ⟨_, _, c_is_name⟩ := C1
  refine cal_of h sc_are_names (fun _ _ _ _ _ _ us hl => match us, hl with | [_, _], _ => rfl) (fun vs H Q E h => ?_) (fun f cdv A outer s H vs Q E hr h => ?_)
  · obtain ⟨ex, v, d, m, rfl, _⟩ := h
    rfl
  · obtain ⟨ex, v, d, m, rfl, dv, hc, k⟩ := h
    refine ⟨_, (pss_one (ps_ret (pe_and (pe_callB call_isi (by rfl) T.isinstance (by decide +kernel) (pa_cons (pv 0) (pa_cons (pe_bltn (v := .ty "tuple") (by rfl) T.tuple (by decide +kernel) rfl) pa_nil))) (pe_and (pe_cmpR op_le (pe_callB call_len (by rfl) T.len (by decide +kernel) (pa_cons (pv 0) pa_nil)) (pv 1) (nomark _)) (pe_one (pe_callB (cr_all rfl) (by rfl) T.all (by decide +kernel) (pa_cons (pe_lc (own := [("part", 2)]) (g := (gName 2)) (tt := tYes) (by rfl) sc_are_names.nd (pi_tup (pv 0)) (blkOk_by (own := [("part", 2)]) (N := ["value", "most", "part"]) (sc := defScope s_are_names) (by decide +kernel)) (fun _ _ _ _ _ => pg_name (i := 2) sc_are_names.nd rfl (Or.inl rfl)) (fun _ _ _ _ _ => pts_nil) (fun _ _ _ _ _ => (pe_call c_is_name.1 (hr.mono (by decide)) rfl c_is_name.2.1 c_is_name.2.2.1 c_is_name.2.2.2 .nil pass0 (pa_cons (pv 2) pa_nil)))) pa_nil))))))), ?_⟩
    refine ⟨_, rfl, _, _, _, _, _, rfl, .ty _, dv.ty, kitT d, _, rfl, ?_⟩
    cases e : isTupD d with
    | false =>
      have no : namesD m d = false := by cases d <;> first | rfl | cases e
      have := k H Same.refl
      rw [no] at this
      exact iteF this
    | true =>
      obtain ⟨ds, rfl⟩ : ∃ ds, d = .tuple ds := by cases d <;> first | exact ⟨_, rfl⟩ | cases e
      obtain ⟨a, xs, rfl, ht, dl⟩ := dv.tupI
      have hl := dl.len
      simp only [cost] at hc
      have hl2 := costL_len ds
      refine iteT ⟨_, rfl, _, _, rfl, .inr ⟨_, ht.sq, rfl⟩, _, rfl, _, _, rfl, rfl, _, rfl, ?_⟩
      by_cases hm : (xs.length : Int) ≤ (m : Int)
      · rw [decide_eq_true hm]
        refine iteT ⟨_, rfl, a, rfl, ⟨_, ht.sq⟩, fun D hD => lc_o (walk_tup (K := K) (a := a) (xs := xs)) (fun i => ds[i]?.map fun e => V.bl (nameD e)) (by rw [sizeLine_eq]; omega) hD (fun Hx sm => ((Kp.same (ex := ex) sm).tup ht).sq) ?_ ?_⟩
        · rintro i x Hx H' Nx hi sm hDx ⟨rfl, hx⟩ hno hyes
          obtain ⟨e, he, dve⟩ := dl.get hx
          refine ⟨rfl, yes ⟨_, rfl, ex, x, e, rfl, dve.kp (Kp.same sm), ?_, fun H2 sm2 => ?_⟩⟩
          · have := cost_mem (List.mem_of_getElem? he)
            omega
          · exact hyes _ (by rw [he]; rfl) _ sm2
        · intro Hx sm hDx
          rw [hl, range_list, show (ds.map fun e => V.bl (nameD e)) = (ds.map nameD).map V.bl by rw [List.map_map]; rfl] at hDx
          refine ⟨D, _, rfl, SqL.of hDx, ?_⟩
          have := k Hx sm
          rw [namesD_tup, decide_eq_true (by omega : ds.length ≤ m), Bool.true_and] at this
          rw [List.all_map]
          exact this
      · rw [decide_eq_false hm]
        have := k H Same.refl
        rw [namesD_tup, decide_eq_false (by omega : ¬ ds.length ≤ m), Bool.false_and] at this
        exact iteF this
abbrev N_is_array : List Str := ["value"]
abbrev P_is_array : List Str := ["value"]
theorem sc_is_array : FnScope N_is_array P_is_array (defScope s_is_array) := ⟨rfl, rfl, rfl, by decide +kernel, rfl, by decide +kernel, by decide +kernel⟩
theorem ok_is_array (T : Bt mg) (h : Has K mg "_is_array" s_is_array) (C1 : Ca P w K mg base 2 "_are_names" P_are_names spAreNames) : Ca P w K mg base 3 "_is_array" P_is_array (spJudge pairOkD) := by
  obtain ⟨_, _, c__are_names⟩ := C1
  refine cal_of h sc_is_array (fun _ _ _ _ _ _ us hl => match us, hl with | [_], _ => rfl) (fun vs H Q E h => ?_) (fun f cdv A outer s H vs Q E hr h => ?_)
  · obtain ⟨ex, v, d, rfl, _⟩ := h
    rfl
  · obtain ⟨ex, v, d, rfl, dv, hc, k⟩ := h
    refine ⟨_, (pss_one (ps_ret (pe_and (pe_callB call_isi (by rfl) T.isinstance (by decide +kernel) (pa_cons (pv 0) (pa_cons (pe_bltn (v := .ty "tuple") (by rfl) T.tuple (by decide +kernel) rfl) pa_nil))) (pe_and (pe_cmpR op_eq (pe_callB call_len (by rfl) T.len (by decide +kernel) (pa_cons (pv 0) pa_nil)) pe_int (nomark _)) (pe_one (pe_call c__are_names.1 (hr.mono (by decide)) rfl c__are_names.2.1 c__are_names.2.2.1 c__are_names.2.2.2 .nil pass0 (pa_cons (pv 0) (pa_cons pe_int pa_nil)))))))), ?_⟩
    refine ⟨_, rfl, _, _, _, _, _, rfl, .ty _, dv.ty, kitT d, _, rfl, ?_⟩
    cases e : isTupD d with
    | false =>
      have no : pairOkD d = false := by cases d <;> first | rfl | cases e
      have := k H Same.refl
      rw [no] at this
      exact iteF this
    | true =>
      obtain ⟨ds, rfl⟩ : ∃ ds, d = .tuple ds := by cases d <;> first | exact ⟨_, rfl⟩ | cases e
      obtain ⟨a, xs, rfl, ht, dl⟩ := dv.tupI
      have hl := dl.len
      have at_ : ∀ H', Same H H' → Q (.bl (decide (ds.length = 2) && ds.all nameD)) H' := fun H' sm => by
        have := k H' sm
        rw [pairOkD_eq] at this
        exact this
      refine iteT ⟨_, rfl, _, _, rfl, .inr ⟨_, ht.sq, rfl⟩, rfl, _, rfl, ?_⟩
      by_cases h2 : xs.length = 2
      · rw [decide_eq_true (show V.int (xs.length : Int) = V.int 2 by rw [h2]; rfl)]
        refine iteT ⟨_, rfl, ex, _, _, 2, rfl, dv, hc, fun H2 sm => ?_⟩
        have := at_ H2 sm
        rw [decide_eq_true (by omega : ds.length = 2)] at this
        rw [namesD_tup, decide_eq_true (by omega : ds.length ≤ 2)]
        exact this
      · rw [decide_eq_false (fun q : V.int (xs.length : Int) = V.int 2 => h2 (by injection q with q; omega))]
        have := at_ H Same.refl
        rw [decide_eq_false (by omega : ¬ ds.length = 2)] at this
        exact iteF this
abbrev N_are_arrays : List Str := ["value", "part"]
abbrev P_are_arrays : List Str := ["value"]
theorem sc_are_arrays : FnScope N_are_arrays P_are_arrays (defScope s_are_arrays) := ⟨rfl, rfl, rfl, by decide +kernel, rfl, by decide +kernel, by decide +kernel⟩
theorem ok_are_arrays (T : Bt mg) (C : Co mg) (h : Has K mg "_are_arrays" s_are_arrays) (C1 : Ca P w K mg base 3 "_is_array" P_is_array (spJudge pairOkD)) : Ca P w K mg base 4 "_are_arrays" P_are_arrays (spJudge arrsD) := by
  obtain ⟨_, gM⟩ := C.MAX_ARRAYS
  obtain ⟨_, _, c__is_array⟩ := C1
  refine cal_of h sc_are_arrays (fun _ _ _ _ _ _ us hl => match us, hl with | [_], _ => rfl) (fun vs H Q E h => ?_) (fun f cdv A outer s H vs Q E hr h => ?_)
  · obtain ⟨ex, v, d, rfl, _⟩ := h
    rfl
  · obtain ⟨ex, v, d, rfl, dv, hc, k⟩ := h
    refine ⟨_, (pss_one (ps_ret (pe_and (pe_callB call_isi (by rfl) T.isinstance (by decide +kernel) (pa_cons (pv 0) (pa_cons (pe_bltn (v := .ty "tuple") (by rfl) T.tuple (by decide +kernel) rfl) pa_nil))) (pe_and (pe_cmpR op_le (pe_callB call_len (by rfl) T.len (by decide +kernel) (pa_cons (pv 0) pa_nil)) (pe_glob (v := .int 12) rfl gM ⟨_, rfl⟩) (nomark _)) (pe_one (pe_callB (cr_all rfl) (by rfl) T.all (by decide +kernel) (pa_cons (pe_lc (own := [("part", 1)]) (g := (gName 1)) (tt := tYes) (by rfl) sc_are_arrays.nd (pi_tup (pv 0)) (blkOk_by (own := [("part", 1)]) (N := ["value", "part"]) (sc := defScope s_are_arrays) (by decide +kernel)) (fun _ _ _ _ _ => pg_name (i := 1) sc_are_arrays.nd rfl (Or.inl rfl)) (fun _ _ _ _ _ => pts_nil) (fun _ _ _ _ _ => (pe_call c__is_array.1 (hr.mono (by decide)) rfl c__is_array.2.1 c__is_array.2.2.1 c__is_array.2.2.2 .nil pass0 (pa_cons (pv 1) pa_nil)))) pa_nil))))))), ?_⟩
    refine ⟨_, rfl, _, _, _, _, _, rfl, .ty _, dv.ty, kitT d, _, rfl, ?_⟩
    cases e : isTupD d with
    | false =>
      have no : arrsD d = false := by cases d <;> first | rfl | cases e
      have := k H Same.refl
      rw [no] at this
      exact iteF this
    | true =>
      obtain ⟨ds, rfl⟩ : ∃ ds, d = .tuple ds := by cases d <;> first | exact ⟨_, rfl⟩ | cases e
      obtain ⟨a, xs, rfl, ht, dl⟩ := dv.tupI
      have hl := dl.len
      simp only [cost] at hc
      have hl2 := costL_len ds
      have eq : arrsD (.tuple ds) = (decide (ds.length ≤ 12) && ds.all pairOkD) := rfl
      refine iteT ⟨_, rfl, _, _, rfl, .inr ⟨_, ht.sq, rfl⟩, _, _, rfl, rfl, _, rfl, ?_⟩
      by_cases hm : (xs.length : Int) ≤ 12
      · rw [decide_eq_true hm]
        refine iteT ⟨_, rfl, a, rfl, ⟨_, ht.sq⟩, fun D hD => lc_o (walk_tup (K := K) (a := a) (xs := xs)) (fun i => ds[i]?.map fun e => V.bl (pairOkD e)) (by rw [sizeLine_eq]; omega) hD (fun Hx sm => ((Kp.same (ex := ex) sm).tup ht).sq) ?_ ?_⟩
        · rintro i x Hx H' Nx hi sm hDx ⟨rfl, hx⟩ hno hyes
          obtain ⟨e, he, dve⟩ := dl.get hx
          refine ⟨rfl, yes ⟨_, rfl, ex, x, e, rfl, dve.kp (Kp.same sm), ?_, fun H2 sm2 => ?_⟩⟩
          · have := cost_mem (List.mem_of_getElem? he)
            omega
          · exact hyes _ (by rw [he]; rfl) _ sm2
        · intro Hx sm hDx
          rw [hl, range_list, show (ds.map fun e => V.bl (pairOkD e)) = (ds.map pairOkD).map V.bl by rw [List.map_map]; rfl] at hDx
          refine ⟨D, _, rfl, SqL.of hDx, ?_⟩
          have := k Hx sm
          rw [eq, decide_eq_true (by omega : ds.length ≤ 12), Bool.true_and] at this
          rw [List.all_map]
          exact this
      · rw [decide_eq_false hm]
        have := k H Same.refl
        rw [eq, decide_eq_false (by omega : ¬ ds.length ≤ 12), Bool.false_and] at this
        exact iteF this
end
end Kx
namespace Kx
open PySem PySem.Spec PyProof.Rows L2
/-! ### dicts by texts -/
def dictV (l : List (Str × V)) : List (Key × V) := mergeK [] (l.map fun q => (Sum.inr q.1, q.2))
theorem dictV_snoc (l : List (Str × V)) (q : Str × V) : dictV (l ++ [q]) = putK (dictV l) (.inr q.1) q.2 := by
  unfold dictV mergeK
  rw [List.map_append, List.foldl_append]
  rfl
theorem dictV_take (l : List (Str × V)) (i : Nat) (h : i < l.length) : dictV (l.take (i + 1)) = putK (dictV (l.take i)) (.inr l[i].1) l[i].2 := by
  rw [List.take_succ, List.getElem?_eq_getElem h]
  exact dictV_snoc _ _
theorem putK_in {kvs : List (Key × V)} {k : Key} (v : V) (h : k ∈ kvs.map (·.1)) : (putK kvs k v).map (·.1) = kvs.map (·.1) := by
  have h2 : (kvs.any fun kv => decide (kv.1 = k)) = true := by
    obtain ⟨q, hq, e⟩ := List.mem_map.mp h
    exact List.any_eq_true.mpr ⟨q, hq, decide_eq_true e⟩
  unfold putK
  rw [if_pos h2, List.map_map]
  refine List.map_congr_left fun q _ => ?_
  show (if q.1 = k then (q.1, v) else q).1 = q.1
  split <;> rfl
theorem putK_out {kvs : List (Key × V)} {k : Key} (v : V) (h : ¬ k ∈ kvs.map (·.1)) : (putK kvs k v).map (·.1) = kvs.map (·.1) ++ [k] := by
  have h2 : ¬ (kvs.any fun kv => decide (kv.1 = k)) = true := fun z => h (by
    obtain ⟨q, hq, e⟩ := List.any_eq_true.mp z
    exact List.mem_map.mpr ⟨q, hq, of_decide_eq_true e⟩)
  unfold putK
  rw [if_neg h2, List.map_append]
  rfl
theorem putK_len (kvs : List (Key × V)) (k : Key) (v : V) : (putK kvs k v).length ≤ kvs.length + 1 := by
  unfold putK
  split
  · rw [List.length_map]; omega
  · rw [List.length_append]; exact Nat.le_refl _
theorem uniq_snoc (l : List Str) (x : Str) : uniq (l ++ [x]) = uniqF (uniq l) x := by
  unfold uniq
  rw [List.foldl_append]
  rfl
theorem snoc_ind {α : Type} {p : List α → Prop} (h0 : p []) (hs : ∀ l a, p l → p (l ++ [a])) : ∀ l, p l := fun l => by
  have : ∀ r : List α, p r.reverse := fun r => by
    induction r with
    | nil => exact h0
    | cons a r ih => rw [List.reverse_cons]; exact hs _ _ ih
  have := this l.reverse
  rw [List.reverse_reverse] at this
  exact this
theorem dictV_keys (l : List (Str × V)) : (dictV l).map (·.1) = (uniq (l.map (·.1))).map Sum.inr := by
  refine snoc_ind (p := fun l => (dictV l).map (·.1) = (uniq (l.map (·.1))).map Sum.inr) rfl (fun l q ih => ?_) l
  rw [dictV_snoc, List.map_append]
  show _ = (uniq (l.map (·.1) ++ [q.1])).map Sum.inr
  rw [uniq_snoc, uniqF]
  by_cases h : q.1 ∈ uniq (l.map (·.1))
  · rw [if_pos h, putK_in _ (by rw [ih]; exact List.mem_map.mpr ⟨_, h, rfl⟩)]
    exact ih
  · rw [if_neg h, putK_out _ (fun z => h (by
      rw [ih] at z
      obtain ⟨a, ha, e⟩ := List.mem_map.mp z
      cases e
      exact ha)), List.map_append, ih]
    rfl
theorem dictV_len (l : List (Str × V)) : (dictV l).length = (uniq (l.map (·.1))).length := by
  have := congrArg List.length (dictV_keys l)
  rw [List.length_map, List.length_map] at this
  exact this
theorem dictV_le (l : List (Str × V)) : (dictV l).length ≤ l.length := by
  rw [dictV_len]
  have := uniq_len (l.map (·.1))
  rw [List.length_map] at this
  exact this
/-- where all entries of a name agree -/
theorem dictV_val (g : Str → V) (l : List (Str × V)) : (∀ q ∈ l, q.2 = g q.1) → ∀ z, valV (dictV l) (.inr z) = if z ∈ l.map (·.1) then some (g z) else none := by
  refine snoc_ind (p := fun l => (∀ q ∈ l, q.2 = g q.1) → ∀ z, valV (dictV l) (.inr z) = if z ∈ l.map (·.1) then some (g z) else none) (fun _ z => by simp [dictV, mergeK, valV]) (fun l q ih h z => ?_) l
  rw [dictV_snoc, valV_put, ih (fun q hq => h q (List.mem_append.mpr (.inl hq))) z]
  simp only [List.map_append, List.mem_append]
  by_cases e : z = q.1
  · subst e
    rw [if_pos rfl, if_pos (.inr (List.mem_singleton.mpr rfl)), h q (List.mem_append.mpr (.inr (List.mem_singleton.mpr rfl)))]
  · rw [if_neg (fun w => e (Sum.inr.inj w))]
    have : (z ∈ l.map (·.1) ∨ z ∈ [q].map (·.1)) ↔ z ∈ l.map (·.1) := ⟨fun w => w.elim id fun w => absurd (List.mem_singleton.mp w) e, .inl⟩
    simp only [this]
theorem uniq_full (l : List Str) : l.length ≤ (uniq l).length → l.Nodup := by
  refine snoc_ind (p := fun l => l.length ≤ (uniq l).length → l.Nodup) (fun _ => List.nodup_nil) (fun l x ih h => ?_) l
  rw [uniq_snoc, List.length_append] at h
  have h1 := uniqF_len (uniq l) x
  have h2 := uniq_len l
  have hx : ¬ x ∈ uniq l := fun hx => by
    rw [uniqF, if_pos hx] at h
    simp only [List.length_cons, List.length_nil] at h
    omega
  simp only [List.length_cons, List.length_nil] at h
  have hl := ih (by omega)
  exact List.nodup_append.mpr ⟨hl, List.nodup_cons.mpr ⟨List.not_mem_nil, List.nodup_nil⟩, fun a ha b hb e => hx ((uniq_mem l x).mpr (by rw [List.mem_singleton.mp hb] at e; exact e ▸ ha))⟩
/-! ### the names of a frame -/
abbrev allN (ps : List (Str × Str)) (ns vs : List Str) : List Str := ps.map (·.1) ++ (uniq (ps.map (·.2)) ++ (ns ++ vs))
def kl (ps : List (Str × Str)) (ns vs : List Str) : List (Str × V) :=
  ps.flatMap (fun q => [(q.1, V.str "array"), (q.2, V.str "length")]) ++ (ns.map (fun z => (z, V.str "position")) ++ vs.map fun z => (z, V.str "value"))
theorem kl_mem (ps : List (Str × Str)) (ns vs : List Str) (z : Str) : z ∈ (kl ps ns vs).map (·.1) ↔ z ∈ allN ps ns vs := by
  unfold kl allN
  simp only [List.map_append, List.mem_append, List.map_map, List.mem_map, List.mem_flatMap, uniq_mem, List.mem_cons, Function.comp]
  constructor
  · rintro (⟨a, ⟨q, hq, h | h | h⟩, rfl⟩ | ⟨a, ha, rfl⟩ | ⟨a, ha, rfl⟩)
    · subst h; exact .inl ⟨q, hq, rfl⟩
    · subst h; exact .inr (.inl ⟨q, hq, rfl⟩)
    · cases h
    · exact .inr (.inr (.inl ha))
    · exact .inr (.inr (.inr ha))
  · rintro (⟨q, hq, rfl⟩ | ⟨q, hq, rfl⟩ | h | h)
    · exact .inl ⟨_, ⟨q, hq, .inl rfl⟩, rfl⟩
    · exact .inl ⟨_, ⟨q, hq, .inr (.inl rfl)⟩, rfl⟩
    · exact .inr (.inl ⟨z, h, rfl⟩)
    · exact .inr (.inr ⟨z, h, rfl⟩)
theorem kinds_count (ps : List (Str × Str)) (ns vs : List Str) : (dictV (kl ps ns vs)).length ≤ (allN ps ns vs).length ∧ ((allN ps ns vs).length ≤ (dictV (kl ps ns vs)).length ↔ (allN ps ns vs).Nodup) := by
  rw [dictV_len]
  have e1 : (uniq ((kl ps ns vs).map (·.1))).length ≤ (uniq (allN ps ns vs)).length := nodup_le _ _ (uniq_nd _) fun x hx => (uniq_mem _ _).mpr ((kl_mem _ _ _ _).mp ((uniq_mem _ _).mp hx))
  have e2 : (uniq (allN ps ns vs)).length ≤ (uniq ((kl ps ns vs).map (·.1))).length := nodup_le _ _ (uniq_nd _) fun x hx => (uniq_mem _ _).mpr ((kl_mem _ _ _ _).mpr ((uniq_mem _ _).mp hx))
  have e3 := uniq_len (allN ps ns vs)
  refine ⟨by omega, fun h => uniq_full _ (by omega), fun h => ?_⟩
  have := nodup_le _ (uniq (allN ps ns vs)) h fun x hx => (uniq_mem _ _).mpr hx
  omega
section
variable {P : Program} {w : World} {K : PySem.W.Frag} {mg : Str → Option Value} {base : Heap}
abbrev N_kinds_of : List Str := ["arrays", "positions", "values", "kinds", "array", "length", "name"]
abbrev P_kinds_of : List Str := ["arrays", "positions", "values"]
theorem sc_kinds_of : FnScope N_kinds_of P_kinds_of (defScope s_kinds_of) := ⟨rfl, rfl, rfl, by decide +kernel, rfl, by decide +kernel, by decide +kernel⟩
def spKinds : Sp := fun vs H Q _ => ∃ (ex : Addr → Prop) (x y z : V) (ps : List (Str × Str)) (ns us : List Str), vs = [x, y, z] ∧ Dv ex H x (.tuple (ps.map pairD)) ∧ Dv ex H y (.tuple (ns.map .str)) ∧ Dv ex H z (.tuple (us.map .str)) ∧ ps.length ≤ 100 ∧ ns.length ≤ 100 ∧ us.length ≤ 100 ∧
  ∀ (D : Addr) (H' : Hp), H D = none → Same H H' → H' D = some (.dK (dictV (kl ps ns us))) → Q (.ref D) H'
theorem flatMap_take (ps : List (Str × Str)) (i : Nat) (h : i < ps.length) : ((ps.take (i + 1)).flatMap fun q => [(q.1, V.str "array"), (q.2, V.str "length")]) = (((ps.take i).flatMap fun q => [(q.1, V.str "array"), (q.2, V.str "length")]) ++ [(ps[i].1, V.str "array")]) ++ [(ps[i].2, V.str "length")] := by
  rw [List.take_succ, List.getElem?_eq_getElem h, List.flatMap_append, List.append_assoc]
  rfl
theorem flat_len (ps : List (Str × Str)) : (ps.flatMap fun q => [(q.1, V.str "array"), (q.2, V.str "length")]).length = 2 * ps.length := by
  induction ps with
  | nil => rfl
  | cons q r ih => rw [List.flatMap_cons, List.length_append, ih]; simp; omega
theorem ok_kinds (T : Bt mg) (h : Has K mg "_kinds_of" s_kinds_of) : Ca P w K mg base 1 "_kinds_of" P_kinds_of spKinds := by
  refine cal_of h sc_kinds_of (fun _ _ _ _ _ _ us hl => match us, hl with | [_, _, _], _ => rfl) (fun vs H Q E h => ?_) (fun f cdv A outer s H vs Q E hr h => ?_)
  · obtain ⟨ex, x, y, z, ps, ns, us, rfl, _⟩ := h
    rfl
  · obtain ⟨ex, x, y, z, ps, ns, us, rfl, dx, dy, dz, l1, l2, l3, k⟩ := h
    obtain ⟨a1, x1, rfl, t1, d1⟩ := dx.tupI
    obtain ⟨a2, x2, rfl, t2, d2⟩ := dy.tupI
    obtain ⟨a3, x3, rfl, t3, d3⟩ := dz.tupI
    have n1 := d1.len
    have n2 := d2.len
    have n3 := d3.len
    rw [List.length_map] at n1 n2 n3
    refine ⟨_, (pss_cons (ps_set (i := 3) sc_kinds_of.nd rfl (.inl rfl) pe_dnewK)
      (pss_cons (ps_for PassesOwn.never rfl (pi_tup (pv 0)) (pg_tup (by rfl) (pgs_cons (pg_name (i := 4) sc_kinds_of.nd rfl (.inl rfl)) (pgs_cons (pg_name (i := 5) sc_kinds_of.nd rfl (.inl rfl)) pgs_nil)))
        (pss_cons (ps_dput (hu_of hr) (pv 3) (pv 4) pe_str rfl)
        (pss_one (ps_dput (hu_of hr) (pv 3) (pv 5) pe_str rfl))))
      (pss_cons (ps_for PassesOwn.never rfl (pi_tup (pv 1)) (pg_name (i := 6) sc_kinds_of.nd rfl (.inl rfl))
        (pss_one (ps_dput (hu_of hr) (pv 3) (pv 6) pe_str rfl)))
      (pss_cons (ps_for PassesOwn.never rfl (pi_tup (pv 2)) (pg_name (i := 6) sc_kinds_of.nd rfl (.inl rfl))
        (pss_one (ps_dput (hu_of hr) (pv 3) (pv 6) pe_str rfl)))
      (pss_one (ps_ret (pv 3))))))), ?_⟩
    refine fun D hD => ?_
    have kt : ∀ {Hx : Hp} {a : Addr} {xs : List V}, Same H Hx → TupF H a xs → SqT K Hx a xs := fun sm t => ((Kp.same (ex := ex) sm).tup t).sq
    have up : ∀ {Hx : Hp} {o : HO}, Same H Hx → Same H (upd Hx D o) := fun {Hx o} sm b u e => by
      rw [upd_ne (ne_of_none e hD)]
      exact sm b u e
    have room : ∀ n : Nat, n ≤ 400 → n < sizeLine := fun n h => by rw [sizeLine_eq]; omega
    refine ⟨_, rfl, a1, rfl, ⟨_, kt (Same.upd hD) t1⟩, for_it (walk_tup (K := K) (a := a1) (xs := x1)) (fun i σ Hx => ∃ (v4 v5 : Option V), σ = [some (.ref a1), some (.ref a2), some (.ref a3), some (.ref D), v4, v5, none] ∧ Same H Hx ∧ Hx D = some (.dK (dictV ((ps.take i).flatMap fun q => [(q.1, V.str "array"), (q.2, V.str "length")]))))
      ⟨none, none, rfl, Same.upd hD, upd_same⟩ (fun i σ Hx _ ⟨_, _, _, sm, _⟩ => kt sm t1) ?_ ?_⟩
    · rintro i x σ Hx H' hi ⟨v4, v5, rfl, sm, hDx⟩ ⟨rfl, hx⟩
      obtain ⟨e, he, dve⟩ := d1.get hx
      have hi' : i < ps.length := by omega
      rw [List.getElem?_map, List.getElem?_eq_getElem hi'] at he
      cases he
      obtain ⟨b, rfl, hb⟩ := dve.pairI
      have z1 := dictV_le ((ps.take i).flatMap fun q => [(q.1, V.str "array"), (q.2, V.str "length")])
      rw [flat_len, List.length_take] at z1
      refine ⟨b, _, rfl, kt sm hb, rfl, _, _, rfl, _, _, rfl, rfl, ?_⟩
      refine ⟨_, rfl, _, rfl, D, _, rfl, DPut.k (k := Sum.inr _) hDx (room _ (by omega)), ?_⟩
      have z2 := putK_len (dictV ((ps.take i).flatMap fun q => [(q.1, V.str "array"), (q.2, V.str "length")])) (Sum.inr ps[i].1) (V.str "array")
      refine ⟨_, rfl, _, rfl, D, _, rfl, DPut.k (k := Sum.inr _) upd_same (room _ (by omega)), ?_⟩
      refine ⟨_, _, rfl, up (up sm), ?_⟩
      rw [upd_same, flatMap_take ps i hi', dictV_snoc, dictV_snoc]
    · rintro σ Hx ⟨v4, v5, rfl, sm, hDx⟩
      rw [n1, List.take_length] at hDx
      refine ⟨_, rfl, a2, rfl, ⟨_, kt sm t2⟩, for_it (walk_tup (K := K) (a := a2) (xs := x2)) (fun i σ Hx => ∃ (v6 : Option V), σ = [some (.ref a1), some (.ref a2), some (.ref a3), some (.ref D), v4, v5, v6] ∧ Same H Hx ∧
        Hx D = some (.dK (dictV ((ps.flatMap fun q => [(q.1, V.str "array"), (q.2, V.str "length")]) ++ (ns.map fun z => (z, V.str "position")).take i))))
        ⟨none, rfl, sm, by rw [hDx, List.take_zero, List.append_nil]⟩ (fun i σ Hx _ ⟨_, _, sm, _⟩ => kt sm t2) ?_ ?_⟩
      · rintro i x σ Hx H' hi ⟨v6, rfl, sm, hDx⟩ ⟨rfl, hx⟩
        obtain ⟨e, he, dve⟩ := d2.get hx
        have hi' : i < ns.length := by omega
        rw [List.getElem?_map, List.getElem?_eq_getElem hi'] at he
        cases he
        cases dve.strI
        have z1 := dictV_le ((ps.flatMap fun q => [(q.1, V.str "array"), (q.2, V.str "length")]) ++ (ns.map fun z => (z, V.str "position")).take i)
        rw [List.length_append, flat_len, List.length_take, List.length_map] at z1
        refine ⟨_, rfl, _, rfl, D, _, rfl, DPut.k (k := Sum.inr _) hDx (room _ (by omega)), _, rfl, up sm, ?_⟩
        rw [upd_same, List.take_succ, List.getElem?_map, List.getElem?_eq_getElem hi']
        show _ = some (HO.dK (dictV (_ ++ (_ ++ [(ns[i], V.str "position")]))))
        rw [← List.append_assoc, dictV_snoc]
      · rintro σ Hx ⟨v6, rfl, sm, hDx⟩
        rw [n2, List.take_of_length_le (by rw [List.length_map]; omega)] at hDx
        refine ⟨_, rfl, a3, rfl, ⟨_, kt sm t3⟩, for_it (walk_tup (K := K) (a := a3) (xs := x3)) (fun i σ Hx => ∃ (v6 : Option V), σ = [some (.ref a1), some (.ref a2), some (.ref a3), some (.ref D), v4, v5, v6] ∧ Same H Hx ∧
          Hx D = some (.dK (dictV ((ps.flatMap fun q => [(q.1, V.str "array"), (q.2, V.str "length")]) ++ (ns.map (fun z => (z, V.str "position")) ++ (us.map fun z => (z, V.str "value")).take i)))))
          ⟨v6, rfl, sm, by rw [hDx, List.take_zero, List.append_nil]⟩ (fun i σ Hx _ ⟨_, _, sm, _⟩ => kt sm t3) ?_ ?_⟩
        · rintro i x σ Hx H' hi ⟨v6, rfl, sm, hDx⟩ ⟨rfl, hx⟩
          obtain ⟨e, he, dve⟩ := d3.get hx
          have hi' : i < us.length := by omega
          rw [List.getElem?_map, List.getElem?_eq_getElem hi'] at he
          cases he
          cases dve.strI
          have z1 := dictV_le ((ps.flatMap fun q => [(q.1, V.str "array"), (q.2, V.str "length")]) ++ (ns.map (fun z => (z, V.str "position")) ++ (us.map fun z => (z, V.str "value")).take i))
          rw [List.length_append, flat_len, List.length_append, List.length_take, List.length_map, List.length_map] at z1
          refine ⟨_, rfl, _, rfl, D, _, rfl, DPut.k (k := Sum.inr _) hDx (room _ (by omega)), _, rfl, up sm, ?_⟩
          rw [upd_same, List.take_succ, List.getElem?_map, List.getElem?_eq_getElem hi']
          have := dictV_snoc ((ps.flatMap fun q => [(q.1, V.str "array"), (q.2, V.str "length")]) ++ (ns.map (fun z => (z, V.str "position")) ++ (us.map fun z => (z, V.str "value")).take i)) (us[i], V.str "value")
          rw [List.append_assoc, List.append_assoc] at this
          exact congrArg (fun d => some (HO.dK d)) this.symm
        · rintro σ Hx ⟨v6, rfl, sm, hDx⟩
          rw [n3, List.take_of_length_le (by rw [List.length_map]; omega)] at hDx
          exact ⟨_, rfl, k D Hx hD sm hDx⟩
end
end Kx
namespace Kx
open PySem PySem.Spec PyProof.Rows L2
section
variable {P : Program} {w : World} {K : PySem.W.Frag} {mg : Str → Option Value} {base : Heap}
/-! ### words with blanks -/
def blanks (zs : List Str) : Str := if zs.isEmpty = true then "-" else Txt.join " " zs
theorem joinL_le (S : List Nat) : ∀ ps : List (List Nat), (TL.joinL S ps).length ≤ (ps.map (·.length)).sum + ps.length * S.length
  | [] => Nat.zero_le _
  | [p] => by simp [TL.joinL]
  | p :: q :: r => by
    have := joinL_le S (q :: r)
    show (p ++ (S ++ TL.joinL S (q :: r))).length ≤ _
    rw [List.length_append, List.length_append, List.map_cons, List.sum_cons, List.length_cons, Nat.succ_mul]
    omega
theorem joinL_ge (S : List Nat) (p : List Nat) : ∀ r : List (List Nat), p.length ≤ (TL.joinL S (p :: r)).length
  | [] => Nat.le_refl _
  | q :: r => by
    show p.length ≤ (p ++ (S ++ TL.joinL S (q :: r))).length
    rw [List.length_append]; omega
theorem tl_len (y : Str) : (TL.tl y).length = y.length := by
  show y.cps.toList.length = _
  rw [Array.length_toList]; rfl
theorem join_bound (zs : List Str) : (Txt.join " " zs).length ≤ (zs.map (·.length)).sum + zs.length := by
  rw [TL.join_eq, ← tl_len, TL.tl_join]
  have := joinL_le (TL.tl " ") (zs.map TL.tl)
  rw [List.map_map, List.length_map] at this
  have e : (zs.map ((fun x : List Nat => x.length) ∘ TL.tl)) = zs.map (·.length) := List.map_congr_left fun z _ => tl_len z
  rw [e, tl_len, show (" " : Str).length = 1 from by decide +kernel] at this
  omega
theorem join_pos {z : Str} (r : List Str) (h : 1 ≤ z.length) : 1 ≤ (Txt.join " " (z :: r)).length := by
  rw [TL.join_eq, ← tl_len, TL.tl_join, List.map_cons]
  have := joinL_ge (TL.tl " ") (TL.tl z) (r.map TL.tl)
  rw [tl_len] at this
  omega
theorem sum_le (zs : List Str) (n : Nat) (h : ∀ z ∈ zs, z.length ≤ n) : (zs.map (·.length)).sum ≤ zs.length * n := by
  induction zs with
  | nil => exact Nat.zero_le _
  | cons z r ih =>
    have a := h z List.mem_cons_self
    have b := ih fun y hy => h y (List.mem_cons_of_mem _ hy)
    rw [List.map_cons, List.sum_cons, List.length_cons, Nat.succ_mul]
    omega
abbrev N_with_blanks : List Str := ["words"]
abbrev P_with_blanks : List Str := ["words"]
theorem sc_with_blanks : FnScope N_with_blanks P_with_blanks (defScope s_with_blanks) := ⟨rfl, rfl, rfl, by decide +kernel, rfl, by decide +kernel, by decide +kernel⟩
def spBlanks (K : PySem.W.Frag) : Sp := fun vs H Q _ => ∃ (a : Addr) (zs : List Str), vs = [.ref a] ∧ (SqL K H a (zs.map V.str) ∨ SqT K H a (zs.map V.str)) ∧ zs.length ≤ 1000 ∧ (∀ z ∈ zs, 1 ≤ z.length ∧ z.length ≤ 1000) ∧ Q (.str (blanks zs)) H
theorem ok_blanks (T : Bt mg) (h : Has K mg "_with_blanks" s_with_blanks) : Ca P w K mg base 1 "_with_blanks" P_with_blanks (spBlanks K) := by
  refine cal_of h sc_with_blanks (fun _ _ _ _ _ _ us hl => match us, hl with | [_], _ => rfl) (fun vs H Q E h => ?_) (fun f cdv A outer s H vs Q E hr h => ?_)
  · obtain ⟨a, zs, rfl, _⟩ := h
    rfl
  · obtain ⟨a, zs, rfl, hq, hl, hz, k⟩ := h
    refine ⟨_, (pss_one (ps_ret (pe_orT (pe_join pe_str (pv 0)) (pe_one pe_str)))), ?_⟩
    have b1 := sum_le zs 1000 fun z hz' => (hz z hz').2
    have b2 := join_bound zs
    have b3 : zs.length * 1000 ≤ 1000 * 1000 := Nat.mul_le_mul_right _ hl
    refine ⟨⟨_, rfl⟩, _, rfl, _, a, zs, rfl, rfl, hq, ?_, _, ⟨by rw [sizeLine_eq]; omega, rfl⟩, ?_⟩
    · show (zs.map (·.length)).sum + zs.length * (" " : Str).length ≤ 16777216
      rw [show (" " : Str).length = 1 from by decide +kernel]
      omega
    · cases zs with
      | nil =>
        have e : (((Txt.join " " ([] : List Str)).length : Int) != 0) = false := by
          have : (Txt.join " " ([] : List Str)).length = 0 := by
            have := join_bound []
            simp at this
            exact this
          rw [this]; rfl
        rw [e]
        exact iteF k
      | cons z r =>
        have := join_pos r (hz z List.mem_cons_self).1
        have e : (((Txt.join " " (z :: r)).length : Int) != 0) = true := by
          rw [bne_iff_ne]; omega
        rw [e]
        exact iteT k
/-! ### frames -/
structure Fx (K : PySem.W.Frag) (mg : Str → Option Value) (C : Addr) : Prop where
  cl : Cls K C
  n1 : NoAttr K C "_arrays"
  n2 : NoAttr K C "_positions"
  n3 : NoAttr K C "_amounts"
  n4 : NoAttr K C "_length_by_array"
  n5 : NoAttr K C "_lengths"
  n6 : NoAttr K C "_kinds"
  mgC : mg "Frame" = some (.ref C)
structure Ex (K : PySem.W.Frag) (mg : Str → Option Value) (I : Addr) : Prop where
  gP : mg "InvalidFrame" = some (.ref I)
  xP : PySem.W.excIn K I [.type "ValueError", .type "Exception", .type "BaseException", .type "object"] "ValueError.__new__" = true
  kP : PySem.W.keepIn K (.ref I) = true
  bP : PySem.W.subIn K (.ref I) (.type "BaseException") = some true
  tP : PySem.W.typeIn K (.ref I) = some (.type "type")
def flds (va vp vv : V) (LB LT KD : Addr) : List (Str × V) := [("_arrays", va), ("_positions", vp), ("_amounts", vv), ("_length_by_array", .ref LB), ("_lengths", .ref LT), ("_kinds", .ref KD)]
theorem putF_new {k : Str} {v : V} : ∀ {fs : List (Str × V)}, (∀ q ∈ fs, ¬ q.1 = k) → putF k v fs = fs ++ [(k, v)]
  | [], _ => rfl
  | q :: r, h => by
    have h1 := h q List.mem_cons_self
    have h2 := putF_new (v := v) (fs := r) fun z hz => h z (List.mem_cons_of_mem _ hz)
    show (if q.1 = k then _ else _) = _
    rw [if_neg h1, h2]
    rfl
/-- a frame stands at x -/
structure FrameAt (C : Addr) (H : Hp) (x : Addr) (va vp vv : V) (ps : List (Str × Str)) (ns us : List Str) : Prop where
  ob : ∃ dx LB LT KD, H x = some (.ins C dx (flds va vp vv LB LT KD)) ∧ H LB = some (.dK (dictV (ps.map fun q => (q.1, V.str q.2)))) ∧ TupF H LT ((uniq (ps.map (·.2))).map V.str) ∧ H KD = some (.dK (dictV (kl ps ns us)))
  da : Dv (fun _ => True) H va (.tuple (ps.map pairD))
  dp : Dv (fun _ => True) H vp (.tuple (ns.map .str))
  dv : Dv (fun _ => True) H vv (.tuple (us.map .str))
  nd : (allN ps ns us).Nodup
  l1 : ps.length ≤ 12
  l2 : ns.length ≤ 6
  l3 : us.length ≤ 6
  ok : ∀ z ∈ ps.map (·.1) ++ (ps.map (·.2) ++ (ns ++ us)), NameS z
end
end Kx
namespace Kx
open PySem PySem.Spec PyProof.Rows L2
section
variable {ex : Addr → Prop} {H H' : Hp}
mutual
theorem Dv.offG {n : Addr} (h1 : ∀ xs, H n ≠ some (.lst xs)) (h2 : ∀ kvs, H n ≠ some (.dK kvs)) : ∀ {v : V} {d : PyData}, Dv ex H v d → Dv (fun a => ex a ∨ a = n) H v d
  | _, _, .non => .non
  | _, _, .bl b => .bl b
  | _, _, .int i => .int i
  | _, _, .str x => .str x
  | _, _, .lst m e l => .lst (fun z => z.elim m (fun q => h1 _ (q ▸ e))) e (DvL.offG h1 h2 l)
  | _, _, .tup d e l => .tup d e (DvL.offG h1 h2 l)
  | _, _, .dic m e l => .dic (fun z => z.elim m (fun q => h2 _ (q ▸ e))) e (DvK.offG h1 h2 l)
theorem DvL.offG {n : Addr} (h1 : ∀ xs, H n ≠ some (.lst xs)) (h2 : ∀ kvs, H n ≠ some (.dK kvs)) : ∀ {v : List V} {d : List PyData}, DvL ex H v d → DvL (fun a => ex a ∨ a = n) H v d
  | _, _, .nil => .nil
  | _, _, .cons a b => .cons (Dv.offG h1 h2 a) (DvL.offG h1 h2 b)
theorem DvK.offG {n : Addr} (h1 : ∀ xs, H n ≠ some (.lst xs)) (h2 : ∀ kvs, H n ≠ some (.dK kvs)) : ∀ {v : List (Key × V)} {d : List (PyData × PyData)}, DvK ex H v d → DvK (fun a => ex a ∨ a = n) H v d
  | _, _, .nil => .nil
  | _, _, .cons a b => .cons (Dv.offG h1 h2 a) (DvK.offG h1 h2 b)
end
theorem Kp.ins {p C dx : Addr} {fs : List (Str × V)} {o : HO} (h : ex p) (hi : H p = some (.ins C dx fs)) : Kp ex H (upd H p o) := fun a u e n => by
  have : a ≠ p := fun z => by
    subst z
    obtain ⟨ob, w, rfl⟩ := n h
    rw [hi] at e
    cases e
  rw [upd_ne this]; exact e
theorem Dv.ins {n C dx : Addr} {fs : List (Str × V)} (hi : H n = some (.ins C dx fs)) {v : V} {d : PyData} (h : Dv ex H v d) : Dv (fun a => ex a ∨ a = n) H v d :=
  h.offG (fun xs e => by rw [hi] at e; cases e) (fun kvs e => by rw [hi] at e; cases e)
theorem DvL.strAny {ey : Addr → Prop} : ∀ {vs : List V} {ns : List Str}, DvL ex H vs (ns.map .str) → DvL ey H vs (ns.map .str)
  | _, [], .nil => .nil
  | _, z :: r, .cons a b => .cons (by cases a; exact .str z) (DvL.strAny b)
theorem Dv.strsAny {ey : Addr → Prop} {v : V} {ns : List Str} (h : Dv ex H v (.tuple (ns.map .str))) : Dv ey H v (.tuple (ns.map .str)) := by
  obtain ⟨a, xs, rfl, t, l⟩ := h.tupI
  exact Dv.tupM t l.strAny
theorem DvL.pairAny {ey : Addr → Prop} : ∀ {vs : List V} {ps : List (Str × Str)}, DvL ex H vs (ps.map pairD) → DvL ey H vs (ps.map pairD)
  | _, [], .nil => .nil
  | _, q :: r, .cons a b => .cons (by
      obtain ⟨c, rfl, t⟩ := Dv.pairI a
      exact Dv.tupM t (.cons (.str _) (.cons (.str _) .nil))) (DvL.pairAny b)
theorem Dv.pairsAny {ey : Addr → Prop} {v : V} {ps : List (Str × Str)} (h : Dv ex H v (.tuple (ps.map pairD))) : Dv ey H v (.tuple (ps.map pairD)) := by
  obtain ⟨a, xs, rfl, t, l⟩ := h.tupI
  exact Dv.tupM t l.pairAny
end
theorem DvL.paired {K : PySem.W.Frag} {ex : Addr → Prop} {H : Hp} : ∀ {vs : List V} {ps : List (Str × Str)}, DvL ex H vs (ps.map pairD) → ∃ as : List Addr, vs = as.map V.ref ∧ ∀ {ey : Addr → Prop} (G : Hp), Kp ey H G → Paired (fun p kv => SqT K G p [kV kv.1, kv.2]) as (ps.map fun q => ((Sum.inr q.1 : Key), V.str q.2))
  | _, [], .nil => ⟨[], rfl, fun _ _ => .nil⟩
  | _, q :: r, .cons a b => by
    obtain ⟨as, rfl, h⟩ := DvL.paired (K := K) b
    obtain ⟨c, rfl, t⟩ := Dv.pairI a
    exact ⟨c :: as, rfl, fun G k => .cons (k.tup t).sq (h G k)⟩
/-! ### which parts are right -/
def pairOf : PyData → Option (Str × Str)
  | .tuple [.str a, .str b] => some (a, b)
  | _ => none
def strOf : PyData → Option Str
  | .str a => some a
  | _ => none
def psOf : PyData → List (Str × Str)
  | .tuple xs => xs.filterMap pairOf
  | _ => []
def nsOf : PyData → List Str
  | .tuple xs => xs.filterMap strOf
  | _ => []
def frameD (da dp dv : PyData) : Bool := (arrsD da && (namesD 6 dp && namesD 6 dv)) && decide (allN (psOf da) (nsOf dp) (nsOf dv)).Nodup
theorem nameD_str {d : PyData} (h : nameD d = true) : ∃ z, d = .str z ∧ NameS z := by
  cases d with
  | str z => exact ⟨z, rfl, of_decide_eq_true h⟩
  | _ => cases h
theorem strs_all : ∀ {xs : List PyData}, xs.all nameD = true → xs = (xs.filterMap strOf).map .str ∧ ∀ z ∈ xs.filterMap strOf, NameS z
  | [], _ => ⟨rfl, fun z hz => nomatch hz⟩
  | x :: r, h => by
    rw [List.all_cons, Bool.and_eq_true] at h
    obtain ⟨z, rfl, hz⟩ := nameD_str h.1
    obtain ⟨e, h2⟩ := strs_all h.2
    have e1 : (PyData.str z :: r).filterMap strOf = z :: r.filterMap strOf := rfl
    rw [e1]
    refine ⟨by rw [List.map_cons, ← e], fun y hy => ?_⟩
    rcases List.mem_cons.mp hy with rfl | hy
    · exact hz
    · exact h2 y hy
theorem names_true {m : Nat} {d : PyData} (h : namesD m d = true) : d = .tuple ((nsOf d).map .str) ∧ (nsOf d).length ≤ m ∧ ∀ z ∈ nsOf d, NameS z := by
  cases d with
  | tuple xs =>
    have h' : (decide (xs.length ≤ m) && xs.all nameD) = true := h
    rw [Bool.and_eq_true] at h'
    obtain ⟨e, h2⟩ := strs_all h'.2
    refine ⟨congrArg PyData.tuple e, ?_, h2⟩
    have := of_decide_eq_true h'.1
    have l := congrArg List.length e
    rw [List.length_map] at l
    show (xs.filterMap strOf).length ≤ m
    omega
  | _ => cases h
theorem pair_true {d : PyData} (h : pairOkD d = true) : ∃ q : Str × Str, d = pairD q ∧ NameS q.1 ∧ NameS q.2 := by
  cases d with
  | tuple xs =>
    rw [pairOkD_eq, Bool.and_eq_true] at h
    match xs, h with
    | [a, b], h =>
      have h2 := h.2
      rw [List.all_cons, List.all_cons, Bool.and_eq_true, Bool.and_eq_true] at h2
      obtain ⟨y, rfl, hy⟩ := nameD_str h2.1
      obtain ⟨z, rfl, hz⟩ := nameD_str h2.2.1
      exact ⟨(y, z), rfl, hy, hz⟩
    | [], h => exact absurd h.1 (by decide)
    | [a], h => exact absurd h.1 (by simp)
    | a :: b :: c :: r, h => exact absurd h.1 (by simp)
  | _ => cases h
theorem pairs_all : ∀ {xs : List PyData}, xs.all pairOkD = true → xs = (xs.filterMap pairOf).map pairD ∧ ∀ q ∈ xs.filterMap pairOf, NameS q.1 ∧ NameS q.2
  | [], _ => ⟨rfl, fun z hz => nomatch hz⟩
  | x :: r, h => by
    rw [List.all_cons, Bool.and_eq_true] at h
    obtain ⟨q, rfl, hq⟩ := pair_true h.1
    obtain ⟨e, h2⟩ := pairs_all h.2
    have e1 : (pairD q :: r).filterMap pairOf = q :: r.filterMap pairOf := rfl
    rw [e1]
    refine ⟨by rw [List.map_cons, ← e], fun y hy => ?_⟩
    rcases List.mem_cons.mp hy with rfl | hy
    · exact hq
    · exact h2 y hy
theorem arrs_true {d : PyData} (h : arrsD d = true) : d = .tuple ((psOf d).map pairD) ∧ (psOf d).length ≤ 12 ∧ ∀ q ∈ psOf d, NameS q.1 ∧ NameS q.2 := by
  cases d with
  | tuple xs =>
    have h' : (decide (xs.length ≤ 12) && xs.all pairOkD) = true := h
    rw [Bool.and_eq_true] at h'
    obtain ⟨e, h2⟩ := pairs_all h'.2
    refine ⟨congrArg PyData.tuple e, ?_, h2⟩
    have := of_decide_eq_true h'.1
    have l := congrArg List.length e
    rw [List.length_map] at l
    show (xs.filterMap pairOf).length ≤ 12
    omega
  | _ => cases h
section
variable {P : Program} {w : World} {K : PySem.W.Frag} {mg : Str → Option Value} {base : Heap}
abbrev N_Frame_init : List Str := ["self", "arrays", "positions", "values", "_", "length"]
abbrev P_Frame_init : List Str := ["self", "arrays", "positions", "values"]
theorem sc_Frame_init : FnScope N_Frame_init P_Frame_init (defScope s_Frame_init) := ⟨rfl, rfl, rfl, by decide +kernel, rfl, by decide +kernel, by decide +kernel⟩
abbrev KpX (x : Addr) (H H' : Hp) : Prop := Kp (fun a => a = x) H H'
theorem pf1 {a : V} : putF "_arrays" a [] = ([("_arrays", a)] : List (Str × V)) := putF_new (fs := ([] : List (Str × V))) (fun q hq => by cases hq)
theorem pf2 {a b : V} : putF "_positions" b [("_arrays", a)] = ([("_arrays", a), ("_positions", b)] : List (Str × V)) := putF_new (fs := ([("_arrays", a)] : List (Str × V))) (fun q hq => by simp only [List.mem_cons, List.not_mem_nil, or_false] at hq; rcases hq with rfl <;> (dsimp only; decide +kernel))
theorem pf3 {a b c : V} : putF "_amounts" c [("_arrays", a), ("_positions", b)] = ([("_arrays", a), ("_positions", b), ("_amounts", c)] : List (Str × V)) := putF_new (fs := ([("_arrays", a), ("_positions", b)] : List (Str × V))) (fun q hq => by simp only [List.mem_cons, List.not_mem_nil, or_false] at hq; rcases hq with rfl | rfl <;> (dsimp only; decide +kernel))
theorem pf4 {a b c d : V} : putF "_length_by_array" d [("_arrays", a), ("_positions", b), ("_amounts", c)] = ([("_arrays", a), ("_positions", b), ("_amounts", c), ("_length_by_array", d)] : List (Str × V)) := putF_new (fs := ([("_arrays", a), ("_positions", b), ("_amounts", c)] : List (Str × V))) (fun q hq => by simp only [List.mem_cons, List.not_mem_nil, or_false] at hq; rcases hq with rfl | rfl | rfl <;> (dsimp only; decide +kernel))
theorem pf5 {a b c d e : V} : putF "_lengths" e [("_arrays", a), ("_positions", b), ("_amounts", c), ("_length_by_array", d)] = ([("_arrays", a), ("_positions", b), ("_amounts", c), ("_length_by_array", d), ("_lengths", e)] : List (Str × V)) := putF_new (fs := ([("_arrays", a), ("_positions", b), ("_amounts", c), ("_length_by_array", d)] : List (Str × V))) (fun q hq => by simp only [List.mem_cons, List.not_mem_nil, or_false] at hq; rcases hq with rfl | rfl | rfl | rfl <;> (dsimp only; decide +kernel))
theorem pf6 {a b c d e f : V} : putF "_kinds" f [("_arrays", a), ("_positions", b), ("_amounts", c), ("_length_by_array", d), ("_lengths", e)] = ([("_arrays", a), ("_positions", b), ("_amounts", c), ("_length_by_array", d), ("_lengths", e), ("_kinds", f)] : List (Str × V)) := putF_new (fs := ([("_arrays", a), ("_positions", b), ("_amounts", c), ("_length_by_array", d), ("_lengths", e)] : List (Str × V))) (fun q hq => by simp only [List.mem_cons, List.not_mem_nil, or_false] at hq; rcases hq with rfl | rfl | rfl | rfl | rfl <;> (dsimp only; decide +kernel))
def spInit (C I : Addr) : Sp := fun vs H Q E => ∃ (x dx : Addr) (va vp vv : V) (da dp dv : PyData) (ex : Addr → Prop), vs = [.ref x, va, vp, vv] ∧ H x = some (.ins C dx []) ∧ Dv ex H va da ∧ Dv ex H vp dp ∧ Dv ex H vv dv ∧ cost da ≤ 8000000 ∧ cost dp ≤ 8000000 ∧ cost dv ≤ 8000000 ∧
  (frameD da dp dv = true → ∀ H', FrameAt C H' x va vp vv (psOf da) (nsOf dp) (nsOf dv) → KpX x H H' → Q .non H') ∧
  (frameD da dp dv = false → ∀ H', KpX x H H' → E (.ref I) none H')
theorem ok_init (T : Bt mg) (Co_ : Co mg) {C I f : Addr} {fd : FuncData} (F : FunD K "__init__" "Frame.__init__" (defArgs s_Frame_init) (defBody s_Frame_init) (defScope s_Frame_init) [] [] f fd) (X : Fx K mg C) (XI : Ex K mg I)
    (C1 : Ca P w K mg base 4 "_are_arrays" P_are_arrays (spJudge arrsD)) (C2 : Ca P w K mg base 2 "_are_names" P_are_names spAreNames) (C3 : Ca P w K mg base 1 "_kinds_of" P_kinds_of spKinds) : FnOk P w K mg base (L2N.CX P w) 5 f fd P_Frame_init (spInit C I) := by
  obtain ⟨_, gP_⟩ := Co_.MAX_POSITIONS
  obtain ⟨_, gV_⟩ := Co_.MAX_VALUES
  obtain ⟨_, _, c__are_arrays⟩ := C1
  obtain ⟨_, _, c__are_names⟩ := C2
  obtain ⟨_, _, c__kinds_of⟩ := C3
  obtain ⟨gP, xP, kP, bP, tP⟩ := XI
  refine F.ok sc_Frame_init (fun vs H Q E h => ?_) (fun cdv A outer s H vs Q E hr h => ?_)
  · obtain ⟨x, dx, va, vp, vv, da, dp, dv, ex, rfl, _⟩ := h
    rfl
  · obtain ⟨x, dx, va, vp, vv, da, dp, dv, ex, rfl, hx, ha, hp, hv, c1, c2, c3, kg, kb⟩ := h
    refine ⟨_, (pss_cons (ps_if (PW.pt (pw_or (pt_not (pt_val (pe_call c__are_arrays.1 (hr.mono (by decide)) rfl c__are_arrays.2.1 c__are_arrays.2.2.1 c__are_arrays.2.2.2 .nil pass0 (pa_cons (pv 1) pa_nil)))) (pw_or (pt_not (pt_val (pe_call c__are_names.1 (hr.mono (by decide)) rfl c__are_names.2.1 c__are_names.2.2.1 c__are_names.2.2.2 .nil pass0 (pa_cons (pv 2) (pa_cons (pe_glob (v := .int 6) rfl gP_ ⟨_, rfl⟩) pa_nil))))) (pw_or1 (pt_not (pt_val (pe_call c__are_names.1 (hr.mono (by decide)) rfl c__are_names.2.1 c__are_names.2.2.1 c__are_names.2.2.2 .nil pass0 (pa_cons (pv 3) (pa_cons (pe_glob (v := .int 6) rfl gV_ ⟨_, rfl⟩) pa_nil))))))))) (pss_one (L2N.ps_raise rfl (L2N.takes_of rfl rfl rfl rfl) (L2N.pmk_own PySem.F.excBase_ValueError xP gP kP (raises_own bP tP) rfl))) pss_nil)
      (pss_cons (ps_fld (pv 0) (pv 1) rfl)
      (pss_cons (ps_fld (pv 0) (pv 2) rfl)
      (pss_cons (ps_fld (pv 0) (pv 3) rfl)
      (pss_cons (ps_fld (pv 0) (pe_callTy (call_dictT rfl) (by rfl) T.dict (by decide +kernel) (pa_cons (pv 1) pa_nil)) rfl)
      (pss_cons (ps_fld (pv 0) (pe_callTy (call_tupleDF rfl) (by rfl) T.tuple (by decide +kernel) (pa_cons (pe_dc (own := [("_", 4), ("length", 5)]) (g := (gTup K 2 (gCons (gName 4) (gCons (gName 5) gNil)))) (tt := tYes) (by rfl) sc_Frame_init.nd (pi_tup (pv 1)) (blkOk_by (own := [("_", 4), ("length", 5)]) (N := ["self", "arrays", "positions", "values", "_", "length"]) (sc := defScope s_Frame_init) (by decide +kernel)) (fun _ _ _ _ _ => pg_tup (by rfl) (pgs_cons (pg_name (i := 4) sc_Frame_init.nd rfl (Or.inl rfl)) (pgs_cons (pg_name (i := 5) sc_Frame_init.nd rfl (Or.inl rfl)) pgs_nil))) (fun _ _ _ _ _ => pts_nil) (fun _ _ _ _ _ => (pv 5)) (fun _ _ _ _ _ => pe_bl)) pa_nil)) rfl)
      (pss_cons (ps_fld (pv 0) (pe_call c__kinds_of.1 (hr.mono (by decide)) rfl c__kinds_of.2.1 c__kinds_of.2.2.1 c__kinds_of.2.2.2 .nil pass0 (pa_cons (pv 1) (pa_cons (pv 2) (pa_cons (pv 3) pa_nil)))) rfl)
      (pss_one (ps_if (pt_cmpR op_lt (pe_callB call_lenD (by rfl) T.len (by decide +kernel) (pa_cons (pe_fld (pv 0) rfl) pa_nil)) (pe_op op_add (pe_op op_add (pe_op op_add (pe_callB call_len (by rfl) T.len (by decide +kernel) (pa_cons (pv 1) pa_nil)) (pe_callB call_len (by rfl) T.len (by decide +kernel) (pa_cons (pe_fld (pv 0) rfl) pa_nil))) (pe_callB call_len (by rfl) T.len (by decide +kernel) (pa_cons (pv 2) pa_nil))) (pe_callB call_len (by rfl) T.len (by decide +kernel) (pa_cons (pv 3) pa_nil))) (nomark _)) (pss_one (L2N.ps_raise rfl (L2N.takes_of rfl rfl rfl rfl) (L2N.pmk_own PySem.F.excBase_ValueError xP gP kP (raises_own bP tP) rfl))) pss_nil))))))))), ?_⟩
    have s1 : ∀ {H1}, Same H H1 → H1 x = some (.ins C dx []) := fun sm => sm _ _ hx
    -- the three tests
    have bad : ∀ {H1 : Hp}, Same H H1 → frameD da dp dv = false → E (.ref I) none H1 := fun sm z => kb z _ (Kp.same sm)
    refine ⟨_, rfl, ex, va, da, rfl, ha, c1, fun H1 m1 => ?_⟩
    cases e1 : arrsD da with
    | false => exact ⟨_, rfl, iteT (iteT (bad m1 (by unfold frameD; rw [e1]; rfl)))⟩
    | true =>
      refine ⟨_, rfl, iteF ⟨_, rfl, ex, _, dp, 6, rfl, hp.kp (Kp.same m1), c2, fun H2 m2 => ?_⟩⟩
      cases e2 : namesD 6 dp with
      | false => exact ⟨_, rfl, iteT (iteT (bad (m1.trans m2) (by unfold frameD; rw [e1, e2]; rfl)))⟩
      | true =>
        refine ⟨_, rfl, iteF ⟨_, rfl, ex, _, dv, 6, rfl, hv.kp (Kp.same (m1.trans m2)), c3, fun H3 m3 => ?_⟩⟩
        cases e3 : namesD 6 dv with
        | false => exact ⟨_, rfl, iteT (bad ((m1.trans m2).trans m3) (by unfold frameD; rw [e1, e2, e3]; rfl))⟩
        | true =>
          refine ⟨_, rfl, iteF ?_⟩
          have m := (m1.trans m2).trans m3
          obtain ⟨ea, la, oa⟩ := arrs_true e1
          obtain ⟨ep, lp, op_⟩ := names_true e2
          obtain ⟨ev, lv, ov⟩ := names_true e3
          have fD : frameD da dp dv = decide (allN (psOf da) (nsOf dp) (nsOf dv)).Nodup := by unfold frameD; rw [e1, e2, e3]; rfl
          rw [fD] at kg kb
          rw [ea] at ha
          rw [ep] at hp
          rw [ev] at hv
          clear fD e1 e2 e3 bad ea ep ev
          generalize psOf da = ps at *
          generalize nsOf dp = ns at *
          generalize nsOf dv = us at *
          have hx3 := m _ _ hx
          have kp3 : KpX x H H3 := Kp.same m
          have stepX : ∀ {G : Hp} {fs fs2 : List (Str × V)}, KpX x H G → G x = some (.ins C dx fs) → KpX x H (upd G x (.ins C dx fs2)) := fun {G fs fs2} k e => k.trans (Kp.ins rfl e)
          refine ⟨_, rfl, _, rfl, x, C, dx, [], rfl, hx3, X.cl, X.n1, by simp, ?_⟩
          rw [pf1]
          have kp4 := stepX (fs2 := [("_arrays", va)]) kp3 hx3
          generalize hH4 : upd H3 x (.ins C dx ([("_arrays", va)])) = H4 at kp4 ⊢
          have hx4 : H4 x = some (.ins C dx [("_arrays", va)]) := by rw [← hH4]; exact upd_same
          refine ⟨_, rfl, _, rfl, x, C, dx, _, rfl, hx4, X.cl, X.n2, by simp, ?_⟩
          rw [pf2]
          have kp5 := stepX (fs2 := [("_arrays", va), ("_positions", vp)]) kp4 hx4
          generalize hH5 : upd H4 x (.ins C dx [("_arrays", va), ("_positions", vp)]) = H5 at kp5 ⊢
          have hx5 : H5 x = some (.ins C dx [("_arrays", va), ("_positions", vp)]) := by rw [← hH5]; exact upd_same
          refine ⟨_, rfl, _, rfl, x, C, dx, _, rfl, hx5, X.cl, X.n3, by simp, ?_⟩
          rw [pf3]
          have kp6 := stepX (fs2 := [("_arrays", va), ("_positions", vp), ("_amounts", vv)]) kp5 hx5
          generalize hH6 : upd H5 x (.ins C dx [("_arrays", va), ("_positions", vp), ("_amounts", vv)]) = H6 at kp6 ⊢
          have hx6 : H6 x = some (.ins C dx [("_arrays", va), ("_positions", vp), ("_amounts", vv)]) := by rw [← hH6]; exact upd_same
          have in6 : ∀ {G : Hp} {v : V} {d : PyData}, KpX x H G → Dv ex H v d → Dv (fun a => ex a ∨ a = x) G v d := fun k h => (h.ins hx).kp (k.weak fun b z => .inr z)
          obtain ⟨aA, xA, rfl, tA, dA⟩ := ha.tupI
          obtain ⟨aP, xP', rfl, tP', dP⟩ := hp.tupI
          obtain ⟨aV, xV, rfl, tV, dV⟩ := hv.tupI
          obtain ⟨as, rfl, pr⟩ := dA.paired (K := K)
          have prG : ∀ {G : Hp}, KpX x H G → Paired (fun p kv => SqT K G p [kV kv.1, kv.2]) as (ps.map fun q => (Sum.inr q.1, V.str q.2)) := fun k => pr _ k
          refine ⟨_, rfl, aA, as, _, rfl, kp6.tup tA, prG kp6, fun LB hLB => ?_⟩
          refine ⟨_, rfl, x, C, dx, _, rfl, (upd_ne (ne_of_none hx6 hLB)).trans hx6, X.cl, X.n4, by simp, ?_⟩
          rw [pf4]
          have kp7 := stepX (fs2 := [("_arrays", .ref aA), ("_positions", .ref aP), ("_amounts", .ref aV), ("_length_by_array", .ref LB)]) (kp6.trans (Kp.new (o := .dK (mergeK [] (ps.map fun q => (Sum.inr q.1, V.str q.2)))) hLB)) ((upd_ne (ne_of_none hx6 hLB)).trans hx6)
          have xLB := ne_of_none hx6 hLB
          generalize hH7 : upd (upd H6 LB (.dK (mergeK [] (ps.map fun q => (Sum.inr q.1, V.str q.2))))) x (.ins C dx [("_arrays", .ref aA), ("_positions", .ref aP), ("_amounts", .ref aV), ("_length_by_array", .ref LB)]) = H7 at kp7 ⊢
          have hx7 : H7 x = some (.ins C dx [("_arrays", .ref aA), ("_positions", .ref aP), ("_amounts", .ref aV), ("_length_by_array", .ref LB)]) := by rw [← hH7]; exact upd_same
          have lb7 : H7 LB = some (.dK (dictV (ps.map fun q => (q.1, V.str q.2)))) := by
            rw [← hH7, upd_ne (Ne.symm xLB), upd_same]
            unfold dictV
            rw [List.map_map]
            rfl
          -- the lengths
          refine ⟨_, rfl, aA, rfl, ⟨_, (kp7.tup tA).sq⟩, fun D hD => ?_⟩
          have lAn := dA.len
          rw [List.length_map, List.length_map] at lAn
          refine dc_tup (K := K) (a := aA) (xs := as.map V.ref) (fun i G => Same H7 G ∧ G D = some (.dK (dictV ((ps.take i).map fun q => (q.2, V.bl true))))) ⟨Same.upd hD, upd_same⟩ (fun i G _ h => ((kp7.trans (Kp.same h.1)).tup tA).sq) ?_ ?_
          · rintro i y G hi ⟨sm, hDx⟩
            obtain ⟨e, he, dve⟩ := dA.get hi
            have hi' : i < ps.length := by
              have := (List.getElem?_eq_some_iff.mp hi).1
              rw [List.length_map] at this
              omega
            rw [List.getElem?_map, List.getElem?_eq_getElem hi'] at he
            cases he
            obtain ⟨b, rfl, hb⟩ := dve.pairI
            refine ⟨b, _, rfl, ((kp7.trans (Kp.same sm)).tup hb).sq, rfl, _, _, rfl, _, _, rfl, rfl, ?_⟩
            have z1 := dictV_le ((ps.take i).map fun q => (q.2, V.bl true))
            rw [List.length_map, List.length_take] at z1
            refine ⟨rfl, yes (⟨_, rfl, _, .inr ps[i].2, rfl, hDx, by rw [sizeLine_eq]; omega, ?_, ?_⟩)⟩
            · intro b u e
              rw [upd_ne (ne_of_none e hD)]
              exact sm b u e
            · rw [upd_same, List.take_succ, List.getElem?_eq_getElem hi']
              show _ = some (HO.dK (dictV (((ps.take i) ++ [ps[i]]).map fun q => (q.2, V.bl true))))
              rw [List.map_append]
              have := dictV_snoc ((ps.take i).map fun q => (q.2, V.bl true)) (ps[i].2, V.bl true)
              exact congrArg (fun d => some (HO.dK d)) this.symm
          · rintro G ⟨sm, hDx⟩
            rw [List.length_map, lAn, List.take_length] at hDx
            have kp8 := kp7.trans (Kp.same sm)
            have hx8 := sm _ _ hx7
            have lb8 := sm _ _ lb7
            refine ⟨D, _, rfl, .inl hDx, fun LT GL smL tLT => ?_⟩
            have hxL := smL _ _ hx8
            have lbL := smL _ _ lb8
            have xLB' := xLB
            refine ⟨_, rfl, x, C, dx, _, rfl, hxL, X.cl, X.n5, by simp, ?_⟩
            rw [pf5]
            have kpL := kp8.trans (Kp.same smL)
            have kp9 := stepX (fs2 := [("_arrays", .ref aA), ("_positions", .ref aP), ("_amounts", .ref aV), ("_length_by_array", .ref LB), ("_lengths", .ref LT)]) kpL hxL
            have kuL : Kp (fun a => a = x) GL (upd GL x (.ins C dx [("_arrays", .ref aA), ("_positions", .ref aP), ("_amounts", .ref aV), ("_length_by_array", .ref LB), ("_lengths", .ref LT)])) := Kp.ins rfl hxL
            generalize hH9 : upd GL x (.ins C dx [("_arrays", .ref aA), ("_positions", .ref aP), ("_amounts", .ref aV), ("_length_by_array", .ref LB), ("_lengths", .ref LT)]) = H9 at kp9 kuL ⊢
            have hx9 : H9 x = some (.ins C dx [("_arrays", .ref aA), ("_positions", .ref aP), ("_amounts", .ref aV), ("_length_by_array", .ref LB), ("_lengths", .ref LT)]) := by rw [← hH9]; exact upd_same
            have lb9 : H9 LB = some (.dK (dictV (ps.map fun q => (q.1, V.str q.2)))) := by
              rw [← hH9, upd_ne (Ne.symm xLB)]
              exact lbL
            have lt9 : TupF H9 LT ((uniq (ps.map (·.2))).map V.str) := by
              have := congrArg (List.map kV) (dictV_keys (ps.map fun q => (q.2, V.bl true)))
              rw [List.map_map, List.map_map, List.map_map] at this
              have e : (dictV (ps.map fun q => (q.2, V.bl true))).map (fun kv => kV kv.1) = (uniq (ps.map (·.2))).map V.str := this
              rw [e] at tLT
              exact kuL.tup tLT
            refine ⟨_, rfl, _, rfl, _, rfl, _, _, _, _, ps, ns, us, rfl, in6 kp9 ha, in6 kp9 hp, in6 kp9 hv, by omega, by omega, by omega, fun KD Hk hKD m10 hKk => ?_⟩
            have hx10 := m10 _ _ hx9
            have kp10 := kp9.trans (Kp.same m10)
            refine ⟨_, rfl, x, C, dx, _, rfl, hx10, X.cl, X.n6, by simp, ?_⟩
            rw [pf6]
            have xKD := ne_of_none hx9 hKD
            have kp11 := stepX (fs2 := [("_arrays", .ref aA), ("_positions", .ref aP), ("_amounts", .ref aV), ("_length_by_array", .ref LB), ("_lengths", .ref LT), ("_kinds", .ref KD)]) kp10 hx10
            generalize hH11 : upd Hk x (.ins C dx [("_arrays", .ref aA), ("_positions", .ref aP), ("_amounts", .ref aV), ("_length_by_array", .ref LB), ("_lengths", .ref LT), ("_kinds", .ref KD)]) = H11 at kp11 ⊢
            have hlb : H11 LB = some (.dK (dictV (ps.map fun q => (q.1, V.str q.2)))) := by
              rw [← hH11, upd_ne (Ne.symm xLB)]; exact m10 _ _ lb9
            have ku11 : Kp (fun a => a = x) Hk H11 := by rw [← hH11]; exact Kp.ins rfl hx10
            have hlt : TupF H11 LT ((uniq (ps.map (·.2))).map V.str) := ku11.tup ((Kp.same (ex := fun _ => True) m10).tup lt9)
            have hkd : H11 KD = some (.dK (dictV (kl ps ns us))) := by
              rw [← hH11, upd_ne (Ne.symm xKD)]; exact hKk
            have hxx : H11 x = some (.ins C dx (flds (.ref aA) (.ref aP) (.ref aV) LB LT KD)) := by rw [← hH11]; exact upd_same
            refine ⟨_, rfl, x, C, dx, _, _, rfl, hxx, X.cl, X.n6, rfl, KD, _, rfl, hkd, ?_⟩
            refine ⟨_, rfl, _, _, rfl, .inr ⟨_, (kp11.tup tA).sq, rfl⟩, _, rfl, x, C, dx, _, _, rfl, hxx, X.cl, X.n5, rfl, _, _, rfl, .inr ⟨_, hlt.sq, rfl⟩, _, _, rfl, rfl, ?_⟩
            refine ⟨_, rfl, _, _, rfl, .inr ⟨_, (kp11.tup tP').sq, rfl⟩, _, _, rfl, rfl, ?_⟩
            refine ⟨_, rfl, _, _, rfl, .inr ⟨_, (kp11.tup tV).sq, rfl⟩, _, _, rfl, rfl, ?_⟩
            have hk := kinds_count ps ns us
            have lP := dP.len
            have lV := dV.len
            rw [List.length_map] at lP lV
            have lN : (allN ps ns us).length = ps.length + (uniq (ps.map (·.2))).length + ns.length + us.length := by
              unfold allN
              simp only [List.length_append, List.length_map]
              omega
            refine ⟨_, _, rfl, rfl, _, rfl, ?_⟩
            rw [List.length_map, List.length_map, lAn, lP, lV]
            by_cases nd : (allN ps ns us).Nodup
            · have := hk.2.mpr nd
              rw [decide_eq_false (by omega)]
              refine iteF (kg (decide_eq_true nd) _ ⟨⟨dx, LB, LT, KD, hxx, hlb, hlt, hkd⟩, (in6 kp11 ha).pairsAny, (in6 kp11 hp).strsAny, (in6 kp11 hv).strsAny, nd, la, lp, lv, fun z hz => ?_⟩ kp11)
              rcases List.mem_append.mp hz with hz | hz
              · obtain ⟨q, hq, rfl⟩ := List.mem_map.mp hz
                exact (oa q hq).1
              · rcases List.mem_append.mp hz with hz | hz
                · obtain ⟨q, hq, rfl⟩ := List.mem_map.mp hz
                  exact (oa q hq).2
                · rcases List.mem_append.mp hz with hz | hz
                  · exact op_ z hz
                  · exact ov z hz
            · have : ¬ (allN ps ns us).length ≤ (dictV (kl ps ns us)).length := fun z => nd (hk.2.mp z)
              rw [decide_eq_true (by omega)]
              exact iteT (kb (decide_eq_false nd) H11 kp11)
end
end Kx
namespace Kx
open PySem PySem.Spec PyProof.Rows L2
def pairT (q : Str × Str) : Str := q.1 ++ (":" : Str) ++ q.2
theorem DvL.strE {ex : Addr → Prop} {H : Hp} : ∀ {vs : List V} {ns : List Str}, DvL ex H vs (ns.map .str) → vs = ns.map V.str
  | _, [], .nil => rfl
  | _, z :: r, .cons a b => by rw [a.strI, DvL.strE b]; rfl
theorem pairT_len (q : Str × Str) : (pairT q).length = q.1.length + 1 + q.2.length := by
  unfold pairT
  rw [strLen_append, strLen_append, show (":" : Str).length = 1 by decide +kernel]
theorem str_emp (z : Str) : Str.empty ++ z = z := by
  show (⟨#[] ++ z.cps⟩ : Str) = z
  rw [Array.empty_append]
theorem blanks_le (zs : List Str) (n : Nat) (h : ∀ z ∈ zs, z.length ≤ n) : (blanks zs).length ≤ zs.length * n + zs.length + 1 := by
  unfold blanks
  have e1 : ("-" : Str).length = 1 := by decide +kernel
  split
  · omega
  · have := join_bound zs
    have := sum_le zs n h
    omega
theorem ps_never {X : Cx} {s : Stmt} : PS X s (fun _ _ _ => False) := ⟨fun _ _ _ _ _ _ h => h.elim⟩
theorem FrameAt.same {C x : Addr} {H H' : Hp} {va vp vv : V} {ps : List (Str × Str)} {ns us : List Str} (h : FrameAt C H x va vp vv ps ns us) (k : Same H H') : FrameAt C H' x va vp vv ps ns us := by
  obtain ⟨⟨dx, LB, LT, KD, h1, h2, h3, h4⟩, da, dp, dv, r1, r2, r3, r4, r5⟩ := h
  exact ⟨⟨dx, LB, LT, KD, k _ _ h1, k _ _ h2, (Kp.same (ex := fun _ => True) k).tup h3, k _ _ h4⟩, da.kp (Kp.same k), dp.kp (Kp.same k), dv.kp (Kp.same k), r1, r2, r3, r4, r5⟩
theorem FrameAt.nm {C x : Addr} {H : Hp} {va vp vv : V} {ps : List (Str × Str)} {ns us : List Str} (h : FrameAt C H x va vp vv ps ns us) {z : Str} (hz : z ∈ allN ps ns us) : NameS z := by
  refine h.ok z ?_
  rcases List.mem_append.mp hz with q | q
  · exact List.mem_append.mpr (.inl q)
  · rcases List.mem_append.mp q with q | q
    · exact List.mem_append.mpr (.inr (List.mem_append.mpr (.inl ((uniq_mem _ _).mp q))))
    · exact List.mem_append.mpr (.inr (List.mem_append.mpr (.inr q)))
/-! ### kinds -/
def kindF (ps : List (Str × Str)) (ns : List Str) (z : Str) : Str := if z ∈ ps.map (·.1) then "array" else if z ∈ ps.map (·.2) then "length" else if z ∈ ns then "position" else "value"
theorem nd4 {a b c d : List Str} (h : (a ++ (b ++ (c ++ d))).Nodup) : a.Nodup ∧ (∀ z ∈ b, z ∉ a) ∧ (∀ z ∈ c, z ∉ a ∧ z ∉ b) ∧ ∀ z ∈ d, z ∉ a ∧ z ∉ b ∧ z ∉ c := by
  obtain ⟨h1, h2, h3⟩ := List.nodup_append.mp h
  obtain ⟨h4, h5, h6⟩ := List.nodup_append.mp h2
  obtain ⟨h7, h8, h9⟩ := List.nodup_append.mp h5
  refine ⟨h1, fun z hz q => h3 z q z (List.mem_append.mpr (.inl hz)) rfl, fun z hz => ⟨fun q => h3 z q z (List.mem_append.mpr (.inr (List.mem_append.mpr (.inl hz)))) rfl, fun q => h6 z q z (List.mem_append.mpr (.inl hz)) rfl⟩,
    fun z hz => ⟨fun q => h3 z q z (List.mem_append.mpr (.inr (List.mem_append.mpr (.inr hz)))) rfl, fun q => h6 z q z (List.mem_append.mpr (.inr hz)) rfl, fun q => h9 z q z hz rfl⟩⟩
theorem kind_array {ps : List (Str × Str)} {ns us : List Str} (nd : (allN ps ns us).Nodup) : ∀ z ∈ ps.map (·.1), kindF ps ns z = "array" := fun z hz => if_pos hz
theorem kind_length {ps : List (Str × Str)} {ns us : List Str} (nd : (allN ps ns us).Nodup) : ∀ z ∈ ps.map (·.2), kindF ps ns z = "length" := fun z hz => by
  unfold kindF
  rw [if_neg ((nd4 nd).2.1 z ((uniq_mem _ _).mpr hz)), if_pos hz]
theorem kind_position {ps : List (Str × Str)} {ns us : List Str} (nd : (allN ps ns us).Nodup) : ∀ z ∈ ns, kindF ps ns z = "position" := fun z hz => by
  have := (nd4 nd).2.2.1 z hz
  unfold kindF
  rw [if_neg this.1, if_neg (fun q => this.2 ((uniq_mem _ _).mpr q)), if_pos hz]
theorem kind_value {ps : List (Str × Str)} {ns us : List Str} (nd : (allN ps ns us).Nodup) : ∀ z ∈ us, kindF ps ns z = "value" := fun z hz => by
  have := (nd4 nd).2.2.2 z hz
  unfold kindF
  rw [if_neg this.1, if_neg (fun q => this.2.1 ((uniq_mem _ _).mpr q)), if_neg this.2.2]
theorem kl_val {ps : List (Str × Str)} {ns us : List Str} (nd : (allN ps ns us).Nodup) {z : Str} (hz : z ∈ allN ps ns us) : valV (dictV (kl ps ns us)) (.inr z) = some (.str (kindF ps ns z)) := by
  rw [dictV_val (fun z => V.str (kindF ps ns z)) (kl ps ns us) ?_ z, if_pos ((kl_mem _ _ _ _).mpr hz)]
  intro q hq
  unfold kl at hq
  rcases List.mem_append.mp hq with hq | hq
  · obtain ⟨p, hp, hq⟩ := List.mem_flatMap.mp hq
    rcases List.mem_cons.mp hq with rfl | hq
    · exact congrArg V.str (kind_array nd p.1 (List.mem_map.mpr ⟨p, hp, rfl⟩)).symm
    · rcases List.mem_cons.mp hq with rfl | hq
      · exact congrArg V.str (kind_length nd p.2 (List.mem_map.mpr ⟨p, hp, rfl⟩)).symm
      · cases hq
  · rcases List.mem_append.mp hq with hq | hq
    · obtain ⟨y, hy, rfl⟩ := List.mem_map.mp hq
      exact congrArg V.str (kind_position nd y hy).symm
    · obtain ⟨y, hy, rfl⟩ := List.mem_map.mp hq
      exact congrArg V.str (kind_value nd y hy).symm
theorem find_of {q : Str × Str} : ∀ {ps : List (Str × Str)}, (ps.map (·.1)).Nodup → q ∈ ps → ps.find? (fun p => decide (p.1 = q.1)) = some q
  | p :: r, nd, h => by
    rw [List.map_cons, List.nodup_cons] at nd
    by_cases e : p.1 = q.1
    · rcases List.mem_cons.mp h with rfl | h
      · exact List.find?_cons_of_pos (decide_eq_true rfl)
      · exact absurd (List.mem_map.mpr ⟨q, h, e.symm⟩) nd.1
    · rw [List.find?_cons_of_neg (by rw [decide_eq_false e]; exact Bool.false_ne_true)]
      rcases List.mem_cons.mp h with rfl | h
      · exact absurd rfl e
      · exact find_of nd.2 h
theorem lb_val {ps : List (Str × Str)} (nd : (ps.map (·.1)).Nodup) {q : Str × Str} (hq : q ∈ ps) : valV (dictV (ps.map fun q => (q.1, V.str q.2))) (.inr q.1) = some (.str q.2) := by
  rw [dictV_val (fun z => match ps.find? (fun p => decide (p.1 = z)) with | some p => V.str p.2 | none => V.non) (ps.map fun q => (q.1, V.str q.2)) ?_ q.1, if_pos (by rw [List.map_map]; exact List.mem_map.mpr ⟨q, hq, rfl⟩)]
  · show some (match ps.find? (fun p => decide (p.1 = q.1)) with | some p => V.str p.2 | none => V.non) = _
    rw [find_of nd hq]
  · intro y hy
    obtain ⟨p, hp, rfl⟩ := List.mem_map.mp hy
    show V.str p.2 = match ps.find? (fun z => decide (z.1 = p.1)) with | some p => V.str p.2 | none => V.non
    rw [find_of nd hp]
/-! ### methods -/
def HasM (K : PySem.W.Frag) (C : Addr) (m q : Str) (st : Stmt) : Prop := ∃ f fd, FunD K m q (defArgs st) (defBody st) (defScope st) [] [] f fd ∧ Meth K C m f
abbrev Me (P : Program) (w : World) (K : PySem.W.Frag) (mg : Str → Option Value) (base : Heap) (C : Addr) (k : Nat) (m : Str) (ps : List Str) (sp : Sp) : Prop := ∃ f fd, FnOk P w K mg base CX0 k f fd ps sp ∧ Meth K C m f ∧ Binds K fd ps []
section
variable {P : Program} {w : World} {K : PySem.W.Frag} {mg : Str → Option Value} {base : Heap}
theorem met_of {C : Addr} {m q : Str} {st : Stmt} {N ps : List Str} {k : Nat} {sp : Sp} (h : HasM K C m q st) (S : FnScope N ps (defScope st))
    (bd : ∀ (kV doc pm : Value) (an : Option Addr) (cdv ct : Value) (us : List Value), us.length = ps.length → bindArgs (PySem.W.fnOf m q (defArgs st) (defBody st) (defScope st) .none kV doc pm an cdv ct) ⟨us, []⟩ = pure (ps.zip us))
    (len : ∀ vs H Q E, sp vs H Q E → vs.length = ps.length)
    (body : ∀ (f : Addr) (cdv : Value) (A : Around) (outer : List Env) (s : Shared) (H : Hp) (vs : List V) (Q : VK) (E : XK), Room k (A.deeper (envOfC q (defScope st) s.heap.objs.size f cdv)) → sp vs H Q E →
      ∃ t, PSs (cxOf CX0 P w K mg base N q (defScope st) f cdv A outer s H E).nox (defBody st) t ∧ t { nx := fun _ H' => Q .non H', rt := Q } (start N vs) H) : Me P w K mg base C (k + 1) m ps sp := by
  obtain ⟨f, fd, F, g⟩ := h
  exact ⟨f, fd, F.ok S len (fun cdv A outer s H vs Q E hr h => let ⟨t, ht, q⟩ := body f cdv A outer s H vs Q E hr h; ⟨t, PSs.nox ht, q⟩), g, F.bindsN bd⟩
abbrev N_Frame_is_of_kind : List Str := ["self", "value", "kind"]
abbrev P_Frame_is_of_kind : List Str := ["self", "value", "kind"]
theorem sc_Frame_is_of_kind : FnScope N_Frame_is_of_kind P_Frame_is_of_kind (defScope s_Frame_is_of_kind) := ⟨rfl, rfl, rfl, by decide +kernel, rfl, by decide +kernel, by decide +kernel⟩
def spKind (C : Addr) : Sp := fun vs H Q _ => ∃ (x : Addr) (va vp vv : V) (ps : List (Str × Str)) (ns us : List Str) (z k : Str), vs = [.ref x, .str z, .str k] ∧ FrameAt C H x va vp vv ps ns us ∧ z ∈ allN ps ns us ∧ Q (.bl (decide (kindF ps ns z = k))) H
theorem ok_kind (T : Bt mg) {C : Addr} (X : Fx K mg C) (h : HasM K C "_is_of_kind" "Frame._is_of_kind" s_Frame_is_of_kind) : Me P w K mg base C 1 "_is_of_kind" P_Frame_is_of_kind (spKind C) := by
  refine met_of h sc_Frame_is_of_kind (fun _ _ _ _ _ _ us hl => match us, hl with | [_, _, _], _ => rfl) (fun vs H Q E h => ?_) (fun f cdv A outer s H vs Q E hr h => ?_)
  · obtain ⟨x, va, vp, vv, ps, ns, us, z, k, rfl, _⟩ := h
    rfl
  · obtain ⟨x, va, vp, vv, ps, ns, us, z, k, rfl, fr, hz, q⟩ := h
    refine ⟨_, (pss_one (ps_ret (pe_and (pe_callB call_isi (by rfl) T.isinstance (by decide +kernel) (pa_cons (pv 1) (pa_cons (pe_bltn (v := .ty "str") (by rfl) T.str (by decide +kernel) rfl) pa_nil))) (pe_one (pe_cmpR op_eq (pe_dget1 (hu_of hr) (pe_fld (pv 0) rfl) (pv 1) ⟨rfl, rfl, rfl, rfl⟩) (pv 2) (nomark _)))))), ?_⟩
    obtain ⟨⟨dx, LB, LT, KD, hx, hlb, hlt, hkd⟩, da, dp, dv, nd, _⟩ := fr
    refine ⟨_, rfl, _, _, _, _, _, rfl, .ty _, (Dv.str (ex := fun _ => True) (H := H) z).ty, kitS (.str z), _, rfl, iteT ?_⟩
    refine ⟨_, rfl, x, C, dx, _, _, rfl, hx, X.cl, X.n6, rfl, KD, rfl, .inl ⟨_, .inl hkd⟩, _, rfl, _, DGet.k (k := .inr z) hkd, ?_⟩
    rw [kl_val nd hz]
    refine ⟨_, rfl, rfl, ?_⟩
    rw [show decide ((some (V.str (kindF ps ns z))).getD V.non = V.str k) = decide (kindF ps ns z = k) from decide_eq_decide.mpr ⟨fun e => by injection e, fun e => congrArg V.str e⟩]
    exact q
theorem kl_get {ps : List (Str × Str)} {ns us : List Str} (nd : (allN ps ns us).Nodup) (z : Str) : valV (dictV (kl ps ns us)) (.inr z) = if z ∈ allN ps ns us then some (.str (kindF ps ns z)) else none := by
  by_cases hz : z ∈ allN ps ns us
  · rw [if_pos hz, kl_val nd hz]
  · rw [if_neg hz, dictV_val (fun z => V.str (kindF ps ns z)) (kl ps ns us) ?_ z, if_neg (fun q => hz ((kl_mem _ _ _ _).mp q))]
    intro q hq
    unfold kl at hq
    rcases List.mem_append.mp hq with hq | hq
    · obtain ⟨p, hp, hq⟩ := List.mem_flatMap.mp hq
      rcases List.mem_cons.mp hq with rfl | hq
      · exact congrArg V.str (kind_array nd p.1 (List.mem_map.mpr ⟨p, hp, rfl⟩)).symm
      · rcases List.mem_cons.mp hq with rfl | hq
        · exact congrArg V.str (kind_length nd p.2 (List.mem_map.mpr ⟨p, hp, rfl⟩)).symm
        · cases hq
    · rcases List.mem_append.mp hq with hq | hq
      · obtain ⟨y, hy, rfl⟩ := List.mem_map.mp hq
        exact congrArg V.str (kind_position nd y hy).symm
      · obtain ⟨y, hy, rfl⟩ := List.mem_map.mp hq
        exact congrArg V.str (kind_value nd y hy).symm
def hasD (ps : List (Str × Str)) (ns us : List Str) : PyData → Bool
  | .str z => decide (z ∈ allN ps ns us)
  | _ => false
abbrev N_Frame_contains : List Str := ["self", "value"]
abbrev P_Frame_contains : List Str := ["self", "value"]
theorem sc_Frame_contains : FnScope N_Frame_contains P_Frame_contains (defScope s_Frame_contains) := ⟨rfl, rfl, rfl, by decide +kernel, rfl, by decide +kernel, by decide +kernel⟩
def spHas (C : Addr) : Sp := fun vs H Q _ => ∃ (ex : Addr → Prop) (x : Addr) (va vp vv : V) (ps : List (Str × Str)) (ns us : List Str) (v : V) (d : PyData), vs = [.ref x, v] ∧ FrameAt C H x va vp vv ps ns us ∧ Dv ex H v d ∧ Q (.bl (hasD ps ns us d)) H
theorem ok_contains (T : Bt mg) {C : Addr} (X : Fx K mg C) (h : HasM K C "__contains__" "Frame.__contains__" s_Frame_contains) : Me P w K mg base C 1 "__contains__" P_Frame_contains (spHas C) := by
  refine met_of h sc_Frame_contains (fun _ _ _ _ _ _ us hl => match us, hl with | [_, _], _ => rfl) (fun vs H Q E h => ?_) (fun f cdv A outer s H vs Q E hr h => ?_)
  · obtain ⟨ex, x, va, vp, vv, ps, ns, us, v, d, rfl, _⟩ := h
    rfl
  · obtain ⟨ex, x, va, vp, vv, ps, ns, us, v, d, rfl, fr, dv', q⟩ := h
    refine ⟨_, (pss_one (ps_ret (pe_and (pe_callB call_isi (by rfl) T.isinstance (by decide +kernel) (pa_cons (pv 1) (pa_cons (pe_bltn (v := .ty "str") (by rfl) T.str (by decide +kernel) rfl) pa_nil))) (pe_one (pe_cmp (pc_din (hu_of hr) (pv 1) (pe_fld (pv 0) rfl)) rfl))))), ?_⟩
    obtain ⟨⟨dx, LB, LT, KD, hx, hlb, hlt, hkd⟩, da, dp, dv, nd, _⟩ := fr
    refine ⟨_, rfl, _, _, _, _, _, rfl, .ty _, dv'.ty, kitS d, _, rfl, ?_⟩
    cases e : isStrD d with
    | false =>
      have no : hasD ps ns us d = false := by cases d <;> first | rfl | cases e
      rw [no] at q
      exact iteF q
    | true =>
      obtain ⟨z, rfl⟩ : ∃ z, d = .str z := by cases d <;> first | exact ⟨_, rfl⟩ | cases e
      cases dv'.strI
      refine iteT ⟨_, rfl, _, rfl, x, C, dx, _, _, rfl, hx, X.cl, X.n6, rfl, KD, _, rfl, DGet.k (k := .inr z) hkd, ?_⟩
      rw [kl_get nd z]
      have e2 : (if z ∈ allN ps ns us then some (V.str (kindF ps ns z)) else none).isSome = hasD ps ns us (.str z) := by
        by_cases hz : z ∈ allN ps ns us
        · rw [if_pos hz]; exact (decide_eq_true hz).symm
        · rw [if_neg hz]; exact (decide_eq_false hz).symm
      rw [e2]
      exact q
abbrev N_Frame_is_fresh : List Str := ["self", "value"]
abbrev P_Frame_is_fresh : List Str := ["self", "value"]
theorem sc_Frame_is_fresh : FnScope N_Frame_is_fresh P_Frame_is_fresh (defScope s_Frame_is_fresh) := ⟨rfl, rfl, rfl, by decide +kernel, rfl, by decide +kernel, by decide +kernel⟩
def freshD (ps : List (Str × Str)) (ns us : List Str) (d : PyData) : Bool := nameD d && !hasD ps ns us d
def spFresh (C : Addr) : Sp := fun vs H Q _ => ∃ (ex : Addr → Prop) (x : Addr) (va vp vv : V) (ps : List (Str × Str)) (ns us : List Str) (v : V) (d : PyData), vs = [.ref x, v] ∧ FrameAt C H x va vp vv ps ns us ∧ Dv ex H v d ∧ cost d ≤ 8000000 ∧ ∀ H', Same H H' → Q (.bl (freshD ps ns us d)) H'
theorem ok_fresh (T : Bt mg) {C : Addr} (X : Fx K mg C) (h : HasM K C "is_fresh" "Frame.is_fresh" s_Frame_is_fresh) (C1 : Ca P w K mg base 1 "is_name" P_is_name (spJudge nameD)) : Me P w K mg base C 2 "is_fresh" P_Frame_is_fresh (spFresh C) := by
  obtain ⟨_, _, c_is_name⟩ := C1
  refine met_of h sc_Frame_is_fresh (fun _ _ _ _ _ _ us hl => match us, hl with | [_, _], _ => rfl) (fun vs H Q E h => ?_) (fun f cdv A outer s H vs Q E hr h => ?_)
  · obtain ⟨ex, x, va, vp, vv, ps, ns, us, v, d, rfl, _⟩ := h
    rfl
  · obtain ⟨ex, x, va, vp, vv, ps, ns, us, v, d, rfl, fr, dv', hc, q⟩ := h
    refine ⟨_, (pss_one (ps_ret (pe_and (pe_call c_is_name.1 (hr.mono (by decide)) rfl c_is_name.2.1 c_is_name.2.2.1 c_is_name.2.2.2 .nil pass0 (pa_cons (pv 1) pa_nil)) (pe_one (pe_cmp (pc_dnotin (hu_of hr) (pv 1) (pe_fld (pv 0) rfl)) rfl))))), ?_⟩
    obtain ⟨dx, LB, LT, KD, hx, hlb, hlt, hkd⟩ := fr.ob
    refine ⟨_, rfl, ex, _, d, rfl, dv', hc, fun H2 sm => ?_⟩
    have q2 := q H2 sm
    unfold freshD at q2
    cases e : nameD d with
    | false =>
      rw [e] at q2
      exact ⟨_, rfl, iteF q2⟩
    | true =>
      rw [e] at q2
      obtain ⟨z, rfl, _⟩ := nameD_str e
      cases dv'.strI
      refine ⟨_, rfl, iteT ?_⟩
      refine ⟨_, rfl, _, rfl, x, C, dx, _, _, rfl, sm _ _ hx, X.cl, X.n6, rfl, KD, _, rfl, DGet.k (k := .inr z) (sm _ _ hkd), ?_⟩
      rw [kl_get fr.nd z]
      have e2 : (!(if z ∈ allN ps ns us then some (V.str (kindF ps ns z)) else none).isSome) = (true && !hasD ps ns us (.str z)) := by
        by_cases hz : z ∈ allN ps ns us
        · rw [if_pos hz, show hasD ps ns us (.str z) = true from decide_eq_true hz]; rfl
        · rw [if_neg hz, show hasD ps ns us (.str z) = false from decide_eq_false hz]; rfl
      rw [e2]
      exact q2
abbrev N_Frame_kind_of : List Str := ["self", "name"]
abbrev P_Frame_kind_of : List Str := ["self", "name"]
theorem sc_Frame_kind_of : FnScope N_Frame_kind_of P_Frame_kind_of (defScope s_Frame_kind_of) := ⟨rfl, rfl, rfl, by decide +kernel, rfl, by decide +kernel, by decide +kernel⟩
def spKindOf (C : Addr) : Sp := fun vs H Q _ => ∃ (x : Addr) (va vp vv : V) (ps : List (Str × Str)) (ns us : List Str) (z : Str), vs = [.ref x, .str z] ∧ FrameAt C H x va vp vv ps ns us ∧ z ∈ allN ps ns us ∧ Q (.str (kindF ps ns z)) H
theorem ok_kind_of (T : Bt mg) {C : Addr} (X : Fx K mg C) (h : HasM K C "kind_of" "Frame.kind_of" s_Frame_kind_of) (C1 : Me P w K mg base C 1 "__contains__" P_Frame_contains (spHas C)) : Me P w K mg base C 2 "kind_of" P_Frame_kind_of (spKindOf C) := by
  obtain ⟨_, _, c_contains⟩ := C1
  refine met_of h sc_Frame_kind_of (fun _ _ _ _ _ _ us hl => match us, hl with | [_, _], _ => rfl) (fun vs H Q E h => ?_) (fun f cdv A outer s H vs Q E hr h => ?_)
  · obtain ⟨x, va, vp, vv, ps, ns, us, z, rfl, _⟩ := h
    rfl
  · obtain ⟨x, va, vp, vv, ps, ns, us, z, rfl, fr, hz, q⟩ := h
    refine ⟨_, (pss_cons (ps_if (pt_cmpR (op_notInO X.cl c_contains.2.1.at_ c_contains.2.1.fn c_contains.1 (hr.mono (by decide)) c_contains.2.2 pass0) (pv 1) (pv 0) rfl) (pss_one ps_never) pss_nil)
      (pss_one (ps_ret (pe_dget (hu_of hr) (pe_fld (pv 0) rfl) (pv 1) (fun _ _ => rfl))))), ?_⟩
    obtain ⟨dx, LB, LT, KD, hx, hlb, hlt, hkd⟩ := fr.ob
    refine ⟨_, rfl, _, rfl, x, dx, _, rfl, hx, fun _ => True, x, va, vp, vv, ps, ns, us, _, .str z, rfl, fr, .str z, _, rfl, _, rfl, ?_⟩
    rw [show hasD ps ns us (.str z) = true from decide_eq_true hz]
    refine iteF ?_
    refine ⟨_, rfl, x, C, dx, _, _, rfl, hx, X.cl, X.n6, rfl, _, rfl, KD, _, rfl, ?_, q⟩
    rw [← kl_val fr.nd hz]
    exact DGet.k (k := .inr z) hkd
abbrev N_Frame_length_of : List Str := ["self", "array"]
abbrev P_Frame_length_of : List Str := ["self", "array"]
theorem sc_Frame_length_of : FnScope N_Frame_length_of P_Frame_length_of (defScope s_Frame_length_of) := ⟨rfl, rfl, rfl, by decide +kernel, rfl, by decide +kernel, by decide +kernel⟩
def spLenOf (C : Addr) : Sp := fun vs H Q _ => ∃ (x : Addr) (va vp vv : V) (ps : List (Str × Str)) (ns us : List Str) (q : Str × Str), vs = [.ref x, .str q.1] ∧ FrameAt C H x va vp vv ps ns us ∧ q ∈ ps ∧ Q (.str q.2) H
theorem ok_length_of (T : Bt mg) {C : Addr} (X : Fx K mg C) (h : HasM K C "length_of" "Frame.length_of" s_Frame_length_of) (C1 : Me P w K mg base C 1 "_is_of_kind" P_Frame_is_of_kind (spKind C)) : Me P w K mg base C 2 "length_of" P_Frame_length_of (spLenOf C) := by
  obtain ⟨_, _, c_is_of_kind⟩ := C1
  refine met_of h sc_Frame_length_of (fun _ _ _ _ _ _ us hl => match us, hl with | [_, _], _ => rfl) (fun vs H Q E h => ?_) (fun f cdv A outer s H vs Q E hr h => ?_)
  · obtain ⟨x, va, vp, vv, ps, ns, us, z, rfl, _⟩ := h
    rfl
  · obtain ⟨x, va, vp, vv, ps, ns, us, p, rfl, fr, hz, q⟩ := h
    refine ⟨_, (pss_cons (ps_if (pt_not (pt_val (pe_meth (pv 0) X.cl c_is_of_kind.2.1 c_is_of_kind.1 (hr.mono (by decide)) c_is_of_kind.2.2 .nil pass0 (pa_cons (pv 1) (pa_cons pe_str pa_nil))))) (pss_one ps_never) pss_nil)
      (pss_one (ps_ret (pe_dget (hu_of hr) (pe_fld (pv 0) rfl) (pv 1) (fun _ _ => rfl))))), ?_⟩
    obtain ⟨dx, LB, LT, KD, hx, hlb, hlt, hkd⟩ := fr.ob
    have hm : p.1 ∈ ps.map (·.1) := List.mem_map.mpr ⟨p, hz, rfl⟩
    refine ⟨_, rfl, x, dx, _, rfl, hx, rfl, _, rfl, x, va, vp, vv, ps, ns, us, p.1, _, rfl, fr, List.mem_append.mpr (.inl hm), ?_⟩
    rw [kind_array fr.nd _ hm]
    refine ⟨_, rfl, iteF ?_⟩
    refine ⟨_, rfl, x, C, dx, _, _, rfl, hx, X.cl, X.n4, rfl, _, rfl, LB, _, rfl, ?_, q⟩
    rw [← lb_val (nd4 fr.nd).1 hz]
    exact DGet.k (k := .inr p.1) hlb
abbrev N_Frame_len : List Str := ["self"]
abbrev P_Frame_len : List Str := ["self"]
theorem sc_Frame_len : FnScope N_Frame_len P_Frame_len (defScope s_Frame_len) := ⟨rfl, rfl, rfl, by decide +kernel, rfl, by decide +kernel, by decide +kernel⟩
def spLen (C : Addr) : Sp := fun vs H Q _ => ∃ (x : Addr) (va vp vv : V) (ps : List (Str × Str)) (ns us : List Str), vs = [.ref x] ∧ FrameAt C H x va vp vv ps ns us ∧ Q (.int (allN ps ns us).length) H
theorem ok_len (T : Bt mg) {C : Addr} (X : Fx K mg C) (h : HasM K C "__len__" "Frame.__len__" s_Frame_len) : Me P w K mg base C 1 "__len__" P_Frame_len (spLen C) := by
  refine met_of h sc_Frame_len (fun _ _ _ _ _ _ us hl => match us, hl with | [_], _ => rfl) (fun vs H Q E h => ?_) (fun f cdv A outer s H vs Q E hr h => ?_)
  · obtain ⟨x, va, vp, vv, ps, ns, us, rfl, _⟩ := h
    rfl
  · obtain ⟨x, va, vp, vv, ps, ns, us, rfl, fr, q⟩ := h
    refine ⟨_, (pss_one (ps_ret (pe_callB call_lenD (by rfl) T.len (by decide +kernel) (pa_cons (pe_fld (pv 0) rfl) pa_nil)))), ?_⟩
    obtain ⟨⟨dx, LB, LT, KD, hx, hlb, hlt, hkd⟩, da, dp, dv, nd, _⟩ := fr
    refine ⟨_, rfl, x, C, dx, _, _, rfl, hx, X.cl, X.n6, rfl, KD, _, rfl, hkd, ?_⟩
    have := kinds_count ps ns us
    rw [show (dictV (kl ps ns us)).length = (allN ps ns us).length from Nat.le_antisymm this.1 (this.2.mpr nd)]
    exact q
abbrev N_Frame_str : List Str := ["self", "arrays", "array", "length"]
abbrev P_Frame_str : List Str := ["self"]
theorem sc_Frame_str : FnScope N_Frame_str P_Frame_str (defScope s_Frame_str) := ⟨rfl, rfl, rfl, by decide +kernel, rfl, by decide +kernel, by decide +kernel⟩
def rowS (ps : List (Str × Str)) (ns us : List Str) : Str := blanks (ps.map pairT) ++ " | " ++ blanks ns ++ " | " ++ blanks us
def spStr (C : Addr) : Sp := fun vs H Q _ => ∃ (x : Addr) (va vp vv : V) (ps : List (Str × Str)) (ns us : List Str), vs = [.ref x] ∧ FrameAt C H x va vp vv ps ns us ∧ ∀ H', Same H H' → Q (.str (rowS ps ns us)) H'
theorem ok_str (T : Bt mg) {C : Addr} (X : Fx K mg C) (h : HasM K C "__str__" "Frame.__str__" s_Frame_str) (C1 : Ca P w K mg base 1 "_with_blanks" P_with_blanks (spBlanks K)) : Me P w K mg base C 2 "__str__" P_Frame_str (spStr C) := by
  obtain ⟨_, _, c__with_blanks⟩ := C1
  refine met_of h sc_Frame_str (fun _ _ _ _ _ _ us hl => match us, hl with | [_], _ => rfl) (fun vs H Q E h => ?_) (fun f cdv A outer s H vs Q E hr h => ?_)
  · obtain ⟨x, va, vp, vv, ps, ns, us, rfl, _⟩ := h
    rfl
  · obtain ⟨x, va, vp, vv, ps, ns, us, rfl, fr, q⟩ := h
    refine ⟨_, (pss_cons (ps_set (i := 1) sc_Frame_str.nd rfl (.inl rfl) (pe_call c__with_blanks.1 (hr.mono (by decide)) rfl c__with_blanks.2.1 c__with_blanks.2.2.1 c__with_blanks.2.2.2 .nil pass0 (pa_cons (pe_lc (own := [("array", 2), ("length", 3)]) (g := (gTup K 2 (gCons (gName 2) (gCons (gName 3) gNil)))) (tt := tYes) (by rfl) sc_Frame_str.nd (pi_tup (pe_fld (pv 0) rfl)) (blkOk_by (own := [("array", 2), ("length", 3)]) (N := ["self", "arrays", "array", "length"]) (sc := defScope s_Frame_str) (by decide +kernel)) (fun _ _ _ _ _ => pg_tup (by rfl) (pgs_cons (pg_name (i := 2) sc_Frame_str.nd rfl (Or.inl rfl)) (pgs_cons (pg_name (i := 3) sc_Frame_str.nd rfl (Or.inl rfl)) pgs_nil))) (fun _ _ _ _ _ => pts_nil) (fun _ _ _ _ _ => (pe_joined (.cons (pe_fmt (pv 2)) (.cons pe_str (.cons (pe_fmt (pv 3)) .nil)))))) pa_nil)))
      (pss_one (ps_ret (pe_joined (.cons (pe_fmt (pv 1)) (.cons pe_str (.cons (pe_fmt (pe_call c__with_blanks.1 (hr.mono (by decide)) rfl c__with_blanks.2.1 c__with_blanks.2.2.1 c__with_blanks.2.2.2 .nil pass0 (pa_cons (pe_fld (pv 0) rfl) pa_nil))) (.cons pe_str (.cons (pe_fmt (pe_call c__with_blanks.1 (hr.mono (by decide)) rfl c__with_blanks.2.1 c__with_blanks.2.2.1 c__with_blanks.2.2.2 .nil pass0 (pa_cons (pe_fld (pv 0) rfl) pa_nil))) .nil))))))))), ?_⟩
    obtain ⟨dx, LB, LT, KD, hx, hlb, hlt, hkd⟩ := fr.ob
    obtain ⟨aA, xA, rfl, tA, dA⟩ := fr.da.tupI
    refine ⟨_, rfl, x, C, dx, _, _, rfl, hx, X.cl, X.n1, rfl, aA, rfl, ⟨_, tA.sq⟩, fun D hD => ?_⟩
    have okA : ∀ q ∈ ps, q.1.length ≤ 8 ∧ q.2.length ≤ 8 := fun q hq => ⟨(fr.ok q.1 (List.mem_append.mpr (.inl (List.mem_map.mpr ⟨q, hq, rfl⟩)))).2.1, (fr.ok q.2 (List.mem_append.mpr (.inr (List.mem_append.mpr (.inl (List.mem_map.mpr ⟨q, hq, rfl⟩)))))).2.1⟩
    have okN : ∀ z ∈ ns, 1 ≤ z.length ∧ z.length ≤ 8 := fun z hz => let n := fr.ok z (List.mem_append.mpr (.inr (List.mem_append.mpr (.inr (List.mem_append.mpr (.inl hz)))))); ⟨n.1, n.2.1⟩
    have okU : ∀ z ∈ us, 1 ≤ z.length ∧ z.length ≤ 8 := fun z hz => let n := fr.ok z (List.mem_append.mpr (.inr (List.mem_append.mpr (.inr (List.mem_append.mpr (.inr hz)))))); ⟨n.1, n.2.1⟩
    have lA := fr.l1
    have lN := fr.l2
    have lU := fr.l3
    have nA := dA.len
    rw [List.length_map] at nA
    have le0 : (Str.empty : Str).length = 0 := by decide +kernel
    have le1 : (":" : Str).length = 1 := by decide +kernel
    have le3 : (" | " : Str).length = 3 := by decide +kernel
    refine lc_o (walk_tup (K := K) (a := aA) (xs := xA)) (te := fun σ H Q => tJs [tFmt (tVar 2), tC (V.str ":"), tFmt (tVar 3)] Str.empty σ H fun out H1 => Q (V.str out) H1) (fun i => ps[i]?.map fun q => V.str (pairT q)) (by rw [sizeLine_eq]; omega) hD (fun Hx sm => ((Kp.same (ex := fun _ => True) sm).tup tA).sq) ?_ ?_
    · rintro i y Hx H' Nx hi sm hDx ⟨rfl, hy⟩ hno hyes
      obtain ⟨e, he, dve⟩ := dA.get hy
      have hi' : i < ps.length := by omega
      rw [List.getElem?_map, List.getElem?_eq_getElem hi'] at he
      cases he
      obtain ⟨b, rfl, hb⟩ := dve.pairI
      have hq := okA _ (List.getElem_mem hi')
      refine ⟨b, _, rfl, ((Kp.same (ex := fun _ => True) sm).tup hb).sq, rfl, _, _, rfl, _, _, rfl, rfl, ?_⟩
      refine ⟨rfl, yes (⟨_, rfl, .inl ⟨_, rfl, ?_, _, rfl, ?_, _, rfl, ?_, _, rfl, .inl ⟨_, rfl, ?_, _, rfl, ?_, ?_⟩⟩⟩)⟩
      · rw [sizeLine_eq]; omega
      · rw [sizeLine_eq, strLen_append]; omega
      · rw [sizeLine_eq, strLen_append, strLen_append]; omega
      · rw [sizeLine_eq]; omega
      · rw [sizeLine_eq, strLen_append, strLen_append, strLen_append]; omega
      · rw [str_emp]
        exact hyes _ (by rw [List.getElem?_eq_getElem hi']; rfl) _ Same.refl
    · intro Hx sm hDx
      have hDx2 : Hx D = some (.lst ((ps.map pairT).map V.str)) := by
        rw [List.map_map]
        rw [nA, range_list] at hDx
        exact hDx
      obtain ⟨aP, xP, rfl, tP, dP⟩ := fr.dp.tupI
      obtain ⟨aU, xU, rfl, tU, dU⟩ := fr.dv.tupI
      have b1 := blanks_le (ps.map pairT) 17 (fun z hz => by
        obtain ⟨q, hq, rfl⟩ := List.mem_map.mp hz
        have := okA q hq
        rw [pairT_len]; omega)
      have b2 := blanks_le ns 8 fun z hz => (okN z hz).2
      have b3 := blanks_le us 8 fun z hz => (okU z hz).2
      rw [List.length_map] at b1
      have hx2 := sm _ _ hx
      refine ⟨D, _, rfl, .inl (SqL.of hDx2), by rw [List.length_map]; omega, fun z hz => ?_, ?_⟩
      · obtain ⟨q, hq, rfl⟩ := List.mem_map.mp hz
        have := okA q hq
        rw [pairT_len]; omega
      · refine ⟨_, rfl, .inl ⟨_, rfl, by rw [sizeLine_eq]; omega, _, rfl, by rw [sizeLine_eq, strLen_append]; omega, _, rfl, by rw [sizeLine_eq, strLen_append, strLen_append]; omega, ?_⟩⟩
        refine ⟨_, rfl, x, C, dx, _, _, rfl, hx2, X.cl, X.n2, rfl, aP, ns, rfl, .inr ?_, by omega, fun z hz => ⟨(okN z hz).1, by have := (okN z hz).2; omega⟩, ?_⟩
        · exact (((Kp.same (ex := fun _ => True) sm).tup tP).sq (K := K)) |> fun h => by rw [dP.strE] at h; exact h
        refine .inl ⟨_, rfl, by rw [sizeLine_eq]; omega, _, rfl, by rw [sizeLine_eq, strLen_append, strLen_append, strLen_append]; omega, _, rfl, by rw [sizeLine_eq, strLen_append, strLen_append, strLen_append, strLen_append]; omega, ?_⟩
        refine ⟨_, rfl, x, C, dx, _, _, rfl, hx2, X.cl, X.n3, rfl, aU, us, rfl, .inr ?_, by omega, fun z hz => ⟨(okU z hz).1, by have := (okU z hz).2; omega⟩, ?_⟩
        · exact (((Kp.same (ex := fun _ => True) sm).tup tU).sq (K := K)) |> fun h => by rw [dU.strE] at h; exact h
        refine .inl ⟨_, rfl, by rw [sizeLine_eq]; omega, _, rfl, by rw [sizeLine_eq, strLen_append, strLen_append, strLen_append, strLen_append, strLen_append]; omega, ?_⟩
        have := q Hx sm
        unfold rowS at this
        rw [str_emp]
        exact this
end
end Kx
namespace Kx
open PySem PySem.Spec PyProof.Rows L2
/-! ### list == [] whatever the items are -/
section
variable {X : Cx}
def rEqL0 (K : PySem.W.Frag) : R2 := fun x y H Q => ∃ a b xs, x = .ref a ∧ y = .ref b ∧ SqL K H a xs ∧ SqL K H b [] ∧ Q (.bl xs.isEmpty) H
theorem op_eqL0 (hu : X.A.units < cLine) : OpR X (compareOp .Eq) (rEqL0 X.K) := by
  intro pins s σ H x y v u Q I rx ry h
  obtain ⟨a, b, xs, rfl, rfl, h1, h2, q⟩ := h
  cases rx
  cases ry
  obtain ⟨its, r, p1, _⟩ := I.list h1
  obtain ⟨its2, r2, p2, _⟩ := I.list h2
  cases r2
  cases r with
  | nil => exact SeqAt.eq_listAt (e := fun _ => true) p1.isList p2.isList rfl hu (fun j hj _ => absurd hj (by simp)) ⟨.bl true, H, I, rfl, q⟩
  | cons r0 r1 => exact SeqAt.eq_list_lengthsAt p1.isList p2.isList (by simp) hu ⟨.bl false, H, I, rfl, q⟩
end
/-! ### set(list of texts) -/
section
variable {P : Program} {w : World} {A : Around} {E : Value → Shared → Prop} {s : Shared}
abbrev SetS (P : Program) (w : World) (h : Heap) (S : Addr) (xs : List Str) : Prop := h.SetOf (PySem.strKind P w) S (fun k => decide (k ∈ xs)) (uniq xs).length
theorem SetS.at {h h' : Heap} {S : Addr} {xs : List Str} (q : SetS P w h S xs) (k : ∀ o, h.get? S = some o → h'.get? S = some o) : SetS P w h' S xs := by
  obtain ⟨o, es, ep, t, ho, rest⟩ := q
  exact ⟨o, es, ep, t, k o ho, rest⟩
theorem upd_strs {I : Addr} {fp wr : List Addr} {G : Array GenState → Array GenState → Prop} {n : Nat} {Pv : Nat → Value → Prop} {St : Nat → Shared → Prop} {R : Result → Shared → Prop}
    (W : WalksS P w A.in1 I fp wr G n Pv St) (S : Addr) (hSf : S ∉ fp) (xs : List Str) (hn : n = xs.length) (hb : xs.length + 1 < scanBound) (hval : ∀ i v, Pv i v → ∃ y t, xs[i]? = some y ∧ v = .str y t) :
    ∀ (k i : Nat) (s : Shared), n - i = k → i ≤ n → St i s → SetS P w s.heap S (xs.take i) → (∀ s', Moved (S :: wr) G s s' → SetS P w s'.heap S xs → R (.ok (.ret .none)) s') →
      codeAny (model P w) A (.builtin "set.update.loop" ⟨[.ref S, .ref I], []⟩) R s := by
  have noS : S ∉ wr := fun h => hSf (W.sub _ h)
  have more : ∀ b ∈ wr, b ∈ S :: wr := fun b hb => List.mem_cons_of_mem _ hb
  intro k
  induction k with
  | zero =>
    intro i s hk hi st q fin
    obtain rfl : i = n := by omega
    rw [List.take_of_length_le (by omega)] at q
    refine codeAny_builtin PyProof.Rows.F.entry_set_update_loop ?_
    rw [Around.under_plainId PyProof.Rows.F.plain_set_update_loop _]
    refine wpAny_bind (m := pyNext (.ref I)) (W.done s _ _ st fun s' mv => ?_)
    exact wpAny_pure (fin s' (mv.mono more) (q.at fun o e => mv.heap S o noS e))
  | succ k ih =>
    intro i s hk hi st q fin
    have lt : i < n := by omega
    refine codeAny_builtin PyProof.Rows.F.entry_set_update_loop ?_
    rw [Around.under_plainId PyProof.Rows.F.plain_set_update_loop _]
    refine wpAny_bind (m := pyNext (.ref I)) (W.item i s _ _ lt st fun v s' pv st' mv => ?_)
    obtain ⟨y, t, hy, rfl⟩ := hval i v pv
    have q' := q.at fun o e => mv.heap S o noS e
    have lu := uniq_len (xs.take i)
    rw [List.length_take] at lu
    refine wpAny_bind (m := holding [Value.str y t] (setAdd S (.str y t))) (wpAny_holding ?_)
    unfold setAdd
    refine wpAny_holding (wpAny_bind ((PySem.strKind P w).pyHash (k := y) (strKind_is _ _ _ _) ?_))
    refine wpAny_setAddHashed_of (knd := PySem.strKind P w) (s := { s' with toks := s'.toks + 1 }) (strKind_is _ _ _ _) rfl q' (by omega) fun h' same q2 => ?_
    have q3 : SetS P w h' S (xs.take (i + 1)) := by
      have ey : xs.take (i + 1) = xs.take i ++ [y] := by rw [List.take_succ, hy]; rfl
      refine PyProof.Rows.SetOf_congr q2 (fun z => ?_) ?_
      · rw [ey]
        by_cases h1 : z ∈ xs.take i <;> by_cases h2 : z = y <;> simp [h1, h2]
      · rw [ey, uniq_snoc]
        unfold uniqF
        by_cases h1 : y ∈ xs.take i
        · rw [decide_eq_true h1, if_pos rfl, if_pos ((uniq_mem _ _).mpr h1)]
        · rw [decide_eq_false h1, if_neg Bool.false_ne_true, if_neg (fun z => h1 ((uniq_mem _ _).mp z)), List.length_append]
          rfl
    have keep : ∀ b, b ≠ S → ∀ o, s'.heap.get? b = some o → h'.get? b = some o := fun b hb o e => by rw [same.2 b hb]; exact e
    exact wpAny_pure ⟨plainId_quiet PyProof.Rows.F.plain_set_update_loop _, ih (i + 1) _ (by omega) lt (W.frame _ s' _ _ st' (Nat.le_succ _) fun b hb o e => keep b (fun z => hSf (z ▸ hb)) o e) q3 fun s'' mv2 q4 =>
      fin s'' (Moved.trans W.gtrans ((mv.mono more).then_heap (Nat.le_succ _) fun b o hb e => keep b (fun z => hb (by rw [z]; exact List.mem_cons_self)) o e) mv2) q4⟩
theorem call_setS {l : Addr} {items : Array Value} {xs : List Str} {Q : Value → Shared → Prop} (hh : A.handled = none) (hl : s.heap.IsList l items) (hi : StrsAre items.toList xs) (hb : xs.length + 1 < scanBound)
    (h : ∀ (h' : Heap) (tk : Nat), SetS P w h' s.heap.objs.size xs → (∀ b o, s.heap.get? b = some o → h'.get? b = some o) → Q (.ref s.heap.objs.size) { s with heap := h', toks := tk }) :
    wpAny (model P w) A (call (.type "set") [.ref l]) Q E s := by
  obtain ⟨c, tl, hmro⟩ := PySem.F.called_set.mro
  have hmade := PySem.F.called_set.made
  have hsub := PySem.F.called_set.sub
  refine wpAny_call (codeAny_of_tree ?_)
  show wpAny _ _ (callAny (.type "set") _) _ _ _
  refine wpAny_pure ⟨Code.quiet_builtin _ (by decide +kernel), codeAny_builtin PySem.F.entry_type_call ?_⟩
  rw [Around.under_plain (weight_type_call_type "set" [.ref l] []) rfl]
  have h1 := PySem.F.called_set.notType
  have h2 := PySem.F.called_set.canCreate
  have hct := PySem.F.typeCall_set_1 (.ref l)
  repeat (any_goals (first | assumption | wp_step))
  let so : Bool → Obj := fun led => { cls := .type "set", dict := none, data := .set #[] 0 (.fresh 0 0 led) }
  refine codeAny_mono (code_set_new_1 (.ref l) (E := E) (Q₁ := fun obj t => ∃ led : Bool, obj = .ref s.heap.objs.size ∧ t = { s with heap := s.heap.push (so led) }) fun led => ⟨led, rfl, rfl⟩) fun r t hr => ?_
  cases r with
  | error e => exact hr
  | ok fl =>
    cases fl with
    | ret obj =>
      obtain ⟨led, rfl, rfl⟩ := hr
      have hS : (s.heap.push (so led)).get? s.heap.objs.size = some (so led) := Heap.get?_push_size _ rfl
      have hT : Shared.TypeIs { s with heap := s.heap.push (so led) } (.ref s.heap.objs.size) "set" := ⟨_, hS, rfl⟩
      have hli := PySem.F.called_set.init.lookup
      have hbi := PySem.F.called_set.init.bind (.ref s.heap.objs.size)
      repeat (any_goals (first | assumption | wp_step))
      refine codeAny_mono (codeAny_call_builtin (R := wants (fun r t => r = .none ∧ ∃ h' tk, t = { s with heap := h', toks := tk } ∧ SetS P w h' s.heap.objs.size xs ∧ (∀ b o, s.heap.get? b = some o → h'.get? b = some o)) E)
        PySem.F.called_set.init.plain PySem.F.entry_set_init (check_set_init_1 hT ?_)) fun r t hr => ?_
      · obtain ⟨ol, hol, hcl, nl, hdl⟩ := hl
        obtain ⟨ocls, odict, odata, oslots⟩ := ol
        simp only at hcl hdl
        subst hcl; subst hdl
        have hol' : (s.heap.push (so led)).get? l = some { cls := .type "list", dict := odict, data := .seq items nl, slots := oslots } := Heap.get?_push_of_some _ hol
        have hsls := PySem.F.sub_list_set
        have hslf := PySem.F.sub_list_frozenset
        have hne : (Value.type "list" == Value.type "dict") = false := by decide
        have hl1 : (s.heap.push (so led)).IsList l items := ⟨_, hol', rfl, nl, rfl⟩
        have lS : l < s.heap.objs.size := Heap.lt_size hol
        unfold Builtin.«set.__init__» noKeywords Builtin.Frozenset.updateFrom
        generalize hPI : pyIter = PI
        wp_walk
        subst hPI
        refine wpAny_pyIter_list hl1 (wpAny_bind (wpAny_runValue ?_))
        have hh3 : A.in1.in1.in1.handled = none := by simp [hh]
        have neI : l ≠ (s.heap.push (so led)).objs.size := by rw [Heap.size_push]; exact Nat.ne_of_lt (Nat.lt_succ_of_lt lS)
        have hSf : s.heap.objs.size ∉ [(s.heap.push (so led)).objs.size, l] := by
          rw [Heap.size_push]
          simp only [List.mem_cons, List.not_mem_nil, or_false, not_or]
          exact ⟨Nat.ne_of_lt (Nat.lt_succ_self _), Nat.ne_of_gt lS⟩
        have hsz : items.size = xs.length := by rw [← StrsAre.len_eq hi, Array.length_toList]
        refine upd_strs ((Walks.list hh3 _ l neI items).toS) s.heap.objs.size hSf xs hsz hb (fun i v hv => ?_) (items.size - 0) 0 _ (by omega) (Nat.zero_le _) ⟨⟨_, Heap.get?_push_size _ rfl, rfl, rfl⟩, (hl1.push _)⟩ ?_ (fun s' mv q => ?_)
        · have hv' : items.toList[i]? = some v := by rw [Array.getElem?_toList]; exact hv
          have hi' : i < xs.length := by rw [← hsz]; exact (Array.getElem?_eq_some_iff.mp hv).1
          obtain ⟨t, e⟩ := StrsAre.at hi (List.getElem?_eq_getElem hi')
          rw [hv'] at e
          exact ⟨xs[i], t, List.getElem?_eq_getElem hi', Option.some.inj e⟩
        · exact PyProof.Rows.SetOf_congr ((PyProof.Rows.setObjOf_fresh (knd := PySem.strKind P w) led).setOf (Heap.get?_push_of_some _ hS) (by unfold scanBound; omega)) (fun _ => rfl) rfl
        · obtain ⟨h', g', d', tk', os'⟩ := s'
          obtain rfl : g' = s.gens := mv.gens
          obtain rfl : d' = s.drawn := mv.drawn
          obtain rfl : os' = s.os := mv.os
          show wpAny _ _ _ _ _ _
          refine wpAny_pure ?_
          show wpAny _ _ (ret Value.none) _ _ _
          refine wpAny_pure ⟨rfl, h', tk', rfl, q, fun b o e => mv.heap b o ?_ (Heap.get?_push_of_some _ (Heap.get?_push_of_some _ e))⟩
          have := Heap.lt_size e
          rw [Heap.size_push]
          simp only [List.mem_cons, List.not_mem_nil, or_false, not_or]
          exact ⟨Nat.ne_of_lt this, Nat.ne_of_lt (Nat.lt_succ_of_lt this)⟩
      · cases r with
        | error e => exact hr
        | ok fl =>
          cases fl with
          | ret r =>
            obtain ⟨rfl, h', tk, rfl, q, kp⟩ := hr
            repeat (any_goals (first | assumption | wp_step))
            exact h _ _ q kp
          | _ => exact hr.elim
    | _ => exact hr.elim
end
section
variable {X : Cx}
/-- len(set(a list of texts)) -/
def tLenSetS (K : PySem.W.Frag) (ta : TE) : TE := fun σ H Q => ta σ H fun x H1 => ∃ l, ∃ xs : List Str, x = .ref l ∧ SqL K H1 l (xs.map V.str) ∧ xs.length ≤ 1000 ∧ Q (.int (uniq xs).length) H1
theorem pe_lenSetS {a : Expr} {ta : TE} {p p2 q pos : Pos} (hc : X.calm = true) (hg : Gl X "len") (hm : X.mg "len" = none) (hg2 : Gl X "set") (hm2 : X.mg "set" = none) (ha : PE X a ta)
    (na : starEach [a] X.env = (false, eval a X.env) :: starEach [] X.env := by rfl) : PE X (.Call (.Name "len" p) [.Call (.Name "set" p2) [a] [] q] [] pos) (tLenSetS X.K ta) := by
  refine ⟨fun pins s σ H Q I h => ?_⟩
  refine Call_ (ld_blt I hg hm boot_len (PyProof.Rows.callWith_builtin1 (PyProof.Rows.args_cons ?_ rfl) rfl rfl))
  refine Call_ (ld_blt I hg2 hm2 boot_set (PyProof.Rows.callWith_type1 (PyProof.Rows.args_cons (thn (ha.run pins s σ H _ I h) fun v t ⟨x, H1, I1, rx, l, xs, ex, hq, hl, k⟩ => PyProof.Rows.args_nil ?_) na) na rfl))
  subst ex
  cases rx
  obtain ⟨its, r, pl, _⟩ := I1.list hq
  refine call_setS (I1.ok.hd hc) pl.isList (by simpa using strsAre_of r) (by unfold scanBound; omega) fun h' tk hS hk => PyProof.Rows.args_nil ?_
  obtain ⟨o, es, ep, tb, ho, hex, hd, _, _, _, hf, hn⟩ := hS
  have I2 : Inv X pins σ H1 { t with heap := h', toks := tk } := I1.kept hk
  have lu := uniq_len xs
  exact call_len_set ho hex hd hf (by rw [hn]; omega) ⟨.int (uniq xs).length, H1, I2.tok _, ⟨_, by rw [hn]⟩, k⟩
end
end Kx
/-! iterators of tuples and lists that end while an exception is handled; loops, unpacking, comprehensions, set(list) there -/
namespace Kx
open PySem PySem.Spec PyProof.Rows L2 HotX
section
variable {prog : Program} {w : World} {A : Around} {E : Value → Shared → Prop} {s : Shared}
theorem next_tuple_end_hot {it t x1 : Addr} {i : Nat} {items : Array Value} {Q : Option Value → Shared → Prop} (hot : HotAt A x1 s.heap) (hit : IsTupIter s.heap it t i) (ht : IsTup s.heap t items) (hx : items[i]? = none)
    (hQ : ∀ h', Heap.ExtBut it s.heap h' → Q none { s with heap := h' }) : wpAny (model prog w) A (pyNext (.ref it)) Q E s := by
  obtain ⟨o, ho, hc, hd⟩ := id hit
  obtain ⟨ol, hol, _, nl, hdl⟩ := ht
  obtain ⟨hh, o1, vs1, h1, d1, c1⟩ := hot
  have hne : it ≠ x1 := fun e => by
    rw [e, h1] at ho
    cases ho
    rw [d1] at hd
    cases hd
    cases c1
  unfold pyNext
  refine wpAny_bind (wpAny_attempt (wpAny_callSpecial?_slot (name := Str.ofString "__next__") hit.typeIs slot_tupleiter_next
    (wpAny_call_entry slot_tupleiter_next hit.typeIs entry_tupleiter_next ?_ (args_tupleiter_next _))))
  show wpAny _ _ (field (.ref it) 0 >>= _) _ _ s
  refine wpAny_bind (wpAny_field ho hd (x := .ref t) rfl ?_)
  show wpAny _ _ (if (Value.ref t == Value.none) = true then _ else _) _ _ s
  rw [if_neg (show ¬ ((Value.ref t == Value.none) = true) from Bool.false_ne_true)]
  show wpAny _ _ (field (.ref it) 1 >>= _) _ _ s
  refine wpAny_bind (wpAny_field ho hd (x := .int i 0) rfl ?_)
  show wpAny _ _ (seqItems? (.ref t) >>= _) _ _ s
  refine wpAny_bind (wpAny_seqItems hol hdl ?_)
  simp only [Int.toNat_natCast, hx]
  refine wpAny_bind (wpAny_rule (wpAny_bind (wpAny_setField ho hd (by simp) ?_)))
  show wpAny _ _ (newExc (.type "StopIteration") [] >>= _) _ _ _
  refine wpAny_bind ?_
  simp only [newExc, newTuple]
  refine wpAny_bind (wpAny_newObj_type ?_ (by size_fits))
  refine wpAny_bind (m := firstArgMember _ _) (wpAny_of_eq (a := Value.none) (by first | rfl | (simp only [firstArgMember]; rfl)) ?_)
  refine wpAny_newObj_type ?_ (by size_fits)
  have h1' : ∀ f : Obj → Obj, (s.heap.update it f).get? x1 = some o1 := fun f => by rw [Heap.get?_update_other _ _ hne]; exact h1
  refine raiseNew_hot ⟨hh, o1, vs1, Heap.get?_push_of_some _ (Heap.get?_push_of_some _ (h1' _)), d1, c1⟩ (Nat.ne_of_lt (Heap.lt_size (Heap.get?_push_of_some _ (h1' _)))) (Heap.get?_push_size _ rfl) rfl (by first | (simp; done) | (simp; omega) | (simp only [Array.size_append]; simp; omega)) ?_
  refine wpAny_bind (wpAny_isInstance (T := "StopIteration") (b := true) ⟨_, Heap.get?_update_self _ (Heap.get?_push_size _ rfl) rfl, rfl⟩ isSubtype_stop ?_)
  refine wpAny_pure (hQ _ fun b o' hb e => ?_)
  have e' : ∀ f : Obj → Obj, (s.heap.update it f).get? b = some o' := fun f => by rw [Heap.get?_update_other _ _ (Ne.symm hb)]; exact e
  rw [Heap.get?_update_other _ _ (Nat.ne_of_gt (Heap.lt_size (Heap.get?_push_of_some _ (e' _))))]
  exact Heap.get?_push_of_some _ (Heap.get?_push_of_some _ (e' _))
theorem next_list_end_hot {it l x1 : Addr} {i : Nat} {items : Array Value} {Q : Option Value → Shared → Prop} (hot : HotAt A x1 s.heap) (hit : s.heap.IsListIter it l i) (hl : s.heap.IsList l items) (hx : items[i]? = none)
    (hQ : ∀ h', Heap.ExtBut it s.heap h' → Q none { s with heap := h' }) : wpAny (model prog w) A (pyNext (.ref it)) Q E s := by
  obtain ⟨o, ho, hc, hd⟩ := id hit
  obtain ⟨ol, hol, _, nl, hdl⟩ := hl
  obtain ⟨hh, o1, vs1, h1, d1, c1⟩ := hot
  have hne : it ≠ x1 := fun e => by
    rw [e, h1] at ho
    cases ho
    rw [d1] at hd
    cases hd
    cases c1
  unfold pyNext
  refine wpAny_bind (wpAny_attempt (wpAny_callSpecial?_slot (name := Str.ofString "__next__") hit.typeIs slot_listiter_next
    (wpAny_call_entry slot_listiter_next hit.typeIs entry_listiter_next ?_ (args_listiter_next _))))
  show wpAny _ _ (field (.ref it) 0 >>= _) _ _ s
  refine wpAny_bind (wpAny_field ho hd (x := .ref l) rfl ?_)
  show wpAny _ _ (if (Value.ref l == Value.none) = true then _ else _) _ _ s
  rw [if_neg (show ¬ ((Value.ref l == Value.none) = true) from Bool.false_ne_true)]
  show wpAny _ _ (field (.ref it) 1 >>= _) _ _ s
  refine wpAny_bind (wpAny_field ho hd (x := .int i 0) rfl ?_)
  show wpAny _ _ (seqItems? (.ref l) >>= _) _ _ s
  refine wpAny_bind (wpAny_seqItems hol hdl ?_)
  simp only [Int.toNat_natCast, hx]
  refine wpAny_bind (wpAny_rule (wpAny_bind (wpAny_setField ho hd (by simp) ?_)))
  show wpAny _ _ (newExc (.type "StopIteration") [] >>= _) _ _ _
  refine wpAny_bind ?_
  simp only [newExc, newTuple]
  refine wpAny_bind (wpAny_newObj_type ?_ (by size_fits))
  refine wpAny_bind (m := firstArgMember _ _) (wpAny_of_eq (a := Value.none) (by first | rfl | (simp only [firstArgMember]; rfl)) ?_)
  refine wpAny_newObj_type ?_ (by size_fits)
  have h1' : ∀ f : Obj → Obj, (s.heap.update it f).get? x1 = some o1 := fun f => by rw [Heap.get?_update_other _ _ hne]; exact h1
  refine raiseNew_hot ⟨hh, o1, vs1, Heap.get?_push_of_some _ (Heap.get?_push_of_some _ (h1' _)), d1, c1⟩ (Nat.ne_of_lt (Heap.lt_size (Heap.get?_push_of_some _ (h1' _)))) (Heap.get?_push_size _ rfl) rfl (by first | (simp; done) | (simp; omega) | (simp only [Array.size_append]; simp; omega)) ?_
  refine wpAny_bind (wpAny_isInstance (T := "StopIteration") (b := true) ⟨_, Heap.get?_update_self _ (Heap.get?_push_size _ rfl) rfl, rfl⟩ isSubtype_stop ?_)
  refine wpAny_pure (hQ _ fun b o' hb e => ?_)
  have e' : ∀ f : Obj → Obj, (s.heap.update it f).get? b = some o' := fun f => by rw [Heap.get?_update_other _ _ (Ne.symm hb)]; exact e
  rw [Heap.get?_update_other _ _ (Nat.ne_of_gt (Heap.lt_size (Heap.get?_push_of_some _ (e' _))))]
  exact Heap.get?_push_of_some _ (Heap.get?_push_of_some _ (e' _))
theorem hot_at {x1 : Addr} {h h' : Heap} (hot : HotAt A x1 h) (k : ∀ o, h.get? x1 = some o → h'.get? x1 = some o) : HotAt A x1 h' := by
  obtain ⟨hh, o1, vs1, h1, d1, c1⟩ := hot
  exact ⟨hh, o1, vs1, k _ h1, d1, c1⟩
/-- (a, b, ..) = a tuple, there -/
theorem unpackItems_tuple_hot {t x1 : Addr} {items : Array Value} {Q : List Value → Shared → Prop} (hot : HotAt A x1 s.heap) (ht : IsTup s.heap t items)
    (hQ : ∀ h', Heap.ExtBut s.heap.objs.size s.heap h' → Q items.toList { s with heap := h' }) : wpAny (model prog w) A (unpackItems (.ref t) items.size none) Q E s := by
  have hlt : t ≠ s.heap.objs.size := by obtain ⟨o, ho, _⟩ := ht; exact Nat.ne_of_lt (Heap.lt_size ho)
  have hxl : x1 ≠ s.heap.objs.size := by obtain ⟨_, o1, _, h1, _⟩ := id hot; exact Nat.ne_of_lt (Heap.lt_size h1)
  unfold unpackItems
  refine wpAny_bind ?_
  · unfold notIterableAtAll
    refine wpAny_bind (wpAny_specialOf ht.typeIs slot_tuple_iter.lookup ?_)
    refine wpAny_pure ?_
    simp only [Bool.false_eq_true, if_false]
    refine wpAny_bind (wpAny_holding (iter_tuple ht ?_))
    refine wpAny_bind (wpAny_holding (draw_tuple hlt items.size 0 _ _ ⟨_, Heap.get?_push_size _ rfl, rfl, rfl⟩ (ht.push _) (by omega) fun h₁ hit₁ hs₁ => ?_))
    have hall : List.take items.size (List.drop 0 items.toList) = items.toList := by
      rw [List.drop_zero]; exact List.take_of_length_le (by simp)
    rw [hall]
    rw [if_neg (by simp)]
    have ht₁ : IsTup h₁ t items := (ht.push _).extBut hs₁.extBut hlt
    have hot₁ : HotAt A x1 h₁ := hot_at hot fun o e => hs₁.extBut x1 o hxl (Heap.get?_push_of_some _ e)
    refine wpAny_bind (wpAny_holding (next_tuple_end_hot hot₁ hit₁ ht₁ (by simp) fun h₂ he₂ => ?_))
    simp only [Option.isSome_none, Bool.false_eq_true, if_false]
    refine wpAny_pure (hQ h₂ fun b o hb e => he₂ b o hb (hs₁.extBut b o hb (Heap.get?_push_of_some _ e)))
theorem assign_Tuple_hot {env : Env} {elts : List Expr} {k} {pos : Pos} {t x1 : Addr} {items : Array Value} {Q : Unit → Shared → Prop} (hot : HotAt A x1 s.heap) (ht : IsTup s.heap t items)
    (hn : (assignEach elts env).length = items.size) (hstar : (assignEach elts env).findIdx? (·.1) = none)
    (h : ∀ h', Heap.ExtBut s.heap.objs.size s.heap h' → wpAny (model prog w) A (assignInOrder ((assignEach elts env).map (·.2)) items.toList) Q E { s with heap := h' }) :
    wpAny (model prog w) A (assign (.Tuple elts k pos) env (.ref t)) Q E s := by
  rw [assign_Tuple]
  refine wpAny_bind (wpAny_standAt ?_)
  unfold unpack
  rw [hn, hstar]
  exact wpAny_bind (wpAny_holding (unpackItems_tuple_hot hot ht h))
/-- a list walked there -/
theorem walks_list_hot (I ax x1 : Addr) (hne : ax ≠ I) (items : Array Value) (hx : x1 ≠ I) :
    Walks prog w A I [I, ax, x1] [I] items.size (fun i v => items[i]? = some v) (fun i h => h.IsListIter I ax i ∧ h.IsList ax items ∧ HotAt A x1 h) where
  sub := fun b hb => by simp at hb; simp [hb]
  frame := fun _ _ _ st hk => ⟨st.1.at fun o e => hk I (by simp) o e, st.2.1.at fun o e => hk ax (by simp) o e, hot_at st.2.2 fun o e => hk x1 (by simp) o e⟩
  item := fun i s Q E hi st hQ => by
    refine wpAny_pyNext_list_item st.1 st.2.1 (x := items[i]) (by simp [hi]) fun h' hit' hs' => ?_
    exact hQ _ h' s.toks (by simp [hi]) ⟨hit', st.2.1.extBut hs'.extBut hne, hot_at st.2.2 fun o e => hs'.extBut x1 o hx e⟩ fun b o hb e => hs'.extBut b o (fun h => hb (by simp [h])) e
  done := fun s Q E st hQ => next_list_end_hot st.2.2 st.1 st.2.1 (by simp) fun h' he' => hQ h' s.toks fun b o hb e => he' b o (fun h => hb (by simp [h])) e
  self := fun _ _ _ _ st hQ => wpAny_pyIter_listiter st.1 hQ
end
/-! ### loops over tuples, targets -/
theorem turn_tupleH {P : Program} {w : World} {K : PySem.W.Frag} {tg : Expr} (a it : Addr) : L2H.TurnH P w K tg (Itt K a) [it] it (fun i h => h.IsTupleIter it a i) where
  mem := by simp
  obj := fun i h st b hb => by
    have e : b = it := by simpa using hb
    subst e
    obtain ⟨o, e, c, d⟩ := st
    exact ⟨o, e, fun v z => by rw [d] at z; cases z⟩
  keep := fun i h h' st k => st.at fun o e => k it (by simp) o e
  item := by
    intro X hP hw hK hc i pins s σ H E I hf st hg
    subst hP hw hK
    obtain ⟨xs, x, hq, hx⟩ := hg
    obtain ⟨its, rv, p, hz⟩ := I.tuple hq
    obtain ⟨u, hu, ru⟩ := rv.get hx
    obtain ⟨f0, f1, f2, f3, f4, f5⟩ := hf it (by simp)
    refine wpAny_pyNext_tuple_item st (show s.heap.IsTuple a its.toArray from p) (x := u) (by simpa using hu) fun h' st' sb => ?_
    have I1 : Inv X pins σ H { s with heap := h' } := I.turned (t' := s.toks) (fun b o hb e => (sb.2 b hb).trans e) f0 f1 f3 f4 f5
    obtain ⟨o, e, c, d⟩ := id st'
    exact ⟨u, rfl, go_of (s := { s with heap := h' }) e c d (by decide) ⟨x, H, I1, ru, ⟨rfl, fun ys hy => by rw [I.tuple_inj hy hq]; exact hx⟩, st', fun b hb => (hf b hb).1⟩⟩
  done := by
    intro X hP hw hK hc i pins s σ H E I hf st hg
    subst hP hw hK
    obtain ⟨xs, hq, hx⟩ := hg
    obtain ⟨its, rv, p, hz⟩ := I.tuple hq
    obtain ⟨f0, f1, f2, f3, f4, f5⟩ := hf it (by simp)
    obtain ⟨x1, hot⟩ := hc.at I
    have hl := rv.length
    exact next_tuple_end_hot hot (show IsTupIter s.heap it a i from st) (show IsTup s.heap a its.toArray from p) (by simp; omega) fun h' eb => ⟨rfl, I.turned (t' := s.toks) (fun b o hb e => eb b o hb e) f0 f1 f3 f4 f5⟩
  self := fun _ _ _ _ _ st h => wpAny_pyIter_tupleiter st h
section
variable {X : Cx} {tg : Expr}
theorem pi_tupH {l : Expr} {tl : TE} (hl : PE X l tl) : L2H.PIH X tg l (iTup X.K tl) := by
  refine ⟨fun pins s σ H R I h => ?_⟩
  refine thn (hl.run pins s σ H _ I h) fun v s1 ⟨x, H1, I1, r1, q1⟩ => ?_
  obtain ⟨a, e, ⟨xs, hq⟩, q⟩ := q1
  subst e
  cases r1
  obtain ⟨its, rv, p, hz⟩ := I1.tuple hq
  refine wpAny_pyIter_tuple (show s1.heap.IsTuple a its.toArray from p) ?_
  refine ⟨s1.heap.objs.size, [s1.heap.objs.size], _, _, H1, rfl, I1.kept (t' := s1.toks) fun b o e => Heap.get?_push_of_some _ e, turn_tupleH a _, ⟨_, Heap.get?_push_size _ rfl, rfl, rfl⟩, fun b hb => ?_, q⟩
  have e : b = s1.heap.objs.size := by simpa using hb
  subst e
  exact I1.fpOk (Nat.le_refl _) (I1.hok.fresh (Nat.le_refl _))
theorem pg_tupH {es : List Expr} {k : Nat} {pos : Pos} {t : TGs} {n : Nat} (hc : L2H.HotC X) (h : PGs X es t)
    (hn : (assignEach es X.env).length = n := by rfl) (hst : (assignEach es X.env).findIdx? (·.1) = none := by rfl) : PG X (.Tuple es k pos) (gTup X.K n t) := by
  refine ⟨fun pins s σ H v u Q I r hw => ?_⟩
  obtain ⟨a, xs, e1, hq, hl, hw⟩ := hw
  subst e1
  cases r
  obtain ⟨its, rv, ht, hz⟩ := I.tuple hq
  obtain ⟨x1, hot⟩ := hc.at I
  refine assign_Tuple_hot hot ht (by simp [hn, ← hl, rv.length]) hst fun h' hx => ?_
  have I1 : Inv X pins σ H { s with heap := h' } := I.kept (t' := s.toks) fun b o e => hx b o (Nat.ne_of_lt (Heap.lt_size e)) e
  exact h.run pins _ σ H xs _ Q I1 (by simpa using rv) hw
end
/-! ### comprehensions -/
/-- the context of a block there: the pinned objects stay -/
abbrev blkH (X : Cx) (s : Shared) (H : Hp) (scope : Scope) (cenv : Env) (fp : List Addr) : Cx := { X.blk s H scope cenv fp with pn := X.pn }
theorem hot_blk {X : Cx} {s : Shared} {H : Hp} {scope : Scope} {cenv : Env} {fp : List Addr} (h : L2H.HotC X) : L2H.HotC (blkH X s H scope cenv fp) := h
theorem ok_pn {X : Cx} {pn : List (Addr × Obj)} (ok : X.Ok) : Cx.Ok { X with pn := pn } :=
  ⟨ok.mod, ok.kind, ok.glob, ok.blt, ok.above, ok.inj, ok.has, ok.cab, ok.hd, ok.frames, ok.stk, ok.exf, ok.bs, ok.bsz, ok.noex, ok.exfs, ok.funs, ok.frf⟩
theorem block_startH {X : Cx} {pins : List (Addr × Obj)} {σ : L2.St} {H : Hp} {s : Shared} {scope : Scope} {own : List (Str × Nat)} {fp : List Addr} (I : Inv X pins σ H s) (ok : BlkOk X.N X.env.scope scope own) (hN : X.N.Nodup) (hfp : ∀ b ∈ fp, FpOk X pins H b ∧ b < s.heap.objs.size) :
    Inv (blkH X s H scope (compEnvC scope (cellsFrom (s.heap.objs.size + 1) scope.names (cloFrom X.env.cells scope.names [])) s.heap.objs.size X.env) fp) [] (wipe σ (own.map (·.2))) H { s with heap := pushCells (s.heap.push { cls := .type "dict", data := .dict #[] }) scope.names } := by
  have J := block_start I ok hN hfp
  refine ⟨ok_pn J.ok, J.os, J.bare, J.base, J.loc, J.cell, J.free, J.freeC, fun p hp => ?_, J.hok, J.len⟩
  have hp' : p ∈ X.pn := by
    rcases List.mem_append.mp (show p ∈ X.pn ++ [] from hp) with h | h
    · exact h
    · cases h
  obtain ⟨a1, a2, a3, a4, a5⟩ := I.pin p (List.mem_append_left _ hp')
  refine ⟨pushCells_keeps _ _ _ _ (Heap.get?_push_of_some _ a1), a2, Nat.ne_of_lt (Heap.lt_size a1), fun z => ?_, a5⟩
  have z : p.1 ∈ frs X.stack := z
  rcases I.ok.stk with e | ⟨e, e2⟩
  · rw [e] at z
    exact a4 z
  · rw [e] at z
    obtain ⟨en, hen, hz⟩ := List.mem_filterMap.mp z
    rcases List.mem_cons.mp hen with q | q
    · subst q
      rw [e2] at hz
      exact a3 (Option.some.inj hz).symm
    · exact a4 (List.mem_filterMap.mpr ⟨en, q, hz⟩)
section
variable {X : Cx}
theorem pe_lcH {elt tg iter : Expr} {ifs : List Expr} {scope : Scope} {own : List (Str × Nat)} {pos : Pos} {wi : TI} {g : TG} {tt : TT} {te : TE} (hc : L2H.HotC X) (hN : X.N.Nodup) (hi : L2H.PIH X tg iter wi) (ok : BlkOk X.N X.env.scope scope own)
    (hg : ∀ (s : Shared) (H : Hp) (C : Addr) (cl : List (Str × Addr)) (fp : List Addr), PG (blkH X s H scope (compEnvC scope cl C X.env) fp) tg g) (ht : ∀ (s : Shared) (H : Hp) (C : Addr) (cl : List (Str × Addr)) (fp : List Addr), PTs (blkH X s H scope (compEnvC scope cl C X.env) fp) ifs tt)
    (he : ∀ (s : Shared) (H : Hp) (C : Addr) (cl : List (Str × Addr)) (fp : List Addr), PE (blkH X s H scope (compEnvC scope cl C X.env) fp) elt te) (hs : ∀ x, foldedSetIterable iter X.env x = pure x := by intro _; rfl) :
    PE X (.ListComp elt [⟨tg, iter, ifs, 0⟩] scope pos) (tLc wi g tt te (own.map (·.2))) := by
  refine ⟨fun pins s σ H Q I h => ?_⟩
  rw [eval_ListComp]
  have hfree : ∀ y ∈ scope.names, y.2 = .free → ∃ c, X.env.cells.lookup y.1 = some c := fun y hy e => by
    rcases ok.free y hy e with k | k
    · exact I.ok.has _ (.inl k)
    · exact I.ok.has _ (.inr k)
  refine wpAny_comprehension_free (use := none) rfl hs (closure_ok hfree) ok.kind (fun y hy e => by rw [ok.uniq y hy, e])
    (thn (hi.run pins s σ H _ I h) fun xv s1 hx => thn hx fun itv s2 h2 => ?_)
  obtain ⟨it, fp, tn, J, H2, e, I2, T, st2, f2, q⟩ := h2
  subst e
  refine wpAny_newObj_type (newEnv_comp ?_) (by show 0 ≤ sizeLine; decide)
  generalize hD : s2.heap.objs.size = D
  have hDn : H2 D = none := I2.hok.fresh (Nat.le_of_eq hD)
  obtain ⟨W, ⟨m0, w0⟩, turn⟩ := q D hDn
  -- the new list
  generalize hs3 : ({ s2 with heap := s2.heap.push { cls := .type "list", data := .seq ([] : List Value).toArray } } : Shared) = s3
  have I3 : Inv X pins σ (upd H2 D (.lst [])) s3 := by
    rw [← hs3]
    refine I2.laid (t' := s2.toks) (fun b o e => Heap.get?_push_of_some _ e) (Nat.le_of_eq hD) ⟨Nat.zero_le _, [], 0, .nil, ?_⟩
    rw [← hD]
    exact Heap.get?_push_size _ rfl
  have h3 : s3.heap = s2.heap.push { cls := .type "list", data := .seq ([] : List Value).toArray } := by rw [← hs3]
  have sz : ∀ b ∈ fp, b < s2.heap.objs.size := fun b hb => by
    obtain ⟨o, e, _⟩ := T.obj _ _ st2 b hb
    exact Heap.lt_size e
  have f3 : ∀ b ∈ fp, FpOk X pins (upd H2 D (.lst [])) b ∧ b < s3.heap.objs.size := fun b hb => by
    have hlt := sz b hb
    refine ⟨⟨?_, (f2 b hb).2⟩, by rw [h3, Heap.size_push]; exact Nat.lt_succ_of_lt hlt⟩
    rw [upd_ne (by rw [← hD]; exact Nat.ne_of_lt hlt)]
    exact (f2 b hb).1
  have st3 : tn 0 s3.heap := T.keep _ _ _ st2 fun b _ o e => by rw [h3]; exact Heap.get?_push_of_some _ e
  have I4 := block_startH I3 ok hN f3
  have pg := hg s3 (upd H2 D (.lst [])) s3.heap.objs.size (cellsFrom (s3.heap.objs.size + 1) scope.names (cloFrom X.env.cells scope.names [])) fp
  have pt := ht s3 (upd H2 D (.lst [])) s3.heap.objs.size (cellsFrom (s3.heap.objs.size + 1) scope.names (cloFrom X.env.cells scope.names [])) fp
  have pe := he s3 (upd H2 D (.lst [])) s3.heap.objs.size (cellsFrom (s3.heap.objs.size + 1) scope.names (cloFrom X.env.cells scope.names [])) fp
  show codeAny _ _ (.compStart (.ListComp elt [⟨tg, iter, ifs, 0⟩] scope pos) 0 (.ref it) (.ref D) (compEnvC scope (cellsFrom (s3.heap.objs.size + 1) scope.names (cloFrom X.env.cells scope.names [])) s3.heap.objs.size X.env)) (compPost (model X.prog X.w) X.A X.xe none (EP X pins σ Q) (.ref D) s3.heap.objs.size) { s3 with heap := pushCells (s3.heap.push { cls := .type "dict", data := .dict #[] }) scope.names }
  have nfp : ∀ b ∈ fp, (upd H2 D (.lst [])) b = none := fun b hb => (f3 b hb).1.1
  generalize hce : compEnvC scope (cellsFrom (s3.heap.objs.size + 1) scope.names (cloFrom X.env.cells scope.names [])) s3.heap.objs.size X.env = ce at I4 pg pt pe ⊢
  have cL : ce.locals = s3.heap.objs.size := by subst hce; rfl
  generalize hH3 : upd H2 D (.lst []) = H3 at I3 I4 pg pt pe w0 nfp f3
  generalize hs4 : ({ s3 with heap := pushCells (s3.heap.push { cls := .type "dict", data := .dict #[] }) scope.names } : Shared) = s4 at I4 ⊢
  have st4 : tn 0 s4.heap := T.keep _ _ _ st3 fun b _ o e => by rw [← hs4]; exact pushCells_keeps _ _ _ _ (Heap.get?_push_of_some _ e)
  have hcB : L2H.HotC (blkH X s3 H3 scope ce fp) := hc
  have stat : ∀ {σ' : L2.St} {H' : Hp} {s' : Shared}, Inv (blkH X s3 H3 scope ce fp) [] σ' H' s' → (∀ b ∈ fp, H' b = none) → ∀ b ∈ fp, FpOk (blkH X s3 H3 scope ce fp) [] H' b := fun {σ' H' s'} I' hn b hb =>
    ⟨hn b hb, (I'.ok.exf b hb).1, I'.ok.exfs b hb, .inl hb, fun x c e => (I'.ok.exf b hb).2 x c e, fun p hp => (f2 b hb).2.2.2.2.2 p (List.mem_append_left _ (by
      rcases List.mem_append.mp (show p ∈ X.pn ++ [] from hp) with h | h
      · exact h
      · cases h))⟩
  have loop : codeAny (model X.prog X.w) X.A (.compLoop (.ListComp elt [⟨tg, iter, ifs, 0⟩] scope pos) 0 (.ref it) (.ref D) ce) (compPost (model X.prog X.w) X.A X.xe none (EP X pins σ Q) (.ref D) s3.heap.objs.size) s4 := by
    refine compLoop_any (fun n s' => ∃ i H', Inv (blkH X s3 H3 scope ce fp) [] (wipe σ (own.map (·.2))) H' s' ∧ tn i s'.heap ∧ (∀ b ∈ fp, H' b = none) ∧ W i n H') ?_ m0 ⟨0, H3, I4, st4, nfp, w0⟩
    rintro n s5 ⟨i, H5, I5, st5, n5, w5⟩
    rcases turn i n H5 w5 with ⟨stop, qq⟩ | ⟨go, Nx, hNx, step⟩
    · have td := T.done (blkH X s3 H3 scope ce fp) rfl rfl rfl hcB i [] s5 _ H5 (fun _ _ => False) I5 (stat I5 n5) st5 stop
      refine thnF td fun r s6 ⟨hr, I6⟩ => ?_
      subst hr
      -- back in the def's context
      have I7 : Inv X pins σ H5 s6 := I3.call' (ch := fp) I6.os I6.base I6.hok I6.bare fun b hb => ⟨(f3 b hb).1.2.2.2.1, (f3 b hb).1.2.1, (f3 b hb).1.2.2.2.2.1, (f3 b hb).1.2.2.2.2.2⟩
      have nC : H5 s3.heap.objs.size = none := by
        have z : H5 ce.locals = none := I6.free
        rw [cL] at z
        exact z
      obtain ⟨m, hn, _⟩ := I6.loc
      have hn : s6.heap.Ns ce.locals m := hn
      rw [cL] at hn
      obtain ⟨f0, f1, f2', f3', f4, f5⟩ := I3.fpOk (Nat.le_refl _) nC
      exact ⟨m, hn, fun h'' sb => ⟨.ref D, H5, I7.turned (t' := s6.toks) (fun b o hb e => (sb.2 b hb).trans e) f0 f1 f3' f4 f5, rfl, qq⟩⟩
    · have ti := T.item (blkH X s3 H3 scope ce fp) rfl rfl rfl hcB i [] s5 _ H5 (fun _ _ => False) I5 (stat I5 n5) st5 go
      refine thnF ti fun r s6 ⟨u, hr, h6⟩ => ?_
      subst hr
      refine thnF h6 fun _ s7 ⟨x, H7, I7, r7, y7, st7, n7⟩ => ?_
      have I7' := I7.pinned (stat I7 n7) (T.obj _ _ st7)
      refine thnF (pg.run _ s7 _ H7 x u _ I7' r7 (step x H7 y7)) fun _ s8 ⟨σ8, H8, I8, hw8, q8⟩ => ?_
      refine thnF (pt.run _ s8 σ8 H8 _ I8 q8) fun b s9 ⟨H9, I9, q9⟩ => ?_
      -- the turn's end
      have fin : ∀ {s' : Shared} {H' : Hp}, Inv (blkH X s3 H3 scope ce fp) ([] ++ pinsAt fp s7.heap) σ8 H' s' → Nx H' → ∃ m, m < n ∧ ∃ i H', Inv (blkH X s3 H3 scope ce fp) [] (wipe σ (own.map (·.2))) H' s' ∧ tn i s'.heap ∧ (∀ b ∈ fp, H' b = none) ∧ W i m H' := fun {s' H'} I' nx => by
        obtain ⟨m', hm, w'⟩ := hNx H' nx
        have pin' : ∀ b ∈ fp, ∀ o, s7.heap.get? b = some o → s'.heap.get? b = some o ∧ H' b = none := fun b hb o e =>
          let z := I'.pin (b, o) (List.mem_append_right _ (List.mem_append_right _ (mem_pinsAt hb e)))
          ⟨z.1, z.2.1⟩
        have hl : (wipe σ (own.map (·.2))).length = σ8.length := by rw [← hw8, wipe_length]
        refine ⟨m', hm, i + 1, H', (I'.unpinned (pins := [])).weak hl (fun j v e => ?_), T.keep _ _ _ st7 fun b hb o e => (pin' b hb o e).1, fun b hb => ?_, w'⟩
        · rw [← hw8] at e
          exact (wipe_some e).1
        · obtain ⟨o, e, _⟩ := T.obj _ _ st7 b hb
          exact (pin' b hb o e).2
      cases b with
      | false =>
        simp only [Bool.false_eq_true, if_false] at q9 ⊢
        exact fin I9 q9
      | true =>
        simp only [if_true] at q9 ⊢
        refine thnF (pe.run _ s9 σ8 H9 _ I9 q9) fun z s10 ⟨yv, H10, I10, r10, acc, hD10, hz10, nx⟩ => ?_
        exact app_ok (X := blkH X s3 H3 scope ce fp) I10 hD10 hz10 r10 fun s11 I11 => fin I11 nx
  exact codeAny_compStart_list loop (T.self X.A 0 _ _ _ st4 loop)
end
/-! ### len(set(list of texts)) -/
section
variable {P : Program} {w : World} {A : Around} {E : Value → Shared → Prop} {s : Shared}
theorem call_setS_hot {l x1 : Addr} {items : Array Value} {xs : List Str} {Q : Value → Shared → Prop} (hot : HotAt A x1 s.heap) (hl : s.heap.IsList l items) (hi : StrsAre items.toList xs) (hb : xs.length + 1 < scanBound)
    (h : ∀ (h' : Heap) (tk : Nat), SetS P w h' s.heap.objs.size xs → (∀ b o, s.heap.get? b = some o → h'.get? b = some o) → Q (.ref s.heap.objs.size) { s with heap := h', toks := tk }) :
    wpAny (model P w) A (call (.type "set") [.ref l]) Q E s := by
  obtain ⟨c, tl, hmro⟩ := PySem.F.called_set.mro
  have hmade := PySem.F.called_set.made
  have hsub := PySem.F.called_set.sub
  refine wpAny_call (codeAny_of_tree ?_)
  show wpAny _ _ (callAny (.type "set") _) _ _ _
  refine wpAny_pure ⟨Code.quiet_builtin _ (by decide +kernel), codeAny_builtin PySem.F.entry_type_call ?_⟩
  rw [Around.under_plain (weight_type_call_type "set" [.ref l] []) rfl]
  have h1 := PySem.F.called_set.notType
  have h2 := PySem.F.called_set.canCreate
  have hct := PySem.F.typeCall_set_1 (.ref l)
  repeat (any_goals (first | assumption | wp_step))
  let so : Bool → Obj := fun led => { cls := .type "set", dict := none, data := .set #[] 0 (.fresh 0 0 led) }
  refine codeAny_mono (code_set_new_1 (.ref l) (E := E) (Q₁ := fun obj t => ∃ led : Bool, obj = .ref s.heap.objs.size ∧ t = { s with heap := s.heap.push (so led) }) fun led => ⟨led, rfl, rfl⟩) fun r t hr => ?_
  cases r with
  | error e => exact hr
  | ok fl =>
    cases fl with
    | ret obj =>
      obtain ⟨led, rfl, rfl⟩ := hr
      have hS : (s.heap.push (so led)).get? s.heap.objs.size = some (so led) := Heap.get?_push_size _ rfl
      have hT : Shared.TypeIs { s with heap := s.heap.push (so led) } (.ref s.heap.objs.size) "set" := ⟨_, hS, rfl⟩
      have hli := PySem.F.called_set.init.lookup
      have hbi := PySem.F.called_set.init.bind (.ref s.heap.objs.size)
      repeat (any_goals (first | assumption | wp_step))
      refine codeAny_mono (codeAny_call_builtin (R := wants (fun r t => r = .none ∧ ∃ h' tk, t = { s with heap := h', toks := tk } ∧ SetS P w h' s.heap.objs.size xs ∧ (∀ b o, s.heap.get? b = some o → h'.get? b = some o)) E)
        PySem.F.called_set.init.plain PySem.F.entry_set_init (check_set_init_1 hT ?_)) fun r t hr => ?_
      · obtain ⟨ol, hol, hcl, nl, hdl⟩ := hl
        obtain ⟨ocls, odict, odata, oslots⟩ := ol
        simp only at hcl hdl
        subst hcl; subst hdl
        have hol' : (s.heap.push (so led)).get? l = some { cls := .type "list", dict := odict, data := .seq items nl, slots := oslots } := Heap.get?_push_of_some _ hol
        have hsls := PySem.F.sub_list_set
        have hslf := PySem.F.sub_list_frozenset
        have hne : (Value.type "list" == Value.type "dict") = false := by decide
        have hl1 : (s.heap.push (so led)).IsList l items := ⟨_, hol', rfl, nl, rfl⟩
        have lS : l < s.heap.objs.size := Heap.lt_size hol
        unfold Builtin.«set.__init__» noKeywords Builtin.Frozenset.updateFrom
        generalize hPI : pyIter = PI
        wp_walk
        subst hPI
        refine wpAny_pyIter_list hl1 (wpAny_bind (wpAny_runValue ?_))
        have hh3 : HotAt A.in1.in1.in1 x1 s.heap := ⟨by simpa using hot.1, hot.2⟩
        have lx : x1 < s.heap.objs.size := by obtain ⟨_, o1, _, e1, _⟩ := id hot; exact Heap.lt_size e1
        have nexI : x1 ≠ (s.heap.push (so led)).objs.size := by rw [Heap.size_push]; exact Nat.ne_of_lt (Nat.lt_succ_of_lt lx)
        have neI : l ≠ (s.heap.push (so led)).objs.size := by rw [Heap.size_push]; exact Nat.ne_of_lt (Nat.lt_succ_of_lt lS)
        have hSf : s.heap.objs.size ∉ [(s.heap.push (so led)).objs.size, l, x1] := by
          rw [Heap.size_push]
          simp only [List.mem_cons, List.not_mem_nil, or_false, not_or]
          exact ⟨Nat.ne_of_lt (Nat.lt_succ_self _), Nat.ne_of_gt lS, Nat.ne_of_gt lx⟩
        have hsz : items.size = xs.length := by rw [← StrsAre.len_eq hi, Array.length_toList]
        refine upd_strs ((walks_list_hot _ l x1 neI items nexI).toS) s.heap.objs.size hSf xs hsz hb (fun i v hv => ?_) (items.size - 0) 0 _ (by omega) (Nat.zero_le _) ⟨⟨_, Heap.get?_push_size _ rfl, rfl, rfl⟩, (hl1.push _), hot_at hh3 fun o e => Heap.get?_push_of_some _ (Heap.get?_push_of_some _ e)⟩ ?_ (fun s' mv q => ?_)
        · have hv' : items.toList[i]? = some v := by rw [Array.getElem?_toList]; exact hv
          have hi' : i < xs.length := by rw [← hsz]; exact (Array.getElem?_eq_some_iff.mp hv).1
          obtain ⟨t, e⟩ := StrsAre.at hi (List.getElem?_eq_getElem hi')
          rw [hv'] at e
          exact ⟨xs[i], t, List.getElem?_eq_getElem hi', Option.some.inj e⟩
        · exact PyProof.Rows.SetOf_congr ((PyProof.Rows.setObjOf_fresh (knd := PySem.strKind P w) led).setOf (Heap.get?_push_of_some _ hS) (by unfold scanBound; omega)) (fun _ => rfl) rfl
        · obtain ⟨h', g', d', tk', os'⟩ := s'
          obtain rfl : g' = s.gens := mv.gens
          obtain rfl : d' = s.drawn := mv.drawn
          obtain rfl : os' = s.os := mv.os
          show wpAny _ _ _ _ _ _
          refine wpAny_pure ?_
          show wpAny _ _ (ret Value.none) _ _ _
          refine wpAny_pure ⟨rfl, h', tk', rfl, q, fun b o e => mv.heap b o ?_ (Heap.get?_push_of_some _ (Heap.get?_push_of_some _ e))⟩
          have := Heap.lt_size e
          rw [Heap.size_push]
          simp only [List.mem_cons, List.not_mem_nil, or_false, not_or]
          exact ⟨Nat.ne_of_lt this, Nat.ne_of_lt (Nat.lt_succ_of_lt this)⟩
      · cases r with
        | error e => exact hr
        | ok fl =>
          cases fl with
          | ret r =>
            obtain ⟨rfl, h', tk, rfl, q, kp⟩ := hr
            repeat (any_goals (first | assumption | wp_step))
            exact h _ _ q kp
          | _ => exact hr.elim
    | _ => exact hr.elim
end
section
variable {X : Cx}
theorem pe_lenSetSH {a : Expr} {ta : TE} {p p2 q pos : Pos} (hc : L2H.HotC X) (hg : Gl X "len") (hm : X.mg "len" = none) (hg2 : Gl X "set") (hm2 : X.mg "set" = none) (ha : PE X a ta)
    (na : starEach [a] X.env = (false, eval a X.env) :: starEach [] X.env := by rfl) : PE X (.Call (.Name "len" p) [.Call (.Name "set" p2) [a] [] q] [] pos) (tLenSetS X.K ta) := by
  refine ⟨fun pins s σ H Q I h => ?_⟩
  refine Call_ (ld_blt I hg hm boot_len (PyProof.Rows.callWith_builtin1 (PyProof.Rows.args_cons ?_ rfl) rfl rfl))
  refine Call_ (ld_blt I hg2 hm2 boot_set (PyProof.Rows.callWith_type1 (PyProof.Rows.args_cons (thn (ha.run pins s σ H _ I h) fun v t ⟨x, H1, I1, rx, l, xs, ex, hq, hl, k⟩ => PyProof.Rows.args_nil ?_) na) na rfl))
  subst ex
  cases rx
  obtain ⟨its, r, pl, _⟩ := I1.list hq
  obtain ⟨x1, hot⟩ := hc.at I1
  refine call_setS_hot (by first | exact hot | exact ⟨by simpa using hot.1, hot.2⟩) pl.isList (by simpa using strsAre_of r) (by unfold scanBound; omega) fun h' tk hS hk => PyProof.Rows.args_nil ?_
  obtain ⟨o, es, ep, tb, ho, hex, hd, _, _, _, hf, hn⟩ := hS
  have I2 : Inv X pins σ H1 { t with heap := h', toks := tk } := I1.kept hk
  have lu := uniq_len xs
  exact call_len_set ho hex hd hf (by rw [hn]; omega) ⟨.int (uniq xs).length, H1, I2.tok _, ⟨_, by rw [hn]⟩, k⟩
end
end Kx
/-! list(zip(a, b)) of two lists of one length -/
namespace Kx
open PySem PySem.Spec PyProof.Rows L2
theorem zip_no_len : typeLookup (.type "zip") "__len__" = pure none := by rw [typeLookup_type, builtinLookup_eq_fast]; kernel_rfl
theorem zip_no_hint : typeLookup (.type "zip") "__length_hint__" = pure none := by rw [typeLookup_type, builtinLookup_eq_fast]; kernel_rfl
def ZSt (S : Addr) (h : Heap) (z TI TO i1 i2 l1 l2 : Addr) (xs ys : Array Value) (i : Nat) : Prop :=
  IsPair h TI (.ref i1) (.ref i2) ∧ h.IsListIter i1 l1 i ∧ h.IsListIter i2 l2 i ∧ h.IsList l1 xs ∧ h.IsList l2 ys ∧
    ((IsZip h z TI TO .none ∧ ∃ a b, IsPair h TO a b) ∨ ∃ T f oT, IsZipHeld h z TI TO T f ∧ h.get? T = some oT ∧ T ≠ z ∧ T ≠ i1 ∧ T ≠ i2 ∧ T ≠ S)
theorem ZSt.off {S z TI TO i1 i2 l1 l2 : Addr} {h h' : Heap} {xs ys : Array Value} {i : Nat} (st : ZSt S h z TI TO i1 i2 l1 l2 xs ys i) (n : ∀ b ∈ [z, TI, TO, i1, i2, l1, l2], b ≠ S) (k : ∀ b o, b ≠ S → h.get? b = some o → h'.get? b = some o) : ZSt S h' z TI TO i1 i2 l1 l2 xs ys i := by
  obtain ⟨hTI, h1, h2, hl1, hl2, hz⟩ := st
  refine ⟨k _ _ (n TI (by simp)) hTI, h1.at fun o e => k _ o (n i1 (by simp)) e, h2.at fun o e => k _ o (n i2 (by simp)) e, hl1.at fun o e => k _ o (n l1 (by simp)) e, hl2.at fun o e => k _ o (n l2 (by simp)) e, ?_⟩
  rcases hz with ⟨hz, a, b, hTO⟩ | ⟨T, f, oT, hz, hT, r1, r2, r3, r4⟩
  · exact .inl ⟨k _ _ (n z (by simp)) hz, a, b, k _ _ (n TO (by simp)) hTO⟩
  · exact .inr ⟨T, f, oT, k _ _ (n z (by simp)) hz, k _ _ r4 hT, r1, r2, r3, r4⟩
section
variable {prog : Program} {w : World} {A : Around} {R : Result → Shared → Prop}
/-- what the list has got so far -/
def Got (N0 : Nat) (h : Heap) (xs ys acc : Array Value) (i : Nat) : Prop := ∃ ps : List Addr, acc.toList = ps.map Value.ref ∧ ps.length = i ∧ ps.Nodup ∧ ∀ (j : Nat) (p : Addr), ps[j]? = some p → N0 ≤ p ∧ p < h.objs.size ∧ ∃ x y, xs[j]? = some x ∧ ys[j]? = some y ∧ IsPair h p x y
theorem ext_zip {S z TI TO i1 i2 l1 l2 : Addr} {xs ys : Array Value} {N0 : Nat} (D : ZipApart z TI TO i1 i2 l1 l2) (hl : xs.size = ys.size) (hs : xs.size ≤ sizeLine) (hh : A.handled = none) (n : ∀ b ∈ [z, TI, TO, i1, i2, l1, l2], b ≠ S)
    (hN : ∀ b ∈ [S, z, TO, i1, i2], b < N0) (res : Value) :
    ∀ (k i : Nat) (s : Shared) (acc : Array Value) (c : Nat), xs.size - i = k → i ≤ xs.size → ZSt S s.heap z TI TO i1 i2 l1 l2 xs ys i → s.heap.get? S = some { cls := .type "list", dict := none, data := .seq acc c, slots := #[] } → N0 ≤ s.heap.objs.size → Got N0 s.heap xs ys acc i →
      (∀ h' acc' c', (∀ b o, b ∉ [S, z, TO, i1, i2] → s.heap.get? b = some o → h'.get? b = some o) → h'.get? S = some { cls := .type "list", dict := none, data := .seq acc' c', slots := #[] } → Got N0 h' xs ys acc' xs.size → R (.ok (.ret res)) { s with heap := h' }) →
      codeAny (model prog w) A (.builtin "list.extend.loop" ⟨[.ref S, .ref z, res], []⟩) R s := by
  have nz := n z (by simp)
  have n1 := n i1 (by simp)
  have n2 := n i2 (by simp)
  have nO := n TO (by simp)
  intro k
  induction k with
  | zero =>
    intro i s acc c hk hi hst hS hNs hgot hR
    obtain rfl : i = xs.size := by omega
    refine codeAny_builtin F.entry_extend_loop ?_
    rw [Around.under_plainId F.plain_extend_loop _]
    show wpAny _ A.in1 (pyNext (.ref z) >>= _) _ _ s
    have fin : ∀ h', (∀ b o, b ∉ [z, TO, i1, i2] → s.heap.get? b = some o → h'.get? b = some o) → R (.ok (.ret res)) { s with heap := h' } := fun h' hk => by
      refine hR h' acc c (fun b o hb e => hk b o (fun q => hb (List.mem_cons_of_mem _ q)) e) (hk S _ (by simp only [List.mem_cons, List.not_mem_nil, or_false, not_or]; exact ⟨nz.symm, nO.symm, n1.symm, n2.symm⟩) hS) ?_
      obtain ⟨ps, e1, e2, e3, e4⟩ := hgot
      refine ⟨ps, e1, e2, e3, fun j p hj => ?_⟩
      obtain ⟨q1, q2, x, y, hx, hy, hp⟩ := e4 j p hj
      have np : p ∉ [z, TO, i1, i2] := fun q => Nat.not_lt.mpr q1 (hN p (List.mem_cons_of_mem _ q))
      have hp' := hk p _ np hp
      exact ⟨q1, Heap.lt_size hp', x, y, hx, hy, hp'⟩
    obtain ⟨hTI, h1, h2, hl1, hl2, hz⟩ := hst
    have hend : xs[xs.size]? = none ∨ ys[xs.size]? = none := .inl (by simp)
    rcases hz with ⟨hz, a, b, hTO⟩ | ⟨T, f, oT, hz, hT, r1, r2, r3, r4⟩
    · exact wpAny_bind (wpAny_pyNext_zip_end (by simpa using hh) D hz hTI hTO h1 h2 hl1 hl2 hend fun h' hk => wpAny_pure (fin h' fun c o hc e => hk c o (fun x => hc (by simp [x])) (fun x => hc (by simp [x])) (fun x => hc (by simp [x])) (fun x => hc (by simp [x])) e))
    · exact wpAny_bind (wpAny_pyNext_zip_end_held (by simpa using hh) D hz hT hTI h1 h2 hl1 hl2 hend fun h' hk => wpAny_pure (fin h' fun c o hc e => hk c o (fun x => hc (by simp [x])) (fun x => hc (by simp [x])) (fun x => hc (by simp [x])) e))
  | succ k ih =>
    intro i s acc c hk hi hst hS hNs hgot hR
    have hlt : i < xs.size := by omega
    have hlt2 : i < ys.size := by omega
    refine codeAny_builtin F.entry_extend_loop ?_
    rw [Around.under_plainId F.plain_extend_loop _]
    show wpAny _ A.in1 (pyNext (.ref z) >>= _) _ _ s
    have ex := Array.getElem?_eq_getElem hlt
    have ey := Array.getElem?_eq_getElem hlt2
    have szacc : acc.size = i := by
      obtain ⟨ps, e1, e2, _⟩ := hgot
      have := congrArg List.length e1
      rw [List.length_map, e2, Array.length_toList] at this
      exact this
    have go : ∀ h', ZSt S h' z TI TO i1 i2 l1 l2 xs ys (i + 1) → IsPair h' s.heap.objs.size xs[i] ys[i] → h'.objs.size = s.heap.objs.size + 1 → (∀ b o, b ∉ [z, TO, i1, i2] → s.heap.get? b = some o → h'.get? b = some o) →
        wpAny (model prog w) A.in1 (updateSeq S (·.push (.ref s.heap.objs.size)) >>= fun _ => again (.builtin "list.extend.loop" ⟨[.ref S, .ref z, res], []⟩)) (fun fin s' => match fin with | .done f => R (.ok f) s' | .again c' => c'.quiet = true ∧ codeAny (model prog w) A c' R s') (fun e s' => R (.error e) s') { s with heap := h' } := fun h' st' hp hsz hk => by
      have hS' : h'.get? S = some { cls := .type "list", dict := none, data := .seq acc c, slots := #[] } := hk S _ (by simp only [List.mem_cons, List.not_mem_nil, or_false, not_or]; exact ⟨nz.symm, nO.symm, n1.symm, n2.symm⟩) hS
      have ltS : S < s.heap.objs.size := Heap.lt_size hS
      have oth : ∀ b o, b ≠ S → h'.get? b = some o → (h'.update S (Obj.mapSeq (·.push (Value.ref s.heap.objs.size)))).get? b = some o := fun b o hb e => (Heap.get?_update_other _ _ (Ne.symm hb)).trans e
      refine wpAny_bind ?_
      refine wpAny_updateSeq hS' rfl (wpAny_pure ⟨plainId_quiet F.plain_extend_loop _, ih (i + 1) _ (acc.push (.ref s.heap.objs.size)) _ (by omega) hlt (st'.off n oth) (Heap.get?_update_self _ hS' rfl) ?_ ?_ fun h'' acc' c' hk'' hS'' hacc' => ?_⟩)
        (by rw [szacc]; omega) (by show (acc.push (.ref s.heap.objs.size)).size ≤ sizeLine + 1; rw [Array.size_push, szacc]; omega)
      · show N0 ≤ (h'.update S _).objs.size
        have : (h'.update S (Obj.mapSeq (·.push (Value.ref s.heap.objs.size)))).objs.size = h'.objs.size := by simp [Heap.update]
        rw [this, hsz]; omega
      · obtain ⟨ps, e1, e2, e3, e4⟩ := hgot
        have psz : ∀ p ∈ ps, p < s.heap.objs.size := fun p hp => by
          obtain ⟨j, hj⟩ := List.getElem?_of_mem hp
          exact (e4 j p hj).2.1
        refine ⟨ps ++ [s.heap.objs.size], by rw [Array.toList_push, e1, List.map_append]; rfl, by rw [List.length_append, e2]; rfl, ?_, fun j p hj => ?_⟩
        · rw [List.nodup_append]
          refine ⟨e3, by simp, fun a ha b hb e => ?_⟩
          rw [List.mem_singleton.mp hb] at e
          have hlt := psz a ha
          rw [e] at hlt
          exact Nat.lt_irrefl _ hlt
        · by_cases hjl : j < ps.length
          · rw [List.getElem?_append_left hjl] at hj
            obtain ⟨q1, q2, x, y, hx, hy, hp0⟩ := e4 j p hj
            have np : p ∉ [z, TO, i1, i2] := fun q => Nat.not_lt.mpr q1 (hN p (List.mem_cons_of_mem _ q))
            have npS : p ≠ S := fun q => Nat.not_lt.mpr q1 (hN p (by rw [q]; exact List.mem_cons_self))
            have hp' := oth p _ npS (hk p _ np hp0)
            exact ⟨q1, Heap.lt_size hp', x, y, hx, hy, hp'⟩
          · rw [List.getElem?_append_right (by omega)] at hj
            have hj0 : j - ps.length = 0 := by
              have := (List.getElem?_eq_some_iff.mp hj).1
              simp at this
              omega
            rw [hj0] at hj
            cases hj
            have hji : j = i := by omega
            subst hji
            have hp' := oth _ _ (Nat.ne_of_gt ltS) hp
            exact ⟨hNs, Heap.lt_size hp', _, _, ex, ey, hp'⟩
      · refine hR h'' acc' c' (fun b o hb e => hk'' b o hb (oth b o (fun q => hb (by rw [q]; exact List.mem_cons_self)) (hk b o (fun q => hb (List.mem_cons_of_mem _ q)) e))) hS'' hacc'
    obtain ⟨hTI, h1, h2, hl1, hl2, hz⟩ := hst
    have lt : ∀ {c o}, s.heap.get? c = some o → s.heap.objs.size ≠ c := fun e => Nat.ne_of_gt (Heap.lt_size e)
    have m1 : s.heap.objs.size ≠ i1 := let ⟨_, e, _⟩ := h1; lt e
    have m2 : s.heap.objs.size ≠ i2 := let ⟨_, e, _⟩ := h2; lt e
    rcases hz with ⟨hz, a, b, hTO⟩ | ⟨T, f, oT, hz, hT, r1, r2, r3, r4⟩
    · refine wpAny_bind (wpAny_pyNext_zip_item D hz hTI hTO h1 h2 hl1 hl2 ex ey fun h' a1 a2 a3 a4 a5 a6 hk => ?_)
      exact go h' ⟨hk _ _ D.TIz D.TITO D.TIi1 D.TIi2 hTI, a3, a4, hl1.at fun o e => hk _ o D.l1z D.l1TO D.l1i1 D.l1i2 e, hl2.at fun o e => hk _ o D.l2z D.l2TO D.l2i1 D.l2i2 e, .inr ⟨s.heap.objs.size, false, _, a1, a5, lt hz, m1, m2, lt hS⟩⟩ a5 a6
        fun c o hc e => hk c o (fun x => hc (by simp [x])) (fun x => hc (by simp [x])) (fun x => hc (by simp [x])) (fun x => hc (by simp [x])) e
    · refine wpAny_bind (wpAny_pyNext_zip_item_held D hz hT hTI h1 h2 hl1 hl2 ex ey fun h' a1 a3 a4 a5 a6 hk => ?_)
      exact go h' ⟨hk _ _ D.TIz D.TIi1 D.TIi2 hTI, a3, a4, hl1.at fun o e => hk _ o D.l1z D.l1i1 D.l1i2 e, hl2.at fun o e => hk _ o D.l2z D.l2i1 D.l2i2 e, .inr ⟨T, true, oT, a1, hk _ _ r1 r2 r3 hT, r1, r2, r3, r4⟩⟩ a5 a6
        fun c o hc e => hk c o (fun x => hc (by simp [x])) (fun x => hc (by simp [x])) (fun x => hc (by simp [x])) e
end
section
variable {P : Program} {w : World} {A : Around} {E : Value → Shared → Prop} {s : Shared}
/-- list(z) of a zip just made -/
theorem call_list_zip {z TI TO i1 i2 l1 l2 : Addr} {xs ys : Array Value} {Q : Value → Shared → Prop} (D : ZipApart z TI TO i1 i2 l1 l2) (hl : xs.size = ys.size) (hs : xs.size ≤ sizeLine) (hh : A.handled = none)
    (lt : ∀ b ∈ [z, TI, TO, i1, i2, l1, l2], b < s.heap.objs.size) (hTI : IsPair s.heap TI (.ref i1) (.ref i2)) (h1 : s.heap.IsListIter i1 l1 0) (h2 : s.heap.IsListIter i2 l2 0) (hl1 : s.heap.IsList l1 xs) (hl2 : s.heap.IsList l2 ys) (hz : IsZip s.heap z TI TO .none) (hTO : ∃ a b, IsPair s.heap TO a b)
    (hQ : ∀ h' acc' c', (∀ b o, b ∉ [s.heap.objs.size, z, TO, i1, i2] → s.heap.get? b = some o → h'.get? b = some o) → h'.get? s.heap.objs.size = some { cls := .type "list", dict := none, data := .seq acc' c', slots := #[] } → Got (s.heap.objs.size + 1) h' xs ys acc' xs.size → Q (.ref s.heap.objs.size) { s with heap := h' }) :
    wpAny (model P w) A (call (.type "list") [.ref z]) Q E s := by
  have nS : ∀ b ∈ [z, TI, TO, i1, i2, l1, l2], b ≠ s.heap.objs.size := fun b hb => Nat.ne_of_lt (lt b hb)
  have zS : s.heap.objs.size ≠ z := (nS z (by simp)).symm
  refine callType_codes (Q₁ := fun obj s₁ => obj = .ref s.heap.objs.size ∧ s₁ = { s with heap := s.heap.push { cls := .type "list", data := .seq #[] } }) PySem.F.called_list (PySem.F.typeCall_list_1 _) PySem.F.entry_list_init
    (code_list_new _ ⟨rfl, rfl⟩) fun obj s₁ h₁ => ?_
  obtain ⟨rfl, rfl⟩ := h₁
  have hS : (s.heap.push { cls := .type "list", data := .seq #[] }).get? s.heap.objs.size = some { cls := .type "list", data := .seq #[] } := Heap.get?_push_size _ rfl
  refine ⟨⟨_, hS, rfl⟩, PySem.F.args_list_init_2 _ _, ?_⟩
  show wpAny _ A.in1.in1 (do let old ← Builtin.List.listItems (.ref s.heap.objs.size); Builtin.List.listUpdate (.ref s.heap.objs.size) (fun _ => #[]); letGo old.toList.reverse; Builtin.List.listExtendWith (.ref s.heap.objs.size) (.ref z) .none) _ _ _
  refine wpAny_bind ?_
  unfold Builtin.List.listItems
  refine wpAny_bind (wpAny_seqItems hS rfl (wpAny_pure ?_))
  show wpAny _ A.in1.in1 (updateSeq s.heap.objs.size (fun _ => #[]) >>= fun _ => letGo (#[] : Array Value).toList.reverse >>= fun _ => Builtin.List.listExtendWith (.ref s.heap.objs.size) (.ref z) .none) _ _ _
  refine wpAny_bind (wpAny_updateSeq hS rfl ?_)
  have hS₂ := Heap.get?_update_self (Obj.mapSeq (fun _ => (#[] : Array Value))) hS rfl
  have oth : ∀ b o, b ≠ s.heap.objs.size → s.heap.get? b = some o → ((s.heap.push { cls := .type "list", data := .seq #[] }).update s.heap.objs.size (Obj.mapSeq (fun _ => (#[] : Array Value)))).get? b = some o :=
    fun b o hb e => (Heap.get?_update_other _ _ (Ne.symm hb)).trans (Heap.get?_push_of_some _ e)
  refine wpAny_bind (wpAny_letGo ?_)
  generalize hg2 : (s.heap.push { cls := .type "list", data := .seq #[] }).update s.heap.objs.size (Obj.mapSeq (fun _ => (#[] : Array Value))) = h2' at hS₂ oth ⊢
  have hz2 : IsZip h2' z TI TO .none := oth _ _ zS.symm hz
  unfold Builtin.List.listExtendWith
  refine wpAny_bind (wpAny_typeOf (T := "zip") ⟨_, hz2, rfl⟩ ?_)
  have q1 : Builtin.List.listSameRef (.ref s.heap.objs.size) (.ref z) = false := by simp [Builtin.List.listSameRef, zS]
  have q2 : (Value.type "zip" == Value.type "list") = false := by decide
  have q3 : (Value.type "zip" == Value.type "tuple") = false := by decide
  simp only [q1, q2, q3, Bool.or_false, Bool.false_eq_true, if_false]
  refine wpAny_bind (wpAny_pyIter_zip hz2 ?_)
  refine wpAny_bind (wpAny_holding ?_)
  unfold Builtin.List.listLengthHint
  refine wpAny_bind (wpAny_specialOf (T := "zip") ⟨_, hz2, rfl⟩ zip_no_len ?_)
  show wpAny _ A.in1.in1 (specialOf (Value.ref z) (Str.ofString "__length_hint__") >>= _) _ _ _
  refine wpAny_bind (wpAny_specialOf (T := "zip") ⟨_, hz2, rfl⟩ zip_no_hint ?_)
  refine wpAny_pure ?_
  show wpAny _ A.in1.in1 (rule "list.extend.makes-room" >>= fun _ => Builtin.List.listTouch (.ref s.heap.objs.size) >>= fun _ =>
    again (.builtin "list.extend.loop" ⟨[.ref s.heap.objs.size, .ref z, .none], []⟩)) _ _ _
  refine wpAny_bind (wpAny_rule ?_)
  refine wpAny_bind ?_
  show wpAny _ A.in1.in1 (updateSeq s.heap.objs.size (·.push .none) >>= fun _ => updateSeq s.heap.objs.size (·.pop)) _ _ _
  refine wpAny_bind (wpAny_updateSeq hS₂ rfl ?_)
  have hS₃ := Heap.get?_update_self (Obj.mapSeq (·.push Value.none)) hS₂ rfl
  refine wpAny_updateSeq (hz := by seq_fits) hS₃ rfl ?_
  have hS₄ := Heap.get?_update_self (Obj.mapSeq (·.pop)) hS₃ rfl
  have oth2 : ∀ b o, b ≠ s.heap.objs.size → s.heap.get? b = some o → ((h2'.update s.heap.objs.size (Obj.mapSeq (·.push Value.none))).update s.heap.objs.size (Obj.mapSeq (·.pop))).get? b = some o :=
    fun b o hb e => (Heap.get?_update_other _ _ (Ne.symm hb)).trans ((Heap.get?_update_other _ _ (Ne.symm hb)).trans (oth b o hb e))
  have hsz : s.heap.objs.size + 1 ≤ ((h2'.update s.heap.objs.size (Obj.mapSeq (·.push Value.none))).update s.heap.objs.size (Obj.mapSeq (·.pop))).objs.size := Heap.lt_size hS₄
  generalize hg3 : (h2'.update s.heap.objs.size (Obj.mapSeq (·.push Value.none))).update s.heap.objs.size (Obj.mapSeq (·.pop)) = h3' at hS₄ oth2 hsz ⊢
  refine wpAny_pure ⟨plainId_quiet F.plain_extend_loop _, ext_zip (N0 := s.heap.objs.size + 1) D hl hs (by simpa using hh) nS (fun b hb => ?_) _ xs.size 0 _ _ _ rfl (Nat.zero_le _)
    ⟨oth2 _ _ (nS TI (by simp)) hTI, h1.at fun o e => oth2 _ o (nS i1 (by simp)) e, h2.at fun o e => oth2 _ o (nS i2 (by simp)) e, hl1.at fun o e => oth2 _ o (nS l1 (by simp)) e, hl2.at fun o e => oth2 _ o (nS l2 (by simp)) e, .inl ⟨oth2 _ _ zS.symm hz, let ⟨a, b, e⟩ := hTO; ⟨a, b, oth2 _ _ (nS TO (by simp)) e⟩⟩⟩
    hS₄ hsz ⟨[], rfl, rfl, List.nodup_nil, fun j p hj => by simp at hj⟩ fun h' acc' c' hk hS' hgot => ⟨rfl, hQ h' acc' c' (fun b o hb e => hk b o hb (oth2 b o (fun q => hb (by rw [q]; exact List.mem_cons_self)) e)) hS' hgot⟩⟩
  rcases List.mem_cons.mp hb with e | hb
  · rw [e]; exact Nat.lt_succ_self _
  · have : b ∈ [z, TI, TO, i1, i2, l1, l2] := by
      simp only [List.mem_cons, List.not_mem_nil, or_false] at hb ⊢
      rcases hb with e | e | e | e <;> simp [e]
    exact Nat.lt_succ_of_lt (lt b this)
end
/-! ### its objects tracked -/
def adoptH (H : Hp) : List (Addr × V × V) → Hp
  | [] => H
  | q :: r => adoptH (upd H q.1 (.tup [q.2.1, q.2.2])) r
theorem adopt_ok {P : Program} {w : World} {h : Heap} : ∀ (l : List (Addr × V × V)) (H : Hp), (l.map (·.1)).Nodup → (∀ q ∈ l, H q.1 = none) → (∀ q ∈ l, ∃ u v, RelV q.2.1 u ∧ RelV q.2.2 v ∧ IsPair h q.1 u v) → HOk P w H h →
    HOk P w (adoptH H l) h ∧ (∀ b, b ∉ l.map (·.1) → adoptH H l b = H b) ∧ ∀ q ∈ l, adoptH H l q.1 = some (.tup [q.2.1, q.2.2])
  | [], H, _, _, _, ok => ⟨ok, fun _ _ => rfl, fun q hq => by cases hq⟩
  | q :: r, H, nd, hn, hp, ok => by
    rw [List.map_cons, List.nodup_cons] at nd
    obtain ⟨u, v, ru, rv, e⟩ := hp q List.mem_cons_self
    have new : ObjOk P w (upd H q.1 (.tup [q.2.1, q.2.2])) h q.1 (.tup [q.2.1, q.2.2]) := ⟨by show 2 ≤ sizeLine; decide, [u, v], .cons ru (.cons rv .nil), ⟨_, e, rfl, _, rfl⟩⟩
    have ok1 := ok.laidN (fun _ _ e => e) (hn q List.mem_cons_self) new
    have ne : ∀ p ∈ r, p.1 ≠ q.1 := fun p hp z => nd.1 (List.mem_map.mpr ⟨p, hp, z⟩)
    obtain ⟨a1, a2, a3⟩ := adopt_ok r (upd H q.1 (.tup [q.2.1, q.2.2])) nd.2 (fun p hp' => by rw [upd_ne (ne p hp')]; exact hn p (List.mem_cons_of_mem _ hp')) (fun p hp' => hp p (List.mem_cons_of_mem _ hp')) ok1
    refine ⟨a1, fun b hb => ?_, fun p hp' => ?_⟩
    · rw [List.map_cons, List.mem_cons, not_or] at hb
      show adoptH (upd H q.1 _) r b = H b
      rw [a2 b hb.2, upd_ne hb.1]
    · rcases List.mem_cons.mp hp' with z | z
      · rw [z]
        show adoptH (upd H q.1 _) r q.1 = _
        rw [a2 q.1 nd.1, upd_same]
      · exact a3 p z
theorem vals_refs : ∀ ps : List Addr, Vals (ps.map V.ref) (ps.map Value.ref)
  | [] => .nil
  | _ :: r => .cons rfl (vals_refs r)
section
variable {X : Cx}
/-- list(zip(a, b)): a new list of new pairs -/
def tListZip (K : PySem.W.Frag) (ta : TA) : TE := fun σ H Q => ta σ H fun vs H1 => ∃ a b xs ys, vs = [.ref a, .ref b] ∧ SqL K H1 a xs ∧ SqL K H1 b ys ∧ xs.length = ys.length ∧
  ∀ (D : Addr) (ps : List Addr) (H' : Hp), H1 D = none → Same H1 H' → H' D = some (.lst (ps.map V.ref)) → ps.length = xs.length → (∀ (i : Nat) (p : Addr), ps[i]? = some p → ∃ x y, xs[i]? = some x ∧ ys[i]? = some y ∧ H' p = some (.tup [x, y])) → Q (.ref D) H'
theorem pe_listZip {e e2 : Expr} {ta : TA} {p p2 q pos : Pos} (hc : X.calm = true) (hg : Gl X "list") (hm : X.mg "list" = none) (hg2 : Gl X "zip") (hm2 : X.mg "zip" = none) (ha : PA X [e, e2] ta)
    (hs : starEach [e, e2] X.env = (false, eval e X.env) :: starEach [e2] X.env := by rfl) (hpl : (backTo q (starEach [e2] X.env)).any (·.1) = false := by rfl) :
    PE X (.Call (.Name "list" p) [.Call (.Name "zip" p2) [e, e2] [] q] [] pos) (tListZip X.K ta) := by
  refine ⟨fun pins s σ H Q I h => ?_⟩
  refine Call_ (ld_blt I hg hm PyProof.Rows.boot_list (PyProof.Rows.callWith_type1 (PyProof.Rows.args_cons ?_ rfl) rfl rfl))
  refine Call_ (ld_blt I hg2 hm2 PyProof.Rows.boot_zip (PyProof.Rows.callWith_type1 (thn (ha.run q pins s σ H _ I h) fun us s1 ⟨vs, H1, I1, r1, q1⟩ => ?_) hs hpl))
  obtain ⟨a, b, xs, ys, ex, hqx, hqy, hlen, k⟩ := q1
  subst ex
  cases r1 with
  | cons r rr =>
    cases rr with
    | cons r' rr =>
      cases rr
      cases r
      cases r'
      obtain ⟨its, rv, p1, z1⟩ := I1.list hqx
      obtain ⟨its2, rv2, p2', z2⟩ := I1.list hqy
      have l1 := rv.length
      have l2 := rv2.length
      refine call_zip_2 p1.isList p2'.isList fun h' hz hTI hTO h1 h2 hsz hk => PyProof.Rows.args_nil ?_
      have la : a < s1.heap.objs.size := p1.lt
      have lb : b < s1.heap.objs.size := p2'.lt
      refine call_list_zip (s := { s1 with heap := h' }) (PySem.W.ktu_apart s1.heap.objs.size a b la lb) (by simp; omega) (by simp; omega) (I1.ok.hd hc) (fun c hcm => ?_) hTI h1 h2 (p1.isList.at fun o e => hk _ o e) (p2'.isList.at fun o e => hk _ o e) hz ⟨_, _, hTO⟩ fun h3 acc' c' hk3 hS3 hgot => ?_
      · show c < h'.objs.size
        rw [hsz]
        simp only [List.mem_cons, List.not_mem_nil, or_false] at hcm
        rcases hcm with e | e | e | e | e | e | e <;> rw [e]
        · exact Nat.add_lt_add_left (by decide) _
        · exact Nat.add_lt_add_left (by decide) _
        · exact Nat.add_lt_add_left (by decide) _
        · exact Nat.lt_add_of_pos_right (by decide)
        · exact Nat.add_lt_add_left (by decide) _
        · exact Nat.lt_of_lt_of_le la (Nat.le_add_right _ _)
        · exact Nat.lt_of_lt_of_le lb (Nat.le_add_right _ _)
      · have hsz' : h'.objs.size = s1.heap.objs.size + 5 := hsz
        have old : ∀ c o, s1.heap.get? c = some o → h3.get? c = some o := fun c o e => hk3 c o (fun z => by
          have := Heap.lt_size e
          have z' : c ∈ [h'.objs.size, s1.heap.objs.size + 4, s1.heap.objs.size + 3, s1.heap.objs.size, s1.heap.objs.size + 1] := z
          simp only [List.mem_cons, List.not_mem_nil, or_false] at z'
          rcases z' with q | q | q | q | q
          · rw [q, hsz'] at this; exact Nat.not_lt.mpr (Nat.le_add_right _ _) this
          · rw [q] at this; exact Nat.not_lt.mpr (Nat.le_add_right _ _) this
          · rw [q] at this; exact Nat.not_lt.mpr (Nat.le_add_right _ _) this
          · rw [q] at this; exact Nat.lt_irrefl _ this
          · rw [q] at this; exact Nat.not_lt.mpr (Nat.le_add_right _ _) this) (hk c o e)
        obtain ⟨ps, e1, e2', e3, e4⟩ := hgot
        have e2 : ps.length = its.length := by simpa using e2'
        have hN : ∀ j p, ps[j]? = some p → s1.heap.objs.size + 6 ≤ p := fun j p hj => by
          have := (e4 j p hj).1
          have z : h'.objs.size + 1 ≤ p := this
          omega
        let l := ps.zip (xs.zip ys)
        have lz : (xs.zip ys).length = xs.length := by rw [List.length_zip]; omega
        have lm : l.map (·.1) = ps := List.map_fst_zip (by rw [lz]; omega)
        have memI : ∀ q ∈ l, ∃ j : Nat, ps[j]? = some q.1 ∧ xs[j]? = some q.2.1 ∧ ys[j]? = some q.2.2 := fun q hq => by
          obtain ⟨j, hj⟩ := List.getElem?_of_mem hq
          obtain ⟨h1, h2⟩ := List.getElem?_zip_eq_some.mp hj
          obtain ⟨h3, h4⟩ := List.getElem?_zip_eq_some.mp h2
          exact ⟨j, h1, h3, h4⟩
        have frH : ∀ c, s1.heap.objs.size ≤ c → H1 c = none := fun c hc => I1.hok.fresh hc
        have ok0 : HOk X.prog X.w H1 h3 := I1.hok.kept old
        obtain ⟨ok1, a2, a3⟩ := adopt_ok (P := X.prog) (w := X.w) (h := h3) l H1 (by rw [lm]; exact e3) (fun q hq => by
          obtain ⟨j, hj, _⟩ := memI q hq
          exact frH _ (by have := hN j _ hj; omega)) (fun q hq => by
          obtain ⟨j, hj, hx, hy⟩ := memI q hq
          obtain ⟨_, _, x, y, hx', hy', hp⟩ := e4 j _ hj
          obtain ⟨u, hu, ru⟩ := rv.get hx
          obtain ⟨v, hv, rv'⟩ := rv2.get hy
          have eu : x = u := by
            have : its[j]? = some x := by simpa using hx'
            rw [hu] at this
            exact (Option.some.inj this).symm
          have ev : y = v := by
            have : its2[j]? = some y := by simpa using hy'
            rw [hv] at this
            exact (Option.some.inj this).symm
          subst eu ev
          exact ⟨_, _, ru, rv', hp⟩) ok0
        have nSl : h'.objs.size ∉ l.map (·.1) := by
          rw [lm]
          intro hm
          obtain ⟨j, hj⟩ := List.getElem?_of_mem hm
          have := (e4 j _ hj).1
          have z : h'.objs.size + 1 ≤ h'.objs.size := this
          omega
        have nS1 : H1 h'.objs.size = none := frH _ (by omega)
        have nS : adoptH H1 l h'.objs.size = none := by rw [a2 _ nSl]; exact nS1
        have ok2 : HOk X.prog X.w (upd (adoptH H1 l) h'.objs.size (.lst (ps.map V.ref))) h3 := ok1.laidN (fun _ _ e => e) nS ⟨by rw [List.length_map]; omega, ps.map Value.ref, c', vals_refs ps, by
          have z : h3.get? h'.objs.size = some { cls := .type "list", dict := none, data := .seq acc' c', slots := #[] } := hS3
          rw [z, ← e1, Array.toArray_toList]⟩
        have same : ∀ c o, H1 c = some o → upd (adoptH H1 l) h'.objs.size (.lst (ps.map V.ref)) c = some o := fun c o e => by
          have n1 : c ≠ h'.objs.size := fun z => by rw [z, nS1] at e; cases e
          rw [upd_ne n1, a2 c ?_]
          · exact e
          · rw [lm]
            intro hm
            obtain ⟨j, hj⟩ := List.getElem?_of_mem hm
            rw [frH c (by have := hN j _ hj; omega)] at e
            cases e
        have offN : ∀ c, H1 c = none → c < s1.heap.objs.size → upd (adoptH H1 l) h'.objs.size (.lst (ps.map V.ref)) c = none := fun c e hc => by
          rw [upd_ne (fun z => by rw [z, hsz'] at hc; exact Nat.not_lt.mpr (Nat.le_add_right _ _) hc), a2 c ?_]
          · exact e
          · rw [lm]
            intro hm
            obtain ⟨j, hj⟩ := List.getElem?_of_mem hm
            exact Nat.not_lt.mpr (Nat.le_trans (Nat.le_add_right _ 6) (hN j _ hj)) hc
        have u : Un X.fs [] H1 (upd (adoptH H1 l) h'.objs.size (.lst (ps.map V.ref))) s1.heap h3 :=
          ⟨fun c o e _ _ _ => old c o e, fun c o e _ _ _ => ⟨o.slots, old c o e⟩, fun c o e n _ => offN c n (Heap.lt_size e), fun c o e _ => ⟨o, old c o e⟩, fun c xs e => same c _ e, fun c o u e => same c _ e, fun c ps e => ⟨#[], by rw [Array.append_empty]; exact same c _ e⟩⟩
        have I3 : Inv X pins σ (upd (adoptH H1 l) h'.objs.size (.lst (ps.map V.ref))) { s1 with heap := h3 } := I1.un (t' := s1.toks) u ok2
        refine ⟨.ref h'.objs.size, _, I3, rfl, k _ ps _ nS1 same upd_same (by omega) fun i p hp => ?_⟩
        have hi : i < xs.length := by
          have := (List.getElem?_eq_some_iff.mp hp).1
          omega
        have hi2 : i < ys.length := by omega
        refine ⟨xs[i], ys[i], List.getElem?_eq_getElem hi, List.getElem?_eq_getElem hi2, ?_⟩
        have hq : (p, xs[i], ys[i]) ∈ l := List.mem_of_getElem? (i := i) (List.getElem?_zip_eq_some.mpr ⟨hp, List.getElem?_zip_eq_some.mpr ⟨List.getElem?_eq_getElem hi, List.getElem?_eq_getElem hi2⟩⟩)
        have np : p ≠ h'.objs.size := fun z => by
          have := hN i p hp
          rw [z, hsz'] at this
          omega
        rw [upd_ne np]
        exact a3 _ hq
end
end Kx
namespace Kx
open PySem PySem.Spec PyProof.Rows L2
section
variable {X : Cx} {CX : CXT} {k : Nat} {C f a dx : Addr} {fd : FuncData} {ps : List Str} {sp : Sp} {E : XK}
/-- x in o, by the own __contains__'s promise -/
def rInO (C : Addr) (sp : Sp) (E : XK) : R2 := fun x y H Q => ∃ a dx fs, y = .ref a ∧ H a = some (.ins C dx fs) ∧ sp [.ref a, x] H (fun v H' => ∃ b, v = .bl b ∧ Q (.bl b) H') E
theorem op_inO (c : Cls X.K C) (hs : PySem.W.findIn X.K (.ref C) "__contains__" = some (some (.ref f))) (hf : PySem.W.isFn X.K (.ref f) = true) (F : FnOk X.prog X.w X.K X.mg X.base CX k f fd ps sp) (hr : Room k X.A) (hb : Binds X.K fd ps [])
    (hx : Passes CX X E) : OpR X (compareOp .In) (rInO C sp E) := by
  intro pins s σ H x y v u Q I rx ry h
  obtain ⟨a, dx, fs, rfl, ha, q⟩ := h
  cases ry
  obtain ⟨mA, O, _⟩ := ins_get I.hok ha
  obtain ⟨od, J, _⟩ := O.look
  obtain ⟨m, fr⟩ := I.fr
  refine PySem.W.in_K fr I.ok.mod.kin J hs hf ?_
  refine wpAny_mono (run_fn (us := [.ref a, v]) (vs := [.ref a, x]) (ds := []) (dvs := []) F hr hb .nil hx I (.cons rfl (.cons rx .nil)) q) (fun r s' z => ?_) fun _ _ z => z
  obtain ⟨v', H', I', rv, b, rfl, qq⟩ := z
  cases (show r = Value.bool b from rv)
  exact wpAny_truthy_bool ⟨.bl b, H', I', rfl, qq⟩
end
/-! ### list(d.values()) -/
def dvO (p d : Addr) : HO := .ext fun h => h.IsValuesView p d
theorem dvO_ok {P : Program} {w : World} {H : Hp} {h : Heap} {p d : Addr} (e : h.IsValuesView p d) : ObjOk P w H h p (dvO p d) :=
  ⟨e, (let ⟨o, ho, _⟩ := e; ⟨o, ho⟩), fun h1 h2 q k => let ⟨o, ho, r⟩ := q; ⟨o, k _ ho, r⟩⟩
def tDvals (td : TE) : TE := fun σ H Q => td σ H fun x H1 => ∃ (d : Addr) (kvs : List (Key × V)), x = .ref d ∧ H1 d = some (.dK kvs) ∧ ∀ p, H1 p = none → Q (.ref p) (upd H1 p (dvO p d))
section
variable {X : Cx} {e : Expr} {td : TE} {apos cpos : Pos}
theorem pe_dvals (he : PE X e td) (hbase : attributeBase e "values" X.env (eval e X.env) = eval e X.env := by rfl) (hline : (apos.endLine == cpos.line) = true := by rfl) : PE X (.Call (.Attribute e "values" apos) [] [] cpos) (tDvals td) := by
  refine ⟨fun pins s σ H Q I h => ?_⟩
  refine wpAny_Call_method (T := "dict") (id := "dict.values") hbase rfl hline F.plainAttrs_dict F.slot_dict_values F.type_dict_values (thn (he.run pins s σ H _ I h) fun u s1 ⟨x, H1, I1, rx, d, kvs, ex, hd, q⟩ => ?_)
  subst ex
  obtain rfl : u = Value.ref d := rx
  obtain ⟨z, lo, vs, rel, dd⟩ := dk_rd I1.hok (.inl hd)
  refine ⟨dd.typeIs, dd.mapOf.noDict, ?_⟩
  have ev : (s1.heap.push { cls := .type "dict_values", data := .fields #[.ref d] }).IsValuesView s1.heap.objs.size d := ⟨_, Heap.get?_push_size _ rfl, rfl, rfl⟩
  have fin : EP X pins σ Q (.ref s1.heap.objs.size) { s1 with heap := s1.heap.push { cls := .type "dict_values", data := .fields #[.ref d] } } :=
    ⟨.ref s1.heap.objs.size, _, I1.laid (t' := s1.toks) (o := dvO s1.heap.objs.size d) (fun b ob e => Heap.get?_push_of_some _ e) (Nat.le_refl _) (dvO_ok ev), rfl, q _ (I1.hok.fresh (Nat.le_refl _))⟩
  show wpAny _ _ (callWith cpos (.builtin "dict.values") [.ref d] [] []) _ X.xe s1
  exact method_meetsIn F.slot_dict_values F.entry_dict_values rfl (PySem.evalArgs_none ⟨rfl, dd.typeIs, F.args_dict_values_1 _, _, meets_dict_values (mixKind X.prog X.w) d lo, ⟨vs, dd⟩, fin⟩)
theorem call_listV (hcalm : X.calm = true) : CallR X (.type "list") (fun xs H Q => ∃ (p d : Addr) (kvs : List (Key × V)), xs = [.ref p] ∧ H p = some (dvO p d) ∧ H d = some (.dK kvs) ∧ ∀ q, H q = none → Q (.ref q) (upd H q (.lst (kvs.map (·.2))))) := by
  intro pins s σ H xs us Q I r q
  obtain ⟨p, d, kvs, rfl, hp, hd, q⟩ := q
  obtain ⟨u, rfl, rx⟩ := vals1 r
  cases rx
  obtain ⟨z, lo, vs, rel, dd⟩ := dk_rd I.hok (.inl hd)
  obtain ⟨ep, hat⟩ := dd.dictAt
  have hv0 : s.heap.IsValuesView p d := (show ObjOk X.prog X.w H s.heap p (.ext fun h => h.IsValuesView p d) from I.hok p _ hp).1
  have lenv : vs.length ≤ sizeLine := by rw [← rel.length]; exact z
  refine PySem.W.kdl_call (PySem.W.kdl_values (knd := mixKind X.prog X.w) (kvs := vs) (ep := ep)) (I.ok.hd hcalm) ⟨hv0, hat⟩ lenv fun h' tk acc c' hk hD hacc => ?_
  have e2 : acc.toList = vs.map (·.2) := PySem.W.kdl_vals_eq acc.toList (by rw [Array.length_toList]; exact hacc.1) fun j v e => hacc.2 j v (by rw [← Array.getElem?_toList]; exact e)
  have hv : Vals (kvs.map (·.2)) acc.toList := by
    rw [e2]
    clear e2 hacc hat dd lenv z hd q
    induction rel with
    | nil => exact .nil
    | cons h t ih => exact .cons h.2 ih
  refine ⟨.ref s.heap.objs.size, upd H s.heap.objs.size (.lst (kvs.map (·.2))), I.laid (t' := tk) hk (Nat.le_refl _)
    (show ObjOk X.prog X.w _ _ _ (.lst (kvs.map (·.2))) from ⟨by rw [List.length_map]; exact z, acc.toList, c', hv, by rw [Array.toArray_toList]; exact hD⟩), rfl, q _ (I.hok.fresh (Nat.le_refl _))⟩
end
/-! ### == and != of data -/
section
variable {X : Cx}
def rEqDv : R2 := fun x y H Q => ∃ (ex ey : Addr → Prop) (d e : PyData), Dv ex H x d ∧ Dv ey H y e ∧ SeqAt.shaped d = true ∧ SeqAt.shaped e = true ∧ Q (.bl (PyData.eqv d e)) H
def rNeDv : R2 := fun x y H Q => ∃ (ex ey : Addr → Prop) (d e : PyData), Dv ex H x d ∧ Dv ey H y e ∧ SeqAt.shaped d = true ∧ SeqAt.shaped e = true ∧ Q (.bl (!PyData.eqv d e)) H
theorem op_eqDv {om : Obj} (hK : X.K.lookup sysModules = some om) (hu : X.A.units + 64 < cLine) : OpR X (compareOp .Eq) rEqDv := by
  intro pins s σ H x y v u Q I rx ry h
  obtain ⟨ex, ey, d, e, hd, he, sd, se, q⟩ := h
  have hsm : H sysModules = none := (I.bs _ _ (I.ok.mod.kin _ _ hK)).2
  obtain ⟨as, r1, _⟩ := Dv.reads I hsm d x v hd rx
  obtain ⟨bs, r2, _⟩ := Dv.reads I hsm e y u he ry
  exact SeqAt.compareEq_shaped r1 r2 sd se hu ⟨.bl _, H, I, rfl, q⟩
theorem op_neDv {om : Obj} (hK : X.K.lookup sysModules = some om) (hu : X.A.units + 64 < cLine) : OpR X (compareOp .NotEq) rNeDv := by
  intro pins s σ H x y v u Q I rx ry h
  obtain ⟨ex, ey, d, e, hd, he, sd, se, q⟩ := h
  have hsm : H sysModules = none := (I.bs _ _ (I.ok.mod.kin _ _ hK)).2
  obtain ⟨as, r1, _⟩ := Dv.reads I hsm d x v hd rx
  obtain ⟨bs, r2, _⟩ := Dv.reads I hsm e y u he ry
  exact SeqAt.compareNe_reads r1 r2 (SeqAt.canLay_of_shaped sd) (SeqAt.canLay_of_shaped se) (SeqAt.room_of_shaped sd hu) ⟨.bl _, H, I, rfl, q⟩
/-- t != () whatever the items are -/
def rNeT0 (K : PySem.W.Frag) : R2 := fun x y H Q => ∃ a b xs, x = .ref a ∧ y = .ref b ∧ SqT K H a xs ∧ SqT K H b [] ∧ Q (.bl (!xs.isEmpty)) H
theorem op_neT0 (hu : X.A.units < cLine) : OpR X (compareOp .NotEq) (rNeT0 X.K) := by
  intro pins s σ H x y v u Q I rx ry h
  obtain ⟨a, b, xs, rfl, rfl, h1, h2, q⟩ := h
  cases rx
  cases ry
  obtain ⟨its, r, p1, _⟩ := I.tuple h1
  obtain ⟨its2, r2, p2, _⟩ := I.tuple h2
  cases r2
  have e : (!((List.range (min its.toArray.size 0)).all (fun _ => true) && its.toArray.size == 0)) = !xs.isEmpty := by
    cases xs with
    | nil => cases r; rfl
    | cons y ys => cases r; rfl
  refine SeqAt.RcNeAt.tuples (e := fun _ => true) p1 p2 hu (fun j hj h2 => absurd h2 (by simp)) _ _ _ _ ?_
  refine ⟨.bl (!xs.isEmpty), H, I, ?_, q⟩
  rw [← e]
  rfl
end
end Kx
namespace Kx
open PySem PySem.Spec PyProof.Rows L2 PySem.AutoSeq1
open AutoSeq1 (wpAny_loadPart')
theorem str_eq_declines_dict (b : Str) (u : Tok) (l : Addr) (es : Array DictEntry) (ep : Nat) (dd : Option Addr) (sl : Array (Option Value)) :
    Meets (Builtin.«str.__eq__» ⟨[.str b u, .ref l], []⟩) (fun _ R s => s.heap.get? l = some { cls := .type "dict", dict := dd, data := .dict es ep, slots := sl } ∧ R (.ok (.ret .notImplemented)) s) :=
  .of_wp fun prog w A R s h => by obtain ⟨hp, g, d, tk, os⟩ := s; obtain ⟨hl, h⟩ := h; wp_walk using wpAny_loadPart' hl, wpAny_load hl; exact ⟨_, rfl, h⟩
theorem dict_eq_declines_str (b : Str) (u : Tok) (l : Addr) (es : Array DictEntry) (ep : Nat) (dd : Option Addr) (sl : Array (Option Value)) :
    Meets (Builtin.«dict.__eq__» ⟨[.ref l, .str b u], []⟩) (fun _ R s => s.heap.get? l = some { cls := .type "dict", dict := dd, data := .dict es ep, slots := sl } ∧ R (.ok (.ret .notImplemented)) s) :=
  .of_wp fun prog w A R s h => by
    obtain ⟨hp, g, d, tk, os⟩ := s; obtain ⟨hl, h⟩ := h; have f1 := F.sub_dict_str; have f2 := F.sub_str_dict
    have g4 : Shared.TypeIs ⟨hp, g, d, tk, os⟩ (.ref l) "dict" := ⟨_, hl, rfl⟩
    wp_walk using wpAny_loadPart' hl, wpAny_load hl, wpAny_typeOf g4
    exact ⟨_, rfl, h⟩
theorem eqAt_str_dict {A : Around} {s : Shared} {l : Addr} {o : Obj} {es : Array DictEntry} {ep : Nat} (b : Str) (u : Tok) (hl : s.heap.get? l = some o) (hc : o.cls = .type "dict") (hd : o.data = .dict es ep) (hu : A.units < cLine) : SeqAt.EqAt A s (.str b u) (.ref l) false := fun prog w E Q h => by
  obtain ⟨cls, dd, data, sl⟩ := o
  simp only at hc hd
  subst hc hd
  unfold eqBool
  refine wpAny_holding ?_
  refine wpAny_ite_split (fun hab => absurd (eq_of_beq hab) nofun) (fun _ => ?_)
  refine wpAny_bind ?_
  refine SeqAt.rc_eq_decline_or (k := false) (typeIs_str s b u) ⟨_, hl, rfl⟩ (by decide) F.sub_dict_str F.slot_str_eq F.slot_dict_eq_refl
    (fun _ hq => call_meets F.slot_str_eq (typeIs_str s b u) F.entry_str_eq (F.args_str_eq_2 _ _) (str_eq_declines_dict b u l es ep dd sl) ⟨hl, hq⟩)
    (fun _ hq => call_meets F.slot_dict_eq_refl ⟨_, hl, rfl⟩ F.entry_dict_eq (F.args_dict_eq_2 _ _) (dict_eq_declines_str b u l es ep dd sl) ⟨hl, hq⟩)
    (fun _ hq => wpAny_of_eq (rfl : isSame (.str b u) (.ref l) = pure false) hq) (.inr hu) (wpAny_truthy_bool h)

def strInD (zs : List Str) : PyData → Bool
  | .str z => decide (z ∈ zs)
  | _ => false
section
variable {X : Cx}
/-- x in a tuple of texts, x any datum -/
def rInS (K : PySem.W.Frag) : R2 := fun x y H Q => ∃ (ex : Addr → Prop) (p : Addr) (zs : List Str) (d : PyData), y = .ref p ∧ SqT K H p (zs.map V.str) ∧ Dv ex H x d ∧ Q (.bl (strInD zs d)) H
theorem op_inS (hu : X.A.units + 1 < cLine) : OpR X (compareOp .In) (rInS X.K) := by
  intro pins s σ H x y v u Q I rx ry h
  obtain ⟨ex, p, zs, d, rfl, hq, hd, q⟩ := h
  cases ry
  obtain ⟨its, r, pl, hz⟩ := I.tuple hq
  have hu2 : X.A.in1.units < cLine := hu
  let e : Value → Bool := fun y => match y, d with
    | .str a _, .str b => a == b
    | _, _ => false
  have each : ∀ {zs : List Str} {its : List Value}, Vals (zs.map V.str) its → (∀ y ∈ its, ∃ z t, y = Value.str z t ∧ z ∈ zs) ∧ its.any e = strInD zs d := by
    intro zs
    induction zs with
    | nil =>
      intro its r
      cases r
      refine ⟨fun y hy => (by cases hy), ?_⟩
      cases d <;> first | rfl | simp [strInD]
    | cons z zs ih =>
      intro its r
      cases r with
      | cons r1 r2 =>
        obtain ⟨t, rfl⟩ := r1
        obtain ⟨h1, h2⟩ := ih r2
        refine ⟨fun y hy => ?_, ?_⟩
        · rcases List.mem_cons.mp hy with rfl | hy
          · exact ⟨z, t, rfl, List.mem_cons_self⟩
          · obtain ⟨a, b, c, d⟩ := h1 y hy
            exact ⟨a, b, c, List.mem_cons_of_mem _ d⟩
        · rw [List.any_cons, h2]
          cases d with
          | str w =>
            show ((z == w) || decide (w ∈ zs)) = decide (w ∈ z :: zs)
            by_cases hw : z = w
            · subst hw; simp
            · have hw' : ¬ w = z := fun q => hw q.symm
              simp [hw, hw', List.mem_cons]
          | _ => rfl
  obtain ⟨h1, h2⟩ := each r
  refine SeqAt.in_tupleAt e pl (fun y hy => ?_) ⟨.bl _, H, I, rfl, ?_⟩
  · obtain ⟨z, t, rfl, _⟩ := h1 y (by simpa using hy)
    cases hd with
    | non => cases rx; exact SeqAt.EqAt.str_none z t
    | bl b => cases rx; exact SeqAt.EqAt.str_bool z t b
    | int i => obtain ⟨t2, rfl⟩ := rx; exact SeqAt.EqAt.str_int z t i t2
    | str w => obtain ⟨t2, rfl⟩ := rx; exact SeqAt.EqAt.str_str z t w t2
    | lst na e2 l =>
      cases rx
      obtain ⟨its2, r2, p2, _⟩ := I.list (SqL.of e2)
      exact SeqAt.EqAt.str_list z t p2.isList hu2
    | @tup a o xs ds od e2 l =>
      cases rx
      obtain ⟨its2, r2, p2, _⟩ := I.tuple (TupF.sq (K := X.K) ⟨o, od, e2⟩)
      exact SeqAt.EqAt.str_tuple z t p2 hu2
    | @dic a kvs es na e2 l =>
      cases rx
      obtain ⟨_, hne, vs, rv, o, es', ep, ho, hx, hd', _⟩ := (show ObjOk X.prog X.w H s.heap a (.dK kvs) from I.hok a _ e2)
      exact eqAt_str_dict z t ho hx.1 hd' hu2
  · rw [show its.toArray.any e = its.any e by simp, h2]
    exact q
end
end Kx
namespace Kx
open PySem PySem.Spec PyProof.Rows L2
theorem costL_app : ∀ xs ys : List PyData, costL (xs ++ ys) = costL xs + costL ys
  | [], _ => by simp [costL]
  | x :: r, ys => by
    have := costL_app r ys
    simp only [List.cons_append, costL]; omega
theorem okS_app {a b : Str} (ha : okS a) (hb : okS b) : okS (a ++ b) := fun c hc => by
  have hc' : c ∈ (a.cps ++ b.cps).toList := hc
  rw [Array.toList_append] at hc'
  rcases List.mem_append.mp hc' with q | q
  · exact ha c q
  · exact hb c q
theorem cutS_le (a : Str) (lo hi : Option Int) : (cutS a lo hi).length ≤ a.length := by
  show (cutS a lo hi).cps.size ≤ a.cps.size
  unfold cutS
  rw [List.size_toArray, List.length_take, List.length_drop, Array.length_toList]
  omega
theorem okS_cut {a : Str} (ha : okS a) (lo hi : Option Int) : okS (cutS a lo hi) := fun c hc => by
  unfold cutS at hc
  exact ha c (List.mem_of_mem_drop (List.mem_of_mem_take (by simpa using hc)))
theorem okS_name {z : Str} (h : NameS z) : okS z := fun c hc => Nat.lt_of_le_of_lt (h.2.2 c hc).2 (by decide)
theorem upper_abc : ∀ c, 97 ≤ c → c ≤ 122 → ∀ d ∈ Unicode.upperOf c, d < 16 ^ 8 := by
  have key : ((List.range 26).all fun i => (Unicode.upperOf (i + 97)).all fun d => decide (d < 16 ^ 8)) = true := by decide +kernel
  intro c h1 h2 d hd
  have := List.all_eq_true.mp key (c - 97) (List.mem_range.mpr (by omega))
  rw [show c - 97 + 97 = c by omega] at this
  exact of_decide_eq_true (List.all_eq_true.mp this d hd)
theorem okS_upper {z : Str} (h : NameS z) : okS (Txt.upper z) := fun c hc => by
  have hc' : c ∈ ((z.cps.mapIdx fun _ c => (Unicode.upperOf c).toArray).flatten).toList := hc
  rw [Array.mem_toList_iff, Array.mem_flatten] at hc'
  obtain ⟨l, hl, hcl⟩ := hc'
  obtain ⟨i, hi, rfl⟩ := Array.mem_mapIdx.mp hl
  have hz := h.2.2 (z.cps[i]) (by rw [Array.mem_toList_iff]; exact Array.getElem_mem hi)
  exact upper_abc _ hz.1 hz.2 c (by simpa using hcl)
/-- v shows a small datum -/
def Sm (ex : Addr → Prop) (H : Hp) (n : Nat) (v : V) : Prop := ∃ d, Dv ex H v d ∧ cost d ≤ n ∧ okD d ∧ 4000 * d.depth ≤ n
theorem Sm.str {ex : Addr → Prop} {H : Hp} {n : Nat} {z : Str} (h : okS z) (hl : 10 * z.length + 2 ≤ n) : Sm ex H n (.str z) := ⟨_, .str z, by simp only [cost]; exact hl, by simp only [okD]; exact h, by simp only [PyData.depth]; omega⟩
theorem Sm.kp {ex : Addr → Prop} {H H' : Hp} {n : Nat} {v : V} (h : Sm ex H n v) (k : Kp ex H H') : Sm ex H' n v := let ⟨d, a, b⟩ := h; ⟨d, a.kp k, b⟩
theorem fresh_old {p : Addr} {H G : Hp} {n : Nat} {a : Addr} (k : KpP p H G) (hp : PotAt G p n) (ha : G a = none) : ¬ H a ≠ none := fun z => by
  cases e : H a with
  | none => exact z e
  | some o =>
    have := k a o e fun q => absurd q (hp.ne ha)
    rw [ha] at this
    cases this
theorem Same.upd2 {H : Hp} {p : Addr} {o o2 : HO} (h : H p = none) : Same H (L2.upd (L2.upd H p o) p o2) := fun a u e => by
  rw [upd_ne (ne_of_none e h), upd_ne (ne_of_none e h)]; exact e
theorem PotAt.old {H : Hp} {p : Addr} {n : Nat} (h : PotAt H p n) : H p ≠ none := by
  obtain ⟨a, b, c, e, _⟩ := h
  rw [e]; exact fun z => by cases z
theorem KpP.old {p : Addr} {n : Nat} {H G G' : Hp} (h : PotAt H p n) (k : KpP p G G') : Kp (fun a => H a ≠ none) G G' := k.weak fun b e => by rw [e]; exact h.old
abbrev Old (H : Hp) : Addr → Prop := fun a => H a ≠ none
def Sms (ex : Addr → Prop) (H : Hp) (n : Nat) (vs : List V) : Prop := ∃ ds, DvL ex H vs ds ∧ costL ds ≤ n ∧ okL ds ∧ 4000 * PyData.depthAll ds ≤ n
theorem okL_app : ∀ {xs ys : List PyData}, okL xs → okL ys → okL (xs ++ ys)
  | [], _, _, h => h
  | x :: r, ys, a, b => by
    have a' : okD x ∧ okL r := by simpa only [okL] using a
    have : okD x ∧ okL (r ++ ys) := ⟨a'.1, okL_app a'.2 b⟩
    simpa only [List.cons_append, okL] using this
theorem okL_mem : ∀ {xs : List PyData}, okL xs ↔ ∀ x ∈ xs, okD x
  | [] => by simp [okL]
  | x :: r => by
    have := okL_mem (xs := r)
    simp only [okL, List.mem_cons, forall_eq_or_imp, this]
section
variable {ex ey : Addr → Prop} {H H' : Hp} {n m : Nat}
theorem dAll_app : ∀ xs ys : List PyData, PyData.depthAll (xs ++ ys) = max (PyData.depthAll xs) (PyData.depthAll ys)
  | [], ys => by simp [PyData.depthAll]
  | x :: r, ys => by
    have := dAll_app r ys
    simp only [List.cons_append, PyData.depthAll]; omega
theorem dAll_mem : ∀ {xs : List PyData} {x : PyData}, x ∈ xs → x.depth ≤ PyData.depthAll xs
  | y :: r, x, h => by
    rcases List.mem_cons.mp h with rfl | h
    · simp only [PyData.depthAll]; omega
    · have := dAll_mem h
      simp only [PyData.depthAll]; omega
theorem Sms.nil : Sms ex H n [] := ⟨[], .nil, by simp [costL], by simp only [okL], by simp [PyData.depthAll]⟩
theorem Sms.cons {v : V} {vs : List V} (a : Sm ex H n v) (b : Sms ex H m vs) : Sms ex H (n + 2 + m) (v :: vs) := by
  obtain ⟨d, h1, h2, h3, h4⟩ := a
  obtain ⟨ds, g1, g2, g3, g4⟩ := b
  exact ⟨d :: ds, .cons h1 g1, by simp only [costL]; omega, by simp only [okL]; exact ⟨h3, g3⟩, by simp only [PyData.depthAll]; omega⟩
theorem Sms.app {v w : List V} (a : Sms ex H n v) (b : Sms ex H m w) : Sms ex H (n + m) (v ++ w) := by
  obtain ⟨ds, h1, h2, h3, h4⟩ := a
  obtain ⟨es, g1, g2, g3, g4⟩ := b
  exact ⟨ds ++ es, h1.app g1, by rw [costL_app]; omega, okL_app h3 g3, by rw [dAll_app]; omega⟩
theorem costL_take (k : Nat) (xs : List PyData) : costL (xs.take k) ≤ costL xs := by
  have := costL_app (xs.take k) (xs.drop k)
  rw [List.take_append_drop] at this
  omega
theorem costL_drop (k : Nat) (xs : List PyData) : costL (xs.drop k) ≤ costL xs := by
  have := costL_app (xs.take k) (xs.drop k)
  rw [List.take_append_drop] at this
  omega
theorem costL_rev : ∀ xs : List PyData, costL xs.reverse = costL xs
  | [] => rfl
  | x :: r => by
    rw [List.reverse_cons, costL_app, costL_rev r]
    simp only [costL]; omega
theorem dAll_rev : ∀ xs : List PyData, PyData.depthAll xs.reverse = PyData.depthAll xs
  | [] => rfl
  | x :: r => by
    rw [List.reverse_cons, dAll_app, dAll_rev r]
    simp only [PyData.depthAll]; omega
theorem Sms.take {v : List V} (k : Nat) (a : Sms ex H n v) : Sms ex H n (v.take k) := by
  obtain ⟨ds, h1, h2, h3, h4⟩ := a
  have := dAll_app (ds.take k) (ds.drop k)
  rw [List.take_append_drop] at this
  exact ⟨ds.take k, h1.take k, Nat.le_trans (costL_take k ds) h2, okL_mem.mpr fun x hx => okL_mem.mp h3 x (List.mem_of_mem_take hx), by omega⟩
theorem Sms.drop {v : List V} (k : Nat) (a : Sms ex H n v) : Sms ex H n (v.drop k) := by
  obtain ⟨ds, h1, h2, h3, h4⟩ := a
  have := dAll_app (ds.take k) (ds.drop k)
  rw [List.take_append_drop] at this
  exact ⟨ds.drop k, h1.drop k, Nat.le_trans (costL_drop k ds) h2, okL_mem.mpr fun x hx => okL_mem.mp h3 x (List.mem_of_mem_drop hx), by omega⟩
theorem Sms.rev {v : List V} (a : Sms ex H n v) : Sms ex H n v.reverse := by
  obtain ⟨ds, h1, h2, h3, h4⟩ := a
  exact ⟨ds.reverse, h1.rev, by rw [costL_rev]; exact h2, okL_mem.mpr fun x hx => okL_mem.mp h3 x (List.mem_reverse.mp hx), by rw [dAll_rev]; exact h4⟩
theorem Sms.tup {a : Addr} {v : List V} (h : Sms ex H n v) (t : TupF H a v) : Sm ex H (n + 4000) (.ref a) := by
  obtain ⟨ds, h1, h2, h3, h4⟩ := h
  exact ⟨_, Dv.tupM t h1, by simp only [cost]; omega, by simp only [okD]; exact h3, by simp only [PyData.depth]; omega⟩
theorem Sms.lst {a : Addr} {v : List V} (h : Sms ex H n v) (na : ¬ ex a) (t : H a = some (.lst v)) : Sm ex H (n + 4000) (.ref a) := by
  obtain ⟨ds, h1, h2, h3, h4⟩ := h
  exact ⟨_, Dv.lst na t h1, by simp only [cost]; omega, by simp only [okD]; exact h3, by simp only [PyData.depth]; omega⟩
theorem Sms.kp {v : List V} (h : Sms ex H n v) (k : Kp ex H H') : Sms ex H' n v := let ⟨d, a, b⟩ := h; ⟨d, a.kp k, b⟩
theorem Sms.le {v : List V} (h : Sms ex H n v) (k : n ≤ m) : Sms ex H m v := let ⟨d, a, b, c, e⟩ := h; ⟨d, a, Nat.le_trans b k, c, Nat.le_trans e k⟩
theorem Sm.le {v : V} (h : Sm ex H n v) (k : n ≤ m) : Sm ex H m v := let ⟨d, a, b, c, e⟩ := h; ⟨d, a, Nat.le_trans b k, c, Nat.le_trans e k⟩
theorem Sms.mem {vs : List V} {i : Nat} {v : V} (h : Sms ex H n vs) (hv : vs[i]? = some v) : Sm ex H n v := by
  obtain ⟨ds, h1, h2, h3, h4⟩ := h
  obtain ⟨e, he, de⟩ := h1.get hv
  have := cost_mem (List.mem_of_getElem? he)
  have := dAll_mem (List.mem_of_getElem? he)
  exact ⟨e, de, by omega, okL_mem.mp h3 e (List.mem_of_getElem? he), by omega⟩
theorem sms_strs {zs : List Str} (h : ∀ z ∈ zs, NameS z) : Sms ex H (84 * zs.length) (zs.map V.str) := by
  induction zs with
  | nil => exact .nil
  | cons z r ih =>
    have hz := h z List.mem_cons_self
    have := Sms.cons (ex := ex) (H := H) (Sm.str (n := 82) (okS_name hz) (by have := hz.2.1; omega)) (ih fun y hy => h y (List.mem_cons_of_mem _ hy))
    exact this.le (by rw [List.length_cons]; omega)
theorem sms_pairs {ps : List (Str × Str)} {vs : List V} (h : DvL ex H vs (ps.map pairD)) (hq : ∀ q ∈ ps, NameS q.1 ∧ NameS q.2) : Sms ex H (max (173 * ps.length) 4000) vs := by
  refine ⟨_, h, ?_, ?_, ?_⟩
  · clear h
    have : costL (ps.map pairD) ≤ 173 * ps.length := by
      induction ps with
      | nil => simp [costL]
      | cons q r ih =>
        have h1 := hq q List.mem_cons_self
        have l1 := h1.1.2.1
        have l2 := h1.2.2.1
        have := ih fun y hy => hq y (List.mem_cons_of_mem _ hy)
        simp only [List.map_cons, costL, pairD, cost, List.length_cons]; omega
    omega
  · refine okL_mem.mpr fun x hx => ?_
    obtain ⟨q, hq', rfl⟩ := List.mem_map.mp hx
    have h1 := hq q hq'
    simp only [pairD, okD, okL]
    exact ⟨okS_name h1.1, okS_name h1.2, trivial⟩
  · have : PyData.depthAll (ps.map pairD) ≤ 1 := by
      clear h hq
      induction ps with
      | nil => simp [PyData.depthAll]
      | cons q r ih => simp only [List.map_cons, PyData.depthAll, pairD, PyData.depth]; omega
    omega
end
abbrev All : Addr → Prop := fun _ => True
theorem Sms.any {ex : Addr → Prop} {H : Hp} {n : Nat} {vs : List V} (h : Sms All H n vs) : Sms ex H n vs := let ⟨d, a, b⟩ := h; ⟨d, a.mono Kp.refl fun _ _ => trivial, b⟩
theorem Sm.any {ex : Addr → Prop} {H : Hp} {n : Nat} {v : V} (h : Sm All H n v) : Sm ex H n v := let ⟨d, a, b⟩ := h; ⟨d, a.mono Kp.refl fun _ _ => trivial, b⟩
theorem Kp.all {ex : Addr → Prop} {H H' : Hp} (k : Kp ex H H') : Kp All H H' := k.weak fun _ _ => trivial
/-- a row of the three parts -/
def Row (H : Hp) (k : Int) (v : V) : Prop := ∃ a vs, v = .ref a ∧ TupF H a vs ∧ vs.length ≤ 12 ∧ Sms All H 4000 vs ∧
  (k = 0 → ∃ ps : List (Str × Str), DvL All H vs (ps.map pairD) ∧ ∀ q ∈ ps, NameS q.1 ∧ NameS q.2) ∧ (k ≠ 0 → ∃ zs : List Str, vs = zs.map V.str ∧ ∀ z ∈ zs, NameS z)
theorem Row.kp {H H' : Hp} {k : Int} {v : V} {ex : Addr → Prop} (h : Row H k v) (kk : Kp ex H H') : Row H' k v := by
  obtain ⟨a, vs, rfl, t, l, s, p1, p2⟩ := h
  exact ⟨a, vs, rfl, kk.tup t, l, s.kp kk.all, fun z => let ⟨ps, d, h⟩ := p1 z; ⟨ps, d.kp kk.all, h⟩, p2⟩
theorem row_pairs {H : Hp} {v : V} {ps : List (Str × Str)} (h : Dv All H v (.tuple (ps.map pairD))) (hl : ps.length ≤ 12) (hn : ∀ q ∈ ps, NameS q.1 ∧ NameS q.2) : Row H 0 v := by
  obtain ⟨a, vs, rfl, t, l⟩ := h.tupI
  have ll := l.len
  rw [List.length_map] at ll
  exact ⟨a, vs, rfl, t, by omega, (sms_pairs l hn).le (by omega), fun _ => ⟨ps, l, hn⟩, fun z => absurd rfl z⟩
theorem row_strs {H : Hp} {v : V} {zs : List Str} {k : Int} (hk : k ≠ 0) (h : Dv All H v (.tuple (zs.map .str))) (hl : zs.length ≤ 12) (hn : ∀ z ∈ zs, NameS z) : Row H k v := by
  obtain ⟨a, vs, rfl, t, l⟩ := h.tupI
  have e := l.strE
  subst e
  exact ⟨a, _, rfl, t, by rw [List.length_map]; exact hl, (sms_strs hn).le (by omega), fun z => absurd z hk, fun _ => ⟨zs, rfl, hn⟩⟩
theorem dupH {S : Hp → Prop} {T : Hp → Prop} {goal : Prop} (main : (∀ G, S G → T G) → goal) (body : ∀ G, S G → T G) : goal := main body
theorem takesF {X : Cx} : L2N.Takes X (fun _ _ _ _ => False) := fun _ _ ⟨_, _, _, _, _, _, _, _, _, _, _, _, _, _, _, _, w⟩ => w.elim
section
variable {X : Cx}
def rRepr2 : List V → Hp → VK → Prop := fun xs H Q => ∃ a d, xs = [.ref a] ∧ Dv (fun _ => False) H (.ref a) d ∧ okD d ∧ d.depth ≤ 60 ∧ cost d ≤ sizeLine ∧ Q (.str d.shown) H
theorem call_repr2 {om : Obj} (hK : X.K.lookup sysModules = some om) (hg : X.A.guards = some []) (hu : X.A.units + 64 < cLine) : CallR X (.builtin "repr") rRepr2 := by
  intro pins s σ H xs us Q I r h
  obtain ⟨a, d, rfl, dv, ok, hd, hc, q⟩ := h
  have hsm : H sysModules = none := (I.bs _ _ (I.ok.mod.kin _ _ hK)).2
  obtain ⟨u, rfl, rx⟩ := vals1 r
  obtain ⟨as, hr, hs⟩ := Dv.reads I hsm d _ _ dv rx
  cases rx
  refine repr_of_reads' hr (okD_showable d ok) (fun _ => hs) hg (by omega) (fun _ _ e => e) (fun h' u tk hk => ?_) (Nat.le_trans (shown_le d ok) hc)
  exact ⟨.str d.shown, H, I.kept hk, ⟨u, rfl⟩, q⟩
def tJoinK (K : PySem.W.Frag) (to te : TE) : TE := tM1 (fun x xs H Q => ∃ a p, ∃ ys : List Str, x = .str a ∧ xs = [.ref p] ∧ (SqL K H p (ys.map V.str) ∨ SqT K H p (ys.map V.str)) ∧ (ys.map (·.length)).sum + ys.length * a.length ≤ 16777216 ∧ Q (.str (Txt.join a ys)) H) to te
theorem pe_joinK {o e : Expr} {to te : TE} {apos pos : Pos} (ho : PE X o to) (he : PE X e te) (hs : starEach [e] X.env = [(false, eval e X.env)] := by rfl) (hbase : attributeBase o "join" X.env (eval o X.env) = eval o X.env := by rfl) (hline : (apos.endLine == pos.line) = true := by rfl) :
    PE X (.Call (.Attribute o "join" apos) [e] [] pos) (tJoinK X.K to te) := pe_join ho he hs hbase hline
/-- over a list or a tuple -/
def iSeq (K : PySem.W.Frag) (tl : TE) : TI := fun σ H R => tl σ H fun x H1 => ∃ a, x = .ref a ∧ (((∃ xs, SqL K H1 a xs) ∧ R (Itl K a) H1) ∨ ((∃ xs, SqT K H1 a xs) ∧ R (Itt K a) H1))
theorem pi_seq {tg l : Expr} {tl : TE} (hl : PE X l tl) : PI X tg l (iSeq X.K tl) := by
  refine ⟨fun pins s σ H R I h => thn (hl.run pins s σ H _ I h) fun v t ⟨x, H1, I1, r1, a, ex, q⟩ => ?_⟩
  subst ex
  cases r1
  have fp : ∀ b ∈ [t.heap.objs.size], FpOk X pins H1 b := fun b hb => by
    rw [List.mem_singleton.mp hb]
    exact I1.fpOk (Nat.le_refl _) (I1.hok.fresh (Nat.le_refl _))
  rcases q with ⟨⟨xs, hq⟩, q⟩ | ⟨⟨xs, hq⟩, q⟩
  · obtain ⟨its, rv, p, hz⟩ := I1.list hq
    exact wpAny_pyIter_list p.isList ⟨t.heap.objs.size, [t.heap.objs.size], _, _, H1, rfl, I1.kept (t' := t.toks) fun b o e => Heap.get?_push_of_some _ e, turn_list a _, ⟨_, Heap.get?_push_size _ rfl, rfl, rfl⟩, fp, q⟩
  · obtain ⟨its, rv, p, hz⟩ := I1.tuple hq
    exact wpAny_pyIter_tuple (show t.heap.IsTuple a its.toArray from p) ⟨t.heap.objs.size, [t.heap.objs.size], _, _, H1, rfl, I1.kept (t' := t.toks) fun b o e => Heap.get?_push_of_some _ e, turn_tuple a _, ⟨_, Heap.get?_push_size _ rfl, rfl, rfl⟩, fp, q⟩
end
theorem sqL_same {K : PySem.W.Frag} {H H' : Hp} {a : Addr} {xs : List V} (h : SqL K H a xs) (e : Same H H') : SqL K H' a xs := h.elim (fun h => .inl (h.elim (fun h => .inl (e _ _ h)) fun ⟨o, h⟩ => .inr ⟨o, e _ _ h⟩)) fun h => .inr h
theorem sqT_same {K : PySem.W.Frag} {H H' : Hp} {a : Addr} {xs : List V} (h : SqT K H a xs) (e : Same H H') : SqT K H' a xs := h.elim (fun h => .inl (h.elim (fun h => .inl (e _ _ h)) fun ⟨o, h⟩ => .inr ⟨o, e _ _ h⟩)) fun h => .inr h
def three (ps : List (Str × Str)) (ns us : List Str) : PyData := .list [.tuple (ps.map pairD), .tuple (ns.map .str), .tuple (us.map .str)]
theorem strs_cost {zs : List Str} (h : ∀ z ∈ zs, NameS z) : costL (zs.map .str) ≤ 84 * zs.length := by
  induction zs with
  | nil => simp [costL]
  | cons z r ih =>
    have := (h z List.mem_cons_self).2.1
    have := ih fun y hy => h y (List.mem_cons_of_mem _ hy)
    simp only [List.map_cons, costL, cost, List.length_cons]; omega
theorem strs_ok {zs : List Str} (h : ∀ z ∈ zs, NameS z) : okL (zs.map .str) := okL_mem.mpr fun x hx => by
  obtain ⟨z, hz, rfl⟩ := List.mem_map.mp hx
  simp only [okD]; exact okS_name (h z hz)
theorem strs_dep (zs : List Str) : PyData.depthAll (zs.map .str) = 0 := by
  induction zs with
  | nil => rfl
  | cons z r ih => simp only [List.map_cons, PyData.depthAll, PyData.depth, ih]; rfl
theorem strs_lay {zs : List Str} (h : ∀ z ∈ zs, NameS z) : PyData.canLayAll0 (zs.map .str) = true := by
  induction zs with
  | nil => simp [PyData.canLayAll0]
  | cons z r ih =>
    have hz : PyData.strOk z = true := by
      unfold PyData.strOk
      rw [Array.all_eq_true]
      intro i hi
      have := (h z List.mem_cons_self).2.2 z.cps[i] (by rw [Array.mem_toList_iff]; exact Array.getElem_mem hi)
      exact decide_eq_true (by omega)
    simp only [List.map_cons, PyData.canLayAll0, PyData.canLay0, ih fun y hy => h y (List.mem_cons_of_mem _ hy), hz, Bool.and_self]
theorem FrameAt.nP {C x : Addr} {H : Hp} {va vp vv : V} {ps : List (Str × Str)} {ns us : List Str} (h : FrameAt C H x va vp vv ps ns us) : (∀ q ∈ ps, NameS q.1 ∧ NameS q.2) ∧ (∀ z ∈ ns, NameS z) ∧ ∀ z ∈ us, NameS z :=
  ⟨fun q hq => ⟨h.ok q.1 (List.mem_append.mpr (.inl (List.mem_map.mpr ⟨q, hq, rfl⟩))), h.ok q.2 (List.mem_append.mpr (.inr (List.mem_append.mpr (.inl (List.mem_map.mpr ⟨q, hq, rfl⟩)))))⟩,
   fun z hz => h.ok z (List.mem_append.mpr (.inr (List.mem_append.mpr (.inr (List.mem_append.mpr (.inl hz)))))), fun z hz => h.ok z (List.mem_append.mpr (.inr (List.mem_append.mpr (.inr (List.mem_append.mpr (.inr hz))))))⟩
theorem three_ok {ps : List (Str × Str)} {ns us : List Str} (l1 : ps.length ≤ 12) (l2 : ns.length ≤ 6) (l3 : us.length ≤ 6) (h : (∀ q ∈ ps, NameS q.1 ∧ NameS q.2) ∧ (∀ z ∈ ns, NameS z) ∧ ∀ z ∈ us, NameS z) :
    okD (three ps ns us) ∧ (three ps ns us).depth ≤ 60 ∧ cost (three ps ns us) ≤ sizeLine := by
  obtain ⟨h1, h2, h3⟩ := h
  have c2 := strs_cost h2
  have c3 := strs_cost h3
  have c1 : costL (ps.map pairD) ≤ 173 * ps.length := by
    clear l1 l2 l3 c2 c3
    induction ps with
    | nil => simp [costL]
    | cons q r ih =>
      have a := h1 q List.mem_cons_self
      have := a.1.2.1
      have := a.2.2.1
      have := ih fun y hy => h1 y (List.mem_cons_of_mem _ hy)
      simp only [List.map_cons, costL, pairD, cost, List.length_cons]; omega
  have d1 : PyData.depthAll (ps.map pairD) ≤ 1 := by
    clear l1 l2 l3 c1 c2 c3 h1
    induction ps with
    | nil => simp [PyData.depthAll]
    | cons q r ih => simp only [List.map_cons, PyData.depthAll, pairD, PyData.depth]; omega
  refine ⟨?_, ?_, ?_⟩
  · unfold three
    simp only [okD, okL]
    refine ⟨okL_mem.mpr fun x hx => ?_, strs_ok h2, strs_ok h3, trivial⟩
    obtain ⟨q, hq, rfl⟩ := List.mem_map.mp hx
    simp only [pairD, okD, okL]
    exact ⟨okS_name (h1 q hq).1, okS_name (h1 q hq).2, trivial⟩
  · unfold three
    simp only [PyData.depth, PyData.depthAll, strs_dep]; omega
  · unfold three
    rw [sizeLine_eq]
    simp only [cost, costL]; omega
theorem join3 (s a b c : Str) : Txt.join s [a, b, c] = a ++ s ++ b ++ s ++ c := by
  have e : TL.tl (Txt.join s [a, b, c]) = TL.tl (a ++ s ++ b ++ s ++ c) := by
    rw [TL.join_eq, TL.tl_join]
    show (a.cps.toList ++ (s.cps.toList ++ (b.cps.toList ++ (s.cps.toList ++ c.cps.toList)))) = (a.cps ++ s.cps ++ b.cps ++ s.cps ++ c.cps).toList
    simp only [Array.toList_append, List.append_assoc]
  exact Str.ext' (Array.toList_inj.mp e)
abbrev Pr (P : Program) (w : World) (K : PySem.W.Frag) (mg : Str → Option Value) (base : Heap) (C : Addr) (f a : Str) : Prop := ∃ p g fd, PropOf K C f p g ∧ FnOk P w K mg base CX0 1 g fd ["self"] (getSp C a) ∧ Binds K fd ["self"] []
abbrev CaG (P : Program) (w : World) (K : PySem.W.Frag) (mg : Str → Option Value) (base : Heap) (k : Nat) (x : Str) (ps : List Str) (sp : Sp) : Prop := ∃ f fd, FnOkG P w K mg base CX0 k f fd ps sp ∧ mg x = some (.ref f) ∧ PySem.W.keepIn K (.ref f) = true ∧ Binds K fd ps []
section
variable {P : Program} {w : World} {K : PySem.W.Frag} {mg : Str → Option Value} {base : Heap}
theorem calG_of {x : Str} {st : Stmt} {N ps : List Str} {k : Nat} {sp : Sp} (h : Has K mg x st) (S : FnScope N ps (defScope st))
    (bd : ∀ (kV doc pm : Value) (an : Option Addr) (cdv ct : Value) (us : List Value), us.length = ps.length → bindArgs (PySem.W.fnOf x x (defArgs st) (defBody st) (defScope st) .none kV doc pm an cdv ct) ⟨us, []⟩ = pure (ps.zip us))
    (len : ∀ vs H Q E, sp vs H Q E → vs.length = ps.length)
    (body : ∀ (f : Addr) (cdv : Value) (A : Around) (outer : List Env) (s : Shared) (H : Hp) (vs : List V) (Q : VK) (E : XK), (A.deeper (envOfC x (defScope st) s.heap.objs.size f cdv)).guards = some [] → Room k (A.deeper (envOfC x (defScope st) s.heap.objs.size f cdv)) → sp vs H Q E →
      ∃ t, PSs (cxOf CX0 P w K mg base N x (defScope st) f cdv A outer s H E).nox (defBody st) t ∧ t { nx := fun _ H' => Q .non H', rt := Q } (start N vs) H) : CaG P w K mg base (k + 1) x ps sp := by
  obtain ⟨f, fd, F, g⟩ := h
  exact ⟨f, fd, okG F S len (fun cdv A outer s H vs Q E hgd hr h => let ⟨t, ht, q⟩ := body f cdv A outer s H vs Q E hgd hr h; ⟨t, PSs.nox ht, q⟩), g, F.kp, F.bindsN bd⟩
end
theorem ps_map (ps : List (Str × Str)) : psOf (.tuple (ps.map pairD)) = ps := by
  show (ps.map pairD).filterMap pairOf = ps
  induction ps with
  | nil => rfl
  | cons q r ih => rw [List.map_cons, List.filterMap_cons]; show q :: _ = _; rw [ih]
theorem ns_map (ns : List Str) : nsOf (.tuple (ns.map .str)) = ns := by
  show (ns.map PyData.str).filterMap strOf = ns
  induction ns with
  | nil => rfl
  | cons q r ih => rw [List.map_cons, List.filterMap_cons]; show q :: _ = _; rw [ih]
theorem frameD_good {ps : List (Str × Str)} {ns us : List Str} (h : Good ps ns us) : frameD (.tuple (ps.map pairD)) (.tuple (ns.map .str)) (.tuple (us.map .str)) = true := by
  obtain ⟨l1, l2, l3, ok, nd⟩ := h
  have strsN : ∀ zs : List Str, (∀ z ∈ zs, NameS z) → (zs.map PyData.str).all nameD = true := fun zs hz => by
    rw [List.all_eq_true]
    intro d hd
    obtain ⟨z, h1, rfl⟩ := List.mem_map.mp hd
    exact decide_eq_true (hz z h1)
  have n1 : namesD 6 (.tuple (ns.map .str)) = true := by
    unfold namesD; dsimp only
    rw [strsN ns fun z hz => ok z (List.mem_append.mpr (.inr (List.mem_append.mpr (.inr (List.mem_append.mpr (.inl hz)))))), decide_eq_true (by rw [List.length_map]; exact l2)]; rfl
  have n2 : namesD 6 (.tuple (us.map .str)) = true := by
    unfold namesD; dsimp only
    rw [strsN us fun z hz => ok z (List.mem_append.mpr (.inr (List.mem_append.mpr (.inr (List.mem_append.mpr (.inr hz)))))), decide_eq_true (by rw [List.length_map]; exact l3)]; rfl
  have n3 : arrsD (.tuple (ps.map pairD)) = true := by
    have : (ps.map pairD).all pairOkD = true := by
      rw [List.all_eq_true]
      intro d hd
      obtain ⟨q, h1, rfl⟩ := List.mem_map.mp hd
      show (nameD (.str q.1) && nameD (.str q.2)) = true
      rw [show nameD (.str q.1) = true from decide_eq_true (ok q.1 (List.mem_append.mpr (.inl (List.mem_map.mpr ⟨q, h1, rfl⟩)))), show nameD (.str q.2) = true from decide_eq_true (ok q.2 (List.mem_append.mpr (.inr (List.mem_append.mpr (.inl (List.mem_map.mpr ⟨q, h1, rfl⟩))))))]; rfl
    unfold arrsD; dsimp only
    rw [this, decide_eq_true (by rw [List.length_map]; exact l1)]; rfl
  unfold frameD
  rw [n1, n2, n3, ps_map, ns_map, ns_map, decide_eq_true nd]; rfl
theorem pairs_cost {ps : List (Str × Str)} (h : ∀ q ∈ ps, NameS q.1 ∧ NameS q.2) : costL (ps.map pairD) ≤ 173 * ps.length := by
  induction ps with
  | nil => simp [costL]
  | cons q r ih =>
    have a := h q List.mem_cons_self
    have := a.1.2.1
    have := a.2.2.1
    have := ih fun y hy => h y (List.mem_cons_of_mem _ hy)
    simp only [List.map_cons, costL, pairD, cost, List.length_cons]; omega
end Kx
namespace Kx
open PySem PySem.Spec PyProof.Rows L2
/-! ### equal frames -/
def trip (ps : List (Str × Str)) (ns us : List Str) : PyData := .tuple [.tuple (ps.map pairD), .tuple (ns.map .str), .tuple (us.map .str)]
abbrev same3 (ps : List (Str × Str)) (ns us : List Str) (qs : List (Str × Str)) (ms ts : List Str) : Bool := decide (ps = qs ∧ ns = ms ∧ us = ts)
theorem eqv_strs : ∀ xs ys : List Str, PyData.eqvAll (xs.map .str) (ys.map .str) = decide (xs = ys)
  | [], [] => rfl
  | [], _ :: _ => rfl
  | _ :: _, [] => rfl
  | x :: xs, y :: ys => by
    show (x == y && PyData.eqvAll (xs.map .str) (ys.map .str)) = _
    rw [eqv_strs xs ys]
    by_cases h : x = y
    · subst h; simp
    · simp [h]
theorem eqv_pairs : ∀ xs ys : List (Str × Str), PyData.eqvAll (xs.map pairD) (ys.map pairD) = decide (xs = ys)
  | [], [] => rfl
  | [], _ :: _ => rfl
  | _ :: _, [] => rfl
  | (a, b) :: xs, (c, d) :: ys => by
    show ((a == c && (b == d && true)) && PyData.eqvAll (xs.map pairD) (ys.map pairD)) = _
    rw [eqv_pairs xs ys]
    by_cases h : a = c
    · by_cases h2 : b = d
      · subst h h2; simp
      · simp [h2]
    · simp [h]
theorem eqv_trip (ps : List (Str × Str)) (ns us : List Str) (qs : List (Str × Str)) (ms ts : List Str) : PyData.eqv (trip ps ns us) (trip qs ms ts) = same3 ps ns us qs ms ts := by
  show (PyData.eqvAll (ps.map pairD) (qs.map pairD) && (PyData.eqvAll (ns.map .str) (ms.map .str) && (PyData.eqvAll (us.map .str) (ts.map .str) && true))) = _
  rw [eqv_pairs, eqv_strs, eqv_strs, Bool.and_true]
  by_cases h1 : ps = qs <;> by_cases h2 : ns = ms <;> by_cases h3 : us = ts <;> simp [h1, h2, h3]
theorem eqv_three (ps : List (Str × Str)) (ns us : List Str) (qs : List (Str × Str)) (ms ts : List Str) : PyData.eqv (three ps ns us) (three qs ms ts) = same3 ps ns us qs ms ts := eqv_trip ps ns us qs ms ts
theorem pairs_lay {ps : List (Str × Str)} (h : ∀ q ∈ ps, NameS q.1 ∧ NameS q.2) : PyData.canLayAll0 (ps.map pairD) = true := by
  induction ps with
  | nil => rfl
  | cons q r ih =>
    have a := h q List.mem_cons_self
    have e := strs_lay (zs := [q.1, q.2]) (fun z hz => by
      rcases List.mem_cons.mp hz with rfl | hz
      · exact a.1
      · rw [List.mem_singleton.mp hz]; exact a.2)
    show (PyData.canLayAll0 ([q.1, q.2].map .str) && PyData.canLayAll0 (r.map pairD)) = true
    rw [e, ih fun y hy => h y (List.mem_cons_of_mem _ hy)]; rfl
theorem pairs_dep (ps : List (Str × Str)) : PyData.depthAll (ps.map pairD) ≤ 1 := by
  induction ps with
  | nil => simp [PyData.depthAll]
  | cons q r ih => simp only [List.map_cons, PyData.depthAll, pairD, PyData.depth]; omega
abbrev Names (ps : List (Str × Str)) (ns us : List Str) : Prop := (∀ q ∈ ps, NameS q.1 ∧ NameS q.2) ∧ (∀ z ∈ ns, NameS z) ∧ ∀ z ∈ us, NameS z
theorem shaped_trip {ps : List (Str × Str)} {ns us : List Str} (h : Names ps ns us) : SeqAt.shaped (trip ps ns us) = true := by
  obtain ⟨h1, h2, h3⟩ := h
  have hd := pairs_dep ps
  show (PyData.canLay0 (trip ps ns us) && decide ((trip ps ns us).depth ≤ 64)) = true
  rw [Bool.and_eq_true]
  refine ⟨?_, decide_eq_true ?_⟩
  · show (PyData.canLayAll0 (ps.map pairD) && (PyData.canLayAll0 (ns.map .str) && (PyData.canLayAll0 (us.map .str) && true))) = true
    rw [pairs_lay h1, strs_lay h2, strs_lay h3]; rfl
  · unfold trip
    simp only [PyData.depth, PyData.depthAll, strs_dep]; omega
theorem shaped_three {ps : List (Str × Str)} {ns us : List Str} (h : Names ps ns us) : SeqAt.shaped (three ps ns us) = true := by
  obtain ⟨h1, h2, h3⟩ := h
  have hd := pairs_dep ps
  show (PyData.canLay0 (three ps ns us) && decide ((three ps ns us).depth ≤ 64)) = true
  rw [Bool.and_eq_true]
  refine ⟨?_, decide_eq_true ?_⟩
  · show (PyData.canLayAll0 (ps.map pairD) && (PyData.canLayAll0 (ns.map .str) && (PyData.canLayAll0 (us.map .str) && true))) = true
    rw [pairs_lay h1, strs_lay h2, strs_lay h3]; rfl
  · unfold three
    simp only [PyData.depth, PyData.depthAll, strs_dep]; omega
structure Fi (K : PySem.W.Frag) (C : Addr) : Prop where
  ha : PySem.W.findIn K (.ref C) "__class__" = some (some (.builtin "object.__class__"))
  hn : PySem.W.specialIn K (.builtin "object.__class__") "__get__" = some (some (.builtin "getset_descriptor.__get__"))
  ht : PySem.W.takesIn K (.builtin "object.__class__") = some true
  hm : PySem.W.mroIn K C (.type "object") = some true
  k2 : PySem.W.kitOne K (.type "list") (.ref C) = some false
  nf : PySem.W.notFirst K C (.type "list") = true
  ne : PySem.W.findIn K (.ref C) "__ne__" = some (some (.builtin "object.__ne__"))
theorem Fi.k1 {K : PySem.W.Frag} {C : Addr} : PySem.W.kitOne K (.ref C) (.ref C) = some true := by
  unfold PySem.W.kitOne
  rw [if_pos (by simp)]
section
variable {P : Program} {w : World} {K : PySem.W.Frag} {mg : Str → Option Value} {base : Heap}
abbrev N_Frame_eq : List Str := ["self", "other"]
abbrev P_Frame_eq : List Str := ["self", "other"]
theorem sc_Frame_eq : FnScope N_Frame_eq P_Frame_eq (defScope s_Frame_eq) := ⟨rfl, rfl, rfl, by decide +kernel, rfl, by decide +kernel, by decide +kernel⟩
def spEqF (C : Addr) : Sp := fun vs H Q _ => ∃ (x y : Addr) (va vp vv : V) (ps : List (Str × Str)) (ns us : List Str), vs = [.ref x, .ref y] ∧ FrameAt C H x va vp vv ps ns us ∧
  ((∃ (wa wp wv : V) (qs : List (Str × Str)) (ms ts : List Str), FrameAt C H y wa wp wv qs ms ts ∧ ∀ H', Same H H' → Q (.bl (same3 ps ns us qs ms ts)) H') ∨ ∃ ys, H y = some (.lst ys) ∧ Q (.bl false) H)
theorem ok_eq {om : Obj} (hK : K.lookup sysModules = some om) (T : Bt mg) {C : Addr} (X : Fx K mg C) (I : Fi K C) (h : HasM K C "__eq__" "Frame.__eq__" s_Frame_eq) : Me P w K mg base C 1 "__eq__" P_Frame_eq (spEqF C) := by
  refine met_of h sc_Frame_eq (fun _ _ _ _ _ _ us hl => match us, hl with | [_, _], _ => rfl) (fun vs H Q E h => ?_) (fun f cdv A outer s H vs Q E hr h => ?_)
  · obtain ⟨x, y, va, vp, vv, ps, ns, us, rfl, _⟩ := h
    rfl
  · obtain ⟨x, y, va, vp, vv, ps, ns, us, rfl, fx, hy⟩ := h
    refine ⟨_, (pss_cons (ps_if (pt_not (pt_val (pe_callB call_isi (by rfl) T.isinstance (by decide +kernel) (pa_cons (pv 1) (pa_cons (pe_glob (v := .ref C) rfl X.mgC rfl) pa_nil))))) (pss_one (ps_ret pe_bl)) pss_nil)
      (pss_one (ps_ret (pe_cmpR (op_eqDv hK hr.units) (pe_tupF (pa_cons (pe_fld (pv 0) rfl) (pa_cons (pe_fld (pv 0) rfl) (pa_cons (pe_fld (pv 0) rfl) pa_nil)))) (pe_tupF (pa_cons (pe_fld (pv 1) rfl) (pa_cons (pe_fld (pv 1) rfl) (pa_cons (pe_fld (pv 1) rfl) pa_nil)))) (nomark _))))), ?_⟩
    rcases hy with ⟨wa, wp, wv, qs, ms, ts, fy, q⟩ | ⟨ys, hy, q⟩
    · obtain ⟨dx, LB, LT, KD, hx, _⟩ := id fx.ob
      obtain ⟨dy, LB2, LT2, KD2, hy, _⟩ := id fy.ob
      refine ⟨_, rfl, _, _, _, _, _, rfl, .own C, .base (.ins hy X.cl I.ha I.hn I.ht I.hm), Fi.k1, _, rfl, iteF ?_⟩
      refine ⟨_, rfl, x, C, dx, _, _, rfl, hx, X.cl, X.n1, rfl, _, rfl, x, C, dx, _, _, rfl, hx, X.cl, X.n2, rfl, _, rfl, x, C, dx, _, _, rfl, hx, X.cl, X.n3, rfl, by show 3 ≤ sizeLine; decide, fun t1 H1 s1 h1 => ?_⟩
      have hy1 := s1 _ _ hy
      refine ⟨_, rfl, y, C, dy, _, _, rfl, hy1, X.cl, X.n1, rfl, _, rfl, y, C, dy, _, _, rfl, hy1, X.cl, X.n2, rfl, _, rfl, y, C, dy, _, _, rfl, hy1, X.cl, X.n3, rfl, by show 3 ≤ sizeLine; decide, fun t2 H2 s2 h2 => ?_⟩
      have kx := Kp.same (ex := fun _ => True) (s1.trans s2)
      refine ⟨fun _ => True, fun _ => True, trip ps ns us, trip qs ms ts, Dv.tupM ((Kp.same (ex := fun _ => True) s2).tup h1) (.cons (fx.da.kp kx) (.cons (fx.dp.kp kx) (.cons (fx.dv.kp kx) .nil))),
        Dv.tupM h2 (.cons (fy.da.kp kx) (.cons (fy.dp.kp kx) (.cons (fy.dv.kp kx) .nil))), shaped_trip fx.nP, shaped_trip fy.nP, ?_⟩
      rw [eqv_trip]
      exact q H2 (s1.trans s2)
    · refine ⟨_, rfl, _, _, _, _, _, rfl, .own C, .base (.lst hy), I.k2, _, rfl, iteT ?_⟩
      exact q
end
end Kx
namespace Kx
open PySem PySem.Spec PyProof.Rows L2
abbrev letB (ps : List (Str × Str)) (ns us : List Str) : Bool := frameD (.tuple (ps.map pairD)) (.tuple (ns.map .str)) (.tuple (us.map .str))
/-- the tuples of three parts -/
structure Prt (H : Hp) (wa wp wv : V) (qs : List (Str × Str)) (ms ts : List Str) : Prop where
  a : Dv All H wa (.tuple (qs.map pairD))
  p : Dv All H wp (.tuple (ms.map .str))
  v : Dv All H wv (.tuple (ts.map .str))
  l1 : qs.length ≤ 1000
  l2 : ms.length ≤ 1000
  l3 : ts.length ≤ 1000
  nm : Names qs ms ts
theorem Prt.kp {ex : Addr → Prop} {H H' : Hp} {wa wp wv : V} {qs : List (Str × Str)} {ms ts : List Str} (h : Prt H wa wp wv qs ms ts) (k : Kp ex H H') : Prt H' wa wp wv qs ms ts := ⟨h.a.kp k.all, h.p.kp k.all, h.v.kp k.all, h.l1, h.l2, h.l3, h.nm⟩
theorem FrameAt.prt {C x : Addr} {H : Hp} {va vp vv : V} {ps : List (Str × Str)} {ns us : List Str} (h : FrameAt C H x va vp vv ps ns us) : Prt H va vp vv ps ns us := ⟨h.da, h.dp, h.dv, by have := h.l1; omega, by have := h.l2; omega, by have := h.l3; omega, h.nP⟩
/-- a frame of three right parts is made -/
theorem make_spec {C I : Addr} {H : Hp} {wa wp wv : V} {qs : List (Str × Str)} {ms ts : List Str} {Q : VK} {E : XK} (h : Prt H wa wp wv qs ms ts)
    (kg : letB qs ms ts = true → ∀ y H', FrameAt C H' y wa wp wv qs ms ts → Same H H' → Q (.ref y) H') (kb : letB qs ms ts = false → ∀ H', Same H H' → E (.ref I) none H') :
    ∀ x dx, H x = none → H dx = none → dx ≠ x → spInit C I [.ref x, wa, wp, wv] (upd (upd H dx (.own x)) x (.ins C dx [])) (fun v H2 => v = .non ∧ Q (.ref x) H2) E := by
  intro x dx hx hdx hne
  have s1 : Same H (upd (upd H dx (.own x)) x (.ins C dx [])) := (Same.upd hdx).trans (Same.upd (by rw [upd_ne (Ne.symm hne)]; exact hx))
  have sx : ∀ {H'}, KpX x (upd (upd H dx (.own x)) x (.ins C dx [])) H' → Same H H' := fun k b o e => k b o (s1 b o e) fun z => absurd z (ne_of_none e hx)
  have kk : Kp All H (upd (upd H dx (.own x)) x (.ins C dx [])) := Kp.same s1
  have c1 := pairs_cost (ps := qs) h.nm.1
  have c2 := strs_cost h.nm.2.1
  have c3 := strs_cost h.nm.2.2
  have l1 := h.l1
  have l2 := h.l2
  have l3 := h.l3
  refine ⟨x, dx, wa, wp, wv, _, _, _, All, rfl, upd_same, h.a.kp kk, h.p.kp kk, h.v.kp kk, by simp only [cost]; omega, by simp only [cost]; omega, by simp only [cost]; omega, fun hf H' fa k => ⟨rfl, ?_⟩, fun hf H' k => kb hf H' (sx k)⟩
  rw [ps_map, ns_map, ns_map] at fa
  exact kg hf x H' fa (sx k)
section
variable {P : Program} {w : World} {K : PySem.W.Frag} {mg : Str → Option Value} {base : Heap}
abbrev N_Frame_with_names : List Str := ["self", "arrays", "positions", "values"]
abbrev P_Frame_with_names : List Str := ["self", "arrays", "positions", "values"]
theorem sc_Frame_with_names : FnScope N_Frame_with_names P_Frame_with_names (defScope s_Frame_with_names) := ⟨rfl, rfl, rfl, by decide +kernel, rfl, by decide +kernel, by decide +kernel⟩
def spWith (C I : Addr) : Sp := fun vs H Q E => ∃ (x : Addr) (va vp vv wa wp wv : V) (ps : List (Str × Str)) (ns us : List Str) (qs : List (Str × Str)) (ms ts : List Str), vs = [.ref x, wa, wp, wv] ∧ FrameAt C H x va vp vv ps ns us ∧ Prt H wa wp wv qs ms ts ∧ qs.length ≤ 500 ∧ ms.length ≤ 500 ∧ ts.length ≤ 500 ∧
  (letB (ps ++ qs) (ns ++ ms) (us ++ ts) = true → ∀ y ya yp yv H', FrameAt C H' y ya yp yv (ps ++ qs) (ns ++ ms) (us ++ ts) → Same H H' → Q (.ref y) H') ∧
  (letB (ps ++ qs) (ns ++ ms) (us ++ ts) = false → ∀ H', Same H H' → E (.ref I) none H')
theorem ok_with (T : Bt mg) {C I f f0 : Addr} {fd fd0 : FuncData} {kws : List (Str × V)} (F : FunD K "with_names" "Frame.with_names" (defArgs s_Frame_with_names) (defBody s_Frame_with_names) (defScope s_Frame_with_names) [] kws f fd) (X : Fx K mg C) (M : Mk K C f0)
    (F0 : FnOk P w K mg base (L2N.CX P w) 5 f0 fd0 P_Frame_init (spInit C I)) (b0 : Binds K fd0 P_Frame_init []) : FnOk P w K mg base (L2N.CX P w) 7 f fd P_Frame_with_names (spWith C I) := by
  refine F.ok sc_Frame_with_names (fun vs H Q E h => ?_) (fun cdv A outer s H vs Q E hr h => ?_)
  · obtain ⟨x, va, vp, vv, wa, wp, wv, ps, ns, us, qs, ms, ts, rfl, _⟩ := h
    rfl
  · obtain ⟨x, va, vp, vv, wa, wp, wv, ps, ns, us, qs, ms, ts, rfl, fx, pt, q4, q5, q6, kg, kb⟩ := h
    refine ⟨_, (pss_cons (ps_if (PW.pt (pw_or (pt_not (pt_val (pe_callB call_isi (by rfl) T.isinstance (by decide +kernel) (pa_cons (pv 1) (pa_cons (pe_bltn (v := .ty "tuple") (by rfl) T.tuple (by decide +kernel) rfl) pa_nil))))) (pw_or (pt_not (pt_val (pe_callB call_isi (by rfl) T.isinstance (by decide +kernel) (pa_cons (pv 2) (pa_cons (pe_bltn (v := .ty "tuple") (by rfl) T.tuple (by decide +kernel) rfl) pa_nil))))) (pw_or1 (pt_not (pt_val (pe_callB call_isi (by rfl) T.isinstance (by decide +kernel) (pa_cons (pv 3) (pa_cons (pe_bltn (v := .ty "tuple") (by rfl) T.tuple (by decide +kernel) rfl) pa_nil))))))))) (pss_one ps_never) pss_nil)
      (pss_one (ps_ret (pe_make M F0 (hr.mono (by decide)) rfl X.mgC b0 .nil (L2N.passes_call (L2N.takes_of rfl rfl rfl rfl) (fun cls d σ H h => h)) (pa_cons (pe_op op_catF (pe_fld (pv 0) rfl) (pv 1)) (pa_cons (pe_op op_catF (pe_fld (pv 0) rfl) (pv 2)) (pa_cons (pe_op op_catF (pe_fld (pv 0) rfl) (pv 3)) pa_nil))))))), ?_⟩
    obtain ⟨dx, LB, LT, KD, hx, _⟩ := id fx.ob
    refine ⟨_, rfl, _, _, _, _, _, rfl, .ty _, pt.a.ty, kitT _, _, rfl, iteF ⟨_, rfl, _, _, _, _, _, rfl, .ty _, pt.p.ty, kitT _, _, rfl, iteF ⟨_, rfl, _, _, _, _, _, rfl, .ty _, pt.v.ty, kitT _, _, rfl, iteF ?_⟩⟩⟩
    obtain ⟨aA, xA, rfl, tA, dA⟩ := fx.da.tupI
    obtain ⟨aP, xP, rfl, tP, dP⟩ := fx.dp.tupI
    obtain ⟨aV, xV, rfl, tV, dV⟩ := fx.dv.tupI
    obtain ⟨bA, yA, rfl, uA, eA⟩ := pt.a.tupI
    obtain ⟨bP, yP, rfl, uP, eP⟩ := pt.p.tupI
    obtain ⟨bV, yV, rfl, uV, eV⟩ := pt.v.tupI
    have n1 := dA.len
    have n2 := dP.len
    have n3 := dV.len
    have n4 := eA.len
    have n5 := eP.len
    have n6 := eV.len
    rw [List.length_map] at n1 n2 n3 n4 n5 n6
    have q1 := fx.l1
    have q2 := fx.l2
    have q3 := fx.l3
    have kk : ∀ {G G' : Hp}, Same G G' → Kp All G G' := fun m => Kp.same m
    refine ⟨_, rfl, x, C, dx, _, _, rfl, hx, X.cl, X.n1, rfl, _, rfl, aA, bA, xA, yA, rfl, rfl, tA, uA, by rw [sizeLine_eq]; omega, fun t1 H1 s1 h1 => ?_⟩
    refine ⟨_, rfl, x, C, dx, _, _, rfl, s1 _ _ hx, X.cl, X.n2, rfl, _, rfl, aP, bP, xP, yP, rfl, rfl, (kk s1).tup tP, (kk s1).tup uP, by rw [sizeLine_eq]; omega, fun t2 H2 s2 h2 => ?_⟩
    have s12 := s1.trans s2
    refine ⟨_, rfl, x, C, dx, _, _, rfl, s12 _ _ hx, X.cl, X.n3, rfl, _, rfl, aV, bV, xV, yV, rfl, rfl, (kk s12).tup tV, (kk s12).tup uV, by rw [sizeLine_eq]; omega, fun t3 H3 s3 h3 => ?_⟩
    have s13 := s12.trans s3
    have s23 := s2.trans s3
    refine make_spec (qs := ps ++ qs) (ms := ns ++ ms) (ts := us ++ ts) ⟨?_, ?_, ?_, by rw [List.length_append]; omega, by rw [List.length_append]; omega, by rw [List.length_append]; omega, ?_⟩ (fun hf y H' fa sm => kg hf y _ _ _ H' fa (s13.trans sm)) (fun hf H' sm => kb hf H' (s13.trans sm))
    · rw [List.map_append]
      exact Dv.tupM ((kk s23).tup h1) ((dA.kp (kk s13)).app (eA.kp (kk s13)))
    · rw [List.map_append]
      exact Dv.tupM ((kk s3).tup h2) ((dP.kp (kk s13)).app (eP.kp (kk s13)))
    · rw [List.map_append]
      exact Dv.tupM h3 ((dV.kp (kk s13)).app (eV.kp (kk s13)))
    · obtain ⟨a1, a2, a3⟩ := fx.nP
      obtain ⟨b1, b2, b3⟩ := pt.nm
      exact ⟨fun q hq => (List.mem_append.mp hq).elim (a1 q) (b1 q), fun z hz => (List.mem_append.mp hz).elim (a2 z) (b2 z), fun z hz => (List.mem_append.mp hz).elim (a3 z) (b3 z)⟩
end
end Kx
namespace Kx
open PySem PySem.Spec PyProof.Rows L2
/-! ### a dict comprehension that changes nothing else -/
theorem dc_o {J : It} {n : Nat} {G : Hp → Prop} {Y : Nat → Hp → V → Hp → Prop} (w : Walk J n G Y) {g : TG} {tt : TT} {tk tv : TE} {vs : List Nat} {σ : L2.St} {H1 : Hp} {D : Addr} {Qd : Hp → Prop} (zs : List (Str × V)) (hz : zs.length = n) (hn : n < sizeLine)
    (hD : H1 D = none) (hG : ∀ H, Same H1 H → G H)
    (hs : ∀ i x H H' z (Nx : Hp → Prop), zs[i]? = some z → Same H1 H → Y i H x H' → (∀ H5, Same H H5 → ∃ kvs, H5 D = some (.dK kvs) ∧ kvs.length < sizeLine ∧ Nx (upd H5 D (.dK (putK kvs (.inr z.1) z.2)))) →
      g x (wipe σ vs) H' fun σ2 H2 => wipe σ2 vs = wipe σ vs ∧ tt σ2 H2 fun b H3 => if b = true then tk σ2 H3 fun y H4 => tv σ2 H4 fun v H5 => ∃ kvs k, y = kV k ∧ H5 D = some (.dK kvs) ∧ kvs.length < sizeLine ∧ Nx (upd H5 D (.dK (putK kvs k v))) else Nx H3)
    (hd : ∀ H, Same H1 H → H D = some (.dK (dictV zs)) → Qd H) :
    ∃ W : Nat → Nat → Hp → Prop, (∃ m, W 0 m (upd H1 D (.dK []))) ∧ ∀ i m H, W i m H →
      (J.stop i H ∧ Qd H) ∨ (J.go i H ∧ ∃ Nx : Hp → Prop, (∀ H', Nx H' → ∃ m', m' < m ∧ W (i + 1) m' H') ∧ ∀ x H', J.yld i H x H' → g x (wipe σ vs) H' fun σ2 H2 => wipe σ2 vs = wipe σ vs ∧ tt σ2 H2 fun b H3 =>
        if b = true then tk σ2 H3 fun y H4 => tv σ2 H4 fun z H5 => ∃ kvs k, y = kV k ∧ H5 D = some (.dK kvs) ∧ kvs.length < sizeLine ∧ Nx (upd H5 D (.dK (putK kvs k z))) else Nx H3) := by
  subst hz
  refine ⟨fun i m H => m = zs.length - i ∧ i ≤ zs.length ∧ Same H1 H ∧ H D = some (.dK (dictV (zs.take i))), ⟨zs.length, by simp, Nat.zero_le _, Same.upd hD, upd_same⟩, ?_⟩
  rintro i m H ⟨rfl, hi, sm, hDx⟩
  have q := hG H sm
  by_cases hlt : i < zs.length
  · refine .inr ⟨w.goes i H hlt q, fun H' => Same H1 H' ∧ H' D = some (.dK (dictV (zs.take (i + 1)))), fun H' p' => ⟨zs.length - (i + 1), by omega, rfl, hlt, p'⟩, fun x H' y => ?_⟩
    refine hs i x H H' zs[i] _ (List.getElem?_eq_getElem hlt) sm (w.yields i H x H' hlt q y) fun H5 k => ?_
    have l := dictV_le (zs.take i)
    rw [List.length_take] at l
    refine ⟨_, k _ _ hDx, by omega, fun b u e => ?_, ?_⟩
    · rw [upd_ne (ne_of_none e hD)]
      exact k _ _ (sm b u e)
    · rw [upd_same, dictV_take zs i hlt]
  · have e : i = zs.length := by omega
    subst e
    refine .inl ⟨w.stops H q, hd H sm ?_⟩
    rw [hDx, List.take_length]
theorem dictV_nd : ∀ l : List (Str × V), (l.map (·.1)).Nodup → dictV l = l.map fun q => (Sum.inr q.1, q.2) := fun l => by
  refine snoc_ind (p := fun l => (l.map (·.1)).Nodup → dictV l = l.map fun q => (Sum.inr q.1, q.2)) (fun _ => rfl) (fun l q ih h => ?_) l
  rw [List.map_append] at h
  obtain ⟨h1, _, h3⟩ := List.nodup_append.mp h
  have e := ih h1
  rw [dictV_snoc, e, List.map_append]
  have out : ¬ ((l.map fun q => ((Sum.inr q.1 : Key), q.2)).any fun kv => decide (kv.1 = Sum.inr q.1)) = true := fun z => by
    obtain ⟨y, hy, e⟩ := List.any_eq_true.mp z
    obtain ⟨p, hp, rfl⟩ := List.mem_map.mp hy
    have e2 : p.1 = q.1 := Sum.inr.inj (of_decide_eq_true e)
    exact h3 p.1 (List.mem_map.mpr ⟨p, hp, rfl⟩) q.1 (List.mem_singleton.mpr rfl) e2
  unfold putK
  rw [if_neg out]
  rfl
/-! ### other names -/
def rnF (ms : List (Str × Str)) (z : Str) : Str := match ms.find? (fun p => decide (p.1 = z)) with
  | some p => p.2
  | none => z
def rnP (ms : List (Str × Str)) (q : Str × Str) : Str × Str := (rnF ms q.1, rnF ms q.2)
abbrev mD (ms : List (Str × Str)) : List (Key × V) := dictV (ms.map fun q => (q.1, V.str q.2))
theorem find_none {ms : List (Str × Str)} {z : Str} (h : z ∉ ms.map (·.1)) : ms.find? (fun p => decide (p.1 = z)) = none := by
  rw [List.find?_eq_none]
  intro p hp e
  exact h (List.mem_map.mpr ⟨p, hp, of_decide_eq_true e⟩)
theorem mD_get {ms : List (Str × Str)} (nd : (ms.map (·.1)).Nodup) (z : Str) : valV (mD ms) (.inr z) = if z ∈ ms.map (·.1) then some (V.str (rnF ms z)) else none := by
  by_cases hz : z ∈ ms.map (·.1)
  · rw [if_pos hz]
    obtain ⟨q, hq, rfl⟩ := List.mem_map.mp hz
    rw [lb_val nd hq]
    unfold rnF
    rw [find_of nd hq]
  · rw [if_neg hz, dictV_val (fun z => match ms.find? (fun p => decide (p.1 = z)) with | some p => V.str p.2 | none => V.non) (ms.map fun q => (q.1, V.str q.2)) ?_ z, if_neg (by rw [List.map_map]; exact hz)]
    intro y hy
    obtain ⟨p, hp, rfl⟩ := List.mem_map.mp hy
    show V.str p.2 = match ms.find? (fun z => decide (z.1 = p.1)) with | some p => V.str p.2 | none => V.non
    rw [find_of nd hp]
theorem mD_getD {ms : List (Str × Str)} (nd : (ms.map (·.1)).Nodup) (z : Str) : (valV (mD ms) (.inr z)).getD (V.str z) = V.str (rnF ms z) := by
  rw [mD_get nd z]
  by_cases hz : z ∈ ms.map (·.1)
  · rw [if_pos hz]; rfl
  · rw [if_neg hz]
    unfold rnF
    rw [find_none hz]; rfl
theorem rnF_ok {ms : List (Str × Str)} (h : ∀ q ∈ ms, NameS q.2) {z : Str} (hz : NameS z) : NameS (rnF ms z) := by
  unfold rnF
  cases e : ms.find? (fun p => decide (p.1 = z)) with
  | none => exact hz
  | some p => exact h p (List.mem_of_find?_eq_some e)
theorem nd_map_inj {α β : Type} {f : α → β} : ∀ {l : List α}, (l.map f).Nodup → ∀ a ∈ l, ∀ b ∈ l, f a = f b → a = b
  | [], _, a, h, _, _, _ => nomatch h
  | x :: r, nd, a, ha, b, hb, e => by
    rw [List.map_cons, List.nodup_cons] at nd
    rcases List.mem_cons.mp ha with h1 | h1
    · rcases List.mem_cons.mp hb with h2 | h2
      · rw [h1, h2]
      · exact absurd (List.mem_map.mpr ⟨b, h2, by rw [← e, h1]⟩) nd.1
    · rcases List.mem_cons.mp hb with h2 | h2
      · exact absurd (List.mem_map.mpr ⟨a, h1, by rw [e, h2]⟩) nd.1
      · exact nd_map_inj nd.2 a h1 b h2 e
theorem uniq_map {f : Str → Str} (l : List Str) (h : ∀ a ∈ l, ∀ b ∈ l, f a = f b → a = b) : uniq (l.map f) = (uniq l).map f := by
  refine snoc_ind (p := fun l => (∀ a ∈ l, ∀ b ∈ l, f a = f b → a = b) → uniq (l.map f) = (uniq l).map f) (fun _ => rfl) (fun l x ih h => ?_) l h
  have e := ih fun a ha b hb => h a (List.mem_append.mpr (.inl ha)) b (List.mem_append.mpr (.inl hb))
  rw [List.map_append]
  show uniq (l.map f ++ [f x]) = _
  rw [uniq_snoc, uniq_snoc, e, uniqF, uniqF]
  by_cases hx : x ∈ uniq l
  · rw [if_pos hx, if_pos (List.mem_map.mpr ⟨x, hx, rfl⟩)]
  · rw [if_neg hx, if_neg, List.map_append]; · rfl
    intro z
    obtain ⟨y, hy, e2⟩ := List.mem_map.mp z
    have := h y (List.mem_append.mpr (.inl ((uniq_mem _ _).mp hy))) x (List.mem_append.mpr (.inr (List.mem_singleton.mpr rfl))) e2
    exact hx (this ▸ hy)
theorem allN_map {f : Str → Str} {ps : List (Str × Str)} {ns us : List Str} (nd : ((allN ps ns us).map f).Nodup) : allN (ps.map fun q => (f q.1, f q.2)) (ns.map f) (us.map f) = (allN ps ns us).map f := by
  have inj := nd_map_inj nd
  have e : uniq ((ps.map fun q => (f q.1, f q.2)).map (·.2)) = (uniq (ps.map (·.2))).map f := by
    rw [List.map_map]
    have := uniq_map (f := f) (ps.map (·.2)) (fun a ha b hb => inj a (List.mem_append.mpr (.inr (List.mem_append.mpr (.inl ((uniq_mem _ _).mpr ha))))) b (List.mem_append.mpr (.inr (List.mem_append.mpr (.inl ((uniq_mem _ _).mpr hb))))))
    rw [List.map_map] at this
    exact this
  unfold allN
  rw [e]
  simp only [List.map_append, List.map_map]
  rfl
theorem good_map {ms : List (Str × Str)} {ps : List (Str × Str)} {ns us : List Str} {C x : Addr} {H : Hp} {va vp vv : V} (fx : FrameAt C H x va vp vv ps ns us) (h : ∀ q ∈ ms, NameS q.2) (nd : ((allN ps ns us).map (rnF ms)).Nodup) :
    letB (ps.map (rnP ms)) (ns.map (rnF ms)) (us.map (rnF ms)) = true := by
  obtain ⟨n1, n2, n3⟩ := fx.nP
  refine frameD_good ⟨by rw [List.length_map]; exact fx.l1, by rw [List.length_map]; exact fx.l2, by rw [List.length_map]; exact fx.l3, fun z hz => ?_, ?_⟩
  · rcases List.mem_append.mp hz with hz | hz
    · obtain ⟨q, hq, rfl⟩ := List.mem_map.mp hz
      obtain ⟨p, hp, rfl⟩ := List.mem_map.mp hq
      exact rnF_ok h (n1 p hp).1
    · rcases List.mem_append.mp hz with hz | hz
      · obtain ⟨q, hq, rfl⟩ := List.mem_map.mp hz
        obtain ⟨p, hp, rfl⟩ := List.mem_map.mp hq
        exact rnF_ok h (n1 p hp).2
      · rcases List.mem_append.mp hz with hz | hz
        · obtain ⟨q, hq, rfl⟩ := List.mem_map.mp hz
          exact rnF_ok h (n2 q hq)
        · obtain ⟨q, hq, rfl⟩ := List.mem_map.mp hz
          exact rnF_ok h (n3 q hq)
  · exact (congrArg List.Nodup (allN_map (f := rnF ms) nd)).mpr nd
/-- the names in the order of the dict of kinds -/
abbrev kn (ps : List (Str × Str)) (ns us : List Str) : List Str := uniq ((kl ps ns us).map (·.1))
theorem kn_nd (ps : List (Str × Str)) (ns us : List Str) : (kn ps ns us).Nodup := uniq_nd _
theorem kn_mem {ps : List (Str × Str)} {ns us : List Str} {z : Str} : z ∈ kn ps ns us ↔ z ∈ allN ps ns us := by
  rw [uniq_mem]; exact kl_mem _ _ _ _
theorem kn_perm {ps : List (Str × Str)} {ns us : List Str} (nd : (allN ps ns us).Nodup) : (kn ps ns us).Perm (allN ps ns us) := (List.perm_ext_iff_of_nodup (kn_nd _ _ _) nd).mpr fun z => kn_mem
theorem kn_map_nd {ps : List (Str × Str)} {ns us : List Str} (nd : (allN ps ns us).Nodup) (f : Str → Str) : ((kn ps ns us).map f).Nodup ↔ ((allN ps ns us).map f).Nodup := ((kn_perm nd).map f).nodup_iff
theorem uniq_lt (l : List Str) : (uniq l).length < l.length ↔ ¬ l.Nodup := by
  have h := uniq_len l
  constructor
  · intro a b
    have := nodup_le l (uniq l) b fun x hx => (uniq_mem _ _).mpr hx
    omega
  · intro a
    rcases Nat.lt_or_ge (uniq l).length l.length with b | b
    · exact b
    · exact absurd (uniq_full l b) a
end Kx
namespace Kx
open PySem PySem.Spec PyProof.Rows L2
structure ExO (K : PySem.W.Frag) (mg : Str → Option Value) (I : Addr) : Prop where
  gP : mg "InvalidOperation" = some (.ref I)
  xP : PySem.W.excIn K I [.type "ValueError", .type "Exception", .type "BaseException", .type "object"] "ValueError.__new__" = true
  kP : PySem.W.keepIn K (.ref I) = true
  bP : PySem.W.subIn K (.ref I) (.type "BaseException") = some true
  tP : PySem.W.typeIn K (.ref I) = some (.type "type")
theorem Same.put {H G : Hp} {d : Addr} {u w : HO} (h : H d = some u) (k : Same (L2.upd H d w) G) : Same H (L2.upd G d u) := fun b o e => by
  by_cases hb : b = d
  · subst hb
    rw [h] at e
    cases e
    exact upd_same
  · rw [upd_ne hb]
    exact k b o (by rw [upd_ne hb]; exact e)
theorem rd_lock {H : Hp} {a d : Addr} {u v : HO} {od : Obj} (h : H a = some u) (hd : H d = some v) : Rd (upd H d (.frz od v)) a u := by
  by_cases e : a = d
  · subst e
    rw [h] at hd
    cases hd
    exact .inr ⟨od, upd_same⟩
  · exact .inl (by rw [upd_ne e]; exact h)
theorem Rd.same {H H' : Hp} {a : Addr} {u : HO} (h : Rd H a u) (k : Same H H') : Rd H' a u := h.elim (fun h => .inl (k _ _ h)) fun ⟨o, h⟩ => .inr ⟨o, k _ _ h⟩
theorem mD_at {ms : List (Str × Str)} (nd : (ms.map (·.1)).Nodup) : mD ms = ms.map fun q => ((Sum.inr q.1 : Key), V.str q.2) := by
  unfold mD
  rw [dictV_nd _ (by rw [List.map_map]; exact nd), List.map_map]
  rfl
section
variable {P : Program} {w : World} {K : PySem.W.Frag} {mg : Str → Option Value} {base : Heap}
abbrev N_Frame_renamed : List Str := ["self", "names", "new", "arrays", "positions", "name", "array", "length"]
abbrev P_Frame_renamed : List Str := ["self", "names"]
theorem sc_Frame_renamed : FnScope N_Frame_renamed P_Frame_renamed (defScope s_Frame_renamed) := ⟨rfl, rfl, rfl, by decide +kernel, rfl, by decide +kernel, by decide +kernel⟩
def spRen (C IO : Addr) : Sp := fun vs H Q E => ∃ (x Dn : Addr) (va vp vv : V) (ps : List (Str × Str)) (ns us : List Str) (ms : List (Str × Str)), vs = [.ref x, .ref Dn] ∧ FrameAt C H x va vp vv ps ns us ∧ H Dn = some (.dK (mD ms)) ∧
  (∀ od, FrameAt C (upd H Dn (.frz od (.dK (mD ms)))) x va vp vv ps ns us) ∧ (ms.map (·.1)).Nodup ∧ (∀ q ∈ ms, q.1 ∈ allN ps ns us ∧ NameS q.2) ∧ ms.length ≤ 1000 ∧
  (((allN ps ns us).map (rnF ms)).Nodup → ∀ y ya yp yv H', FrameAt C H' y ya yp yv (ps.map (rnP ms)) (ns.map (rnF ms)) (us.map (rnF ms)) → Same H H' → Q (.ref y) H') ∧
  (¬ ((allN ps ns us).map (rnF ms)).Nodup → ∀ H', Same H H' → E (.ref IO) none H')
theorem ok_renamed (T : Bt mg) {C I IO f f0 : Addr} {fd fd0 : FuncData} (F : FunD K "renamed" "Frame.renamed" (defArgs s_Frame_renamed) (defBody s_Frame_renamed) (defScope s_Frame_renamed) [] [] f fd) (X : Fx K mg C) (XO : ExO K mg IO) (M : Mk K C f0)
    (F0 : FnOk P w K mg base (L2N.CX P w) 5 f0 fd0 P_Frame_init (spInit C I)) (b0 : Binds K fd0 P_Frame_init []) (C1 : Ca P w K mg base 1 "is_name" P_is_name (spJudge nameD)) (M1 : Me P w K mg base C 1 "__contains__" P_Frame_contains (spHas C)) :
    FnOk P w K mg base (L2N.CX P w) 7 f fd P_Frame_renamed (spRen C IO) := by
  obtain ⟨_, _, c_is_name⟩ := C1
  obtain ⟨_, _, c_contains⟩ := M1
  obtain ⟨gP, xP, kP, bP, tP⟩ := XO
  refine F.ok sc_Frame_renamed (fun vs H Q E h => ?_) (fun cdv A outer s H vs Q E hr h => ?_)
  · obtain ⟨x, Dn, va, vp, vv, ps, ns, us, ms, rfl, _⟩ := h
    rfl
  · obtain ⟨x, Dn, va, vp, vv, ps, ns, us, ms, rfl, fx, hDn, fl, nd, hms, hml, kg, kb⟩ := h
    refine ⟨_, (pss_cons (ps_if (PW.pt (pw_or (pt_not (pt_val (pe_callB call_isi (by rfl) T.isinstance (by decide +kernel) (pa_cons (pv 1) (pa_cons (pe_bltn (v := .ty "dict") (by rfl) T.dict (by decide +kernel) rfl) pa_nil))))) (pw_or1 (pt_not (pt_val (pe_callB (cr_all rfl) (by rfl) T.all (by decide +kernel) (pa_cons (pe_lock (pe_lc (own := [("name", 5)]) (g := (gName 5)) (tt := tYes) (by rfl) sc_Frame_renamed.nd (pi_keys (pv 1)) (blkOk_by (own := [("name", 5)]) (N := ["self", "names", "new", "arrays", "positions", "name", "array", "length"]) (sc := defScope s_Frame_renamed) (by decide +kernel)) (fun _ _ _ _ _ => pg_name (i := 5) sc_Frame_renamed.nd rfl (Or.inl rfl)) (fun _ _ _ _ _ => pts_nil) (fun _ _ _ _ _ => (pe_and (pe_cmpR (op_inO X.cl c_contains.2.1.at_ c_contains.2.1.fn c_contains.1 (hr.mono (by decide)) c_contains.2.2 pass0) (pv 5) (pv 0) rfl) (pe_one (pe_call c_is_name.1 (hr.mono (by decide)) rfl c_is_name.2.1 c_is_name.2.2.1 c_is_name.2.2.2 .nil pass0 (pa_cons (pe_dget (hu_of hr) (pv 1) (pv 5) (fun _ _ => rfl)) pa_nil))))))) pa_nil))))))) (pss_one ps_never) pss_nil)
      (pss_cons (ps_set (i := 2) sc_Frame_renamed.nd rfl (.inr rfl) (pe_lock (pe_dc (own := [("name", 5)]) (g := (gName 5)) (tt := tYes) (by rfl) sc_Frame_renamed.nd (pi_keys (pe_fld (pv 0) rfl)) (blkOk_by (own := [("name", 5)]) (N := ["self", "names", "new", "arrays", "positions", "name", "array", "length"]) (sc := defScope s_Frame_renamed) (by decide +kernel)) (fun _ _ _ _ _ => pg_name (i := 5) sc_Frame_renamed.nd rfl (Or.inl rfl)) (fun _ _ _ _ _ => pts_nil) (fun _ _ _ _ _ => (pv 5)) (fun _ _ _ _ _ => (pe_dget2 (hu_of hr) (pv 1) (pv 5) (pv 5) ⟨rfl, rfl, rfl, rfl⟩)))))
      (pss_cons (ps_if (pt_cmpR op_lt (pe_lenSetS rfl rfl T.len rfl T.set (pe_callTy (call_listV rfl) (by rfl) T.list (by decide +kernel) (pa_cons (pe_dvals (pv 2)) pa_nil))) (pe_callB call_lenD (by rfl) T.len (by decide +kernel) (pa_cons (pv 2) pa_nil)) (nomark _)) (pss_one (L2N.ps_raise rfl (L2N.takes_of rfl rfl rfl rfl) (L2N.pmk_own PySem.F.excBase_ValueError xP gP kP (raises_own bP tP) rfl))) pss_nil)
      (pss_cons (ps_set (i := 3) sc_Frame_renamed.nd rfl (.inl rfl) (pe_callTy call_tupF (by rfl) T.tuple (by decide +kernel) (pa_cons (pe_lc (own := [("array", 6), ("length", 7)]) (g := (gTup K 2 (gCons (gName 6) (gCons (gName 7) gNil)))) (tt := tYes) (by rfl) sc_Frame_renamed.nd (pi_tup (pe_fld (pv 0) rfl)) (blkOk_by (own := [("array", 6), ("length", 7)]) (N := ["self", "names", "new", "arrays", "positions", "name", "array", "length"]) (sc := defScope s_Frame_renamed) (by decide +kernel)) (fun _ _ _ _ _ => pg_tup (by rfl) (pgs_cons (pg_name (i := 6) sc_Frame_renamed.nd rfl (Or.inl rfl)) (pgs_cons (pg_name (i := 7) sc_Frame_renamed.nd rfl (Or.inl rfl)) pgs_nil))) (fun _ _ _ _ _ => pts_nil) (fun _ _ _ _ _ => (pe_tupF (pa_cons (pe_dget (hu_of hr) (pv 2) (pv 6) (fun _ _ => rfl)) (pa_cons (pe_dget (hu_of hr) (pv 2) (pv 7) (fun _ _ => rfl)) pa_nil))))) pa_nil)))
      (pss_cons (ps_set (i := 4) sc_Frame_renamed.nd rfl (.inl rfl) (pe_callTy call_tupF (by rfl) T.tuple (by decide +kernel) (pa_cons (pe_lc (own := [("name", 5)]) (g := (gName 5)) (tt := tYes) (by rfl) sc_Frame_renamed.nd (pi_tup (pe_fld (pv 0) rfl)) (blkOk_by (own := [("name", 5)]) (N := ["self", "names", "new", "arrays", "positions", "name", "array", "length"]) (sc := defScope s_Frame_renamed) (by decide +kernel)) (fun _ _ _ _ _ => pg_name (i := 5) sc_Frame_renamed.nd rfl (Or.inl rfl)) (fun _ _ _ _ _ => pts_nil) (fun _ _ _ _ _ => (pe_dget (hu_of hr) (pv 2) (pv 5) (fun _ _ => rfl)))) pa_nil)))
      (pss_one (ps_ret (pe_make M F0 (hr.mono (by decide)) rfl X.mgC b0 .nil (L2N.passes_call (L2N.takes_of rfl rfl rfl rfl) (fun cls d σ H h => h)) (pa_cons (pv 3) (pa_cons (pv 4) (pa_cons (pe_callTy call_tupF (by rfl) T.tuple (by decide +kernel) (pa_cons (pe_lc (own := [("name", 5)]) (g := (gName 5)) (tt := tYes) (by rfl) sc_Frame_renamed.nd (pi_tup (pe_fld (pv 0) rfl)) (blkOk_by (own := [("name", 5)]) (N := ["self", "names", "new", "arrays", "positions", "name", "array", "length"]) (sc := defScope s_Frame_renamed) (by decide +kernel)) (fun _ _ _ _ _ => pg_name (i := 5) sc_Frame_renamed.nd rfl (Or.inl rfl)) (fun _ _ _ _ _ => pts_nil) (fun _ _ _ _ _ => (pe_dget (hu_of hr) (pv 2) (pv 5) (fun _ _ => rfl)))) pa_nil)) pa_nil))))))))))), ?_⟩
    have mlen : (mD ms).length = ms.length := by rw [mD_at nd, List.length_map]
    -- the names are right
    refine ⟨_, rfl, _, _, _, _, _, rfl, .ty _, .base (.dK hDn), kit_ty (r := true) (by decide +kernel), _, rfl, iteF ?_⟩
    refine ⟨Dn, _, hDn, trivial, fun od => ?_⟩
    refine ⟨_, rfl, Dn, od, rfl, .inl ⟨_, upd_same, fun D hD => ?_⟩⟩
    refine lc_o walk_keys (fun i => (mD ms)[i]?.map fun _ => V.bl true) (by rw [mlen, sizeLine_eq]; omega) hD (fun Hx sm => sm _ _ upd_same) ?_ ?_
    · rintro i y Hx H' Nx hi sm hDx ⟨rfl, k, v, hkv, rfl⟩ hno hyes
      have hkv' := hkv
      rw [mD_at nd, List.getElem?_map] at hkv
      cases e : ms[i]? with
      | none => rw [e] at hkv; cases hkv
      | some q =>
        rw [e] at hkv
        cases hkv
        have hq := List.mem_of_getElem? e
        have h1 := hms q hq
        have fr := (fl od).same sm
        obtain ⟨dx, LB, LT, KD, hx, _⟩ := id fr.ob
        refine ⟨rfl, yes ?_⟩
        refine ⟨_, rfl, _, rfl, x, dx, _, rfl, hx, fun _ => True, x, va, vp, vv, ps, ns, us, _, .str q.1, rfl, fr, .str q.1, _, rfl, ?_⟩
        rw [show hasD ps ns us (.str q.1) = true from decide_eq_true h1.1]
        refine ⟨_, rfl, iteT ?_⟩
        refine ⟨_, rfl, _, rfl, Dn, V.str q.2, rfl, ?_, fun _ => True, _, .str q.2, rfl, .str q.2, ?_, fun H2 sm2 => ?_⟩
        · refine .inl ⟨_, Sum.inr q.1, .inr ⟨od, sm _ _ upd_same⟩, rfl, ?_⟩
          rw [mD_get nd, if_pos (List.mem_map.mpr ⟨q, hq, rfl⟩)]
          unfold rnF
          rw [find_of nd hq]
        · simp only [cost]
          have := h1.2.2.1
          omega
        · rw [show nameD (.str q.2) = true from decide_eq_true h1.2]
          exact hyes _ (by rw [hkv']; rfl) _ sm2
    · intro Hx sm hDx
      have sm1 : Same H (upd Hx Dn (.dK (mD ms))) := Same.put hDn sm
      refine ⟨sm _ _ upd_same, D, (List.replicate (mD ms).length true), rfl, SqL.of ?_, ?_⟩
      · have hne : D ≠ Dn := (ne_of_none upd_same hD).symm
        rw [upd_ne hne, hDx, List.map_replicate]
        congr 2
        have e : ∀ l : List (Key × V), ((List.range l.length).filterMap fun i => l[i]?.map fun _ => V.bl true) = List.replicate l.length (V.bl true) := fun l => by
          rw [range_list l (fun _ => V.bl true), List.map_const']
        exact e _
      · rw [show (List.replicate (mD ms).length true).all id = true by simp]
        refine ⟨_, rfl, iteF ?_⟩
        generalize upd Hx Dn (.dK (mD ms)) = H1 at sm1
        clear hDx sm hD
        have fx1 := fx.same sm1
        obtain ⟨dx, LB, LT, KD, hx, hlb, hlt, hkd⟩ := id fx1.ob
        have hDn1 := sm1 _ _ hDn
        have xK : x ≠ KD := fun z => by rw [z, hkd] at hx; cases hx
        -- the new names
        refine ⟨KD, _, hkd, trivial, fun od2 => ?_⟩
        refine ⟨_, rfl, x, C, dx, _, _, rfl, (by rw [upd_ne xK]; exact hx), X.cl, X.n6, rfl, KD, od2, rfl, .inl ⟨_, upd_same, fun D2 hD2 => ?_⟩⟩
        have knl := kn_perm fx.nd
        have knlen : (kn ps ns us).length = (dictV (kl ps ns us)).length := (dictV_len _).symm
        have klen : (kn ps ns us).length ≤ 100 := by
          rw [knl.length_eq]
          have q1 := fx.l1
          have q2 := fx.l2
          have q3 := fx.l3
          have q4 := uniq_len (ps.map (·.2))
          simp only [List.length_append, List.length_map] at q4 ⊢
          omega
        refine dc_o walk_keys ((kn ps ns us).map fun z => (z, V.str (rnF ms z))) (by rw [List.length_map]; exact knlen) (by rw [← knlen, sizeLine_eq]; omega) hD2 (fun Hx sm => sm _ _ upd_same) ?_ ?_
        · rintro i y Hx H' z Nx hz sm ⟨rfl, k, v, hkv, rfl⟩ put
          rw [List.getElem?_map] at hz
          have hk2 := congrArg (fun l => l[i]?) (dictV_keys (kl ps ns us))
          simp only [List.getElem?_map] at hk2
          rw [hkv] at hk2
          cases e : (kn ps ns us)[i]? with
          | none => rw [e] at hz; cases hz
          | some z0 =>
            rw [e] at hz hk2
            cases hz
            cases hk2
            refine ⟨rfl, yes ?_⟩
            have rd := Rd.same (rd_lock (od := od2) hDn1 hkd) sm
            refine ⟨_, rfl, _, rfl, Dn, rfl, .inl ⟨_, rd⟩, _, rfl, _, rfl, _, .inl ⟨_, Sum.inr z0, rd, rfl, rfl⟩, ?_⟩
            rw [show (valV (mD ms) (Sum.inr z0)).getD (kV (Sum.inr z0)) = V.str (rnF ms z0) from mD_getD nd z0]
            obtain ⟨kvs, a1, a2, a3⟩ := put _ Same.refl
            exact ⟨kvs, Sum.inr z0, rfl, a1, a2, a3⟩
        · intro Hx sm hD2x
          have sm2 : Same H1 (upd Hx KD (.dK (dictV (kl ps ns us)))) := Same.put hkd sm
          have hne : D2 ≠ KD := (ne_of_none upd_same hD2).symm
          refine ⟨sm _ _ upd_same, ?_⟩
          have hD2y : (upd Hx KD (.dK (dictV (kl ps ns us)))) D2 = some (.dK (dictV ((kn ps ns us).map fun z => (z, V.str (rnF ms z))))) := by rw [upd_ne hne]; exact hD2x
          generalize upd Hx KD (.dK (dictV (kl ps ns us))) = H2 at sm2 hD2y
          clear hD2x sm hD2
          have ndk : (((kn ps ns us).map fun z => (z, V.str (rnF ms z))).map (·.1)).Nodup := by
            rw [List.map_map]
            have : (kn ps ns us).map ((fun x => x.1) ∘ fun z => (z, V.str (rnF ms z))) = kn ps ns us := List.map_id _
            rw [this]
            exact kn_nd _ _ _
          have vals : (dictV ((kn ps ns us).map fun z => (z, V.str (rnF ms z)))).map (·.2) = ((kn ps ns us).map (rnF ms)).map V.str := by
            rw [dictV_nd _ ndk, List.map_map, List.map_map, List.map_map]
            rfl
          have dl : (dictV ((kn ps ns us).map fun z => (z, V.str (rnF ms z)))).length = (kn ps ns us).length := by rw [dictV_nd _ ndk, List.length_map, List.length_map]
          have getN : ∀ z ∈ allN ps ns us, valV (dictV ((kn ps ns us).map fun z => (z, V.str (rnF ms z)))) (.inr z) = some (.str (rnF ms z)) := fun z hz => by
            rw [dictV_val (fun z => V.str (rnF ms z)) _ (fun q hq => by obtain ⟨y, _, rfl⟩ := List.mem_map.mp hq; rfl), if_pos]
            rw [List.map_map]
            exact List.mem_map.mpr ⟨z, kn_mem.mpr hz, rfl⟩
          have sm3 := sm1.trans sm2
          refine ⟨_, rfl, D2, _, rfl, hD2y, fun pv hpv => ⟨pv, D2, _, rfl, upd_same, (Same.upd hpv) _ _ hD2y, fun lv hlv => ?_⟩⟩
          have sm4 := sm3.trans ((Same.upd (o := dvO pv D2) hpv).trans (Same.upd (o := .lst ((dictV ((kn ps ns us).map fun z => (z, V.str (rnF ms z)))).map (·.2))) hlv))
          have hD24 := ((Same.upd (o := dvO pv D2) hpv).trans (Same.upd (o := .lst ((dictV ((kn ps ns us).map fun z => (z, V.str (rnF ms z)))).map (·.2))) hlv)) _ _ hD2y
          have lv4 : (upd (upd H2 pv (dvO pv D2)) lv (.lst ((dictV ((kn ps ns us).map fun z => (z, V.str (rnF ms z)))).map (·.2)))) lv = some (.lst (((kn ps ns us).map (rnF ms)).map V.str)) := by rw [← vals]; exact upd_same
          generalize upd (upd H2 pv (dvO pv D2)) lv (.lst ((dictV ((kn ps ns us).map fun z => (z, V.str (rnF ms z)))).map (·.2))) = H4 at sm4 hD24 lv4 ⊢
          refine ⟨lv, (kn ps ns us).map (rnF ms), rfl, SqL.of lv4, by rw [List.length_map]; omega, _, rfl, D2, _, rfl, hD24, ?_⟩
          rw [dl]
          refine ⟨_, _, rfl, rfl, _, rfl, ?_⟩
          have lt := uniq_lt ((kn ps ns us).map (rnF ms))
          rw [List.length_map] at lt
          by_cases hnd : ((kn ps ns us).map (rnF ms)).Nodup
          · have : ¬ (uniq ((kn ps ns us).map (rnF ms))).length < (kn ps ns us).length := fun z => (lt.mp z) hnd
            rw [decide_eq_false (by omega)]
            refine iteF ?_
            have hnd2 := (kn_map_nd fx.nd (rnF ms)).mp hnd
            have fx4 := fx.same sm4
            clear fx1 hx hlb hlt hkd
            obtain ⟨dx, LB, LT, KD, hx, hlb, hlt, hkd⟩ := id fx4.ob
            obtain ⟨aA, xA, rfl, tA, dA⟩ := fx4.da.tupI
            obtain ⟨aP, xP, rfl, tP, dP⟩ := fx4.dp.tupI
            obtain ⟨aV, xV, rfl, tV, dV⟩ := fx4.dv.tupI
            have q1 := fx.l1
            have q2 := fx.l2
            have q3 := fx.l3
            have n1 := dA.len
            have n2 := dP.len
            have n3 := dV.len
            rw [List.length_map] at n1 n2 n3
            have eP := dP.strE
            have eV := dV.strE
            subst eP eV
            have kk : ∀ {G G' : Hp}, Same G G' → Kp All G G' := fun m => Kp.same m
            have inA : ∀ q ∈ ps, q.1 ∈ allN ps ns us ∧ q.2 ∈ allN ps ns us := fun q hq => ⟨List.mem_append.mpr (.inl (List.mem_map.mpr ⟨q, hq, rfl⟩)), List.mem_append.mpr (.inr (List.mem_append.mpr (.inl ((uniq_mem _ _).mpr (List.mem_map.mpr ⟨q, hq, rfl⟩)))))⟩
            have inN : ∀ z ∈ ns, z ∈ allN ps ns us := fun z hz => List.mem_append.mpr (.inr (List.mem_append.mpr (.inr (List.mem_append.mpr (.inl hz)))))
            have inU : ∀ z ∈ us, z ∈ allN ps ns us := fun z hz => List.mem_append.mpr (.inr (List.mem_append.mpr (.inr (List.mem_append.mpr (.inr hz)))))
            have get : ∀ {G : Hp} {z : Str}, Same H4 G → z ∈ allN ps ns us → DGet G D2 (V.str z) (some (.str (rnF ms z))) := fun {G z} sm hz => by
              rw [← getN z hz]
              exact DGet.k (k := .inr z) (sm _ _ hD24)
            -- the arrays
            refine ⟨_, rfl, x, C, dx, _, _, rfl, hx, X.cl, X.n1, rfl, aA, rfl, ⟨_, tA.sq⟩, fun E1 hE1 => ?_⟩
            refine lc_it (walk_tup (K := K) (a := aA) (xs := xA)) (fun i G => Same H4 G ∧ ∃ ws : List V, G E1 = some (.lst ws) ∧ ws.length = i ∧ DvL All G ws ((ps.take i).map fun q => pairD (rnP ms q))) ⟨Same.upd hE1, [], upd_same, rfl, .nil⟩ (fun i G _ h => ((kk h.1).tup tA).sq) ?_ ?_
            · rintro i y G G' hi ⟨sm, ws, hG, hwl, hws⟩ ⟨rfl, hy⟩
              obtain ⟨e, he, dve⟩ := dA.get hy
              have hi' : i < ps.length := by omega
              rw [List.getElem?_map, List.getElem?_eq_getElem hi'] at he
              cases he
              obtain ⟨b, rfl, hb⟩ := dve.pairI
              have hq := inA _ (List.getElem_mem hi')
              refine ⟨b, _, rfl, ((kk sm).tup hb).sq, rfl, _, _, rfl, _, _, rfl, rfl, ?_⟩
              refine ⟨rfl, yes ?_⟩
              refine ⟨_, rfl, _, rfl, D2, _, rfl, get sm hq.1, _, rfl, _, rfl, D2, _, rfl, get sm hq.2, by show 2 ≤ sizeLine; decide, fun tt G2 st htt => ?_⟩
              refine ⟨ws, st _ _ hG, by rw [hwl, sizeLine_eq]; omega, ?_, ws ++ [.ref tt], upd_same, by rw [List.length_append, hwl]; rfl, ?_⟩
              · intro b o e
                rw [upd_ne (ne_of_none e hE1)]
                exact st _ _ (sm b o e)
              · have ku : Kp All G2 (upd G2 E1 (.lst (ws ++ [.ref tt]))) := Kp.at trivial (st _ _ hG)
                rw [List.take_succ, List.getElem?_eq_getElem hi', List.map_append]
                exact ((hws.kp (kk st)).kp ku).app (.cons (Dv.tupM (ku.tup htt) (.cons (.str _) (.cons (.str _) .nil))) .nil)
            · rintro G1 ⟨m1, ws, hG, hwl, hws⟩
              have e1 : ((ps.take xA.length).map fun q => pairD (rnP ms q)) = (ps.map (rnP ms)).map pairD := by
                rw [n1, List.take_length, List.map_map]
                rfl
              rw [e1] at hws
              refine ⟨E1, ws, rfl, SqL.of hG, fun rA G2 m2 hA => ?_⟩
              have m12 := m1.trans m2
              -- the positions
              refine ⟨_, rfl, x, C, dx, _, _, rfl, m12 _ _ hx, X.cl, X.n2, rfl, aP, rfl, ⟨_, ((kk m12).tup tP).sq⟩, fun E2 hE2 => ?_⟩
              refine lc_o (walk_tup (K := K) (a := aP) (xs := ns.map V.str)) (fun i => ns[i]?.map fun z => V.str (rnF ms z)) (by rw [List.length_map, sizeLine_eq]; omega) hE2 (fun G sm => ((kk (m12.trans sm)).tup tP).sq) ?_ ?_
              · rintro i y G G' Nx hi sm hDx ⟨rfl, hy⟩ hno hyes
                rw [List.getElem?_map] at hy
                cases e : ns[i]? with
                | none => rw [e] at hy; cases hy
                | some z =>
                  rw [e] at hy
                  cases hy
                  refine ⟨rfl, yes ⟨_, rfl, _, rfl, D2, _, rfl, get (m12.trans sm) (inN z (List.mem_of_getElem? e)), hyes _ (by rw [e]; rfl) _ Same.refl⟩⟩
              · intro G3 m3 hE2x
                rw [List.length_map, range_list] at hE2x
                have m13 := m12.trans m3
                refine ⟨E2, _, rfl, SqL.of hE2x, fun rP G4 m4 hP => ?_⟩
                have m14 := m13.trans m4
                -- the values
                refine ⟨_, rfl, _, rfl, _, rfl, x, C, dx, _, _, rfl, m14 _ _ hx, X.cl, X.n3, rfl, aV, rfl, ⟨_, ((kk m14).tup tV).sq⟩, fun E3 hE3 => ?_⟩
                refine lc_o (walk_tup (K := K) (a := aV) (xs := us.map V.str)) (fun i => us[i]?.map fun z => V.str (rnF ms z)) (by rw [List.length_map, sizeLine_eq]; omega) hE3 (fun G sm => ((kk (m14.trans sm)).tup tV).sq) ?_ ?_
                · rintro i y G G' Nx hi sm hDx ⟨rfl, hy⟩ hno hyes
                  rw [List.getElem?_map] at hy
                  cases e : us[i]? with
                  | none => rw [e] at hy; cases hy
                  | some z =>
                    rw [e] at hy
                    cases hy
                    refine ⟨rfl, yes ⟨_, rfl, _, rfl, D2, _, rfl, get (m14.trans sm) (inU z (List.mem_of_getElem? e)), hyes _ (by rw [e]; rfl) _ Same.refl⟩⟩
                · intro G5 m5 hE3x
                  rw [List.length_map, range_list] at hE3x
                  refine ⟨E3, _, rfl, SqL.of hE3x, fun rV G6 m6 hV => ?_⟩
                  have m26 := (m3.trans m4).trans (m5.trans m6)
                  have m46 := m5.trans m6
                  obtain ⟨a1, a2, a3⟩ := fx.nP
                  have hmv : ∀ q ∈ ms, NameS q.2 := fun q hq => (hms q hq).2
                  refine make_spec (qs := ps.map (rnP ms)) (ms := ns.map (rnF ms)) (ts := us.map (rnF ms)) ⟨Dv.tupM ((kk m26).tup hA) (hws.kp (kk (m2.trans m26))), ?_, ?_, by rw [List.length_map]; omega, by rw [List.length_map]; omega, by rw [List.length_map]; omega, ?_⟩
                    (fun hf y H' fa sm => kg hnd2 y _ _ _ H' fa (((sm4.trans m14).trans m46).trans sm)) (fun hf H' sm => ?_)
                  · have := Dv.tupM ((kk m46).tup hP) (DvL.strs (ex := All) (H := G6) (ns.map (rnF ms)) |> fun h => by rw [List.map_map] at h; exact h)
                    exact this
                  · have := Dv.tupM hV (DvL.strs (ex := All) (H := G6) (us.map (rnF ms)) |> fun h => by rw [List.map_map] at h; exact h)
                    exact this
                  · exact ⟨fun q hq => by obtain ⟨p, hp, rfl⟩ := List.mem_map.mp hq; exact ⟨rnF_ok hmv (a1 p hp).1, rnF_ok hmv (a1 p hp).2⟩, fun z hz => by obtain ⟨p, hp, rfl⟩ := List.mem_map.mp hz; exact rnF_ok hmv (a2 p hp), fun z hz => by obtain ⟨p, hp, rfl⟩ := List.mem_map.mp hz; exact rnF_ok hmv (a3 p hp)⟩
                  · rw [good_map fx hmv hnd2] at hf
                    cases hf
          · have := lt.mpr hnd
            rw [decide_eq_true (by omega)]
            exact iteT (kb (fun z => hnd ((kn_map_nd fx.nd (rnF ms)).mpr z)) _ sm4)
end
end Kx
namespace Kx
open PySem PySem.Spec PyProof.Rows L2
theorem letB_eq {ps : List (Str × Str)} {ns us : List Str} (h : Names ps ns us) : letB ps ns us = decide ((allN ps ns us).Nodup ∧ ps.length ≤ 12 ∧ ns.length ≤ 6 ∧ us.length ≤ 6) := by
  by_cases q : (allN ps ns us).Nodup ∧ ps.length ≤ 12 ∧ ns.length ≤ 6 ∧ us.length ≤ 6
  · rw [decide_eq_true q]
    obtain ⟨q1, q2, q3, q4⟩ := q
    refine frameD_good ⟨q2, q3, q4, fun z hz => ?_, q1⟩
    rcases List.mem_append.mp hz with hz | hz
    · obtain ⟨p, hp, rfl⟩ := List.mem_map.mp hz
      exact (h.1 p hp).1
    · rcases List.mem_append.mp hz with hz | hz
      · obtain ⟨p, hp, rfl⟩ := List.mem_map.mp hz
        exact (h.1 p hp).2
      · rcases List.mem_append.mp hz with hz | hz
        · exact h.2.1 z hz
        · exact h.2.2 z hz
  · rw [decide_eq_false q]
    cases e : letB ps ns us with
    | false => rfl
    | true =>
      exfalso
      apply q
      have e' : ((arrsD (.tuple (ps.map pairD)) && (namesD 6 (.tuple (ns.map .str)) && namesD 6 (.tuple (us.map .str)))) && decide (allN (psOf (.tuple (ps.map pairD))) (nsOf (.tuple (ns.map .str))) (nsOf (.tuple (us.map .str)))).Nodup) = true := e
      rw [Bool.and_eq_true, Bool.and_eq_true, Bool.and_eq_true] at e'
      obtain ⟨⟨e1, e2, e3⟩, e4⟩ := e'
      have a1 := (arrs_true e1).2.1
      have a2 := (names_true e2).2.1
      have a3 := (names_true e3).2.1
      rw [ps_map] at a1
      rw [ns_map] at a2 a3
      rw [ps_map, ns_map, ns_map] at e4
      exact ⟨of_decide_eq_true e4, a1, a2, a3⟩
theorem eraseMap {α β : Type} (f : α → β) : ∀ (l : List α) (i : Nat), (l.map f).eraseIdx i = (l.eraseIdx i).map f
  | [], _ => rfl
  | _ :: _, 0 => rfl
  | x :: l, i + 1 => by
    show f x :: (l.map f).eraseIdx i = f x :: (l.eraseIdx i).map f
    rw [eraseMap f l i]
theorem erasePerm {α : Type} : ∀ (l : List α) (i : Nat) (h : i < l.length), (l[i] :: l.eraseIdx i).Perm l
  | [], _, h => absurd h (by simp)
  | x :: l, 0, _ => List.Perm.refl _
  | x :: l, i + 1, h => by
    have h' : i < l.length := by simpa using h
    show (l[i] :: x :: l.eraseIdx i).Perm (x :: l)
    exact (List.Perm.swap x l[i] _).trans ((erasePerm l i h').cons x)
/-- what stands in a record -/
structure RecAt (H : Hp) (R : Addr) (va vp vv : V) (ps : List (Str × Str)) (ns us : List Str) : Prop where
  l : H R = some (.lst [va, vp, vv])
  pt : Prt H va vp vv ps ns us
  b1 : ps.length ≤ 100
  b2 : ns.length ≤ 100
  b3 : us.length ≤ 100
theorem RecAt.kp {ex : Addr → Prop} {H H' : Hp} {R : Addr} {wa wp wv : V} {qs : List (Str × Str)} {ms ts : List Str} (h : RecAt H R wa wp wv qs ms ts) (k : Kp ex H H') (n : ¬ ex R) : RecAt H' R wa wp wv qs ms ts := ⟨k.get h.l n, h.pt.kp k, h.b1, h.b2, h.b3⟩
theorem RecAt.same {H H' : Hp} {R : Addr} {wa wp wv : V} {qs : List (Str × Str)} {ms ts : List Str} (h : RecAt H R wa wp wv qs ms ts) (k : Same H H') : RecAt H' R wa wp wv qs ms ts := ⟨k _ _ h.l, h.pt.kp (Kp.same (ex := All) k), h.b1, h.b2, h.b3⟩
section
variable {P : Program} {w : World} {K : PySem.W.Frag} {mg : Str → Option Value} {base : Heap}
abbrev N_law_shuffled : List Str := ["pot", "items", "left", "turn"]
abbrev P_law_shuffled : List Str := ["pot", "items"]
theorem sc_law_shuffled : FnScope N_law_shuffled P_law_shuffled (defScope s_law_shuffled) := ⟨rfl, rfl, rfl, by decide +kernel, rfl, by decide +kernel, by decide +kernel⟩
def spShuf : Sp := fun vs H Q _ => ∃ (p a : Addr) (n : Nat) (zs : List Str), vs = [.ref p, .ref a] ∧ PotAt H p n ∧ n ≤ 700000 ∧ H a = some (.lst (zs.map V.str)) ∧ a ≠ p ∧ zs.length ≤ 100 ∧
  ∀ (D : Addr) (ws : List Str) (H' : Hp), H D = none → ws.Perm zs → H' D = some (.lst (ws.map V.str)) → PotAt H' p (n + zs.length) → KpP p H H' → Q (.ref D) H'
theorem ok_shuf (T : Bt mg) (h : Has K mg "_law_shuffled" s_law_shuffled) (C1 : Ca P w K mg base 1 "_law_dip" P_law_dip spDip) : Ca P w K mg base 2 "_law_shuffled" P_law_shuffled spShuf := by
  obtain ⟨_, _, c__law_dip⟩ := C1
  refine cal_of h sc_law_shuffled (fun _ _ _ _ _ _ us hl => match us, hl with | [_, _], _ => rfl) (fun vs H Q E h => ?_) (fun f cdv A outer s H vs Q E hr h => ?_)
  · obtain ⟨p, a, n, zs, rfl, _⟩ := h
    rfl
  · obtain ⟨p, a, n, zs, rfl, hp, hn, ha, hap, hz, k⟩ := h
    refine ⟨_, (pss_cons (ps_set (i := 2) sc_law_shuffled.nd rfl (.inr rfl) (pe_callTy call_list_of (by rfl) T.list (by decide +kernel) (pa_cons (pv 1) pa_nil)))
      (pss_one (ps_ret (pe_lc (own := [("turn", 3)]) (g := (gName 3)) (tt := tYes) (by rfl) sc_law_shuffled.nd (pi_range1 rfl T.range (pa_cons (pe_callB call_len (by rfl) T.len (by decide +kernel) (pa_cons (pv 1) pa_nil)) pa_nil)) (blkOk_by (own := [("turn", 3)]) (N := ["pot", "items", "left", "turn"]) (sc := defScope s_law_shuffled) (by decide +kernel)) (fun _ _ _ _ _ => pg_name (i := 3) sc_law_shuffled.nd rfl (Or.inl rfl)) (fun _ _ _ _ _ => pts_nil) (fun _ _ _ _ _ => (show PE _ _ (tBM K "list" rPopAt (tVar 2) (tCons (tCall spDip [] E0 (tCons (tVar 0) (tCons (tCB (rLen K) (tCons (tVar 2) tNil)) tNil))) tNil)) from (pe_bm PySem.F.plainAttrs_list PySem.F.slot_list_pop PySem.F.type_list_pop mt_popAt (pv 2) (pa_cons (pe_call c__law_dip.1 (hr.mono (by decide)) rfl c__law_dip.2.1 c__law_dip.2.2.1 c__law_dip.2.2.2 .nil pass0 (pa_cons (pv 0) (pa_cons (pe_callB (show CallR _ _ (rLen K) from call_len) (by rfl) T.len (by decide +kernel) (pa_cons (pv 2) pa_nil)) pa_nil))) pa_nil)))))))), ?_⟩
    refine ⟨_, rfl, a, _, rfl, .inl (SqL.of ha), fun L hL => ?_⟩
    have hLp : L ≠ p := hp.ne hL
    have ha1 : (upd H L (.lst (zs.map V.str))) a = some (.lst (zs.map V.str)) := by rw [upd_ne (ne_of_none ha hL)]; exact ha
    refine ⟨_, rfl, _, _, rfl, .inl ⟨_, SqL.of ha1, rfl⟩, _, rfl, by rw [List.length_map]; omega, by rw [List.length_map]; omega, fun D hD => ?_⟩
    have hDL : L ≠ D := ne_of_none upd_same hD
    have hDp : D ≠ p := (hp.same (Same.upd hL)).ne hD
    have hDn : H D = none := by rw [upd_ne hDL.symm] at hD; exact hD
    rw [List.length_map]
    refine lc_range (lo := 0) (n := ((zs.length : Nat) : Int).toNat) (fun i Hx => ∃ ws rest : List Str, Hx D = some (.lst (ws.map V.str)) ∧ Hx L = some (.lst (rest.map V.str)) ∧ (ws ++ rest).Perm zs ∧ ws.length = i ∧ PotAt Hx p (n + i) ∧ KpP p H Hx)
      ⟨[], zs, upd_same, by rw [upd_ne hDL]; exact upd_same, List.Perm.refl _, rfl, (hp.same (Same.upd hL)).same (Same.upd hD), Kp.same ((Same.upd hL).trans (Same.upd hD))⟩ ?_ ?_
    · rintro i Hx hi ⟨ws, rest, hDx, hLx, hperm, hwl, hpx, hkx⟩
      have hlen := hperm.length_eq
      rw [List.length_append] at hlen
      have hrest : 1 ≤ rest.length := by omega
      refine ⟨rfl, yes ?_⟩
      refine ⟨_, rfl, .inl ⟨rfl, _, SqL.of hLx⟩, _, rfl, _, rfl, _, _, rfl, .inl ⟨_, SqL.of hLx, rfl⟩, p, n + i, _, rfl, hpx, by omega, by rw [List.length_map]; omega, by rw [List.length_map]; omega, fun d H1 hd0 hd1 hp1 hk1 => ?_⟩
      rw [List.length_map] at hd1
      have hL1 := hk1.get hLx hLp
      have hD1 := hk1.get hDx hDp
      have hj : d.toNat < rest.length := by omega
      refine ⟨L, _, d, d.toNat, .str rest[d.toNat], rfl, rfl, hL1, by omega, by omega, by rw [List.length_map]; exact PySem.seqIndex_of hd0 (by omega), by rw [List.getElem?_map, List.getElem?_eq_getElem hj]; rfl, ?_⟩
      have hD2 : (upd H1 L (.lst ((rest.map V.str).eraseIdx d.toNat))) D = some (.lst (ws.map V.str)) := by rw [upd_ne hDL.symm]; exact hD1
      refine ⟨_, hD2, by rw [List.length_map, hwl, sizeLine_eq]; omega, ws ++ [rest[d.toNat]], rest.eraseIdx d.toNat, by rw [upd_same, List.map_append]; rfl, ?_, ?_, by rw [List.length_append, hwl]; rfl, ?_, ?_⟩
      · rw [upd_ne hDL, upd_same]
        congr 2
        rw [eraseMap]
      · refine List.Perm.trans ?_ hperm
        rw [List.append_assoc]
        refine List.Perm.append_left ws ?_
        exact erasePerm rest d.toNat hj
      · obtain ⟨a1, b1, c1, e1, r1⟩ := hp1
        exact ⟨a1, b1, c1, by rw [upd_ne hDp.symm, upd_ne hLp.symm]; exact e1, by omega⟩
      · intro b o hb hbp
        have nL : b ≠ L := ne_of_none hb hL
        have nD : b ≠ D := ne_of_none hb hDn
        rw [upd_ne nD, upd_ne nL]
        exact hk1 b o (hkx b o hb hbp) hbp
    · rintro Hx ⟨ws, rest, hDx, hLx, hperm, hwl, hpx, hkx⟩
      have hlen := hperm.length_eq
      rw [List.length_append] at hlen
      have hr0 : rest = [] := List.eq_nil_of_length_eq_zero (by omega)
      subst hr0
      rw [List.append_nil] at hperm
      exact k D ws Hx hDn hperm hDx (hpx.mono (by omega)) hkx
abbrev N_law_all_names : List Str := ["record", "pair"]
abbrev P_law_all_names : List Str := ["record"]
theorem sc_law_all_names : FnScope N_law_all_names P_law_all_names (defScope s_law_all_names) := ⟨rfl, rfl, rfl, by decide +kernel, rfl, by decide +kernel, by decide +kernel⟩
def spAllN : Sp := fun vs H Q _ => ∃ (R : Addr) (va vp vv : V) (ps : List (Str × Str)) (ns us : List Str), vs = [.ref R] ∧ RecAt H R va vp vv ps ns us ∧ ∀ (D : Addr) (H' : Hp), H D = none → Same H H' → H' D = some (.lst ((allN ps ns us).map V.str)) → Q (.ref D) H'
theorem ok_alln (T : Bt mg) (h : Has K mg "_law_all_names" s_law_all_names) (C1 : Ca P w K mg base 1 "_law_lengths" P_law_lengths spLengths) : Ca P w K mg base 2 "_law_all_names" P_law_all_names spAllN := by
  obtain ⟨_, _, c__law_lengths⟩ := C1
  refine cal_of h sc_law_all_names (fun _ _ _ _ _ _ us hl => match us, hl with | [_], _ => rfl) (fun vs H Q E h => ?_) (fun f cdv A outer s H vs Q E hr h => ?_)
  · obtain ⟨R, va, vp, vv, ps, ns, us, rfl, _⟩ := h
    rfl
  · obtain ⟨R, va, vp, vv, ps, ns, us, rfl, ⟨hR, pt, b1, b2, b3⟩, k⟩ := h
    refine ⟨_, (pss_one (ps_ret (pe_op op_cat (pe_op op_cat (pe_lc (own := [("pair", 1)]) (g := (gName 1)) (tt := tYes) (by rfl) sc_law_all_names.nd (pi_tup (pe_ix ix_list (pv 0) pe_int (fun _ _ => rfl))) (blkOk_by (own := [("pair", 1)]) (N := ["record", "pair"]) (sc := defScope s_law_all_names) (by decide +kernel)) (fun _ _ _ _ _ => pg_name (i := 1) sc_law_all_names.nd rfl (Or.inl rfl)) (fun _ _ _ _ _ => pts_nil) (fun _ _ _ _ _ => (pe_ix (show IxR _ (rIxT K) from ix_tup) (pv 1) pe_int (fun _ _ => rfl)))) (pe_call c__law_lengths.1 (hr.mono (by decide)) rfl c__law_lengths.2.1 c__law_lengths.2.2.1 c__law_lengths.2.2.2 .nil pass0 (pa_cons (pe_ix ix_list (pv 0) pe_int (fun _ _ => rfl)) pa_nil))) (pe_callTy call_list_of (by rfl) T.list (by decide +kernel) (pa_cons (pe_op op_catF (pe_ix ix_list (pv 0) pe_int (fun _ _ => rfl)) (pe_ix ix_list (pv 0) pe_int (fun _ _ => rfl))) pa_nil))))), ?_⟩
    obtain ⟨aA, xA, rfl, tA, dA⟩ := pt.a.tupI
    obtain ⟨aP, xP, rfl, tP, dP⟩ := pt.p.tupI
    obtain ⟨aV, xV, rfl, tV, dV⟩ := pt.v.tupI
    have n1 := dA.len
    have n2 := dP.len
    have n3 := dV.len
    rw [List.length_map] at n1 n2 n3
    have eP := dP.strE
    have eV := dV.strE
    subst eP eV
    have kk : ∀ {G G' : Hp}, Same G G' → Kp All G G' := fun m => Kp.same m
    have ul := uniq_len (ps.map (·.2))
    rw [List.length_map] at ul
    refine ⟨_, rfl, R, _, 0, _, rfl, rfl, SqL.of hR, rfl, aA, rfl, ⟨_, tA.sq⟩, fun D hD => ?_⟩
    refine lc_o (walk_tup (K := K) (a := aA) (xs := xA)) (fun i => ps[i]?.map fun q => V.str q.1) (by rw [sizeLine_eq]; omega) hD (fun Hx sm => ((kk sm).tup tA).sq) ?_ ?_
    · rintro i y Hx H' Nx hi sm hDx ⟨rfl, hy⟩ hno hyes
      obtain ⟨e, he, dve⟩ := dA.get hy
      have hi' : i < ps.length := by omega
      rw [List.getElem?_map, List.getElem?_eq_getElem hi'] at he
      cases he
      obtain ⟨b, rfl, hb⟩ := dve.pairI
      refine ⟨rfl, yes ⟨_, rfl, b, _, 0, _, rfl, rfl, ((kk sm).tup hb).sq, rfl, hyes _ (by rw [List.getElem?_eq_getElem hi']; rfl) _ Same.refl⟩⟩
    · intro H1 m1 hD1
      rw [n1, range_list] at hD1
      refine ⟨_, rfl, R, _, 0, _, rfl, rfl, SqL.of (m1 _ _ hR), rfl, All, _, ps, rfl, pt.a.kp (kk m1), b1, fun D2 H2 hD2 m2 hD2x => ?_⟩
      refine ⟨D, D2, _, _, rfl, rfl, m2 _ _ hD1, hD2x, by rw [List.length_map, List.length_map, sizeLine_eq]; omega, fun D3 hD3 => ?_⟩
      have m12 := m1.trans m2
      have m3 : Same H2 (upd H2 D3 (.lst ((ps.map fun q => V.str q.1) ++ (uniq (ps.map (·.2))).map V.str))) := Same.upd hD3
      have e3 : (upd H2 D3 (.lst ((ps.map fun q => V.str q.1) ++ (uniq (ps.map (·.2))).map V.str))) D3 = some (.lst ((ps.map fun q => V.str q.1) ++ (uniq (ps.map (·.2))).map V.str)) := upd_same
      generalize upd H2 D3 (.lst ((ps.map fun q => V.str q.1) ++ (uniq (ps.map (·.2))).map V.str)) = H3 at m3 e3 ⊢
      have m13 := m12.trans m3
      refine ⟨_, rfl, R, _, 1, _, rfl, rfl, SqL.of (m13 _ _ hR), rfl, _, rfl, R, _, 2, _, rfl, rfl, SqL.of (m13 _ _ hR), rfl, aP, aV, _, _, rfl, rfl, (kk m13).tup tP, (kk m13).tup tV, by rw [List.length_map, List.length_map, sizeLine_eq]; omega, fun t4 H4 m4 h4 => ?_⟩
      refine ⟨t4, _, rfl, .inr h4.sq, fun D5 hD5 => ?_⟩
      have m5 : Same H4 (upd H4 D5 (.lst (ns.map V.str ++ us.map V.str))) := Same.upd hD5
      have hDn : H D = none := hD
      refine ⟨D3, D5, _, _, rfl, rfl, m5 _ _ (m4 _ _ e3), upd_same, by simp only [List.length_append, List.length_map]; rw [sizeLine_eq]; omega, fun D6 hD6 => ?_⟩
      have m6 := (m4.trans m5).trans (Same.upd (o := .lst (((ps.map fun q => V.str q.1) ++ (uniq (ps.map (·.2))).map V.str) ++ (ns.map V.str ++ us.map V.str))) hD6)
      have hD6n : H D6 = none := by
        cases e : H D6 with
        | none => rfl
        | some o =>
          have := (m13.trans (m4.trans m5)) _ _ e
          rw [hD6] at this
          cases this
      refine k D6 _ hD6n (m13.trans m6) ?_
      rw [upd_same]
      congr 2
      simp only [List.map_append, List.map_map, List.append_assoc]
      rfl
abbrev N_law_is_let : List Str := ["record", "names"]
abbrev P_law_is_let : List Str := ["record"]
theorem sc_law_is_let : FnScope N_law_is_let P_law_is_let (defScope s_law_is_let) := ⟨rfl, rfl, rfl, by decide +kernel, rfl, by decide +kernel, by decide +kernel⟩
def spLet : Sp := fun vs H Q _ => ∃ (R : Addr) (va vp vv : V) (ps : List (Str × Str)) (ns us : List Str), vs = [.ref R] ∧ RecAt H R va vp vv ps ns us ∧ ∀ (H' : Hp), Same H H' → Q (.bl (letB ps ns us)) H'
theorem ok_let (T : Bt mg) (h : Has K mg "_law_is_let" s_law_is_let) (C1 : Ca P w K mg base 2 "_law_all_names" P_law_all_names spAllN) : Ca P w K mg base 3 "_law_is_let" P_law_is_let spLet := by
  obtain ⟨_, _, c__law_all_names⟩ := C1
  refine cal_of h sc_law_is_let (fun _ _ _ _ _ _ us hl => match us, hl with | [_], _ => rfl) (fun vs H Q E h => ?_) (fun f cdv A outer s H vs Q E hr h => ?_)
  · obtain ⟨R, va, vp, vv, ps, ns, us, rfl, _⟩ := h
    rfl
  · obtain ⟨R, va, vp, vv, ps, ns, us, rfl, rec, k⟩ := h
    refine ⟨_, (pss_cons (ps_set (i := 1) sc_law_is_let.nd rfl (.inl rfl) (pe_call c__law_all_names.1 (hr.mono (by decide)) rfl c__law_all_names.2.1 c__law_all_names.2.2.1 c__law_all_names.2.2.2 .nil pass0 (pa_cons (pv 0) pa_nil)))
      (pss_cons (ps_if (pt_cmpR op_lt (pe_lenSetS rfl rfl T.len rfl T.set (pv 1)) (pe_callB call_len (by rfl) T.len (by decide +kernel) (pa_cons (pv 1) pa_nil)) (nomark _)) (pss_one (ps_ret pe_bl)) pss_nil)
      (pss_one (ps_ret (pe_and (pe_cmpR op_lt (pe_callB call_len (by rfl) T.len (by decide +kernel) (pa_cons (pe_ix ix_list (pv 0) pe_int (fun _ _ => rfl)) pa_nil)) pe_int (nomark _)) (pe_and (pe_cmpR op_lt (pe_callB call_len (by rfl) T.len (by decide +kernel) (pa_cons (pe_ix ix_list (pv 0) pe_int (fun _ _ => rfl)) pa_nil)) pe_int (nomark _)) (pe_one (pe_cmpR op_lt (pe_callB call_len (by rfl) T.len (by decide +kernel) (pa_cons (pe_ix ix_list (pv 0) pe_int (fun _ _ => rfl)) pa_nil)) pe_int (nomark _))))))))), ?_⟩
    have rec0 := rec
    obtain ⟨hR, pt, b1, b2, b3⟩ := rec
    obtain ⟨aA, xA, rfl, tA, dA⟩ := pt.a.tupI
    obtain ⟨aP, xP, rfl, tP, dP⟩ := pt.p.tupI
    obtain ⟨aV, xV, rfl, tV, dV⟩ := pt.v.tupI
    have n1 := dA.len
    have n2 := dP.len
    have n3 := dV.len
    rw [List.length_map] at n1 n2 n3
    have kk : ∀ {G G' : Hp}, Same G G' → Kp All G G' := fun m => Kp.same m
    have ul := uniq_len (ps.map (·.2))
    rw [List.length_map] at ul
    have al : (allN ps ns us).length ≤ 1000 := by
      simp only [List.length_append, List.length_map]
      omega
    refine ⟨_, rfl, R, _, _, _, ps, ns, us, rfl, rec0, fun D H1 hD m1 hD1 => ?_⟩
    have done : ∀ b, b = letB ps ns us → Q (.bl b) H1 := fun b e => e ▸ k H1 m1
    refine ⟨_, rfl, D, allN ps ns us, rfl, SqL.of hD1, al, _, rfl, _, _, rfl, .inl ⟨_, SqL.of hD1, rfl⟩, ?_⟩
    rw [List.length_map]
    refine ⟨_, _, rfl, rfl, _, rfl, ?_⟩
    have lt := uniq_lt (allN ps ns us)
    rw [letB_eq pt.nm] at done
    by_cases nd : (allN ps ns us).Nodup
    · have : ¬ (uniq (allN ps ns us)).length < (allN ps ns us).length := fun z => (lt.mp z) nd
      rw [decide_eq_false (by omega)]
      have hR1 := m1 _ _ hR
      refine iteF ⟨_, rfl, R, _, 0, _, rfl, rfl, SqL.of hR1, rfl, _, _, rfl, .inr ⟨_, ((kk m1).tup tA).sq, rfl⟩, _, _, rfl, rfl, _, rfl, ?_⟩
      by_cases h1 : ps.length ≤ 12
      · rw [decide_eq_true (by omega)]
        refine iteT ⟨_, rfl, R, _, 1, _, rfl, rfl, SqL.of hR1, rfl, _, _, rfl, .inr ⟨_, ((kk m1).tup tP).sq, rfl⟩, _, _, rfl, rfl, _, rfl, ?_⟩
        by_cases h2 : ns.length ≤ 6
        · rw [decide_eq_true (by omega)]
          refine iteT ⟨_, rfl, R, _, 2, _, rfl, rfl, SqL.of hR1, rfl, _, _, rfl, .inr ⟨_, ((kk m1).tup tV).sq, rfl⟩, _, _, rfl, rfl, ?_⟩
          refine done _ (decide_eq_decide.mpr ⟨fun q => ⟨nd, h1, h2, by omega⟩, fun q => by have := q.2.2.2; omega⟩)
        · rw [decide_eq_false (by omega)]
          exact iteF (done _ (decide_eq_false fun q => h2 q.2.2.1).symm)
      · rw [decide_eq_false (by omega)]
        exact iteF (done _ (decide_eq_false fun q => h1 q.2.1).symm)
    · have := lt.mpr nd
      rw [decide_eq_true (by omega)]
      exact iteT (done _ (decide_eq_false fun q => nd q.1).symm)
end
end Kx
namespace Kx
open PySem PySem.Spec PyProof.Rows L2
theorem Dv.no {ex : Addr → Prop} {H : Hp} {v : V} {d : PyData} (h : Dv All H v d) : Dv ex H v d := h.mono Kp.refl fun _ _ => trivial
def four (ps : List (Str × Str)) (ns us : List Str) : PyData := .list [.tuple (ps.map pairD), .tuple (ns.map .str), .tuple (us.map .str), .tuple ((uniq (ps.map (·.2))).map .str)]
theorem four_ok {ps : List (Str × Str)} {ns us : List Str} (l1 : ps.length ≤ 12) (l2 : ns.length ≤ 6) (l3 : us.length ≤ 6) (h : Names ps ns us) : okD (four ps ns us) ∧ (four ps ns us).depth ≤ 60 ∧ cost (four ps ns us) ≤ sizeLine := by
  obtain ⟨h1, h2, h3⟩ := h
  have h4 : ∀ z ∈ uniq (ps.map (·.2)), NameS z := fun z hz => by
    obtain ⟨q, hq, rfl⟩ := List.mem_map.mp ((uniq_mem _ _).mp hz)
    exact (h1 q hq).2
  have l4 := uniq_len (ps.map (·.2))
  rw [List.length_map] at l4
  have c1 := pairs_cost h1
  have c2 := strs_cost h2
  have c3 := strs_cost h3
  have c4 := strs_cost h4
  have d1 := pairs_dep ps
  refine ⟨?_, ?_, ?_⟩
  · unfold four
    simp only [okD, okL]
    refine ⟨okL_mem.mpr fun x hx => ?_, strs_ok h2, strs_ok h3, strs_ok h4, trivial⟩
    obtain ⟨q, hq, rfl⟩ := List.mem_map.mp hx
    simp only [pairD, okD, okL]
    exact ⟨okS_name (h1 q hq).1, okS_name (h1 q hq).2, trivial⟩
  · unfold four
    simp only [PyData.depth, PyData.depthAll, strs_dep]; omega
  · unfold four
    rw [sizeLine_eq]
    simp only [cost, costL]; omega
/-- the entries of the law's own dict of kinds -/
def k0 (ps : List (Str × Str)) : List (Str × V) := ps.map (fun q => (q.1, V.str "array")) ++ (uniq (ps.map (·.2))).map fun z => (z, V.str "length")
def kx (ns us : List Str) : List (List (Str × V)) := [ns.map fun z => (z, V.str "position"), us.map fun z => (z, V.str "value")]
theorem k0_keys (ps : List (Str × Str)) : (k0 ps).map (·.1) = ps.map (·.1) ++ uniq (ps.map (·.2)) := by
  unfold k0
  rw [List.map_append, List.map_map, List.map_map]
  congr 1
  exact List.map_id _
theorem kx_keys (ns us : List Str) : ((kx ns us).flatten).map (·.1) = ns ++ us := by
  unfold kx
  simp only [List.flatten_cons, List.flatten_nil, List.append_nil, List.map_append, List.map_map]
  congr 1
  · exact List.map_id _
  · exact List.map_id _
theorem kAll_keys (ps : List (Str × Str)) (ns us : List Str) : (k0 ps ++ (kx ns us).flatten).map (·.1) = allN ps ns us := by
  rw [List.map_append, k0_keys, kx_keys, List.append_assoc]
theorem kAll_val {ps : List (Str × Str)} {ns us : List Str} (nd : (allN ps ns us).Nodup) (z : Str) : valV (dictV (k0 ps ++ (kx ns us).flatten)) (.inr z) = if z ∈ allN ps ns us then some (.str (kindF ps ns z)) else none := by
  rw [dictV_val (fun z => V.str (kindF ps ns z)) _ ?_ z, kAll_keys]
  intro q hq
  unfold k0 kx at hq
  rcases List.mem_append.mp hq with hq | hq
  · rcases List.mem_append.mp hq with hq | hq
    · obtain ⟨p, hp, rfl⟩ := List.mem_map.mp hq
      exact congrArg V.str (kind_array nd p.1 (List.mem_map.mpr ⟨p, hp, rfl⟩)).symm
    · obtain ⟨y, hy, rfl⟩ := List.mem_map.mp hq
      exact congrArg V.str (kind_length nd y ((uniq_mem _ _).mp hy)).symm
  · simp only [List.flatten_cons, List.flatten_nil, List.append_nil] at hq
    rcases List.mem_append.mp hq with hq | hq
    · obtain ⟨y, hy, rfl⟩ := List.mem_map.mp hq
      exact congrArg V.str (kind_position nd y hy).symm
    · obtain ⟨y, hy, rfl⟩ := List.mem_map.mp hq
      exact congrArg V.str (kind_value nd y hy).symm
theorem kAll_len {ps : List (Str × Str)} {ns us : List Str} (nd : (allN ps ns us).Nodup) : dictV (k0 ps ++ (kx ns us).flatten) = (k0 ps ++ (kx ns us).flatten).map fun q => (Sum.inr q.1, q.2) := dictV_nd _ (by rw [kAll_keys]; exact nd)
theorem dupB {S : Bool → Prop} {T : Bool → Prop} {goal : Prop} (main : (∀ b, S b → T b) → goal) (body : ∀ b, S b → T b) : goal := main body
theorem make_specA {C I : Addr} {H : Hp} {wa wp wv : V} {qs : List (Str × Str)} {ms ts : List Str} {Qa : Addr → Hp → Prop} {E : XK} (h : Prt H wa wp wv qs ms ts)
    (kg : letB qs ms ts = true → ∀ y H', FrameAt C H' y wa wp wv qs ms ts → Same H H' → Qa y H') (kb : letB qs ms ts = false → ∀ H', Same H H' → E (.ref I) none H') :
    ∀ x dx, H x = none → H dx = none → dx ≠ x → spInit C I [.ref x, wa, wp, wv] (upd (upd H dx (.own x)) x (.ins C dx [])) (fun v H2 => v = .non ∧ Qa x H2) E :=
  make_spec (Q := fun v H => match v with | .ref a => Qa a H | _ => False) h kg kb
abbrev Non : Addr → Prop := fun _ => False
/-- what the law looks at in a value -/
def OddV (ps : List (Str × Str)) (ns us : List Str) (G : Hp) (v : V) : Prop := ∃ d, Dv Non G v d ∧ cost d ≤ 1000 ∧ freshD ps ns us d = (strInD ["zz", "k"] d && !hasD ps ns us d)
theorem OddV.same {ps : List (Str × Str)} {ns us : List Str} {G G' : Hp} {v : V} (h : OddV ps ns us G v) (k : Same G G') : OddV ps ns us G' v := let ⟨d, a, b⟩ := h; ⟨d, a.kp (Kp.same k), b⟩
theorem odd_name {ps : List (Str × Str)} {ns us : List Str} {G : Hp} {z : Str} (hn : NameS z) (hz : z ∈ allN ps ns us) : OddV ps ns us G (.str z) := by
  refine ⟨.str z, .str z, ?_, ?_⟩
  · simp only [cost]
    have := hn.2.1
    omega
  · unfold freshD
    rw [show hasD ps ns us (.str z) = true from decide_eq_true hz]
    rw [Bool.not_true, Bool.and_false, Bool.and_false]
theorem odd_str {ps : List (Str × Str)} {ns us : List Str} {G : Hp} (z : Str) (hl : z.length ≤ 20) (h : nameD (.str z) = strInD ["zz", "k"] (.str z)) : OddV ps ns us G (.str z) := by
  refine ⟨.str z, .str z, ?_, ?_⟩
  · simp only [cost]; omega
  · unfold freshD
    rw [h]
theorem odd_dat {ps : List (Str × Str)} {ns us : List Str} {G : Hp} {v : V} {d : PyData} (dv : Dv Non G v d) (hc : cost d ≤ 1000) (h1 : nameD d = false) (h2 : strInD ["zz", "k"] d = false) : OddV ps ns us G v := by
  refine ⟨d, dv, hc, ?_⟩
  unfold freshD
  rw [h1, h2]
/-- pairs of a name and a word, new tuples in a row -/
theorem DvL.pairsK {K : PySem.W.Frag} {H : Hp} : ∀ {ws : List V} {l : List (Str × Str)}, DvL All H ws (l.map pairD) → ∃ as : List Addr, ws = as.map V.ref ∧ Paired (fun p kv => SqT K H p [kV kv.1, kv.2]) as (l.map fun q => ((Sum.inr q.1 : Key), V.str q.2)) := fun h => by
  obtain ⟨as, e, p⟩ := DvL.paired (K := K) h
  exact ⟨as, e, p (ey := All) _ Kp.refl⟩
section
variable {P : Program} {w : World} {K : PySem.W.Frag} {mg : Str → Option Value} {base : Heap}
abbrev N_law_is_told : List Str := ["frame", "record", "lengths", "kinds", "name", "at", "value", "has_it", "due", "rows", "pair", "length", "row"]
abbrev P_law_is_told : List Str := ["frame", "record"]
theorem sc_law_is_told : FnScope N_law_is_told P_law_is_told (defScope s_law_is_told) := ⟨rfl, rfl, rfl, by decide +kernel, rfl, by decide +kernel, by decide +kernel⟩
def spTold (C : Addr) : Sp := fun vs H Q _ => ∃ (x R : Addr) (va vp vv wa wp wv : V) (ps : List (Str × Str)) (ns us : List Str), vs = [.ref x, .ref R] ∧ FrameAt C H x va vp vv ps ns us ∧ RecAt H R wa wp wv ps ns us ∧ ∀ H', Same H H' → Q (.bl true) H'
theorem ok_told {om : Obj} (hK : K.lookup sysModules = some om) (T : Bt mg) {C I f0 : Addr} {fd0 : FuncData} (X : Fx K mg C) (FI : Fi K C) (h : Has K mg "_law_is_told" s_law_is_told) (C1 : Ca P w K mg base 1 "_law_lengths" P_law_lengths spLengths)
    (A1 : Pr P w K mg base C "arrays" "_arrays") (A2 : Pr P w K mg base C "positions" "_positions") (A3 : Pr P w K mg base C "amounts" "_amounts") (A4 : Pr P w K mg base C "lengths" "_lengths")
    (M1 : Me P w K mg base C 2 "kind_of" P_Frame_kind_of (spKindOf C)) (M2 : Me P w K mg base C 1 "__contains__" P_Frame_contains (spHas C)) (M3 : Me P w K mg base C 2 "is_fresh" P_Frame_is_fresh (spFresh C)) (M4 : Me P w K mg base C 2 "length_of" P_Frame_length_of (spLenOf C))
    (M5 : Me P w K mg base C 2 "__str__" P_Frame_str (spStr C)) (M6 : Me P w K mg base C 1 "__len__" P_Frame_len (spLen C)) (M7 : Me P w K mg base C 1 "__eq__" P_Frame_eq (spEqF C)) (M : Mk K C f0)
    (F0 : FnOk P w K mg base (L2N.CX P w) 5 f0 fd0 P_Frame_init (spInit C I)) (b0 : Binds K fd0 P_Frame_init []) : CaG P w K mg base 8 "_law_is_told" P_law_is_told (spTold C) := by
  obtain ⟨_, _, c__law_lengths⟩ := C1
  obtain ⟨_, _, _, p_arrays⟩ := A1
  obtain ⟨_, _, _, p_positions⟩ := A2
  obtain ⟨_, _, _, p_amounts⟩ := A3
  obtain ⟨_, _, _, p_lengths⟩ := A4
  obtain ⟨_, _, c_kind_of⟩ := M1
  obtain ⟨_, _, c_contains⟩ := M2
  obtain ⟨_, _, c_is_fresh⟩ := M3
  obtain ⟨_, _, c_length_of⟩ := M4
  obtain ⟨_, _, c_str⟩ := M5
  obtain ⟨_, _, c_len⟩ := M6
  obtain ⟨_, _, c_eq⟩ := M7
  refine calG_of h sc_law_is_told (fun _ _ _ _ _ _ us hl => match us, hl with | [_, _], _ => rfl) (fun vs H Q E h => ?_) (fun f cdv A outer s H vs Q E hgd hr h => ?_)
  · obtain ⟨x, R, va, vp, vv, wa, wp, wv, ps, ns, us, rfl, _⟩ := h
    rfl
  · obtain ⟨x, R, va, vp, vv, wa, wp, wv, ps, ns, us, rfl, fr, rec, kq⟩ := h
    refine ⟨_, (pss_cons (ps_set (i := 2) sc_law_is_told.nd rfl (.inl rfl) (pe_call c__law_lengths.1 (hr.mono (by decide)) rfl c__law_lengths.2.1 c__law_lengths.2.2.1 c__law_lengths.2.2.2 .nil pass0 (pa_cons (pe_ix ix_list (pv 1) pe_int (fun _ _ => rfl)) pa_nil)))
      (pss_cons (ps_if (pt_cmpR op_ne (pe_callB (call_repr2 hK hgd hr.units) (by rfl) T.repr (by decide +kernel) (pa_cons (pe_lst (pa_cons (pe_prop (pv 0) X.cl p_arrays.1 p_arrays.2.1 (hr.mono (by decide)) p_arrays.2.2 .nil pass0 rfl) (pa_cons (pe_prop (pv 0) X.cl p_positions.1 p_positions.2.1 (hr.mono (by decide)) p_positions.2.2 .nil pass0 rfl) (pa_cons (pe_prop (pv 0) X.cl p_amounts.1 p_amounts.2.1 (hr.mono (by decide)) p_amounts.2.2 .nil pass0 rfl) (pa_cons (pe_prop (pv 0) X.cl p_lengths.1 p_lengths.2.1 (hr.mono (by decide)) p_lengths.2.2 .nil pass0 rfl) pa_nil))))) pa_nil)) (pe_callB (call_repr2 hK hgd hr.units) (by rfl) T.repr (by decide +kernel) (pa_cons (pe_op op_cat (pv 1) (pe_lst (pa_cons (pe_callTy call_tupF (by rfl) T.tuple (by decide +kernel) (pa_cons (pv 2) pa_nil)) pa_nil))) pa_nil)) (nomark _)) (pss_one (ps_ret pe_bl)) pss_nil)
      (pss_cons (ps_set (i := 3) sc_law_is_told.nd rfl (.inr rfl) (pe_callTy (call_dictP rfl) (by rfl) T.dict (by decide +kernel) (pa_cons (pe_op op_cat (pe_lc (own := [("pair", 10)]) (g := (gName 10)) (tt := tYes) (by rfl) sc_law_is_told.nd (pi_tup (pe_ix ix_list (pv 1) pe_int (fun _ _ => rfl))) (blkOk_by (own := [("pair", 10)]) (N := ["frame", "record", "lengths", "kinds", "name", "at", "value", "has_it", "due", "rows", "pair", "length", "row"]) (sc := defScope s_law_is_told) (by decide +kernel)) (fun _ _ _ _ _ => pg_name (i := 10) sc_law_is_told.nd rfl (Or.inl rfl)) (fun _ _ _ _ _ => pts_nil) (fun _ _ _ _ _ => (pe_tupF (pa_cons (pe_ix (show IxR _ (rIxT K) from ix_tup) (pv 10) pe_int (fun _ _ => rfl)) (pa_cons pe_str pa_nil))))) (pe_lc (own := [("name", 4)]) (g := (gName 4)) (tt := tYes) (by rfl) sc_law_is_told.nd (pi_list (pv 2)) (blkOk_by (own := [("name", 4)]) (N := ["frame", "record", "lengths", "kinds", "name", "at", "value", "has_it", "due", "rows", "pair", "length", "row"]) (sc := defScope s_law_is_told) (by decide +kernel)) (fun _ _ _ _ _ => pg_name (i := 4) sc_law_is_told.nd rfl (Or.inl rfl)) (fun _ _ _ _ _ => pts_nil) (fun _ _ _ _ _ => (pe_tupF (pa_cons (pv 4) (pa_cons pe_str pa_nil)))))) pa_nil)))
      (pss_cons (ps_for PassesOwn.never rfl (pi_tup (pe_tupF (pa_cons pe_int (pa_cons pe_int pa_nil)))) (pg_name (i := 5) sc_law_is_told.nd rfl (.inl rfl))
        (pss_one (ps_for PassesOwn.never rfl (pi_tup (pe_ix ix_list (pv 1) (pv 5) (fun _ _ => rfl))) (pg_name (i := 4) sc_law_is_told.nd rfl (.inl rfl))
          (pss_one (ps_dput (hu_of hr) (pv 3) (pv 4) (pe_ix ix_list (pe_lst (pa_cons pe_str (pa_cons pe_str (pa_cons pe_str pa_nil)))) (pv 5) (fun _ _ => rfl)) rfl)))))
      (pss_cons (ps_if (pt_cmpR (op_neL0 hr.units0) (pe_lock (pe_lc (own := [("name", 4)]) (g := (gName 4)) (by rfl) sc_law_is_told.nd (pi_keys (pv 3)) (blkOk_by (own := [("name", 4)]) (N := ["frame", "record", "lengths", "kinds", "name", "at", "value", "has_it", "due", "rows", "pair", "length", "row"]) (sc := defScope s_law_is_told) (by decide +kernel)) (fun _ _ _ _ _ => pg_name (i := 4) sc_law_is_told.nd rfl (Or.inl rfl)) (fun _ _ _ _ _ => pts_one (pt_cmpR op_ne (pe_meth (pv 0) X.cl c_kind_of.2.1 c_kind_of.1 (hr.mono (by decide)) c_kind_of.2.2 .nil pass0 (pa_cons (pv 4) pa_nil)) (pe_dget (hu_of hr) (pv 3) (pv 4) (fun _ _ => rfl)) (nomark _))) (fun _ _ _ _ _ => (pv 4)))) (pe_lst pa_nil) (nomark _)) (pss_one (ps_ret pe_bl)) pss_nil)
      (pss_cons (ps_if (pt_cmpR op_ne (pe_callB (call_lenO c_len.2.1.at_ c_len.2.1.fn c_len.1 (hr.mono (by decide)) c_len.2.2 pass0) (by rfl) T.len (by decide +kernel) (pa_cons (pv 0) pa_nil)) (pe_callB call_lenD (by rfl) T.len (by decide +kernel) (pa_cons (pv 3) pa_nil)) (nomark _)) (pss_one (ps_ret pe_bl)) pss_nil)
      (pss_cons (ps_if (pt_cmpR (op_neL0 hr.units0) (pe_lc (own := [("pair", 10)]) (g := (gName 10)) (by rfl) sc_law_is_told.nd (pi_tup (pe_ix ix_list (pv 1) pe_int (fun _ _ => rfl))) (blkOk_by (own := [("pair", 10)]) (N := ["frame", "record", "lengths", "kinds", "name", "at", "value", "has_it", "due", "rows", "pair", "length", "row"]) (sc := defScope s_law_is_told) (by decide +kernel)) (fun _ _ _ _ _ => pg_name (i := 10) sc_law_is_told.nd rfl (Or.inl rfl)) (fun _ _ _ _ _ => pts_one (pt_cmpR op_ne (pe_meth (pv 0) X.cl c_length_of.2.1 c_length_of.1 (hr.mono (by decide)) c_length_of.2.2 .nil pass0 (pa_cons (pe_ix (show IxR _ (rIxT K) from ix_tup) (pv 10) pe_int (fun _ _ => rfl)) pa_nil)) (pe_ix (show IxR _ (rIxT K) from ix_tup) (pv 10) pe_int (fun _ _ => rfl)) (nomark _))) (fun _ _ _ _ _ => (pv 10))) (pe_lst pa_nil) (nomark _)) (pss_one (ps_ret pe_bl)) pss_nil)
      (pss_cons (ps_for PassesOwn.never rfl (pi_list (pe_op op_cat (pe_slice sl_list (pe_callTy (call_listD rfl) (by rfl) T.list (by decide +kernel) (pa_cons (pv 3) pa_nil)) po_none (po_some pe_int)) (pe_lst (pa_cons pe_str (pa_cons pe_str (pa_cons pe_str (pa_cons pe_str (pa_cons pe_str (pa_cons pe_str (pa_cons pe_non (pa_cons pe_int (pa_cons (pe_tupF (pa_cons pe_str pa_nil)) (pa_cons (pe_lst (pa_cons pe_str pa_nil)) (pa_cons pe_dnewK (pa_cons pe_bl pa_nil))))))))))))))) (pg_name (i := 6) sc_law_is_told.nd rfl (.inl rfl))
        (pss_cons (ps_set (i := 7) sc_law_is_told.nd rfl (.inl rfl) (pe_and (pe_callB call_isi (by rfl) T.isinstance (by decide +kernel) (pa_cons (pv 6) (pa_cons (pe_bltn (v := .ty "str") (by rfl) T.str (by decide +kernel) rfl) pa_nil))) (pe_one (pe_cmp (pc_din (hu_of hr) (pv 6) (pv 3)) rfl))))
        (pss_cons (ps_set (i := 8) sc_law_is_told.nd rfl (.inl rfl) (pe_lst (pa_cons (pv 7) (pa_cons (pe_and (pe_cmpR (op_inS (hu_of hr)) (pv 6) (pe_tupF (pa_cons pe_str (pa_cons pe_str pa_nil))) rfl) (pe_one (pe_not (pv 7)))) pa_nil))))
        (pss_one (ps_if (pt_cmpR op_ne (pe_callB (call_repr2 hK hgd hr.units) (by rfl) T.repr (by decide +kernel) (pa_cons (pe_lst (pa_cons (pe_cmpR (op_inO X.cl c_contains.2.1.at_ c_contains.2.1.fn c_contains.1 (hr.mono (by decide)) c_contains.2.2 pass0) (pv 6) (pv 0) rfl) (pa_cons (pe_meth (pv 0) X.cl c_is_fresh.2.1 c_is_fresh.1 (hr.mono (by decide)) c_is_fresh.2.2 .nil pass0 (pa_cons (pv 6) pa_nil)) pa_nil))) pa_nil)) (pe_callB (call_repr2 hK hgd hr.units) (by rfl) T.repr (by decide +kernel) (pa_cons (pv 8) pa_nil)) (nomark _)) (pss_one (ps_ret pe_bl)) pss_nil)))))
      (pss_cons (ps_set (i := 9) sc_law_is_told.nd rfl (.inl rfl) (pe_lst (pa_cons (pe_lc (own := [("name", 4), ("length", 11)]) (g := (gTup K 2 (gCons (gName 4) (gCons (gName 11) gNil)))) (tt := tYes) (by rfl) sc_law_is_told.nd (pi_tup (pe_ix ix_list (pv 1) pe_int (fun _ _ => rfl))) (blkOk_by (own := [("name", 4), ("length", 11)]) (N := ["frame", "record", "lengths", "kinds", "name", "at", "value", "has_it", "due", "rows", "pair", "length", "row"]) (sc := defScope s_law_is_told) (by decide +kernel)) (fun _ _ _ _ _ => pg_tup (by rfl) (pgs_cons (pg_name (i := 4) sc_law_is_told.nd rfl (Or.inl rfl)) (pgs_cons (pg_name (i := 11) sc_law_is_told.nd rfl (Or.inl rfl)) pgs_nil))) (fun _ _ _ _ _ => pts_nil) (fun _ _ _ _ _ => (pe_op op_add_str (pe_op op_add_str (pv 4) pe_str) (pv 11)))) (pa_cons (pe_callTy call_list_of (by rfl) T.list (by decide +kernel) (pa_cons (pe_ix ix_list (pv 1) pe_int (fun _ _ => rfl)) pa_nil)) (pa_cons (pe_callTy call_list_of (by rfl) T.list (by decide +kernel) (pa_cons (pe_ix ix_list (pv 1) pe_int (fun _ _ => rfl)) pa_nil)) pa_nil)))))
      (pss_cons (ps_if (pt_cmpR op_ne (pe_callTy (call_strO c_str.2.1.at_ c_str.2.1.fn c_str.1 (hr.mono (by decide)) c_str.2.2 pass0) (by rfl) T.str (by decide +kernel) (pa_cons (pv 0) pa_nil)) (pe_join pe_str (pe_lc (own := [("row", 12)]) (g := (gName 12)) (tt := tYes) (by rfl) sc_law_is_told.nd (pi_list (pv 9)) (blkOk_by (own := [("row", 12)]) (N := ["frame", "record", "lengths", "kinds", "name", "at", "value", "has_it", "due", "rows", "pair", "length", "row"]) (sc := defScope s_law_is_told) (by decide +kernel)) (fun _ _ _ _ _ => pg_name (i := 12) sc_law_is_told.nd rfl (Or.inl rfl)) (fun _ _ _ _ _ => pts_nil) (fun _ _ _ _ _ => (pe_ifExp (pt_cmpR (show OpR _ (compareOp .NotEq) (rNeL0 K) from op_neL0 hr.units0) (pv 12) (pe_lst pa_nil) (nomark _)) (show PE _ _ (tJoinK K (tC (V.str " ")) (tVar 12)) from pe_joinK pe_str (pv 12)) pe_str)))) (nomark _)) (pss_one (ps_ret pe_bl)) pss_nil)
      (pss_one (ps_ret (pe_and (pe_cmpR (op_eqO c_eq.2.1.at_ c_eq.2.1.fn FI.nf c_eq.1 (hr.mono (by decide)) c_eq.2.2 pass0) (pv 0) (pe_make M F0 (hr.mono (by decide)) rfl X.mgC b0 .nil (L2N.passes_call takesF (fun cls d σ H h => h)) (pa_cons (pe_ix ix_list (pv 1) pe_int (fun _ _ => rfl)) (pa_cons (pe_ix ix_list (pv 1) pe_int (fun _ _ => rfl)) (pa_cons (pe_ix ix_list (pv 1) pe_int (fun _ _ => rfl)) pa_nil)))) (nomark _)) (pe_one (pe_not (pe_cmpR (op_neO c_eq.2.1.at_ FI.ne FI.hm c_eq.2.1.fn c_eq.1 (hr.mono (by decide)) c_eq.2.2 pass0) (pv 0) (pv 0) (nomark _))))))))))))))))), ?_⟩
    have lp := fr.l1
    have ln := fr.l2
    have lu := fr.l3
    have nm3 := fr.nP
    have un := uniq_len (ps.map (·.2))
    rw [List.length_map] at un
    have room : ∀ m : Nat, m ≤ 10000 → m ≤ sizeLine := fun m h => by rw [sizeLine_eq]; omega
    have any : ∀ {X Y : Hp}, Same X Y → Kp All X Y := fun h => Kp.same h
    refine ⟨_, rfl, R, _, 0, wa, rfl, rfl, SqL.of rec.l, rfl, All, wa, ps, rfl, rec.pt.a, rec.b1, fun DL H1 hDL s1 eDL => ?_⟩
    have fr1 := fr.same s1
    have rec1 := rec.same s1
    obtain ⟨dx, LB, LT, KD, hx, hlb, hlt, hkd⟩ := id fr1.ob
    obtain ⟨tk1, tk2, tk3⟩ := four_ok lp ln lu nm3
    -- what is shown
    refine ⟨_, rfl, x, dx, _, rfl, hx, x, dx, _, va, rfl, hx, rfl, _, rfl, x, dx, _, rfl, hx, x, dx, _, vp, rfl, hx, rfl, _, rfl, x, dx, _, rfl, hx, x, dx, _, vv, rfl, hx, rfl, _, rfl, x, dx, _, rfl, hx, x, dx, _, .ref LT, rfl, hx, rfl, (show 4 ≤ sizeLine by decide +kernel), fun l1 hl1 => ⟨l1, four ps ns us, rfl, ?_, tk1, tk2, tk3, ?_⟩⟩
    · have k := any (Same.upd (o := .lst [va, vp, vv, .ref LT]) hl1)
      exact Dv.lst id upd_same (.cons (fr1.da.kp k).no (.cons (fr1.dp.kp k).no (.cons (fr1.dv.kp k).no (.cons (Dv.tupM (k.tup hlt) (DvL.strs _)) .nil))))
    have s2 : Same H1 (upd H1 l1 (.lst [va, vp, vv, .ref LT])) := Same.upd hl1
    generalize upd H1 l1 (.lst [va, vp, vv, .ref LT]) = H2 at s2 ⊢
    have rec2 := rec1.same s2
    refine ⟨_, rfl, _, rfl, DL, _, rfl, SqL.of (s2 _ _ eDL), fun t2 H3 s3 ht2 => ⟨room 1 (by decide), fun l3 hl3 => ⟨R, l3, _, _, rfl, rfl, (Same.upd hl3) _ _ (s3 _ _ rec2.l), upd_same, room 4 (by decide), fun l4 hl4 => ?_⟩⟩⟩
    have s4 : Same H3 (upd (upd H3 l3 (.lst [.ref t2])) l4 (.lst ([wa, wp, wv] ++ [.ref t2]))) := (Same.upd hl3).trans (Same.upd hl4)
    refine ⟨l4, four ps ns us, rfl, ?_, tk1, tk2, tk3, rfl, _, rfl, ?_⟩
    · have rec4 := (rec2.same s3).same s4
      exact Dv.lst id upd_same (.cons rec4.pt.a.no (.cons rec4.pt.p.no (.cons rec4.pt.v.no (.cons (Dv.tupM ((any s4).tup ht2) (DvL.strs _)) .nil))))
    rw [show (!decide (V.str (four ps ns us).shown = V.str (four ps ns us).shown)) = false by rw [decide_eq_true rfl]; rfl]
    generalize upd (upd H3 l3 (.lst [.ref t2])) l4 (.lst ([wa, wp, wv] ++ [.ref t2])) = H4 at s4 ⊢
    have s14 : Same H1 H4 := (s2.trans s3).trans s4
    clear s2 s3 s4 rec2 ht2 hl1 hl3 hl4
    refine iteF ?_
    have rec4 := rec1.same s14
    have fr4 := fr1.same s14
    have eDL4 := s14 _ _ eDL
    have hx4 := s14 _ _ hx
    have s04 := s1.trans s14
    clear hlb hlt hkd
    obtain ⟨aA, xA, rfl, tA, dA⟩ := rec4.pt.a.tupI
    obtain ⟨aP, xP, rfl, tP, dP⟩ := rec4.pt.p.tupI
    obtain ⟨aU, xU, rfl, tU, dU⟩ := rec4.pt.v.tupI
    have nA := dA.len
    rw [List.length_map] at nA
    have eP := dP.strE
    have eU := dU.strE
    subst eP eU
    have pairI : ∀ {i : Nat} {v : V}, xA[i]? = some v → ∃ (hi : i < ps.length) (b : Addr), v = .ref b ∧ TupF H4 b [.str ps[i].1, .str ps[i].2] := fun {i v} hv => by
      obtain ⟨e, he, dve⟩ := dA.get hv
      have hi' : i < ps.length := by
        have := (List.getElem?_eq_some_iff.mp hv).1
        omega
      rw [List.getElem?_map, List.getElem?_eq_getElem hi'] at he
      cases he
      obtain ⟨b, rfl, hb⟩ := dve.pairI
      exact ⟨hi', b, rfl, hb⟩
    -- the dict of kinds
    refine ⟨_, rfl, R, _, 0, _, rfl, rfl, SqL.of rec4.l, rfl, aA, rfl, ⟨_, tA.sq⟩, fun E1 hE1 => ?_⟩
    refine lc_it (walk_tup (K := K) (a := aA) (xs := xA)) (fun i G => Same H4 G ∧ ∃ ws : List V, G E1 = some (.lst ws) ∧ ws.length = i ∧ DvL All G ws (((ps.take i).map fun q => (q.1, ("array" : Str))).map pairD)) ⟨Same.upd hE1, [], upd_same, rfl, .nil⟩ (fun i G _ h => ((any h.1).tup tA).sq) ?_ ?_
    · rintro i y G G' hi ⟨sm, ws, hG, hwl, hws⟩ ⟨rfl, hy⟩
      obtain ⟨hi', b, rfl, hb⟩ := pairI hy
      refine ⟨rfl, yes ⟨_, rfl, b, _, 0, _, rfl, rfl, ((any sm).tup hb).sq, rfl, by show 2 ≤ sizeLine; decide, fun tt G2 st htt => ?_⟩⟩
      refine ⟨ws, st _ _ hG, by rw [hwl, sizeLine_eq]; omega, ?_, ws ++ [.ref tt], upd_same, by rw [List.length_append, hwl]; rfl, ?_⟩
      · intro b o e
        rw [upd_ne (ne_of_none e hE1)]
        exact st _ _ (sm b o e)
      · have ku : Kp All G2 (upd G2 E1 (.lst (ws ++ [.ref tt]))) := Kp.at trivial (st _ _ hG)
        rw [List.take_succ, List.getElem?_eq_getElem hi', List.map_append, List.map_append]
        exact ((hws.kp (any st)).kp ku).app (.cons (Dv.tupM (ku.tup htt) (.cons (.str _) (.cons (.str _) .nil))) .nil)
    rintro H5 ⟨s5, w1, eE1, hw1l, hw1⟩
    rw [nA, List.take_length] at hw1
    refine ⟨_, rfl, DL, rfl, ⟨_, SqL.of (s5 _ _ eDL4)⟩, fun E2 hE2 => ?_⟩
    refine lc_it (walk_list (K := K) (a := DL) (xs := (uniq (ps.map (·.2))).map V.str)) (fun i G => Same H5 G ∧ ∃ ws : List V, G E2 = some (.lst ws) ∧ ws.length = i ∧ DvL All G ws ((((uniq (ps.map (·.2))).take i).map fun z => (z, ("length" : Str))).map pairD)) ⟨Same.upd hE2, [], upd_same, rfl, .nil⟩ (fun i G _ h => SqL.of (h.1 _ _ (s5 _ _ eDL4))) ?_ ?_
    · rintro i y G G' hi ⟨sm, ws, hG, hwl, hws⟩ ⟨rfl, hy⟩
      rw [List.getElem?_map] at hy
      cases e : (uniq (ps.map (·.2)))[i]? with
      | none => rw [e] at hy; cases hy
      | some z =>
        rw [e] at hy
        cases hy
        have hi2 := (List.getElem?_eq_some_iff.mp e).1
        refine ⟨rfl, yes ⟨_, rfl, by show 2 ≤ sizeLine; decide, fun tt G2 st htt => ?_⟩⟩
        refine ⟨ws, st _ _ hG, by rw [hwl, sizeLine_eq]; omega, ?_, ws ++ [.ref tt], upd_same, by rw [List.length_append, hwl]; rfl, ?_⟩
        · intro b o e
          rw [upd_ne (ne_of_none e hE2)]
          exact st _ _ (sm b o e)
        · have ku : Kp All G2 (upd G2 E2 (.lst (ws ++ [.ref tt]))) := Kp.at trivial (st _ _ hG)
          rw [List.take_succ, e, List.map_append, List.map_append]
          exact ((hws.kp (any st)).kp ku).app (.cons (Dv.tupM (ku.tup htt) (.cons (.str _) (.cons (.str _) .nil))) .nil)
    rintro H6 ⟨s6, w2, eE2, hw2l, hw2⟩
    rw [List.length_map] at hw2l hw2
    rw [List.take_length] at hw2
    have eE16 := s6 _ _ eE1
    refine ⟨E1, E2, w1, w2, rfl, rfl, eE16, eE2, by rw [hw1l, hw2l, sizeLine_eq]; omega, fun E3 hE3 => ?_⟩
    have s7 : Same H6 (upd H6 E3 (.lst (w1 ++ w2))) := Same.upd hE3
    have eE3 : (upd H6 E3 (.lst (w1 ++ w2))) E3 = some (.lst (w1 ++ w2)) := upd_same
    generalize upd H6 E3 (.lst (w1 ++ w2)) = H7 at s7 eE3 ⊢
    have hw12 : DvL All H7 (w1 ++ w2) ((ps.map (fun q => (q.1, ("array" : Str))) ++ (uniq (ps.map (·.2))).map fun z => (z, ("length" : Str))).map pairD) := by
      rw [List.map_append]
      exact (hw1.kp (any (s6.trans s7))).app (hw2.kp (any s7))
    obtain ⟨as, eas, hpr⟩ := DvL.pairsK (K := K) hw12
    refine ⟨E3, as, _, rfl, by rw [← eas]; exact SqL.of eE3, hpr, fun DK hDK => ?_⟩
    have s47 := (s5.trans s6).trans s7
    have dk0 : mergeK [] ((ps.map (fun q => (q.1, ("array" : Str))) ++ (uniq (ps.map (·.2))).map fun z => (z, ("length" : Str))).map fun q => ((Sum.inr q.1 : Key), V.str q.2)) = dictV (k0 ps) := by
      unfold dictV k0
      simp only [List.map_append, List.map_map]
      rfl
    rw [dk0]
    have s48 : Same H4 (upd H7 DK (.dK (dictV (k0 ps)))) := s47.trans (Same.upd hDK)
    have eK8 : (upd H7 DK (.dK (dictV (k0 ps)))) DK = some (.dK (dictV (k0 ps))) := upd_same
    have hDK4 : H4 DK = none := by
      cases e : H4 DK with
      | none => rfl
      | some o =>
        have := s47 _ _ e
        rw [hDK] at this
        cases this
    have up : ∀ {Y : Hp} {o : HO}, Same H4 Y → Same H4 (upd Y DK o) := fun {Y o} sm b u e => by
      rw [upd_ne (ne_of_none e hDK4)]
      exact sm b u e
    generalize upd H7 DK (.dK (dictV (k0 ps))) = H8 at s48 eK8 ⊢
    clear s5 s6 s7 s47 hw1 hw2 hw12 hpr eas eE1 eE2 eE3 eE16 hE1 hE2 hE3 hDK dk0 hw1l hw2l
    have z0 : (k0 ps).length ≤ 24 := by
      unfold k0
      rw [List.length_append, List.length_map, List.length_map]; omega
    refine ⟨room 2 (by decide), fun t8 H9 s9 ht8 => ⟨t8, rfl, ⟨_, ht8.sq⟩, ?_⟩⟩
    have kxl : ∀ i : Nat, (k0 ps ++ ((kx ns us).take i).flatten).length ≤ 60 := fun i => by
      have e : (((kx ns us).take i).flatten).length ≤ ((kx ns us).flatten).length := by
        have := congrArg List.length (congrArg List.flatten (List.take_append_drop i (kx ns us)))
        rw [List.flatten_append, List.length_append] at this
        omega
      have e2 : ((kx ns us).flatten).length = ns.length + us.length := by
        have := congrArg List.length (kx_keys ns us)
        rw [List.length_map, List.length_append] at this
        exact this
      rw [List.length_append]; omega
    refine for_it (walk_tup (K := K) (a := t8) (xs := [V.int 1, V.int 2])) (fun i σ G => ∃ v4 v5 : Option V, σ = [some (.ref x), some (.ref R), some (.ref DL), some (.ref DK), v4, v5, none, none, none, none, none, none, none] ∧ Same H4 G ∧ TupF G t8 [V.int 1, V.int 2] ∧ G DK = some (.dK (dictV (k0 ps ++ ((kx ns us).take i).flatten))))
      ⟨none, none, rfl, s48.trans s9, ht8, by rw [List.take_zero, List.flatten_nil, List.append_nil]; exact s9 _ _ eK8⟩ (fun i σ G _ ⟨_, _, _, _, ht, _⟩ => ht.sq) ?_ ?_
    · rintro i y σ G G' hi ⟨v4, v5, rfl, sm, ht, hG⟩ ⟨rfl, hy⟩
      obtain ⟨n, aB, zs, wd, rfl, hget, tB, hk, hw, hzl⟩ : ∃ (n : Int) (aB : Addr) (zs : List Str) (wd : Str), y = .int n ∧ atI [V.ref aA, V.ref aP, V.ref aU] n = some (.ref aB) ∧ TupF H4 aB (zs.map V.str) ∧ (kx ns us)[i]? = some (zs.map fun z => (z, V.str wd)) ∧ atI [V.str "", V.str "position", V.str "value"] n = some (.str wd) ∧ zs.length ≤ 6 := by
        rcases i with _ | _ | i
        · cases hy
          exact ⟨1, aP, ns, "position", rfl, rfl, tP, rfl, rfl, ln⟩
        · cases hy
          exact ⟨2, aU, us, "value", rfl, rfl, tU, rfl, rfl, lu⟩
        · cases hy
      have kl1 := kxl i
      refine ⟨_, rfl, _, rfl, R, _, n, _, rfl, rfl, SqL.of (sm _ _ rec4.l), hget, aB, rfl, ⟨_, ((any sm).tup tB).sq⟩, ?_⟩
      refine for_it (walk_tup (K := K) (a := aB) (xs := zs.map V.str)) (fun j σ Y => ∃ v4 : Option V, σ = [some (.ref x), some (.ref R), some (.ref DL), some (.ref DK), v4, some (.int n), none, none, none, none, none, none, none] ∧ Same H4 Y ∧ TupF Y t8 [V.int 1, V.int 2] ∧ Y DK = some (.dK (dictV ((k0 ps ++ ((kx ns us).take i).flatten) ++ (zs.map fun z => (z, V.str wd)).take j))))
        ⟨v4, rfl, sm, ht, by rw [List.take_zero, List.append_nil]; exact hG⟩ (fun j σ Y _ ⟨_, _, sm, _⟩ => ((any sm).tup tB).sq) ?_ ?_
      · rintro j y σ Y Y' hj ⟨v4, rfl, smY, htY, hY⟩ ⟨rfl, hv⟩
        rw [List.getElem?_map] at hv
        cases e : zs[j]? with
        | none => rw [e] at hv; cases hv
        | some z =>
          rw [e] at hv
          cases hv
          have hj2 := (List.getElem?_eq_some_iff.mp e).1
          refine ⟨room 3 (by decide), fun l hl => ⟨_, rfl, l, _, n, _, rfl, rfl, SqL.of upd_same, hw, _, rfl, _, rfl, DK, _, rfl, DPut.k (k := Sum.inr z) ((Same.upd hl) _ _ hY) ?_, ?_⟩⟩
          · have := dictV_le ((k0 ps ++ ((kx ns us).take i).flatten) ++ (zs.map fun z => (z, V.str wd)).take j)
            rw [List.length_append, List.length_take, List.length_map] at this
            rw [sizeLine_eq]; omega
          · refine ⟨_, rfl, up (smY.trans (Same.upd hl)), ?_, ?_⟩
            · have k1 : Kp All Y' (upd (upd Y' l (.lst [.str "", .str "position", .str "value"])) DK (.dK (putK (dictV ((k0 ps ++ ((kx ns us).take i).flatten) ++ (zs.map fun z => (z, V.str wd)).take j)) (.inr z) (.str wd)))) := by
                refine (any (Same.upd (o := .lst [.str "", .str "position", .str "value"]) hl)).trans ?_
                intro a u e n
                have hne : a ≠ DK := fun q => by
                  obtain ⟨ob, w, rfl⟩ := n trivial
                  rw [q, (Same.upd hl) _ _ hY] at e
                  cases e
                rw [upd_ne hne]; exact e
              exact k1.tup htY
            · rw [upd_same, List.take_succ, List.getElem?_map, e]
              show _ = some (HO.dK (dictV (_ ++ (_ ++ [(z, V.str wd)]))))
              rw [← List.append_assoc, dictV_snoc]
      · rintro σ Y ⟨v4, rfl, smY, htY, hY⟩
        refine ⟨_, _, rfl, smY, htY, ?_⟩
        have e1 : (zs.map fun z => (z, V.str wd)).take (zs.map V.str).length = zs.map fun z => (z, V.str wd) := List.take_of_length_le (by rw [List.length_map, List.length_map]; exact Nat.le_refl _)
        rw [hY, e1, List.take_succ, hk, List.flatten_append]
        simp only [Option.toList_some, List.flatten_cons, List.flatten_nil, List.append_nil, List.append_assoc]
    rintro σ G ⟨v4, v5, rfl, sm, _, hG⟩
    have hG : G DK = some (.dK (dictV (k0 ps ++ (kx ns us).flatten))) := hG
    clear s9 ht8 s48 eK8
    have kget := kAll_val fr4.nd
    have klen : (dictV (k0 ps ++ (kx ns us).flatten)).length = (allN ps ns us).length := by
      rw [kAll_len fr4.nd, List.length_map, ← List.length_map (f := (·.1)), kAll_keys]
    have alen : (allN ps ns us).length ≤ 100 := by
      simp only [List.length_append, List.length_map]; omega
    have kkey : ∀ {i : Nat} {k : Key} {v : V}, (dictV (k0 ps ++ (kx ns us).flatten))[i]? = some (k, v) → ∃ z, k = .inr z ∧ z ∈ allN ps ns us := fun {i k v} h => by
      rw [kAll_len fr4.nd, List.getElem?_map] at h
      cases e : (k0 ps ++ (kx ns us).flatten)[i]? with
      | none => rw [e] at h; cases h
      | some q =>
        rw [e] at h
        cases h
        refine ⟨q.1, rfl, ?_⟩
        rw [← kAll_keys ps ns us]
        exact List.mem_map.mpr ⟨q, List.mem_of_getElem? e, rfl⟩
    -- the kinds are told
    refine ⟨DK, _, hG, trivial, fun od => ⟨_, rfl, DK, od, rfl, .inl ⟨_, upd_same, fun D1 hD1 => ?_⟩⟩⟩
    have smL : Same H4 (upd G DK (.frz od (.dK (dictV (k0 ps ++ (kx ns us).flatten))))) := up sm
    refine lc_o walk_keys (fun i => none) (by rw [klen, sizeLine_eq]; omega) hD1 (fun Hx sm => sm _ _ upd_same) ?_ ?_
    · rintro i v Hx H' Nx hi smx hDx ⟨rfl, k, u, hku, rfl⟩ hno hyes
      obtain ⟨z, rfl, hz⟩ := kkey hku
      have frX := fr4.same (smL.trans smx)
      refine ⟨rfl, _, rfl, x, dx, _, rfl, (smL.trans smx) _ _ hx4, rfl, _, rfl, x, va, vp, vv, ps, ns, us, z, rfl, frX, hz, _, rfl, _, rfl, DK, .str (kindF ps ns z), rfl, ?_, rfl, _, rfl, ?_⟩
      · refine .inl ⟨_, Sum.inr z, .inr ⟨od, smx _ _ upd_same⟩, rfl, ?_⟩
        rw [kget z, if_pos hz]
      · rw [show (!decide (V.str (kindF ps ns z) = V.str (kindF ps ns z))) = false by rw [decide_eq_true rfl]; rfl]
        exact iteF (hno rfl _ Same.refl)
    intro Hx smx hDx
    have hDx0 : Hx D1 = some (.lst []) := by rw [hDx]; simp
    have nK : D1 ≠ DK := (ne_of_none upd_same hD1).symm
    have smU : Same G (upd Hx DK (.dK (dictV (k0 ps ++ (kx ns us).flatten)))) := Same.put hG smx
    have hD1U : (upd Hx DK (.dK (dictV (k0 ps ++ (kx ns us).flatten)))) D1 = some (.lst []) := by rw [upd_ne nK]; exact hDx0
    refine ⟨smx _ _ upd_same, ?_⟩
    generalize upd Hx DK (.dK (dictV (k0 ps ++ (kx ns us).flatten))) = U1 at smU hD1U ⊢
    refine ⟨Nat.zero_le _, fun p hp => ⟨D1, p, [], rfl, rfl, SqL.of ((Same.upd hp) _ _ hD1U), SqL.of upd_same, _, rfl, iteF ?_⟩⟩
    have smU2 : Same G (upd U1 p (.lst [])) := smU.trans (Same.upd hp)
    generalize upd U1 p (.lst []) = U2 at smU2 ⊢
    clear smU hD1U hDx hDx0 smx hD1 smL hp nK
    have sU := sm.trans smU2
    have frU := fr4.same sU
    have hxU := sU _ _ hx4
    have hKU := smU2 _ _ hG
    -- how many
    refine ⟨_, rfl, x, dx, _, rfl, hxU, x, va, vp, vv, ps, ns, us, rfl, frU, _, rfl, by omega, by omega, _, rfl, DK, _, rfl, hKU, ?_⟩
    rw [klen]
    refine ⟨rfl, _, rfl, ?_⟩
    rw [show (!decide (V.int (((allN ps ns us).length : Nat) : Int) = V.int (((allN ps ns us).length : Nat) : Int))) = false by rw [decide_eq_true rfl]; rfl]
    refine iteF ?_
    -- the lengths of arrays
    have tAU : ∀ {Y : Hp}, Same U2 Y → SqT K Y aA xA := fun m => ((any (sU.trans m)).tup tA).sq
    have tbU : ∀ {Y : Hp} {b : Addr} {ys : List V}, Same U2 Y → TupF H4 b ys → SqT K Y b ys := fun m t => ((any (sU.trans m)).tup t).sq
    refine ⟨_, rfl, R, _, 0, _, rfl, rfl, SqL.of (sU _ _ rec4.l), rfl, aA, rfl, ⟨_, tAU Same.refl⟩, fun D2 hD2 => ?_⟩
    refine lc_o (walk_tup (K := K) (a := aA) (xs := xA)) (fun i => none) (by rw [sizeLine_eq]; omega) hD2 (fun Hx sm => tAU sm) ?_ ?_
    · rintro i v Hx H' Nx hi smx hDx ⟨rfl, hv⟩ hno hyes
      obtain ⟨hi', b, rfl, hb⟩ := pairI hv
      have frX := frU.same smx
      refine ⟨rfl, _, rfl, x, dx, _, rfl, smx _ _ hxU, rfl, _, rfl, b, _, 0, _, rfl, rfl, tbU smx hb, rfl, x, _, _, _, ps, ns, us, ps[i], rfl, frX, List.getElem_mem hi', _, rfl, b, _, 1, _, rfl, rfl, tbU smx hb, rfl, rfl, _, rfl, ?_⟩
      rw [show (!decide (V.str ps[i].2 = V.str ps[i].2)) = false by rw [decide_eq_true rfl]; rfl]
      exact iteF (hno rfl _ Same.refl)
    intro Hx smx hDx
    have hDx0 : Hx D2 = some (.lst []) := by rw [hDx]; simp
    refine ⟨Nat.zero_le _, fun p hp => ⟨D2, p, [], rfl, rfl, SqL.of ((Same.upd hp) _ _ hDx0), SqL.of upd_same, _, rfl, iteF ?_⟩⟩
    have smV : Same U2 (upd Hx p (.lst [])) := smx.trans (Same.upd hp)
    generalize upd Hx p (.lst []) = V1 at smV ⊢
    clear smx hDx hDx0 hp hD2
    have frV := frU.same smV
    have hxV := smV _ _ hxU
    have hKV := smV _ _ hKU
    have sV := sU.trans smV
    clear frU hxU hKU tAU tbU smV sU smU2 hG sm fr1 hx
    -- the odd values
    refine ⟨_, rfl, DK, _, rfl, .inl hKV, fun a1 ha1 => ⟨_, rfl, a1, _, rfl, SqL.of upd_same, fun a2 ha2 => ?_⟩⟩
    have ekeys : (dictV (k0 ps ++ (kx ns us).flatten)).map (fun kv => kV kv.1) = (allN ps ns us).map V.str := by
      rw [kAll_len frV.nd, List.map_map, ← kAll_keys ps ns us, List.map_map]
      rfl
    rw [ekeys] at ha2 ⊢
    have sA : Same V1 (upd (upd V1 a1 (.lst ((allN ps ns us).map V.str))) a2 (.lst (cutV ((allN ps ns us).map V.str) none (some 3)))) := (Same.upd ha1).trans (Same.upd ha2)
    have eA : (upd (upd V1 a1 (.lst ((allN ps ns us).map V.str))) a2 (.lst (cutV ((allN ps ns us).map V.str) none (some 3)))) a2 = some (.lst (cutV ((allN ps ns us).map V.str) none (some 3))) := upd_same
    generalize upd (upd V1 a1 (.lst ((allN ps ns us).map V.str))) a2 (.lst (cutV ((allN ps ns us).map V.str) none (some 3))) = VA at sA eA ⊢
    refine ⟨room 1 (by decide), fun tw VB sB htw => ⟨room 1 (by decide), fun lw hlw => fun dw hdw => ⟨room 12 (by decide), fun l4 hl4 => ?_⟩⟩⟩
    have sC : Same VB (upd (upd (upd VB lw (.lst [.str "a"])) dw (.dK [])) l4 (.lst [.str "zz", .str "k", .str "*1", .str "", .str "A", .str "abcdefghi", .non, .int 0, .ref tw, .ref lw, .ref dw, .bl true])) := ((Same.upd hlw).trans (Same.upd hdw)).trans (Same.upd hl4)
    have elw : (upd (upd (upd VB lw (.lst [.str "a"])) dw (.dK [])) l4 (.lst [.str "zz", .str "k", .str "*1", .str "", .str "A", .str "abcdefghi", .non, .int 0, .ref tw, .ref lw, .ref dw, .bl true])) lw = some (.lst [.str "a"]) := (Same.upd hl4) _ _ ((Same.upd hdw) _ _ upd_same)
    have edw : (upd (upd (upd VB lw (.lst [.str "a"])) dw (.dK [])) l4 (.lst [.str "zz", .str "k", .str "*1", .str "", .str "A", .str "abcdefghi", .non, .int 0, .ref tw, .ref lw, .ref dw, .bl true])) dw = some (.dK []) := (Same.upd hl4) _ _ upd_same
    have el4 : (upd (upd (upd VB lw (.lst [.str "a"])) dw (.dK [])) l4 (.lst [.str "zz", .str "k", .str "*1", .str "", .str "A", .str "abcdefghi", .non, .int 0, .ref tw, .ref lw, .ref dw, .bl true])) l4 = some (.lst [.str "zz", .str "k", .str "*1", .str "", .str "A", .str "abcdefghi", .non, .int 0, .ref tw, .ref lw, .ref dw, .bl true]) := upd_same
    generalize upd (upd (upd VB lw (.lst [.str "a"])) dw (.dK [])) l4 (.lst [.str "zz", .str "k", .str "*1", .str "", .str "A", .str "abcdefghi", .non, .int 0, .ref tw, .ref lw, .ref dw, .bl true]) = VC at sC elw edw el4 ⊢
    have htC := (Kp.same (ex := Non) sC).tup htw
    have odds : ∀ v ∈ ([.str "zz", .str "k", .str "*1", .str "", .str "A", .str "abcdefghi", .non, .int 0, .ref tw, .ref lw, .ref dw, .bl true] : List V), OddV ps ns us VC v := by
      refine List.forall_mem_cons.mpr ⟨odd_str _ (by decide +kernel) (by decide +kernel), ?_⟩
      refine List.forall_mem_cons.mpr ⟨odd_str _ (by decide +kernel) (by decide +kernel), ?_⟩
      refine List.forall_mem_cons.mpr ⟨odd_str _ (by decide +kernel) (by decide +kernel), ?_⟩
      refine List.forall_mem_cons.mpr ⟨odd_str _ (by decide +kernel) (by decide +kernel), ?_⟩
      refine List.forall_mem_cons.mpr ⟨odd_str _ (by decide +kernel) (by decide +kernel), ?_⟩
      refine List.forall_mem_cons.mpr ⟨odd_str _ (by decide +kernel) (by decide +kernel), ?_⟩
      refine List.forall_mem_cons.mpr ⟨odd_dat .non (by simp only [cost]; omega) rfl rfl, ?_⟩
      refine List.forall_mem_cons.mpr ⟨odd_dat (.int 0) (by simp only [cost]; omega) rfl rfl, ?_⟩
      refine List.forall_mem_cons.mpr ⟨odd_dat (Dv.tupM htC (.cons (.str "a") .nil)) (by decide +kernel) rfl rfl, ?_⟩
      refine List.forall_mem_cons.mpr ⟨odd_dat (Dv.lst id elw (.cons (.str "a") .nil)) (by decide +kernel) rfl rfl, ?_⟩
      refine List.forall_mem_cons.mpr ⟨odd_dat (Dv.dic id edw .nil) (by decide +kernel) rfl rfl, ?_⟩
      exact List.forall_mem_cons.mpr ⟨odd_dat (.bl true) (by decide +kernel) rfl rfl, List.forall_mem_nil _⟩
    have lW : ([.str "zz", .str "k", .str "*1", .str "", .str "A", .str "abcdefghi", .non, .int 0, .ref tw, .ref lw, .ref dw, .bl true] : List V).length = 12 := rfl
    generalize ([.str "zz", .str "k", .str "*1", .str "", .str "A", .str "abcdefghi", .non, .int 0, .ref tw, .ref lw, .ref dw, .bl true] : List V) = W0 at el4 odds lW ⊢
    have cl := cutV_length ((allN ps ns us).map V.str) none (some 3)
    rw [List.length_map] at cl
    have sAC := (sA.trans sB).trans sC
    refine ⟨a2, l4, _, _, rfl, rfl, (sB.trans sC) _ _ eA, el4, by rw [lW, sizeLine_eq]; omega, fun l5 hl5 => ?_⟩
    have sD : Same VC (upd VC l5 (.lst (cutV ((allN ps ns us).map V.str) none (some 3) ++ W0))) := Same.upd hl5
    have el5 : (upd VC l5 (.lst (cutV ((allN ps ns us).map V.str) none (some 3) ++ W0))) l5 = some (.lst (cutV ((allN ps ns us).map V.str) none (some 3) ++ W0)) := upd_same
    generalize upd VC l5 (.lst (cutV ((allN ps ns us).map V.str) none (some 3) ++ W0)) = VD at sD el5 ⊢
    have all5 : ∀ v ∈ cutV ((allN ps ns us).map V.str) none (some 3) ++ W0, OddV ps ns us VD v := fun v hv => by
      rcases List.mem_append.mp hv with hv | hv
      · have : v ∈ (allN ps ns us).map V.str := by
          unfold cutV at hv
          exact List.mem_of_mem_drop (List.mem_of_mem_take hv)
        obtain ⟨z, hz, rfl⟩ := List.mem_map.mp this
        exact odd_name (frV.nm hz) hz
      · exact (odds v hv).same sD
    have sVD := sAC.trans sD
    have frD := frV.same sVD
    have hxD := sVD _ _ hxV
    have hKD := sVD _ _ hKV
    have s4D := sV.trans sVD
    clear odds cl sA sB sC sAC eA el4 elw edw htC htw ha1 ha2 hlw hdw hl4 hl5 ekeys
    have z2 : ∀ b c : Bool, okD (.list [.bool b, .bool c]) ∧ (PyData.list [.bool b, .bool c]).depth ≤ 60 ∧ cost (.list [.bool b, .bool c]) ≤ sizeLine := fun b c => ⟨by simp only [okD, okL]; exact ⟨trivial, trivial, trivial⟩, by simp [PyData.depth, PyData.depthAll], by rw [sizeLine_eq]; simp only [cost, costL]; omega⟩
    refine ⟨l5, rfl, ⟨_, SqL.of el5⟩, for_it (walk_list (K := K) (a := l5) (xs := cutV ((allN ps ns us).map V.str) none (some 3) ++ W0)) (fun i σ G => ∃ v6 v7 v8 : Option V, σ = [some (.ref x), some (.ref R), some (.ref DL), some (.ref DK), v4, v5, v6, v7, v8, none, none, none, none] ∧ Same VD G)
      ⟨none, none, none, rfl, Same.refl⟩ (fun i σ G _ ⟨_, _, _, _, sm⟩ => SqL.of (sm _ _ el5)) ?_ ?_⟩
    · rintro i v σ G G' hi ⟨v6, v7, v8, rfl, sm⟩ ⟨rfl, hv⟩
      obtain ⟨d, dv0, hc, hfr⟩ := (all5 v (List.mem_of_getElem? hv)).same sm
      refine ⟨_, rfl, _, _, _, _, _, rfl, .ty _, dv0.ty, kitS d, _, rfl, ?_⟩
      apply @dupB (fun b => b = hasD ps ns us d)
      · intro body
        rcases Bool.eq_false_or_eq_true (isStrD d) with e | e
        · rw [e]
          obtain ⟨z, hd⟩ : ∃ z, d = .str z := by cases d <;> first | exact ⟨_, rfl⟩ | cases e
          have ev : v = .str z := by
            rw [hd] at dv0
            exact dv0.strI
          refine iteT ⟨_, rfl, _, rfl, DK, _, rfl, .inl ⟨_, Sum.inr z, .inl (sm _ _ hKD), ev, rfl⟩, ?_⟩
          generalize hb : (valV (dictV (k0 ps ++ (kx ns us).flatten)) (Sum.inr z)).isSome = b
          refine body b ?_
          rw [← hb, kget z, hd]
          by_cases hz : z ∈ allN ps ns us
          · rw [if_pos hz]; exact (decide_eq_true hz).symm
          · rw [if_neg hz]; exact (decide_eq_false hz).symm
        · rw [e]
          have no : hasD ps ns us d = false := by cases d <;> first | rfl | cases e
          exact iteF (body false no.symm)
      · intro hb ehb
        refine ⟨_, rfl, _, rfl, room 2 (by decide), fun tz G1 g1 htz => ⟨Non, tz, ["zz", "k"], d, rfl, htz.sq, dv0.kp (Kp.same g1), _, rfl, ?_⟩⟩
        apply @dupB (fun b => b = (strInD ["zz", "k"] d && !hb))
        · intro body
          rcases Bool.eq_false_or_eq_true (strInD ["zz", "k"] d) with e | e
          · rw [e]
            refine iteT ⟨_, rfl, _, rfl, ?_⟩
            generalize hc2 : (!hb) = b
            exact body b (by rw [e, ← hc2, Bool.true_and])
          · rw [e]
            exact iteF (body false (by rw [e, Bool.false_and]))
        · intro b2 eb2
          refine ⟨room 2 (by decide), fun ld hld => ?_⟩
          have g2 : Same G1 (upd G1 ld (.lst [.bl hb, .bl b2])) := Same.upd hld
          have eld : (upd G1 ld (.lst [.bl hb, .bl b2])) ld = some (.lst [.bl hb, .bl b2]) := upd_same
          generalize upd G1 ld (.lst [.bl hb, .bl b2]) = G2 at g2 eld ⊢
          have g02 := sm.trans (g1.trans g2)
          have fr2 := frD.same g02
          have dv2 := dv0.kp (Kp.same (ex := Non) (g1.trans g2))
          refine ⟨_, rfl, _, rfl, x, dx, _, rfl, g02 _ _ hxD, Non, x, va, vp, vv, ps, ns, us, v, d, rfl, fr2, dv2, _, rfl, ?_⟩
          refine ⟨_, rfl, x, dx, _, rfl, g02 _ _ hxD, rfl, _, rfl, Non, x, va, vp, vv, ps, ns, us, v, d, rfl, fr2, dv2, by omega, fun G3 g3 => ?_⟩
          have e1 : hasD ps ns us d = hb := ehb.symm
          have e2 : freshD ps ns us d = b2 := by rw [hfr, eb2, ehb]
          rw [e1, e2]
          obtain ⟨w1, w2, w3⟩ := z2 hb b2
          refine ⟨room 2 (by decide), fun lq hlq => ⟨lq, .list [.bool hb, .bool b2], rfl, Dv.lst id upd_same (.cons (.bl _) (.cons (.bl _) .nil)), w1, w2, w3, ?_⟩⟩
          refine ⟨_, rfl, ld, .list [.bool hb, .bool b2], rfl, Dv.lst id ((Same.upd hlq) _ _ (g3 _ _ eld)) (.cons (.bl _) (.cons (.bl _) .nil)), w1, w2, w3, rfl, _, rfl, ?_⟩
          rw [show (!decide (V.str (PyData.list [.bool hb, .bool b2]).shown = V.str (PyData.list [.bool hb, .bool b2]).shown)) = false by rw [decide_eq_true rfl]; rfl]
          exact iteF ⟨_, _, _, rfl, (g02.trans g3).trans (Same.upd hlq)⟩
    rintro σ G ⟨v6, v7, v8, rfl, smG⟩
    have frG := frD.same smG
    have hxG := smG _ _ hxD
    have s4G := s4D.trans smG
    have recG := rec4.same s4G
    have okA : ∀ i, (hi : i < ps.length) → ps[i].1.length ≤ 8 ∧ ps[i].2.length ≤ 8 := fun i hi => let h := nm3.1 _ (List.getElem_mem hi); ⟨h.1.2.1, h.2.2.1⟩
    have tAG : ∀ {Y : Hp}, Same G Y → SqT K Y aA xA := fun m => ((any (s4G.trans m)).tup tA).sq
    have tbG : ∀ {Y : Hp} {b : Addr} {ys : List V}, Same G Y → TupF H4 b ys → SqT K Y b ys := fun m t => ((any (s4G.trans m)).tup t).sq
    have tPs : ∀ {Y : Hp}, Same G Y → SqT K Y aP (ns.map V.str) := fun m => ((any (s4G.trans m)).tup tP).sq
    have tUs : ∀ {Y : Hp}, Same G Y → SqT K Y aU (us.map V.str) := fun m => ((any (s4G.trans m)).tup tU).sq
    -- rows
    refine ⟨_, rfl, R, _, 0, _, rfl, rfl, SqL.of recG.l, rfl, aA, rfl, ⟨_, tAG Same.refl⟩, fun D3 hD3 => ?_⟩
    refine lc_o (walk_tup (K := K) (a := aA) (xs := xA)) (fun i => ps[i]?.map fun q => V.str (pairT q)) (by rw [sizeLine_eq]; omega) hD3 (fun Hx sm => tAG sm) ?_ ?_
    · rintro i v Hx H' Nx hi smx hDx ⟨rfl, hv⟩ hno hyes
      obtain ⟨hi', b, rfl, hb⟩ := pairI hv
      have hq := okA i hi'
      have le1 : (":" : Str).length = 1 := by decide +kernel
      refine ⟨b, _, rfl, tbG smx hb, rfl, _, _, rfl, _, _, rfl, rfl, ?_⟩
      refine ⟨rfl, yes (⟨_, rfl, _, _, rfl, rfl, room _ (by omega), _, rfl, _, _, rfl, rfl, room _ (by rw [strLen_append]; omega), ?_⟩)⟩
      exact hyes _ (by rw [List.getElem?_eq_getElem hi']; rfl) _ Same.refl
    intro Hx g2 hDx
    rw [nA, range_list] at hDx
    have hDx2 : Hx D3 = some (.lst ((ps.map pairT).map V.str)) := by rw [List.map_map]; exact hDx
    clear hDx
    refine ⟨_, rfl, R, _, 1, _, rfl, rfl, SqL.of (g2 _ _ recG.l), rfl, aP, _, rfl, .inr (tPs g2), fun l5 hl5 => ⟨_, rfl, R, _, 2, _, rfl, rfl, SqL.of ((g2.trans (Same.upd hl5)) _ _ recG.l), rfl, aU, _, rfl, .inr (tUs (g2.trans (Same.upd hl5))), fun l6 hl6 => ⟨room 3 (by decide), fun lr hlr => ?_⟩⟩⟩
    have g3 : Same Hx (upd (upd (upd Hx l5 (.lst (ns.map V.str))) l6 (.lst (us.map V.str))) lr (.lst [.ref D3, .ref l5, .ref l6])) := ((Same.upd hl5).trans (Same.upd hl6)).trans (Same.upd hlr)
    have e5 : (upd (upd (upd Hx l5 (.lst (ns.map V.str))) l6 (.lst (us.map V.str))) lr (.lst [.ref D3, .ref l5, .ref l6])) l5 = some (.lst (ns.map V.str)) := (Same.upd hlr) _ _ ((Same.upd hl6) _ _ upd_same)
    have e6 : (upd (upd (upd Hx l5 (.lst (ns.map V.str))) l6 (.lst (us.map V.str))) lr (.lst [.ref D3, .ref l5, .ref l6])) l6 = some (.lst (us.map V.str)) := (Same.upd hlr) _ _ upd_same
    have er : (upd (upd (upd Hx l5 (.lst (ns.map V.str))) l6 (.lst (us.map V.str))) lr (.lst [.ref D3, .ref l5, .ref l6])) lr = some (.lst [.ref D3, .ref l5, .ref l6]) := upd_same
    have e3 := g3 _ _ hDx2
    generalize upd (upd (upd Hx l5 (.lst (ns.map V.str))) l6 (.lst (us.map V.str))) lr (.lst [.ref D3, .ref l5, .ref l6]) = Y at g3 e5 e6 er e3 ⊢
    have gY := g2.trans g3
    have rowsL : ∀ (i : Nat) (v : V), ([V.ref D3, V.ref l5, V.ref l6] : List V)[i]? = some v → ∃ (r : Addr) (zs : List Str), v = .ref r ∧ Y r = some (.lst (zs.map V.str)) ∧ [ps.map pairT, ns, us][i]? = some zs ∧ zs.length ≤ 12 ∧ ∀ z ∈ zs, z.length ≤ 17 ∧ 1 ≤ z.length := fun i v hv => by
      rcases i with _ | _ | _ | i
      · cases hv
        refine ⟨D3, _, rfl, e3, rfl, by rw [List.length_map]; exact lp, fun z hz => ?_⟩
        obtain ⟨q, hq, rfl⟩ := List.mem_map.mp hz
        have := (nm3.1 q hq).1.2.1
        have := (nm3.1 q hq).2.2.1
        rw [pairT_len]; omega
      · cases hv
        refine ⟨l5, _, rfl, e5, rfl, by omega, fun z hz => ?_⟩
        have := nm3.2.1 z hz
        exact ⟨by have := this.2.1; omega, this.1⟩
      · cases hv
        refine ⟨l6, _, rfl, e6, rfl, by omega, fun z hz => ?_⟩
        have := nm3.2.2 z hz
        exact ⟨by have := this.2.1; omega, this.1⟩
      · cases hv
    have lsp : (" " : Str).length = 1 := by decide +kernel
    have lda : ("-" : Str).length = 1 := by decide +kernel
    have lba : (" | " : Str).length = 3 := by decide +kernel
    have lbl : ∀ zs ∈ [ps.map pairT, ns, us], (blanks zs).length ≤ 300 := fun zs hz => by
      obtain ⟨i, hi⟩ := List.getElem?_of_mem hz
      have hi3 : i < 3 := (List.getElem?_eq_some_iff.mp hi).1
      obtain ⟨v, hv⟩ : ∃ v, ([V.ref D3, V.ref l5, V.ref l6] : List V)[i]? = some v := ⟨_, List.getElem?_eq_getElem hi3⟩
      obtain ⟨r, zs', _, _, hz', h1, h2⟩ := rowsL i v hv
      rw [hi] at hz'
      cases hz'
      have := blanks_le zs 17 fun z hz => (h2 z hz).1
      have : zs.length * 17 ≤ 12 * 17 := Nat.mul_le_mul_right _ h1
      omega
    -- what str tells
    refine ⟨_, rfl, x, dx, _, rfl, gY _ _ hxG, x, va, vp, vv, ps, ns, us, rfl, frG.same gY, fun Z mz => ?_⟩
    have erZ := mz _ _ er
    refine ⟨_, rfl, ⟨_, rfl⟩, _, rfl, lr, rfl, ⟨_, SqL.of erZ⟩, fun D7 hD7 => ?_⟩
    refine lc_o (walk_list (K := K) (a := lr) (xs := [V.ref D3, V.ref l5, V.ref l6])) (te := tIf (tTest (tOp (rNeL0 K) (tVar 12) (tLst tNil))) (tJoinK K (tC (V.str " ")) (tVar 12)) (tC (V.str "-"))) (fun i => [ps.map pairT, ns, us][i]?.map fun zs => V.str (blanks zs)) (show 3 < sizeLine by decide +kernel) hD7 (fun Hx sm => SqL.of (sm _ _ erZ)) ?_ ?_
    · rintro i v Hx2 H' Nx hi smx hDx ⟨rfl, hv⟩ hno hyes
      obtain ⟨r, zs, rfl, er, hz, h1, h2⟩ := rowsL i v hv
      refine ⟨rfl, yes (⟨_, rfl, Nat.zero_le _, fun p hp => ⟨r, p, _, rfl, rfl, SqL.of ((Same.upd hp) _ _ ((mz.trans smx) _ _ er)), SqL.of upd_same, _, rfl, ?_⟩⟩)⟩
      have sp : Same H' (upd H' p (.lst [])) := Same.upd hp
      have b2 := join_bound zs
      have b1 := sum_le zs 17 fun z hz => (h2 z hz).1
      have b3 : zs.length * 17 ≤ 12 * 17 := Nat.mul_le_mul_right _ h1
      have he : (zs.map V.str).isEmpty = zs.isEmpty := by cases zs <;> rfl
      rw [he]
      have bl : blanks zs = if zs.isEmpty = true then ("-" : Str) else Txt.join " " zs := rfl
      cases hem : zs.isEmpty with
      | true =>
        rw [hem, if_pos rfl] at bl
        refine iteF ?_
        exact hyes _ (by rw [hz, Option.map_some, bl]) _ sp
      | false =>
        rw [hem, if_neg Bool.false_ne_true] at bl
        refine iteT ⟨⟨_, rfl⟩, _, rfl, _, r, zs, rfl, rfl, .inl (SqL.of (sp _ _ ((mz.trans smx) _ _ er))), ?_, ?_⟩
        · rw [lsp]; omega
        · exact hyes _ (by rw [hz, Option.map_some, bl]) _ sp
    intro Hz smz hDz
    have e := range_list [ps.map pairT, ns, us] (fun zs => V.str (blanks zs))
    have hDz2 : Hz D7 = some (.lst ([blanks (ps.map pairT), blanks ns, blanks us].map V.str)) := hDz.trans (congrArg (fun l => some (HO.lst l)) e)
    clear hDz e
    have x1 := lbl (ps.map pairT) List.mem_cons_self
    have x2 := lbl ns (List.mem_cons_of_mem _ List.mem_cons_self)
    have x3 := lbl us (List.mem_cons_of_mem _ (List.mem_cons_of_mem _ List.mem_cons_self))
    have gz := (gY.trans mz).trans smz
    have frz := frG.same gz
    have recz := recG.same gz
    have hxz := gz _ _ hxG
    refine ⟨_, D7, [blanks (ps.map pairT), blanks ns, blanks us], rfl, rfl, .inl (SqL.of hDz2), ?_, ?_⟩
    · rw [lba]
      simp only [List.map_cons, List.map_nil, List.sum_cons, List.sum_nil, List.length_cons, List.length_nil]
      omega
    rw [join3 " | " (blanks (ps.map pairT)) (blanks ns) (blanks us)]
    refine ⟨rfl, _, rfl, ?_⟩
    rw [show decide (V.str (rowS ps ns us) = V.str (blanks (ps.map pairT) ++ " | " ++ blanks ns ++ " | " ++ blanks us)) = true from decide_eq_true rfl]
    refine iteF ?_
    -- a frame of the same parts
    have lb : letB ps ns us = true := by
      rw [letB_eq nm3]
      exact decide_eq_true ⟨frz.nd, lp, ln, lu⟩
    refine ⟨_, rfl, _, rfl, R, _, 0, _, rfl, rfl, SqL.of recz.l, rfl, _, rfl, R, _, 1, _, rfl, rfl, SqL.of recz.l, rfl, _, rfl, R, _, 2, _, rfl, rfl, SqL.of recz.l, rfl, ?_⟩
    refine make_specA recz.pt (fun _ y H' fy sy => ?_) (fun e => absurd (lb.symm.trans e) (by decide))
    obtain ⟨dy, _, _, _, hy, _⟩ := id fy.ob
    have fxy := frz.same sy
    refine ⟨x, dx, _, y, rfl, rfl, sy _ _ hxz, .inl ⟨dy, _, hy⟩, x, y, va, vp, vv, ps, ns, us, rfl, fxy, .inl ⟨_, _, _, ps, ns, us, fy, fun H2 m2 => ?_⟩⟩
    refine ⟨_, rfl, _, rfl, ?_⟩
    rw [show same3 ps ns us ps ns us = true from decide_eq_true ⟨rfl, rfl, rfl⟩, if_pos rfl]
    have fx2 := fxy.same m2
    refine ⟨_, rfl, _, rfl, x, dx, _, x, dx, _, rfl, rfl, m2 _ _ (sy _ _ hxz), m2 _ _ (sy _ _ hxz), x, x, va, vp, vv, ps, ns, us, rfl, fx2, .inl ⟨_, _, _, ps, ns, us, fx2, fun H3 m3 => ?_⟩⟩
    rw [show same3 ps ns us ps ns us = true from decide_eq_true ⟨rfl, rfl, rfl⟩]
    exact ⟨_, rfl, _, rfl, kq _ ((((s04.trans s4G).trans gz).trans sy).trans (m2.trans m3))⟩
end
end Kx
namespace Kx
open PySem PySem.Spec PyProof.Rows L2
theorem passH {X : Cx} : ∀ σ, PassesAt CX0 X σ E0 := fun _ _ _ _ _ _ _ h => h.elim
abbrev CaH (P : Program) (w : World) (K : PySem.W.Frag) (mg : Str → Option Value) (base : Heap) (k : Nat) (x : Str) (ps : List Str) (sp : Sp) : Prop := ∃ f fd, L2H.FnH P w K mg base CX0 k f fd ps sp ∧ mg x = some (.ref f) ∧ PySem.W.keepIn K (.ref f) = true ∧ Binds K fd ps []
section
variable {P : Program} {w : World} {K : PySem.W.Frag} {mg : Str → Option Value} {base : Heap}
theorem calH_of {x : Str} {st : Stmt} {N ps : List Str} {k : Nat} {sp : Sp} (h : Has K mg x st) (S : FnScope N ps (defScope st))
    (bd : ∀ (kV doc pm : Value) (an : Option Addr) (cdv ct : Value) (us : List Value), us.length = ps.length → bindArgs (PySem.W.fnOf x x (defArgs st) (defBody st) (defScope st) .none kV doc pm an cdv ct) ⟨us, []⟩ = pure (ps.zip us))
    (len : ∀ vs H Q E, sp vs H Q E → vs.length = ps.length)
    (body : ∀ (f : Addr) (cdv : Value) (A : Around) (outer : List Env) (s : Shared) (H : Hp) (vs : List V) (Q : VK) (E : XK) (p : Addr × Obj), L2H.RoomH k (A.deeper (envOfC x (defScope st) s.heap.objs.size f cdv)) → L2H.HotC (L2H.cxH CX0 P w K mg base N x (defScope st) f cdv A outer s H E p).nox → sp vs H Q E →
      ∃ t, PSs (L2H.cxH CX0 P w K mg base N x (defScope st) f cdv A outer s H E p).nox (defBody st) t ∧ t { nx := fun _ H' => Q .non H', rt := Q } (start N vs) H) : CaH P w K mg base (k + 1) x ps sp := by
  obtain ⟨f, fd, F, g⟩ := h
  have hb := F.bindsN bd
  have hk := F.kp
  obtain ⟨oc, od, dV, kV, doc, pm, an, cdv, ct, osl, rfl, lk, hcd, _, _⟩ := F.ex
  refine ⟨f, _, L2H.fn_ofH lk hcd S len fun A outer s H vs Q E p hot hr hsp => ?_, g, hk, hb⟩
  obtain ⟨t, ht, q⟩ := body f cdv A outer s H vs Q E p hr ⟨p, ⟨hot.1, hot.2⟩, List.mem_cons_self⟩ hsp
  exact ⟨t, PSs.nox ht, q⟩
theorem ok_lengthsH (T : Bt mg) (h : Has K mg "_law_lengths" s_law_lengths) : CaH P w K mg base 1 "_law_lengths" P_law_lengths spLengths := by
  refine calH_of h sc_law_lengths (fun _ _ _ _ _ _ us hl => match us, hl with | [_], _ => rfl) (fun vs H Q E h => ?_) (fun f cdv A outer s H vs Q E p hr hot h => ?_)
  · obtain ⟨ex, v, ps, rfl, _⟩ := h
    rfl
  · obtain ⟨ex, v, ps, rfl, dv, hl, k⟩ := h
    obtain ⟨a, xs, rfl, ht, hd⟩ := dv.tupI
    have hxl := hd.len
    rw [List.length_map] at hxl
    refine ⟨_, (pss_cons (ps_set (i := 1) sc_law_lengths.nd rfl (.inl rfl) (pe_lst pa_nil))
      (pss_cons (L2H.ps_forH PassesOwn.never hot (pi_tupH (pv 0)) (pg_tupH hot (pgs_cons (pg_name (i := 2) sc_law_lengths.nd rfl (.inl rfl)) (pgs_cons (pg_name (i := 3) sc_law_lengths.nd rfl (.inl rfl)) pgs_nil)))
        (pss_one (ps_if (pt_cmpR op_notIn_seq (pv 3) (pv 1) rfl) (pss_one (ps_expr (pe_bm PySem.F.plainAttrs_list PySem.F.slot_list_append PySem.F.type_list_append mt_append (pv 1) (pa_cons (pv 3) pa_nil)))) pss_nil)))
      (pss_one (ps_ret (pv 1))))), ?_⟩
    refine ⟨Nat.zero_le _, fun D hD => ⟨_, rfl, a, rfl, ⟨_, (show TupF (upd H D (.lst [])) a xs from (Kp.new (ex := ex) hD).tup ht).sq⟩, for_it (walk_tup (K := K) (a := a) (xs := xs)) (fun i σ Hx => ∃ (v2 v3 : Option V), σ = [some (.ref a), some (.ref D), v2, v3] ∧ Same H Hx ∧ Hx D = some (.lst ((uniq ((ps.map (·.2)).take i)).map V.str)))
      ⟨none, none, rfl, Same.upd hD, upd_same⟩ (fun i σ Hx _ ⟨_, _, _, sm, _⟩ => ((Kp.same (ex := ex) sm).tup ht).sq) ?_ ?_⟩⟩
    · rintro i x σ Hx H' hi ⟨v2, v3, rfl, sm, hDx⟩ ⟨rfl, hx⟩
      obtain ⟨e, he, dve⟩ := hd.get hx
      rw [List.getElem?_map] at he
      have hi' : i < ps.length := by omega
      rw [List.getElem?_eq_getElem hi'] at he
      cases he
      obtain ⟨b, rfl, hb⟩ := dve.pairI
      have hmap : i < (ps.map (·.2)).length := by rw [List.length_map]; exact hi'
      have e2 : (ps.map (·.2))[i] = ps[i].2 := List.getElem_map _
      have hsz : ((uniq ((ps.map (·.2)).take i)).map V.str).length < sizeLine := by
        have := uniq_len ((ps.map (·.2)).take i)
        rw [List.length_take, List.length_map] at this
        rw [List.length_map, sizeLine_eq]
        omega
      refine ⟨b, _, rfl, ((Kp.same (ex := ex) sm).tup hb).sq, rfl, _, _, rfl, _, _, rfl, rfl, ?_⟩
      refine ⟨_, rfl, _, rfl, D, _, rfl, .inl (SqL.of hDx), rfl, flat_strs _, _, rfl, ?_⟩
      by_cases hin : ps[i].2 ∈ uniq ((ps.map (·.2)).take i)
      · rw [inV_str, decide_eq_true hin]
        refine iteF ⟨_, _, rfl, sm, ?_⟩
        rw [uniq_take _ i hmap, e2, uniqF, if_pos hin]
        exact hDx
      · rw [inV_str, decide_eq_false hin]
        refine iteT ⟨_, rfl, .inl ⟨rfl, _, SqL.of hDx⟩, _, rfl, D, _, _, rfl, rfl, hDx, hsz, _, _, rfl, ?_, ?_⟩
        · intro b o hb
          rw [upd_ne (ne_of_none hb hD)]
          exact sm b o hb
        · rw [upd_same, uniq_take _ i hmap, e2, uniqF, if_neg hin, List.map_append]
          rfl
    · rintro σ Hx ⟨v2, v3, rfl, sm, hDx⟩
      refine ⟨_, rfl, k D Hx hD sm ?_⟩
      rw [hDx, List.take_of_length_le (by rw [List.length_map]; omega)]
/-! ### the parts of a frame -/

theorem ok_allnH (T : Bt mg) (h : Has K mg "_law_all_names" s_law_all_names) (C1 : CaH P w K mg base 1 "_law_lengths" P_law_lengths spLengths) : CaH P w K mg base 2 "_law_all_names" P_law_all_names spAllN := by
  obtain ⟨_, _, c__law_lengths⟩ := C1
  refine calH_of h sc_law_all_names (fun _ _ _ _ _ _ us hl => match us, hl with | [_], _ => rfl) (fun vs H Q E h => ?_) (fun f cdv A outer s H vs Q E p hr hot h => ?_)
  · obtain ⟨R, va, vp, vv, ps, ns, us, rfl, _⟩ := h
    rfl
  · obtain ⟨R, va, vp, vv, ps, ns, us, rfl, ⟨hR, pt, b1, b2, b3⟩, k⟩ := h
    refine ⟨_, (pss_one (ps_ret (pe_op op_cat (pe_op op_cat (pe_lcH (own := [("pair", 1)]) (g := (gName 1)) (tt := tYes) hot sc_law_all_names.nd (pi_tupH (pe_ix ix_list (pv 0) pe_int (fun _ _ => rfl))) (blkOk_by (own := [("pair", 1)]) (N := ["record", "pair"]) (sc := defScope s_law_all_names) (by decide +kernel)) (fun _ _ _ _ _ => pg_name (i := 1) sc_law_all_names.nd rfl (Or.inl rfl)) (fun _ _ _ _ _ => pts_nil) (fun _ _ _ _ _ => (pe_ix (show IxR _ (rIxT K) from ix_tup) (pv 1) pe_int (fun _ _ => rfl)))) (L2H.pe_callH (E := fun _ => E0) c__law_lengths.1 (hr.mono (by decide)) hot rfl c__law_lengths.2.1 c__law_lengths.2.2.1 c__law_lengths.2.2.2 passH (pa_cons (pe_ix ix_list (pv 0) pe_int (fun _ _ => rfl)) pa_nil))) (pe_callTy call_list_of (by rfl) T.list (by decide +kernel) (pa_cons (pe_op op_catF (pe_ix ix_list (pv 0) pe_int (fun _ _ => rfl)) (pe_ix ix_list (pv 0) pe_int (fun _ _ => rfl))) pa_nil))))), ?_⟩
    obtain ⟨aA, xA, rfl, tA, dA⟩ := pt.a.tupI
    obtain ⟨aP, xP, rfl, tP, dP⟩ := pt.p.tupI
    obtain ⟨aV, xV, rfl, tV, dV⟩ := pt.v.tupI
    have n1 := dA.len
    have n2 := dP.len
    have n3 := dV.len
    rw [List.length_map] at n1 n2 n3
    have eP := dP.strE
    have eV := dV.strE
    subst eP eV
    have kk : ∀ {G G' : Hp}, Same G G' → Kp All G G' := fun m => Kp.same m
    have ul := uniq_len (ps.map (·.2))
    rw [List.length_map] at ul
    refine ⟨_, rfl, R, _, 0, _, rfl, rfl, SqL.of hR, rfl, aA, rfl, ⟨_, tA.sq⟩, fun D hD => ?_⟩
    refine lc_o (walk_tup (K := K) (a := aA) (xs := xA)) (fun i => ps[i]?.map fun q => V.str q.1) (by rw [sizeLine_eq]; omega) hD (fun Hx sm => ((kk sm).tup tA).sq) ?_ ?_
    · rintro i y Hx H' Nx hi sm hDx ⟨rfl, hy⟩ hno hyes
      obtain ⟨e, he, dve⟩ := dA.get hy
      have hi' : i < ps.length := by omega
      rw [List.getElem?_map, List.getElem?_eq_getElem hi'] at he
      cases he
      obtain ⟨b, rfl, hb⟩ := dve.pairI
      refine ⟨rfl, yes ⟨_, rfl, b, _, 0, _, rfl, rfl, ((kk sm).tup hb).sq, rfl, hyes _ (by rw [List.getElem?_eq_getElem hi']; rfl) _ Same.refl⟩⟩
    · intro H1 m1 hD1
      rw [n1, range_list] at hD1
      refine ⟨_, rfl, R, _, 0, _, rfl, rfl, SqL.of (m1 _ _ hR), rfl, All, _, ps, rfl, pt.a.kp (kk m1), b1, fun D2 H2 hD2 m2 hD2x => ?_⟩
      refine ⟨D, D2, _, _, rfl, rfl, m2 _ _ hD1, hD2x, by rw [List.length_map, List.length_map, sizeLine_eq]; omega, fun D3 hD3 => ?_⟩
      have m12 := m1.trans m2
      have m3 : Same H2 (upd H2 D3 (.lst ((ps.map fun q => V.str q.1) ++ (uniq (ps.map (·.2))).map V.str))) := Same.upd hD3
      have e3 : (upd H2 D3 (.lst ((ps.map fun q => V.str q.1) ++ (uniq (ps.map (·.2))).map V.str))) D3 = some (.lst ((ps.map fun q => V.str q.1) ++ (uniq (ps.map (·.2))).map V.str)) := upd_same
      generalize upd H2 D3 (.lst ((ps.map fun q => V.str q.1) ++ (uniq (ps.map (·.2))).map V.str)) = H3 at m3 e3 ⊢
      have m13 := m12.trans m3
      refine ⟨_, rfl, R, _, 1, _, rfl, rfl, SqL.of (m13 _ _ hR), rfl, _, rfl, R, _, 2, _, rfl, rfl, SqL.of (m13 _ _ hR), rfl, aP, aV, _, _, rfl, rfl, (kk m13).tup tP, (kk m13).tup tV, by rw [List.length_map, List.length_map, sizeLine_eq]; omega, fun t4 H4 m4 h4 => ?_⟩
      refine ⟨t4, _, rfl, .inr h4.sq, fun D5 hD5 => ?_⟩
      have m5 : Same H4 (upd H4 D5 (.lst (ns.map V.str ++ us.map V.str))) := Same.upd hD5
      have hDn : H D = none := hD
      refine ⟨D3, D5, _, _, rfl, rfl, m5 _ _ (m4 _ _ e3), upd_same, by simp only [List.length_append, List.length_map]; rw [sizeLine_eq]; omega, fun D6 hD6 => ?_⟩
      have m6 := (m4.trans m5).trans (Same.upd (o := .lst (((ps.map fun q => V.str q.1) ++ (uniq (ps.map (·.2))).map V.str) ++ (ns.map V.str ++ us.map V.str))) hD6)
      have hD6n : H D6 = none := by
        cases e : H D6 with
        | none => rfl
        | some o =>
          have := (m13.trans (m4.trans m5)) _ _ e
          rw [hD6] at this
          cases this
      refine k D6 _ hD6n (m13.trans m6) ?_
      rw [upd_same]
      congr 2
      simp only [List.map_append, List.map_map, List.append_assoc]
      rfl

theorem ok_letH (T : Bt mg) (h : Has K mg "_law_is_let" s_law_is_let) (C1 : CaH P w K mg base 2 "_law_all_names" P_law_all_names spAllN) : CaH P w K mg base 3 "_law_is_let" P_law_is_let spLet := by
  obtain ⟨_, _, c__law_all_names⟩ := C1
  refine calH_of h sc_law_is_let (fun _ _ _ _ _ _ us hl => match us, hl with | [_], _ => rfl) (fun vs H Q E h => ?_) (fun f cdv A outer s H vs Q E p hr hot h => ?_)
  · obtain ⟨R, va, vp, vv, ps, ns, us, rfl, _⟩ := h
    rfl
  · obtain ⟨R, va, vp, vv, ps, ns, us, rfl, rec, k⟩ := h
    refine ⟨_, (pss_cons (ps_set (i := 1) sc_law_is_let.nd rfl (.inl rfl) (L2H.pe_callH (E := fun _ => E0) c__law_all_names.1 (hr.mono (by decide)) hot rfl c__law_all_names.2.1 c__law_all_names.2.2.1 c__law_all_names.2.2.2 passH (pa_cons (pv 0) pa_nil)))
      (pss_cons (ps_if (pt_cmpR op_lt (pe_lenSetSH hot rfl T.len rfl T.set (pv 1)) (pe_callB call_len (by rfl) T.len (by decide +kernel) (pa_cons (pv 1) pa_nil)) (nomark _)) (pss_one (ps_ret pe_bl)) pss_nil)
      (pss_one (ps_ret (pe_and (pe_cmpR op_lt (pe_callB call_len (by rfl) T.len (by decide +kernel) (pa_cons (pe_ix ix_list (pv 0) pe_int (fun _ _ => rfl)) pa_nil)) pe_int (nomark _)) (pe_and (pe_cmpR op_lt (pe_callB call_len (by rfl) T.len (by decide +kernel) (pa_cons (pe_ix ix_list (pv 0) pe_int (fun _ _ => rfl)) pa_nil)) pe_int (nomark _)) (pe_one (pe_cmpR op_lt (pe_callB call_len (by rfl) T.len (by decide +kernel) (pa_cons (pe_ix ix_list (pv 0) pe_int (fun _ _ => rfl)) pa_nil)) pe_int (nomark _))))))))), ?_⟩
    have rec0 := rec
    obtain ⟨hR, pt, b1, b2, b3⟩ := rec
    obtain ⟨aA, xA, rfl, tA, dA⟩ := pt.a.tupI
    obtain ⟨aP, xP, rfl, tP, dP⟩ := pt.p.tupI
    obtain ⟨aV, xV, rfl, tV, dV⟩ := pt.v.tupI
    have n1 := dA.len
    have n2 := dP.len
    have n3 := dV.len
    rw [List.length_map] at n1 n2 n3
    have kk : ∀ {G G' : Hp}, Same G G' → Kp All G G' := fun m => Kp.same m
    have ul := uniq_len (ps.map (·.2))
    rw [List.length_map] at ul
    have al : (allN ps ns us).length ≤ 1000 := by
      simp only [List.length_append, List.length_map]
      omega
    refine ⟨_, rfl, R, _, _, _, ps, ns, us, rfl, rec0, fun D H1 hD m1 hD1 => ?_⟩
    have done : ∀ b, b = letB ps ns us → Q (.bl b) H1 := fun b e => e ▸ k H1 m1
    refine ⟨_, rfl, D, allN ps ns us, rfl, SqL.of hD1, al, _, rfl, _, _, rfl, .inl ⟨_, SqL.of hD1, rfl⟩, ?_⟩
    rw [List.length_map]
    refine ⟨_, _, rfl, rfl, _, rfl, ?_⟩
    have lt := uniq_lt (allN ps ns us)
    rw [letB_eq pt.nm] at done
    by_cases nd : (allN ps ns us).Nodup
    · have : ¬ (uniq (allN ps ns us)).length < (allN ps ns us).length := fun z => (lt.mp z) nd
      rw [decide_eq_false (by omega)]
      have hR1 := m1 _ _ hR
      refine iteF ⟨_, rfl, R, _, 0, _, rfl, rfl, SqL.of hR1, rfl, _, _, rfl, .inr ⟨_, ((kk m1).tup tA).sq, rfl⟩, _, _, rfl, rfl, _, rfl, ?_⟩
      by_cases h1 : ps.length ≤ 12
      · rw [decide_eq_true (by omega)]
        refine iteT ⟨_, rfl, R, _, 1, _, rfl, rfl, SqL.of hR1, rfl, _, _, rfl, .inr ⟨_, ((kk m1).tup tP).sq, rfl⟩, _, _, rfl, rfl, _, rfl, ?_⟩
        by_cases h2 : ns.length ≤ 6
        · rw [decide_eq_true (by omega)]
          refine iteT ⟨_, rfl, R, _, 2, _, rfl, rfl, SqL.of hR1, rfl, _, _, rfl, .inr ⟨_, ((kk m1).tup tV).sq, rfl⟩, _, _, rfl, rfl, ?_⟩
          refine done _ (decide_eq_decide.mpr ⟨fun q => ⟨nd, h1, h2, by omega⟩, fun q => by have := q.2.2.2; omega⟩)
        · rw [decide_eq_false (by omega)]
          exact iteF (done _ (decide_eq_false fun q => h2 q.2.2.1).symm)
      · rw [decide_eq_false (by omega)]
        exact iteF (done _ (decide_eq_false fun q => h1 q.2.1).symm)
    · have := lt.mpr nd
      rw [decide_eq_true (by omega)]
      exact iteT (done _ (decide_eq_false fun q => nd q.1).symm)
end
end Kx
namespace Kx
open PySem PySem.Spec PyProof.Rows L2
theorem takesE {X : Cx} : L2.Takes X (fun _ _ _ _ => False) := fun _ _ ⟨_, _, _, _, _, _, _, _, _, _, _, _, _, _, _, _, w⟩ => w.elim
theorem roomS {k j : Nat} {A : Around} {x : Option Value} (r : Room k A) (h : j ≤ k) : L2H.RoomH j (A.mark x) := ⟨(r.mono h).dp, (r.mono h).un⟩
/-! ### methods whose exceptions are told beside the state at the call -/
def tMethKw (C : Addr) (m : Str) (n : Nat) (sp : Sp) (gV : List V → List V → List V) (W : WX) (ta : TE) (tk : TA) : TE := fun σ H Q => ta σ H fun x H1 => ∃ a dx fs, x = .ref a ∧ H1 a = some (.ins C dx fs) ∧ fs.lookup m = none ∧ tk σ H1 fun zs H2 => zs.length = n ∧ sp (gV [.ref a] zs) H2 Q (WE W σ)
def tMethW (C : Addr) (m : Str) (sp : Sp) (W : WX) (ta : TE) (t : TA) : TE := fun σ H Q => ta σ H fun x H1 => ∃ a dx fs, x = .ref a ∧ H1 a = some (.ins C dx fs) ∧ fs.lookup m = none ∧ t σ H1 fun vs H2 => sp (x :: vs) H2 Q (WE W σ)
section
variable {X : Cx} {CX : CXT} {k : Nat} {f C : Addr} {fd : FuncData} {ps ks : List Str} {sp : Sp} {W : WX} {m : Str} {pos apos : Pos} {e o : Expr} {es : List Expr} {kws : List Keyword} {ta : TE} {t tk : TA} {g : List Value → List Value → List Value} {gV : List V → List V → List V}
theorem pe_methKw {pl : Sem Bool} (he : PE X o ta) (c : Cls X.K C) (hm : Meth X.K C m f) (F : FnOk X.prog X.w X.K X.mg X.base CX k f fd ps sp) (hr : Room k X.A) (hb : KBn X.K fd ps 1 ks g gV) (hx : ∀ σ, PassesAt CX X σ (WE W σ)) (hkw : PK X kws tk)
    (hall : (backToKw pos (keywordEach kws X.env)).all (·.1.isSome) = true := by rfl) (hks : (backToKw pos (keywordEach kws X.env)).filterMap (·.1) = ks := by rfl)
    (hpl : ((backTo pos (starEach [] X.env)).any (·.1) || (backToKw pos (keywordEach kws X.env)).any (·.1.isNone)) = false := by rfl)
    (ht : eval (.Call (.Attribute o m apos) [] kws pos) X.env = (do
      let ov ← eval o X.env
      standAt apos.atName
      let (f, first) ← holding [ov] (getMethod ov m pl)
      callWith pos f first (backTo pos (starEach [] X.env)) (backToKw pos (keywordEach kws X.env))) := by rfl) :
    PE X (.Call (.Attribute o m apos) [] kws pos) (tMethKw C m ks.length sp gV W ta tk) := by
  refine ⟨fun pins s σ H Q I h => ?_⟩
  refine PySem.W.methodCall_KW (pl := pl) (thn (he.run pins s σ H _ I h) fun u s1 ⟨x, H1, I1, rx, a, dx, fs, ex, ea, l, q⟩ => ?_) ht
  subst ex
  obtain rfl : u = Value.ref a := rx
  refine getmeth_ok I1 ea c hm l ?_
  refine PySem.W.callWith_KW0 (first := [.ref a]) (h₀ := X.base) I.ok.mod.kin hm.kp hall ?_ hpl
  refine thn (hkw.run pos pins s1 σ H1 _ I1 q) fun ws s2 ⟨zs, H2, I2, rz, l2, q2⟩ => ⟨I2.kIn, ?_⟩
  rw [hks]
  have r1 : Vals [V.ref a] [Value.ref a] := .cons rfl .nil
  have r2 := hb.rel r1 rz
  refine wpAny_call (codeAny_mono (F.run X.A X.stack s2 H2 ⟨[.ref a], ks.zip ws⟩ (g [.ref a] ws) (gV [.ref a] zs) Q (WE W σ) hr I2.env0 (hb.to s2 [.ref a] ws I2.kIn rfl (rz.length.symm.trans l2)) r2 q2) fun r s' hq => ?_)
  cases r with
  | error e => exact hx σ pins H2 s2 e s' I2 hq
  | ok fl =>
    cases fl with
    | ret u => exact I2.after hq
    | next => exact False.elim hq
    | brk => exact False.elim hq
    | cont => exact False.elim hq
theorem pe_methW {pl : Sem Bool} (he : PE X o ta) (c : Cls X.K C) (hm : Meth X.K C m f) (F : FnOk X.prog X.w X.K X.mg X.base CX k f fd ps sp) (hr : Room k X.A) (hb : Binds X.K fd ps []) (hx : ∀ σ, PassesAt CX X σ (WE W σ)) (ha : PA X (e :: es) t)
    (hst : starEach (e :: es) X.env = (false, eval e X.env) :: starEach es X.env := by rfl) (hpl : (backTo pos (starEach es X.env)).any (·.1) = false := by rfl)
    (ht : eval (.Call (.Attribute o m apos) (e :: es) [] pos) X.env = (do
      let ov ← eval o X.env
      standAt apos.atName
      let (f, first) ← holding [ov] (getMethod ov m pl)
      callWith pos f first (backTo pos (starEach (e :: es) X.env)) (backToKw pos (keywordEach [] X.env))) := by rfl) :
    PE X (.Call (.Attribute o m apos) (e :: es) [] pos) (tMethW C m sp W ta t) := by
  refine ⟨fun pins s σ H Q I h => ?_⟩
  refine PySem.W.methodCall_KW (pl := pl) (thn (he.run pins s σ H _ I h) fun u s1 ⟨x, H1, I1, rx, a, dx, fs, ex, ea, l, q⟩ => ?_) ht
  subst ex
  obtain rfl : u = Value.ref a := rx
  refine getmeth_ok I1 ea c hm l ?_
  refine PySem.W.callWith_K (first := [.ref a]) (h₀ := X.base) I.ok.mod.kin hm.kp (thn (ha.run pos pins s1 σ H1 _ I1 q) fun us s2 ⟨vs, H2, I2, r, q2⟩ => ⟨I2.kIn, ?_⟩) hst hpl
  have r1 : Vals (V.ref a :: vs) (Value.ref a :: us) := .cons rfl r
  refine wpAny_call (codeAny_mono (F.run X.A X.stack s2 H2 ⟨.ref a :: us, []⟩ (.ref a :: us) (.ref a :: vs) Q (WE W σ) hr I2.env0 (by
    have z := hb s2 (.ref a :: us) I2.kIn (by
      have := F.len _ _ _ _ q2
      rw [List.append_nil, ← r1.length, this])
    rwa [List.append_nil] at z) r1 q2) fun r s' hq => ?_)
  cases r with
  | error e => exact hx σ pins H2 s2 e s' I2 hq
  | ok fl =>
    cases fl with
    | ret u => exact I2.after hq
    | next => exact False.elim hq
    | brk => exact False.elim hq
    | cont => exact False.elim hq
end
theorem FrameAt.kpp {C x p : Addr} {n : Nat} {H H' : Hp} {va vp vv : V} {ps : List (Str × Str)} {ns us : List Str} (h : FrameAt C H x va vp vv ps ns us) (hp : PotAt H p n) (k : KpP p H H') : FrameAt C H' x va vp vv ps ns us := by
  obtain ⟨⟨dx, LB, LT, KD, h1, h2, h3, h4⟩, da, dp, dv, r1, r2, r3, r4, r5⟩ := h
  obtain ⟨a, b, c, e, _⟩ := hp
  exact ⟨⟨dx, LB, LT, KD, k.get h1 (fun z => by rw [z, e] at h1; cases h1), k.get h2 (fun z => by rw [z, e] at h2; cases h2), k.tup h3, k.get h4 (fun z => by rw [z, e] at h4; cases h4)⟩, da.kp k.all, dp.kp k.all, dv.kp k.all, r1, r2, r3, r4, r5⟩
theorem letB_le {qs : List (Str × Str)} {ns ms us ts : List Str} (hA : Names qs ns us) (hB : Names qs (ns ++ ms) (us ++ ts)) (h : letB qs ns us = false) : letB qs (ns ++ ms) (us ++ ts) = false := by
  cases e : letB qs (ns ++ ms) (us ++ ts) with
  | false => rfl
  | true =>
    rw [letB_eq hB] at e
    obtain ⟨nd, l1, l2, l3⟩ := of_decide_eq_true e
    rw [letB_eq hA] at h
    rw [List.length_append] at l2 l3
    refine absurd ⟨nd.sublist ?_, l1, by omega, by omega⟩ (of_decide_eq_false h)
    exact List.Sublist.append (List.Sublist.refl _) (List.Sublist.append (List.Sublist.refl _) (List.Sublist.append (List.sublist_append_left ns ms) (List.sublist_append_left us ts)))
/-- values, arrays, positions by keywords -/
def g3 {α : Type} (vs ms zs : List α) : List α := match zs with
  | [c, a, b] => vs ++ [a, b, c]
  | _ => vs
def gA {α : Type} (vs ms zs : List α) : List α := vs ++ zs ++ ms
def gP {α : Type} (vs ms zs : List α) : List α := match ms with
  | [a, c] => vs ++ [a] ++ zs ++ [c]
  | _ => vs
def gVa {α : Type} (vs ms zs : List α) : List α := vs ++ ms ++ zs
/-- with_names as it is called -/
structure Kws (K : PySem.W.Frag) (fd : FuncData) (T1 T2 T3 : Addr) : Prop where
  k3 : ∃ g, KBn K fd P_Frame_with_names 1 ["values", "arrays", "positions"] g (fun vs zs => g3 vs [] zs)
  kA : ∃ g, KBn K fd P_Frame_with_names 1 ["arrays"] g (fun vs zs => gA vs [.ref T2, .ref T3] zs)
  kP : ∃ g, KBn K fd P_Frame_with_names 1 ["positions"] g (fun vs zs => gP vs [.ref T1, .ref T3] zs)
  kV : ∃ g, KBn K fd P_Frame_with_names 1 ["values"] g (fun vs zs => gVa vs [.ref T1, .ref T2] zs)
section
variable {P : Program} {w : World} {K : PySem.W.Frag} {mg : Str → Option Value} {base : Heap}
abbrev N_law_more : List Str := ["pot", "frame", "record", "fresh", "due", "found", "kind", "name", "length"]
abbrev P_law_more : List Str := ["pot", "frame", "record"]
theorem sc_law_more : FnScope N_law_more P_law_more (defScope s_law_more) := ⟨rfl, rfl, rfl, by decide +kernel, rfl, by decide +kernel, by decide +kernel⟩
def spMore (C T1 T2 T3 : Addr) : Sp := fun vs H Q _ => ∃ (p x R : Addr) (n : Nat) (va vp vv wa wp wv : V) (ps : List (Str × Str)) (ns us : List Str), vs = [.ref p, .ref x, .ref R] ∧ PotAt H p n ∧ n ≤ 600000 ∧ FrameAt C H x va vp vv ps ns us ∧ RecAt H R wa wp wv ps ns us ∧ R ≠ p ∧ TupF H T1 [] ∧ TupF H T2 [] ∧ TupF H T3 [] ∧
  ∀ (D y S : Addr) (ya yp yv za zp zv : V) (qs : List (Str × Str)) (ms ts : List Str) (H' : Hp), H' D = some (.lst [.ref y, .ref S]) → FrameAt C H' y ya yp yv qs ms ts → RecAt H' S za zp zv qs ms ts → S ≠ p → (S = R ∨ H S = none) → PotAt H' p (n + 500) → KpP p H H' → Q (.ref D) H'
theorem ok_more (T : Bt mg) {C I T1 T2 T3 fw : Addr} {fdw : FuncData} (X : Fx K mg C) (XI : Ex K mg I) (hI : PySem.W.exmOne K (.ref I) (.ref I) = some true) (h : Has K mg "_law_more" s_law_more) (mW : Meth K C "with_names" fw)
    (Fw : FnOk P w K mg base (L2N.CX P w) 7 fw fdw P_Frame_with_names (spWith C I)) (KW : Kws K fdw T1 T2 T3) (C1 : Ca P w K mg base 1 "_law_dip" P_law_dip spDip) (C2 : Ca P w K mg base 2 "_law_choose" P_law_choose spChoose) (C3 : Ca P w K mg base 5 "_law_parts" P_law_parts spParts)
    (C4 : Ca P w K mg base 3 "_law_is_let" P_law_is_let spLet) (C5 : CaH P w K mg base 3 "_law_is_let" P_law_is_let spLet) : Ca P w K mg base 8 "_law_more" P_law_more (spMore C T1 T2 T3) := by
  obtain ⟨_, _, c__law_dip⟩ := C1
  obtain ⟨_, _, c__law_choose⟩ := C2
  obtain ⟨_, _, c__law_parts⟩ := C3
  obtain ⟨_, _, c__law_is_let⟩ := C4
  obtain ⟨_, _, c__law_is_letH⟩ := C5
  obtain ⟨⟨_, kb3⟩, ⟨_, kbA⟩, ⟨_, kbP⟩, ⟨_, kbV⟩⟩ := KW
  refine cal_of h sc_law_more (fun _ _ _ _ _ _ us hl => match us, hl with | [_, _, _], _ => rfl) (fun vs H Q E h => ?_) (fun f cdv A outer s H vs Q E hr h => ?_)
  · obtain ⟨p, x, R, n, va, vp, vv, wa, wp, wv, ps, ns, us, rfl, _⟩ := h
    rfl
  · obtain ⟨p, x, R, n, va, vp, vv, wa, wp, wv, ps, ns, us, rfl, hp, hn, fr, rec, hRp, t1, t2, t3, kq⟩ := h
    refine ⟨_, (pss_cons (ps_set (i := 3) sc_law_more.nd rfl (.inr rfl) (pe_call c__law_parts.1 (hr.mono (by decide)) rfl c__law_parts.2.1 c__law_parts.2.2.1 c__law_parts.2.2.2 .nil pass0 (pa_cons (pv 0) (pa_cons (pe_call c__law_choose.1 (hr.mono (by decide)) rfl c__law_choose.2.1 c__law_choose.2.2.1 c__law_choose.2.2.2 .nil pass0 (pa_cons (pv 0) (pa_cons (pe_lst (pa_cons pe_int (pa_cons pe_int (pa_cons pe_int pa_nil)))) pa_nil))) (pa_cons (pe_call c__law_choose.1 (hr.mono (by decide)) rfl c__law_choose.2.1 c__law_choose.2.2.1 c__law_choose.2.2.2 .nil pass0 (pa_cons (pv 0) (pa_cons (pe_lst (pa_cons pe_int (pa_cons pe_int (pa_cons pe_int pa_nil)))) pa_nil))) pa_nil)))))
      (pss_cons (ps_if (PW.pt (pw_and (pt_cmpR (op_neT0 hr.units0) (pe_ix ix_list (pv 2) pe_int (fun _ _ => rfl)) (pe_tupF pa_nil) (nomark _)) (pw_and1 (pt_cmpR op_eq (pe_call c__law_dip.1 (hr.mono (by decide)) rfl c__law_dip.2.1 c__law_dip.2.2.1 c__law_dip.2.2.2 .nil pass0 (pa_cons (pv 0) (pa_cons pe_int pa_nil))) pe_int (nomark _))))) (pss_one (ps_asg (pe_callTy call_tupF (by rfl) T.tuple (by decide +kernel) (pa_cons (pe_lc (own := [("name", 7), ("length", 8)]) (g := (gTup K 2 (gCons (gName 7) (gCons (gName 8) gNil)))) (tt := tYes) (by rfl) sc_law_more.nd (pi_tup (pe_ix ix_list (pv 3) pe_int (fun _ _ => rfl))) (blkOk_by (own := [("name", 7), ("length", 8)]) (N := ["pot", "frame", "record", "fresh", "due", "found", "kind", "name", "length"]) (sc := defScope s_law_more) (by decide +kernel)) (fun _ _ _ _ _ => pg_tup (by rfl) (pgs_cons (pg_name (i := 7) sc_law_more.nd rfl (Or.inl rfl)) (pgs_cons (pg_name (i := 8) sc_law_more.nd rfl (Or.inl rfl)) pgs_nil))) (fun _ _ _ _ _ => pts_nil) (fun _ _ _ _ _ => (pe_tupF (pa_cons (pv 7) (pa_cons (pe_ix (show IxR _ (rIxT K) from ix_tup) (pe_call c__law_choose.1 (hr.mono (by decide)) rfl c__law_choose.2.1 c__law_choose.2.2.1 c__law_choose.2.2.2 .nil pass0 (pa_cons (pv 0) (pa_cons (pe_ix (show IxR _ (rIxL K) from ix_list) (pv 2) pe_int (fun _ _ => rfl)) pa_nil))) pe_int (fun _ _ => rfl)) pa_nil))))) pa_nil)) (pg_sub (pv 3) pe_int set_list))) pss_nil)
      (pss_cons (ps_setLc (i := 4) (own := [("kind", 6)]) (g := (gName 6)) (tt := tYes) (by rfl) sc_law_more.nd rfl rfl (sw_true rfl rfl rfl (by decide +kernel)) (pi_range1 rfl T.range (pa_cons pe_int pa_nil)) (blkOk_by (own := [("kind", 6)]) (N := ["pot", "frame", "record", "fresh", "due", "found", "kind", "name", "length"]) (sc := defScope s_law_more) (by decide +kernel)) (fun _ _ _ _ _ => pg_name (i := 6) sc_law_more.nd rfl (Or.inl rfl)) (fun _ _ _ _ _ => pts_nil) (fun _ _ _ _ _ => (pe_op op_catF (pe_ix (show IxR _ (rIxL K) from ix_list) (pv 2) (pv 6) (fun _ _ => rfl)) (pe_ix (show IxR _ (rIxL K) from ix_list) (pv 3) (pv 6) (fun _ _ => rfl)))))
      (pss_cons (L2H.ps_try_onlyX (Wout := fun _ _ _ _ => False) rfl rfl ⟨rfl, by decide, Or.inl XI.gP⟩ (fun _ => by passes_own) takesE (fun W pn xe tk tk2 hp => (pss_one (ps_if (pt_cmpR op_eq (pe_call c__law_dip.1 (hr.mono (by decide)) rfl c__law_dip.2.1 c__law_dip.2.2.1 c__law_dip.2.2.2 .nil pass0 (pa_cons (pv 0) (pa_cons pe_int pa_nil))) pe_int (nomark _)) (pss_one (ps_set (i := 5) sc_law_more.nd rfl (.inl rfl) (pe_methKw (W := W) (pv 1) X.cl mW Fw (hr.mono (by decide)) kb3 (fun σ => L2N.passAt tk σ) (pk_cons (pe_ix (show IxR _ (rIxL K) from ix_list) (pv 3) pe_int (fun _ _ => rfl)) (pk_cons (pe_ix (show IxR _ (rIxL K) from ix_list) (pv 3) pe_int (fun _ _ => rfl)) (pk_cons (pe_ix (show IxR _ (rIxL K) from ix_list) (pv 3) pe_int (fun _ _ => rfl)) pk_nil)))))) (pss_cons (ps_set (i := 5) sc_law_more.nd rfl (.inl rfl) (pe_methKw (W := W) (pe_methKw (W := W) (pv 1) X.cl mW Fw (hr.mono (by decide)) kbA (fun σ => L2N.passAt tk σ) (pk_cons (pe_ix (show IxR _ (rIxL K) from ix_list) (pv 3) pe_int (fun _ _ => rfl)) pk_nil)) X.cl mW Fw (hr.mono (by decide)) kbP (fun σ => L2N.passAt tk σ) (pk_cons (pe_ix (show IxR _ (rIxL K) from ix_list) (pv 3) pe_int (fun _ _ => rfl)) pk_nil)))
            (pss_one (ps_set (i := 5) sc_law_more.nd rfl (.inl rfl) (pe_methKw (W := W) (pv 5) X.cl mW Fw (hr.mono (by decide)) kbV (fun σ => L2N.passAt tk σ) (pk_cons (pe_ix (show IxR _ (rIxL K) from ix_list) (pv 3) pe_int (fun _ _ => rfl)) pk_nil)))))))) (fun a oe cls d pn hz hf tkS hot => (pss_one (ps_ret (pe_lst (pa_cons (pv 1) (pa_cons (pe_ifExp (pt_val (L2H.pe_callH (E := fun _ => E0) c__law_is_letH.1 (roomS hr (by decide)) hot rfl c__law_is_letH.2.1 c__law_is_letH.2.2.1 c__law_is_letH.2.2.2 passH (pa_cons (pv 4) pa_nil))) (pe_lst pa_nil) (pv 2)) pa_nil)))))))
      (pss_one (ps_ret (pe_lst (pa_cons (pv 5) (pa_cons (pe_ifExp (pt_val (pe_call c__law_is_let.1 (hr.mono (by decide)) rfl c__law_is_let.2.1 c__law_is_let.2.2.1 c__law_is_let.2.2.2 .nil pass0 (pa_cons (pv 4) pa_nil))) (pv 4) (pe_lst pa_nil)) pa_nil))))))))), ?_⟩
    have room : ∀ m : Nat, m ≤ 10000 → m ≤ sizeLine := fun m h => by rw [sizeLine_eq]; omega
    obtain ⟨dx, LB, LT, KD, hx, _⟩ := id fr.ob
    have nxp : x ≠ p := fun z => by obtain ⟨a, b, c, e, _⟩ := hp; rw [z, e] at hx; cases hx
    refine ⟨_, rfl, _, rfl, room 3 (by decide), fun l1 hl1 => ⟨p, n, _, _, rfl, hp.same (Same.upd hl1), by omega, .inl ⟨l1, rfl, hp.ne hl1, upd_same⟩, by show 1 ≤ 3; decide, by show 3 ≤ 1000; decide, fun i v H1 hv hp1 hk1 => ?_⟩⟩
    obtain ⟨t, rfl, ht0, ht1⟩ : ∃ t : Int, v = .int t ∧ 0 ≤ t ∧ t ≤ 12 := by
      have all : ∀ v ∈ ([.int 1, .int 2, .int 12] : List V), ∃ m : Int, v = .int m ∧ 0 ≤ m ∧ m ≤ 12 := (by repeat (first | exact List.forall_mem_nil _ | refine List.forall_mem_cons.mpr ⟨⟨_, rfl, by decide, by decide⟩, ?_⟩))
      exact all v (List.mem_of_getElem? hv)
    clear hv
    have hk1 : KpP p H H1 := (Kp.new hl1).trans hk1
    refine ⟨_, rfl, room 3 (by decide), fun l2 hl2 => ⟨p, n + 1, _, _, rfl, hp1.same (Same.upd hl2), by omega, .inl ⟨l2, rfl, hp1.ne hl2, upd_same⟩, by show 1 ≤ 3; decide, by show 3 ≤ 1000; decide, fun i v H2 hv hp2 hk2 => ?_⟩⟩
    obtain ⟨m, rfl, hm0, hm1⟩ : ∃ t : Int, v = .int t ∧ 0 ≤ t ∧ t ≤ 6 := by
      have all : ∀ v ∈ ([.int 1, .int 3, .int 6] : List V), ∃ m : Int, v = .int m ∧ 0 ≤ m ∧ m ≤ 6 := (by repeat (first | exact List.forall_mem_nil _ | refine List.forall_mem_cons.mpr ⟨⟨_, rfl, by decide, by decide⟩, ?_⟩))
      exact all v (List.mem_of_getElem? hv)
    clear hv
    have hk2 : KpP p H H2 := hk1.trans ((Kp.new hl2).trans hk2)
    refine ⟨p, n + 2, t, m, rfl, hp2, by omega, ht0, ht1, hm0, hm1, fun F x0 y0 z0 fs ms ts H3 hF eF good d0 d1 d2 hp3 hk3 => ?_⟩
    have nFp : F ≠ p := hp2.ne hF
    have nF : ∀ {b : Addr} {o : HO}, H b = some o → b ≠ p → b ≠ F := fun {b o} e nb z => by
      have := hk2.get e nb
      rw [z, hF] at this
      cases this
    have hk3 : KpP p H H3 := hk2.trans hk3
    obtain ⟨g1, g2, g3', gok, gnd⟩ := id good
    have fnm : Names fs ms ts := ⟨fun q hq => ⟨gok q.1 (List.mem_append.mpr (.inl (List.mem_map.mpr ⟨q, hq, rfl⟩))), gok q.2 (List.mem_append.mpr (.inr (List.mem_append.mpr (.inl (List.mem_map.mpr ⟨q, hq, rfl⟩)))))⟩, fun z hz => gok z (List.mem_append.mpr (.inr (List.mem_append.mpr (.inr (List.mem_append.mpr (.inl hz)))))), fun z hz => gok z (List.mem_append.mpr (.inr (List.mem_append.mpr (.inr (List.mem_append.mpr (.inr hz))))))⟩
    obtain ⟨aA, xA, rfl, tA, dA⟩ := rec.pt.a.tupI
    have rec3 := rec.kp hk3 hRp
    have lA := dA.len
    rw [List.length_map] at lA
    apply @dupH (fun G => ∃ (v0 : V) (qs : List (Str × Str)), G F = some (.lst [v0, y0, z0]) ∧ Dv All G v0 (.tuple (qs.map pairD)) ∧ qs.length ≤ 12 ∧ (∀ q ∈ qs, NameS q.1 ∧ NameS q.2) ∧ PotAt G p (n + 420) ∧ KpP p H G ∧ Kp (fun a => a = p ∨ a = F) H3 G)
    · intro body
      have skip : ∀ {G : Hp}, PotAt G p (n + 403) → KpP p H3 G → ∃ (v0 : V) (qs : List (Str × Str)), G F = some (.lst [v0, y0, z0]) ∧ Dv All G v0 (.tuple (qs.map pairD)) ∧ qs.length ≤ 12 ∧ (∀ q ∈ qs, NameS q.1 ∧ NameS q.2) ∧ PotAt G p (n + 420) ∧ KpP p H G ∧ Kp (fun a => a = p ∨ a = F) H3 G := fun {G} hpG kG =>
        ⟨x0, fs, kG.get eF nFp, (d0 All).kp kG.all, g1, fnm.1, hpG.mono (by omega), hk3.trans kG, kG.weak fun _ h => .inl h⟩
      refine ⟨_, rfl, R, _, 0, _, rfl, rfl, SqL.of rec3.l, rfl, Nat.zero_le _, fun t0 G s0 ht0 => ⟨aA, t0, xA, rfl, rfl, ((Kp.same (ex := All) s0).tup ((hk3).tup tA)).sq, ht0.sq, ?_⟩⟩
      have hpG : PotAt G p (n + 402) := hp3.same s0
      cases hem : xA.isEmpty with
      | true => exact ⟨_, rfl, iteF (iteF (body G (skip (hpG.mono (by omega)) (Kp.same s0))))⟩
      | false =>
        refine ⟨_, rfl, iteT ⟨_, rfl, p, n + 402, 2, rfl, hpG, by omega, by decide, by decide, fun d G1 hd0 hd1 hp1' hk1' => ⟨rfl, _, rfl, ?_⟩⟩⟩
        have hp1' : PotAt G1 p (n + 403) := hp1'
        have k31 : KpP p H3 G1 := (Kp.same s0).trans hk1'
        by_cases hd : d = 0
        · rw [decide_eq_true (show V.int d = V.int 0 by rw [hd])]
          obtain ⟨f0, xF, rfl, tF, dF⟩ := (d0 All).tupI
          have lF := dF.len
          rw [List.length_map] at lF
          have naA : aA ≠ p := fun z => by
            obtain ⟨a, b, c, e, _⟩ := hp
            obtain ⟨o, _, e2⟩ := tA
            rw [z, e] at e2
            cases e2
          have eF1 := k31.get eF nFp
          refine iteT ⟨_, rfl, F, _, 0, _, rfl, rfl, SqL.of eF1, rfl, f0, rfl, ⟨_, (k31.tup tF).sq⟩, fun D hD => ?_⟩
          have nDp : D ≠ p := hp1'.ne hD
          refine lc_it (walk_tup (K := K) (a := f0) (xs := xF)) (fun i Gx => PotAt Gx p (n + 403 + i) ∧ KpP p G1 Gx ∧ ∃ (ws : List V) (rs : List (Str × Str)), Gx D = some (.lst ws) ∧ ws.length = i ∧ DvL All Gx ws (rs.map pairD) ∧ rs.length = i ∧ ∀ q ∈ rs, NameS q.1 ∧ NameS q.2)
            ⟨(hp1'.same (Same.upd hD)).mono (by omega), Kp.new hD, [], [], upd_same, rfl, .nil, rfl, fun q hq => by cases hq⟩ (fun i Gx _ h => ((k31.trans h.2.1).tup tF).sq) ?_ ?_
          · rintro i y Gx Gy hi ⟨hpx, kx, ws, rs, hG, hwl, hws, hrl, hrn⟩ ⟨rfl, hy⟩
            obtain ⟨e, he, dve⟩ := dF.get hy
            have hi' : i < fs.length := by omega
            rw [List.getElem?_map, List.getElem?_eq_getElem hi'] at he
            cases he
            obtain ⟨b, rfl, hb⟩ := dve.pairI
            have k3x := k31.trans kx
            refine ⟨b, _, rfl, (k3x.tup hb).sq, rfl, _, _, rfl, _, _, rfl, rfl, ?_⟩
            refine ⟨rfl, yes ⟨_, rfl, _, rfl, _, rfl, R, _, 0, _, rfl, rfl, SqL.of (k3x.get rec3.l hRp), rfl, p, n + 403 + i, _, xA, rfl, hpx, by omega, .inr (.inl ⟨aA, rfl, naA, (hk3.trans k3x).tup tA⟩), ?_, ?_, fun j v Hy hv hpy hky => ?_⟩⟩
            · cases xA with
              | nil => cases hem
              | cons _ _ => simp
            · have := rec.b1; omega
            · obtain ⟨e, he, dve⟩ := dA.get hv
              have hj : j < ps.length := by
                have := (List.getElem?_eq_some_iff.mp hv).1
                omega
              rw [List.getElem?_map, List.getElem?_eq_getElem hj] at he
              cases he
              obtain ⟨c, rfl, hc⟩ := dve.pairI
              refine ⟨c, _, 1, _, rfl, rfl, (((hk3.trans k3x).trans hky).tup hc).sq, rfl, room 2 (by decide), fun tt Hz sz htt => ?_⟩
              have hGz := sz _ _ (hky.get hG nDp)
              have kzu : Kp All Hz (upd Hz D (.lst (ws ++ [.ref tt]))) := Kp.at trivial hGz
              refine ⟨ws, hGz, by rw [hwl, sizeLine_eq]; omega, ?_, ?_, ws ++ [.ref tt], rs ++ [(fs[i].1, ps[j].2)], upd_same, by rw [List.length_append, hwl]; rfl, ?_, by rw [List.length_append, hrl]; rfl, fun q hq => ?_⟩
              · obtain ⟨a1, b1, c1, e1, r1, r2, r3, r4, r5⟩ := hpy.same sz
                exact ⟨a1, b1, c1, by rw [upd_ne nDp.symm]; exact e1, r1, r2, r3, r4, by omega⟩
              · intro b' o e n'
                rw [upd_ne (ne_of_none e hD)]
                exact sz _ _ (hky b' o (kx b' o e n') n')
              · rw [List.map_append]
                exact (((hws.kp hky.all).kp (Kp.same sz)).kp kzu).app (.cons (Dv.tupM (kzu.tup htt) (.cons (.str _) (.cons (.str _) .nil))) .nil)
              · rcases List.mem_append.mp hq with hq | hq
                · exact hrn q hq
                · rw [List.mem_singleton.mp hq]
                  exact ⟨(fnm.1 _ (List.getElem_mem hi')).1, (fr.nP.1 _ (List.getElem_mem hj)).2⟩
          · rintro Hy ⟨hpy, ky, ws, rs, hG, hwl, hws, hrl, hrn⟩
            have k3y := k31.trans ky
            refine ⟨D, ws, rfl, SqL.of hG, fun tn Hn sn htn => ⟨_, rfl, F, _, 0, 0, rfl, rfl, sn _ _ (k3y.get eF nFp), rfl, ?_⟩⟩
            have eFn := sn _ _ (k3y.get eF nFp)
            have kU : Kp All Hn (upd Hn F (.lst ([.ref f0, y0, z0].set 0 (.ref tn)))) := Kp.at trivial eFn
            have off : ∀ {b : Addr}, b ≠ F → (upd Hn F (.lst ([.ref f0, y0, z0].set 0 (.ref tn)))) b = Hn b := fun h => upd_ne h
            refine body _ ⟨.ref tn, rs, upd_same, Dv.tupM (kU.tup htn) ((hws.kp (Kp.same sn)).kp kU), by omega, hrn, ?_, ?_, ?_⟩
            · obtain ⟨a1, b1, c1, e1, r1, r2, r3, r4, r5⟩ := hpy.same sn
              exact ⟨a1, b1, c1, by rw [off nFp.symm]; exact e1, r1, r2, r3, r4, by omega⟩
            · intro b o e n'
              by_cases hb : b = p
              · exfalso
                obtain ⟨ob, u, hu⟩ := n' hb
                obtain ⟨a1, b1, c1, e1, _⟩ := hp
                rw [hb, e1] at e
                rw [hu] at e
                cases e
              · rw [off (nF e hb)]
                exact sn _ _ (k3y b o (hk3 b o e n') n')
            · intro b o e n'
              by_cases hb : b = F
              · exfalso
                obtain ⟨ob, u, hu⟩ := n' (.inr hb)
                rw [hb, eF] at e
                rw [hu] at e
                cases e
              · rw [off hb]
                exact sn _ _ (k3y b o e fun z => n' (.inl z))
        · rw [decide_eq_false (fun z => hd (by cases z; rfl))]
          exact iteF (body G1 (skip hp1' k31))
    · rintro G ⟨v0, qs, eFG, dv0, lq, qnm, hpG, kHG, k3G⟩
      have recG := rec.kp kHG hRp
      have frG := fr.kpp hp kHG
      have hxG := kHG.get hx nxp
      obtain ⟨aP, xP, rfl, tP, dP⟩ := rec.pt.p.tupI
      obtain ⟨aU, xU, rfl, tU, dU⟩ := rec.pt.v.tupI
      have dy := (d1 All).kp k3G.all
      have dz := (d2 All).kp k3G.all
      obtain ⟨b0, z0', rfl, u0, e0⟩ := dv0.tupI
      obtain ⟨b1, z1', rfl, u1, e1⟩ := dy.tupI
      obtain ⟨b2, z2', rfl, u2, e2⟩ := dz.tupI
      have lp := fr.l1
      have ln := fr.l2
      have lu := fr.l3
      have m0 := e0.len
      have m1 := e1.len
      have m2 := e2.len
      have m3 := dP.len
      have m4 := dU.len
      rw [List.length_map] at m0 m1 m2 m3 m4
      have dueD : ∃ ds : List PyData, ds = [.tuple ((ps ++ qs).map pairD), .tuple ((ns ++ ms).map .str), .tuple ((us ++ ts).map .str)] := ⟨_, rfl⟩
      obtain ⟨ds, hds⟩ := dueD
      have rows : ∀ i : Nat, i < 3 → ∃ (a b : Addr) (xs ys : List V) (c1 c2 : List PyData), atI [V.ref aA, V.ref aP, V.ref aU] (0 + (i : Int)) = some (.ref a) ∧ atI [V.ref b0, V.ref b1, V.ref b2] (0 + (i : Int)) = some (.ref b) ∧ TupF G a xs ∧ TupF G b ys ∧ xs.length + ys.length ≤ 100 ∧ DvL All G xs c1 ∧ DvL All G ys c2 ∧ ds[i]? = some (.tuple (c1 ++ c2)) := fun i hi => by
        subst hds
        rcases i with _ | _ | _ | i
        · exact ⟨aA, b0, xA, z0', _, _, rfl, rfl, kHG.tup tA, u0, by omega, dA.kp kHG.all, e0, by simp⟩
        · exact ⟨aP, b1, xP, z1', _, _, rfl, rfl, kHG.tup tP, u1, by omega, dP.kp kHG.all, e1, by simp⟩
        · exact ⟨aU, b2, xU, z2', _, _, rfl, rfl, kHG.tup tU, u2, by omega, dU.kp kHG.all, e2, by simp⟩
        · omega
      have ld : ds.length = 3 := by rw [hds]; rfl
      refine ⟨_, rfl, by decide, by decide, fun D hD => ?_⟩
      have nDp : D ≠ p := hpG.ne hD
      have nDH : H D = none := by
        cases e : H D with
        | none => rfl
        | some o =>
          have := kHG.get e nDp
          rw [hD] at this
          cases this
      refine lc_range (lo := 0) (n := (3 : Int).toNat) (fun i Hx => Same G Hx ∧ ∃ ws : List V, Hx D = some (.lst ws) ∧ ws.length = i ∧ DvL All Hx ws (ds.take i)) ⟨Same.upd hD, [], upd_same, rfl, .nil⟩ ?_ ?_
      · rintro i Hx hi ⟨sx, ws, hDx, hwl, hws⟩
        obtain ⟨a, b, xs, ys, c1, c2, q1, q2, ta, tb, hl, f1, f2, hds'⟩ := rows i hi
        have kx : Kp All G Hx := Kp.same sx
        refine ⟨rfl, yes ⟨_, rfl, _, rfl, R, _, _, _, rfl, rfl, SqL.of (sx _ _ recG.l), q1, _, rfl, _, rfl, F, _, _, _, rfl, rfl, SqL.of (sx _ _ eFG), q2, a, b, xs, ys, rfl, rfl, kx.tup ta, kx.tup tb, by rw [sizeLine_eq]; omega, fun tt Hy sy htt => ?_⟩⟩
        have hDy := sy _ _ hDx
        have ku : Kp All Hy (upd Hy D (.lst (ws ++ [.ref tt]))) := Kp.at trivial hDy
        refine ⟨ws, hDy, by rw [hwl, sizeLine_eq]; omega, ?_, ws ++ [.ref tt], upd_same, by rw [List.length_append, hwl]; rfl, ?_⟩
        · intro b' o e
          rw [upd_ne (ne_of_none e hD)]
          exact sy _ _ (sx b' o e)
        · rw [List.take_succ, hds']
          refine ((hws.kp (Kp.same sy)).kp ku).app (.cons ?_ .nil)
          exact Dv.tupM (ku.tup htt) (((f1.app f2).kp kx).kp ((Kp.same sy).trans ku))
      rintro G2 ⟨sG, ws, hD2, hwl, hws⟩
      have hwl : ws.length = 3 := hwl
      rw [List.take_of_length_le (by rw [ld]; exact Nat.le_refl _)] at hws
      obtain ⟨w0, w1, w2, rfl⟩ : ∃ w0 w1 w2, ws = [w0, w1, w2] := by
        match ws, hwl with
        | [a, b, c], _ => exact ⟨a, b, c, rfl⟩
      rw [hds] at hws
      have dnm : Names (ps ++ qs) (ns ++ ms) (us ++ ts) := ⟨fun q hq => (List.mem_append.mp hq).elim (fr.nP.1 q) (qnm q), fun z hz => (List.mem_append.mp hz).elim (fr.nP.2.1 z) (fnm.2.1 z), fun z hz => (List.mem_append.mp hz).elim (fr.nP.2.2 z) (fnm.2.2 z)⟩
      have recD : RecAt G2 D w0 w1 w2 (ps ++ qs) (ns ++ ms) (us ++ ts) := by
        cases hws with
        | cons a r =>
          cases r with
          | cons b r =>
            cases r with
            | cons c r =>
              exact ⟨hD2, ⟨a, b, c, by rw [List.length_append]; omega, by rw [List.length_append]; omega, by rw [List.length_append]; omega, dnm⟩, by rw [List.length_append]; omega, by rw [List.length_append]; omega, by rw [List.length_append]; omega⟩
      have hp2 : PotAt G2 p (n + 420) := hpG.same sG
      have kH2 : KpP p H G2 := kHG.trans (Kp.same sG)
      refine ⟨_, rfl, p, n + 420, 2, rfl, hp2, by omega, by decide, by decide, fun d G3 hd0 hd1 hp3' hk3' => ⟨rfl, _, rfl, ?_⟩⟩
      have kH3 := kH2.trans hk3'
      have kG3 : KpP p G G3 := (Kp.same sG).trans hk3'
      have fr3 := fr.kpp hp kH3
      have recD3 := recD.kp hk3' nDp
      have recR3 := rec.kp kH3 hRp
      have eF3 := kG3.get eFG nFp
      have hx3 := kH3.get hx nxp
      have q0 : Dv All G3 (.ref b0) (.tuple (qs.map pairD)) := (Dv.tupM u0 e0).kp kG3.all
      have q1 : Dv All G3 (.ref b1) (.tuple (ms.map .str)) := (Dv.tupM u1 e1).kp kG3.all
      have q2 : Dv All G3 (.ref b2) (.tuple (ts.map .str)) := (Dv.tupM u2 e2).kp kG3.all
      have z1 : TupF G3 T1 [] := kH3.tup t1
      have z2 : TupF G3 T2 [] := kH3.tup t2
      have z3 : TupF G3 T3 [] := kH3.tup t3
      have lost : ∀ (L : Addr) (G9 : Hp), G9 L = none → Same G3 G9 → Q (.ref L) (upd G9 L (.lst [.ref x, .ref R])) := fun L G9 hL sm => by
        have sm2 := sm.trans (Same.upd (o := .lst [.ref x, .ref R]) hL)
        exact kq L x R _ _ _ _ _ _ ps ns us _ upd_same (fr3.same sm2) (recR3.same sm2) hRp (.inl rfl) ((hp3'.same sm2).mono (by omega)) (kH3.trans (Kp.same sm2))
      have won : ∀ (y L : Addr) (ya yp yv : V) (G9 : Hp), FrameAt C G9 y ya yp yv (ps ++ qs) (ns ++ ms) (us ++ ts) → G9 L = none → Same G3 G9 → Q (.ref L) (upd G9 L (.lst [.ref y, .ref D])) := fun y L ya yp yv G9 fy hL sm => by
        have s1 : Same G9 (upd G9 L (.lst [.ref y, .ref D])) := Same.upd hL
        have sm2 := sm.trans s1
        exact kq L y D _ _ _ _ _ _ _ _ _ _ upd_same (fy.same s1) (recD3.same sm2) nDp (.inr nDH) ((hp3'.same sm2).mono (by omega)) (kH3.trans (Kp.same sm2))
      have pt3 : ∀ {G4 : Hp}, Same G3 G4 → Prt G4 (.ref b0) (.ref b1) (.ref b2) qs ms ts := fun {G4} m => ⟨q0.kp (Kp.same m), q1.kp (Kp.same m), q2.kp (Kp.same m), by omega, by omega, by omega, qnm, fnm.2.1, fnm.2.2⟩
      by_cases hd : d = 0
      · rw [decide_eq_true (show V.int d = V.int 0 by rw [hd])]
        refine iteT ⟨_, rfl, x, dx, _, rfl, hx3, rfl, _, rfl, F, _, 2, _, rfl, rfl, SqL.of eF3, rfl, _, rfl, F, _, 0, _, rfl, rfl, SqL.of eF3, rfl, _, rfl, F, _, 1, _, rfl, rfl, SqL.of eF3, rfl, rfl, ?_⟩
        refine ⟨x, _, _, _, _, _, _, ps, ns, us, qs, ms, ts, rfl, fr3, pt3 Same.refl, by omega, by omega, by omega, fun hlb y ya yp yv H4 fy m4 => ?_, fun hlb H4 m4 => ⟨true, hI, fun _ a ha => ⟨_, rfl, _, rfl, D, w0, w1, w2, _, _, _, rfl, recD3.same (m4), fun H9 m9 => ⟨_, rfl, by rw [hlb]; exact iteF ⟨_, rfl, room 2 (by decide), fun L hL => lost L _ hL ((m4).trans m9)⟩⟩⟩, fun z => by cases z⟩⟩
        exact ⟨_, rfl, _, rfl, D, w0, w1, w2, _, _, _, rfl, recD3.same m4, fun H9 m9 => ⟨_, rfl, by rw [hlb]; exact iteT ⟨_, rfl, room 2 (by decide), fun L hL => won y L _ _ _ _ (fy.same m9) hL (m4.trans m9)⟩⟩⟩
      · rw [decide_eq_false (fun z => hd (by cases z; rfl))]
        refine iteF ?_
        have nil0 : ∀ {G4 : Hp} {T : Addr}, TupF G4 T [] → Dv All G4 (.ref T) (.tuple (([] : List (Str × Str)).map pairD)) := fun h => Dv.tupM h .nil
        have nil1 : ∀ {G4 : Hp} {T : Addr}, TupF G4 T [] → Dv All G4 (.ref T) (.tuple (([] : List Str).map .str)) := fun h => Dv.tupM h .nil
        have no0 : ∀ q ∈ ([] : List (Str × Str)), NameS q.1 ∧ NameS q.2 := fun q h => by cases h
        have no1 : ∀ z ∈ ([] : List Str), NameS z := fun z h => by cases h
        have tt : ∀ {G4 : Hp} {T : Addr}, Same G3 G4 → TupF G3 T [] → TupF G4 T [] := fun m h => (Kp.same (ex := All) m).tup h
        have nmA : Names (ps ++ qs) ns us := ⟨dnm.1, fr.nP.2.1, fr.nP.2.2⟩
        have nmB : Names (ps ++ qs) (ns ++ ms) us := ⟨dnm.1, dnm.2.1, fr.nP.2.2⟩
        refine ⟨_, rfl, x, dx, _, rfl, hx3, rfl, _, rfl, F, _, 0, _, rfl, rfl, SqL.of eF3, rfl, rfl, ?_⟩
        refine ⟨x, _, _, _, .ref b0, .ref T2, .ref T3, ps, ns, us, qs, [], [], rfl, fr3, ⟨q0, nil1 z2, nil1 z3, by omega, Nat.zero_le _, Nat.zero_le _, qnm, no1, no1⟩, by omega, Nat.zero_le _, Nat.zero_le _, fun h1 y1 a1 p1 v1 H4 f1 m4 => ?_, fun h1 H4 m4 => ?_⟩
        · rw [List.append_nil, List.append_nil] at f1
          obtain ⟨dy1, _, _, _, hy1, _⟩ := id f1.ob
          refine ⟨y1, dy1, _, rfl, hy1, rfl, _, rfl, F, _, 1, _, rfl, rfl, SqL.of (m4 _ _ eF3), rfl, rfl, ?_⟩
          refine ⟨y1, _, _, _, .ref T1, .ref b1, .ref T3, _, _, _, [], ms, [], rfl, f1, ⟨nil0 (tt m4 z1), q1.kp (Kp.same m4), nil1 (tt m4 z3), Nat.zero_le _, by omega, Nat.zero_le _, no0, fnm.2.1, no1⟩, Nat.zero_le _, by omega, Nat.zero_le _, fun h2 y2 a2 p2 v2 H5 f2 m5 => ?_, fun h2 H5 m5 => ?_⟩
          · rw [List.append_nil, List.append_nil] at f2
            have m45 := m4.trans m5
            obtain ⟨dy2, _, _, _, hy2, _⟩ := id f2.ob
            refine ⟨_, rfl, y2, dy2, _, rfl, hy2, rfl, _, rfl, F, _, 2, _, rfl, rfl, SqL.of (m45 _ _ eF3), rfl, rfl, ?_⟩
            refine ⟨y2, _, _, _, .ref T1, .ref T2, .ref b2, _, _, _, [], [], ts, rfl, f2, ⟨nil0 (tt m45 z1), nil1 (tt m45 z2), q2.kp (Kp.same m45), Nat.zero_le _, Nat.zero_le _, by omega, no0, no1, fnm.2.2⟩, Nat.zero_le _, Nat.zero_le _, by omega, fun h3 y3 a3 p3 v3 H6 f3 m6 => ?_, fun h3 H6 m6 => ?_⟩
            · rw [List.append_nil, List.append_nil] at f3 h3
              have m46 := m45.trans m6
              exact ⟨_, rfl, _, rfl, D, w0, w1, w2, _, _, _, rfl, recD3.same m46, fun H9 m9 => ⟨_, rfl, by rw [h3]; exact iteT ⟨_, rfl, room 2 (by decide), fun L hL => won y3 L _ _ _ _ (f3.same m9) hL (m46.trans m9)⟩⟩⟩
            · rw [List.append_nil, List.append_nil] at h3
              exact ⟨true, hI, fun _ a ha => ⟨_, rfl, _, rfl, D, w0, w1, w2, _, _, _, rfl, recD3.same (m45.trans m6), fun H9 m9 => ⟨_, rfl, by rw [h3]; exact iteF ⟨_, rfl, room 2 (by decide), fun L hL => lost L _ hL ((m45.trans m6).trans m9)⟩⟩⟩, fun z => by cases z⟩
          · rw [List.append_nil, List.append_nil] at h2
            have lb := letB_le (ms := []) (ts := ts) nmB (by rw [List.append_nil]; exact dnm) h2
            rw [List.append_nil] at lb
            exact ⟨true, hI, fun _ a ha => ⟨_, rfl, _, rfl, D, w0, w1, w2, _, _, _, rfl, recD3.same (m4.trans m5), fun H9 m9 => ⟨_, rfl, by rw [lb]; exact iteF ⟨_, rfl, room 2 (by decide), fun L hL => lost L _ hL ((m4.trans m5).trans m9)⟩⟩⟩, fun z => by cases z⟩
        · rw [List.append_nil, List.append_nil] at h1
          have lb := letB_le (ms := ms) (ts := ts) nmA dnm h1
          exact ⟨true, hI, fun _ a ha => ⟨_, rfl, _, rfl, D, w0, w1, w2, _, _, _, rfl, recD3.same (m4), fun H9 m9 => ⟨_, rfl, by rw [lb]; exact iteF ⟨_, rfl, room 2 (by decide), fun L hL => lost L _ hL ((m4).trans m9)⟩⟩⟩, fun z => by cases z⟩
end
end Kx
namespace Kx
open PySem PySem.Spec PyProof.Rows L2
theorem paired_of {R : Addr → Key × V → Prop} : ∀ (pz : List Addr) (ms : List (Str × Str)), pz.length = ms.length → (∀ (i : Nat) (p : Addr) (q : Str × Str), pz[i]? = some p → ms[i]? = some q → R p ((Sum.inr q.1 : Key), V.str q.2)) → Paired R pz (ms.map fun q => ((Sum.inr q.1 : Key), V.str q.2))
  | [], [], _, _ => .nil
  | [], _ :: _, h, _ => by cases h
  | _ :: _, [], h, _ => by cases h
  | p :: pz, q :: ms, h, k => .cons (k 0 p q rfl rfl) (paired_of pz ms (Nat.succ.inj h) fun i p' q' h1 h2 => k (i + 1) p' q' h1 h2)
section
variable {P : Program} {w : World} {K : PySem.W.Frag} {mg : Str → Option Value} {base : Heap}
abbrev N_law_turned : List Str := ["pot", "frame", "record", "names", "some", "fresh", "change", "pairs", "due", "is_let", "found", "name", "length", "part"]
abbrev P_law_turned : List Str := ["pot", "frame", "record"]
theorem sc_law_turned : FnScope N_law_turned P_law_turned (defScope s_law_turned) := ⟨rfl, rfl, rfl, by decide +kernel, rfl, by decide +kernel, by decide +kernel⟩
def spTurn (C : Addr) : Sp := fun vs H Q _ => ∃ (p x R : Addr) (n : Nat) (va vp vv wa wp wv : V) (ps : List (Str × Str)) (ns us : List Str), vs = [.ref p, .ref x, .ref R] ∧ PotAt H p n ∧ n ≤ 600000 ∧ FrameAt C H x va vp vv ps ns us ∧ RecAt H R wa wp wv ps ns us ∧ R ≠ p ∧
  ∀ (D y S : Addr) (ya yp yv za zp zv : V) (qs : List (Str × Str)) (ms ts : List Str) (H' : Hp), H' D = some (.lst [.ref y, .ref S]) → FrameAt C H' y ya yp yv qs ms ts → RecAt H' S za zp zv qs ms ts → S ≠ p → (S = R ∨ H S = none) → PotAt H' p (n + 1000) → KpP p H H' → Q (.ref D) H'
theorem ok_turned (T : Bt mg) (Tz : mg "zip" = none) {C IO fr : Addr} {fdr : FuncData} (X : Fx K mg C) (XO : ExO K mg IO) (hI : PySem.W.exmOne K (.ref IO) (.ref IO) = some true) (h : Has K mg "_law_turned" s_law_turned) (mR : Meth K C "renamed" fr)
    (Fr : FnOk P w K mg base (L2N.CX P w) 7 fr fdr P_Frame_renamed (spRen C IO)) (bR : Binds K fdr P_Frame_renamed []) (C1 : Ca P w K mg base 1 "_law_dip" P_law_dip spDip) (C2 : Ca P w K mg base 2 "_law_choose" P_law_choose spChoose) (C3 : Ca P w K mg base 4 "_law_names" P_law_names spNames)
    (C4 : Ca P w K mg base 2 "_law_all_names" P_law_all_names spAllN) (C5 : Ca P w K mg base 2 "_law_shuffled" P_law_shuffled spShuf) : Ca P w K mg base 8 "_law_turned" P_law_turned (spTurn C) := by
  obtain ⟨_, _, c__law_dip⟩ := C1
  obtain ⟨_, _, c__law_choose⟩ := C2
  obtain ⟨_, _, c__law_names⟩ := C3
  obtain ⟨_, _, c__law_all_names⟩ := C4
  obtain ⟨_, _, c__law_shuffled⟩ := C5
  refine cal_of h sc_law_turned (fun _ _ _ _ _ _ us hl => match us, hl with | [_, _, _], _ => rfl) (fun vs H Q E h => ?_) (fun f cdv A outer s H vs Q E hr h => ?_)
  · obtain ⟨p, x, R, n, va, vp, vv, wa, wp, wv, ps, ns, us, rfl, _⟩ := h
    rfl
  · obtain ⟨p, x, R, n, va, vp, vv, wa, wp, wv, ps, ns, us, rfl, hp, hn, fr, rec, hRp, kq⟩ := h
    refine ⟨_, (pss_cons (ps_set (i := 3) sc_law_turned.nd rfl (.inl rfl) (pe_call c__law_all_names.1 (hr.mono (by decide)) rfl c__law_all_names.2.1 c__law_all_names.2.2.1 c__law_all_names.2.2.2 .nil pass0 (pa_cons (pv 2) pa_nil)))
      (pss_cons (ps_set (i := 4) sc_law_turned.nd rfl (.inl rfl) (pe_slice sl_list (pe_call c__law_shuffled.1 (hr.mono (by decide)) rfl c__law_shuffled.2.1 c__law_shuffled.2.2.1 c__law_shuffled.2.2.2 .nil pass0 (pa_cons (pv 0) (pa_cons (pv 3) pa_nil))) po_none (po_some (pe_call c__law_dip.1 (hr.mono (by decide)) rfl c__law_dip.2.1 c__law_dip.2.2.1 c__law_dip.2.2.2 .nil pass0 (pa_cons (pv 0) (pa_cons (pe_op op_add (pe_callB call_len (by rfl) T.len (by decide +kernel) (pa_cons (pv 3) pa_nil)) pe_int) pa_nil))))))
      (pss_cons (ps_set (i := 5) sc_law_turned.nd rfl (.inl rfl) (pe_call c__law_choose.1 (hr.mono (by decide)) rfl c__law_choose.2.1 c__law_choose.2.2.1 c__law_choose.2.2.2 .nil pass0 (pa_cons (pv 0) (pa_cons (pe_lst (pa_cons (pe_call c__law_names.1 (hr.mono (by decide)) rfl c__law_names.2.1 c__law_names.2.2.1 c__law_names.2.2.2 .nil pass0 (pa_cons (pv 0) (pa_cons (pe_callB call_len (by rfl) T.len (by decide +kernel) (pa_cons (pv 4) pa_nil)) pa_nil))) (pa_cons (pe_call c__law_shuffled.1 (hr.mono (by decide)) rfl c__law_shuffled.2.1 c__law_shuffled.2.2.1 c__law_shuffled.2.2.2 .nil pass0 (pa_cons (pv 0) (pa_cons (pv 4) pa_nil))) pa_nil))) pa_nil))))
      (pss_cons (ps_set (i := 6) sc_law_turned.nd rfl (.inr rfl) (pe_callTy (call_dictP rfl) (by rfl) T.dict (by decide +kernel) (pa_cons (pe_listZip rfl rfl T.list rfl Tz (pa_cons (pv 4) (pa_cons (pv 5) pa_nil))) pa_nil)))
      (pss_cons (ps_setLc (i := 7) (own := [("name", 11), ("length", 12)]) (g := (gTup K 2 (gCons (gName 11) (gCons (gName 12) gNil)))) (tt := tYes) (by rfl) sc_law_turned.nd rfl rfl (sw_true rfl rfl rfl (by decide +kernel)) (pi_tup (pe_ix ix_list (pv 2) pe_int (fun _ _ => rfl))) (blkOk_by (own := [("name", 11), ("length", 12)]) (N := ["pot", "frame", "record", "names", "some", "fresh", "change", "pairs", "due", "is_let", "found", "name", "length", "part"]) (sc := defScope s_law_turned) (by decide +kernel)) (fun _ _ _ _ _ => pg_tup (by rfl) (pgs_cons (pg_name (i := 11) sc_law_turned.nd rfl (Or.inl rfl)) (pgs_cons (pg_name (i := 12) sc_law_turned.nd rfl (Or.inl rfl)) pgs_nil))) (fun _ _ _ _ _ => pts_nil) (fun _ _ _ _ _ => (pe_tupF (pa_cons (pe_dget2 (hu_of hr) (pv 6) (pv 11) (pv 11) ⟨rfl, rfl, rfl, rfl⟩) (pa_cons (pe_dget2 (hu_of hr) (pv 6) (pv 12) (pv 12) ⟨rfl, rfl, rfl, rfl⟩) pa_nil)))))
      (pss_cons (ps_set (i := 8) sc_law_turned.nd rfl (.inl rfl) (pe_op op_cat (pe_lst (pa_cons (pe_callTy call_tupF (by rfl) T.tuple (by decide +kernel) (pa_cons (pv 7) pa_nil)) pa_nil)) (pe_lc (own := [("part", 13)]) (g := (gName 13)) (tt := tYes) (by rfl) sc_law_turned.nd (pi_list (pe_slice sl_list (pv 2) (po_some pe_int) po_none)) (blkOk_by (own := [("part", 13)]) (N := ["pot", "frame", "record", "names", "some", "fresh", "change", "pairs", "due", "is_let", "found", "name", "length", "part"]) (sc := defScope s_law_turned) (by decide +kernel)) (fun _ _ _ _ _ => pg_name (i := 13) sc_law_turned.nd rfl (Or.inl rfl)) (fun _ _ _ _ _ => pts_nil) (fun _ _ _ _ _ => (pe_callTy (show CallR _ (.type "tuple") (fun xs H Q => ∃ a ys, xs = [V.ref a] ∧ SqL K H a ys ∧ kT ys H Q) from call_tupF) (by rfl) T.tuple (by decide +kernel) (pa_cons (pe_lc (own := [("name", 11)]) (g := (gName 11)) (tt := tYes) (by rfl) sc_law_turned.nd (show PI _ _ _ (iTup K (tVar 13)) from pi_tup (pv 13)) (blkOk_by (own := [("name", 11)]) (N := ["pot", "frame", "record", "names", "some", "fresh", "change", "pairs", "due", "is_let", "found", "name", "length", "part"]) (sc := relS _ (defScope s_law_turned)) (by decide +kernel)) (fun _ _ _ _ _ => pg_name (i := 11) sc_law_turned.nd rfl (Or.inl rfl)) (fun _ _ _ _ _ => pts_nil) (fun _ _ _ _ _ => (pe_dget2 (hu_of hr) (pv 6) (pv 11) (pv 11) ⟨rfl, rfl, rfl, rfl⟩))) pa_nil))))))
      (pss_cons (ps_set (i := 9) sc_law_turned.nd rfl (.inl rfl) (pe_cmpR op_eq (pe_lenSetS rfl rfl T.len rfl T.set (pe_lc (own := [("name", 11)]) (g := (gName 11)) (tt := tYes) (by rfl) sc_law_turned.nd (pi_list (pv 3)) (blkOk_by (own := [("name", 11)]) (N := ["pot", "frame", "record", "names", "some", "fresh", "change", "pairs", "due", "is_let", "found", "name", "length", "part"]) (sc := defScope s_law_turned) (by decide +kernel)) (fun _ _ _ _ _ => pg_name (i := 11) sc_law_turned.nd rfl (Or.inl rfl)) (fun _ _ _ _ _ => pts_nil) (fun _ _ _ _ _ => (pe_dget2 (hu_of hr) (pv 6) (pv 11) (pv 11) ⟨rfl, rfl, rfl, rfl⟩)))) (pe_callB call_len (by rfl) T.len (by decide +kernel) (pa_cons (pv 3) pa_nil)) (nomark _)))
      (pss_cons (L2H.ps_try_onlyX (Wout := fun _ _ _ _ => False) rfl rfl ⟨rfl, by decide, Or.inl XO.gP⟩ (fun _ => by passes_own) takesE (fun W pn xe tk tk2 hp => (pss_one (ps_set (i := 10) sc_law_turned.nd rfl (.inl rfl) (pe_methW (W := W) (pv 1) X.cl mR Fr (hr.mono (by decide)) bR (fun σ => L2N.passAt tk σ) (pa_cons (pv 6) pa_nil))))) (fun a oe cls d pn hz hf tkS hot => (pss_one (ps_ret (pe_lst (pa_cons (pv 1) (pa_cons (pe_ifExp (pt_val (pv 9)) (pe_lst pa_nil) (pv 2)) pa_nil)))))))
      (pss_one (ps_ret (pe_lst (pa_cons (pv 10) (pa_cons (pe_ifExp (pt_val (pv 9)) (pv 8) (pe_lst pa_nil)) pa_nil))))))))))))), ?_⟩
    have room : ∀ m : Nat, m ≤ 10000 → m ≤ sizeLine := fun m h => by rw [sizeLine_eq]; omega
    obtain ⟨dx, LB, LT, KD, hx, _⟩ := id fr.ob
    have nxp : x ≠ p := fun z => by obtain ⟨a, b, c, e, _⟩ := hp; rw [z, e] at hx; cases hx
    have lp := fr.l1
    have ln := fr.l2
    have lu := fr.l3
    have un := uniq_len (ps.map (·.2))
    rw [List.length_map] at un
    have lA : (allN ps ns us).length ≤ 36 := by
      simp only [List.length_append, List.length_map]; omega
    refine ⟨_, rfl, R, _, _, _, ps, ns, us, rfl, rec, fun D H1 hD m1 hD1 => ?_⟩
    have hp1 := hp.same m1
    have nDp : D ≠ p := hp.ne hD
    refine ⟨_, rfl, _, rfl, p, D, n, _, rfl, hp1, by omega, hD1, nDp, by omega, fun L ws H2 hL perm hL2 hp2 hk2 => ?_⟩
    have nLp : L ≠ p := hp1.ne hL
    have hD2 := hk2.get hD1 nDp
    have lW : ws.length = (allN ps ns us).length := perm.length_eq
    refine ⟨_, rfl, _, rfl, _, _, rfl, .inl ⟨_, SqL.of hD2, rfl⟩, _, _, rfl, rfl, p, n + (allN ps ns us).length, _, rfl, hp2, by omega, by omega, by rw [List.length_map]; omega, fun d H3 hd0 hd1 hp3 hk3 => ⟨_, rfl, L, _, rfl, SqL.of (hk3.get hL2 nLp), fun S hS => ?_⟩⟩
    rw [cut_take _ d hd0, ← List.map_take]
    obtain ⟨zs, hzs⟩ : ∃ zs, zs = ws.take d.toNat := ⟨_, rfl⟩
    rw [← hzs]
    have lz : zs.length ≤ 36 := by rw [hzs, List.length_take]; omega
    have zmem : ∀ z ∈ zs, z ∈ allN ps ns us := fun z hz => perm.mem_iff.mp (List.mem_of_mem_take (hzs ▸ hz))
    have znd : zs.Nodup := by rw [hzs]; exact ((perm.nodup_iff).mpr fr.nd).sublist (List.take_sublist _ _)
    have s4 : Same H3 (upd H3 S (.lst (zs.map V.str))) := Same.upd hS
    have eS : (upd H3 S (.lst (zs.map V.str))) S = some (.lst (zs.map V.str)) := upd_same
    have hp4 := hp3.same s4
    have nSp : S ≠ p := hp3.ne hS
    have k14 : KpP p H1 (upd H3 S (.lst (zs.map V.str))) := (hk2.trans hk3).trans (Kp.same s4)
    generalize upd H3 S (.lst (zs.map V.str)) = H4 at s4 eS hp4 k14 ⊢
    have hD4 := k14.get hD1 nDp
    clear hd1 hp3 hk3 hS s4 hL2
    -- the new names
    refine ⟨_, rfl, _, rfl, _, rfl, _, _, rfl, .inl ⟨_, SqL.of eS, rfl⟩, p, n + (allN ps ns us).length + 1, _, rfl, hp4, by omega, by omega, by rw [List.length_map]; omega, fun F1 f1 H5 hF1 lF1 nd1 ok1 eF1 hp5 hk5 => ?_⟩
    have hp5 : PotAt H5 p (n + (allN ps ns us).length + 1 + 432) := hp5.mono (by rw [List.length_map]; omega)
    have nF1 : F1 ≠ p := hp4.ne hF1
    have eS5 := hk5.get eS nSp
    refine ⟨_, rfl, _, rfl, p, S, n + (allN ps ns us).length + 1 + 432, zs, rfl, hp5, by omega, eS5, nSp, by omega, fun F2 f2 H6 hF2 perm2 eF2 hp6 hk6 => ?_⟩
    have nF2 : F2 ≠ p := hp5.ne hF2
    have eF16 := hk6.get eF1 nF1
    refine ⟨room 2 (by decide), fun l hl => ⟨p, _, _, _, rfl, hp6.same (Same.upd hl), by omega, .inl ⟨l, rfl, hp6.ne hl, upd_same⟩, by show 1 ≤ 2; decide, by show 2 ≤ 1000; decide, fun i v H7 hv hp7 hk7 => ?_⟩⟩
    have k67 : KpP p H6 H7 := (Kp.new hl).trans hk7
    obtain ⟨Fv, fs, rfl, eFv, lfs, okfs⟩ : ∃ (Fv : Addr) (fs : List Str), v = .ref Fv ∧ H7 Fv = some (.lst (fs.map V.str)) ∧ fs.length = zs.length ∧ ∀ z ∈ fs, NameS z := by
      rcases i with _ | _ | i
      · cases hv
        exact ⟨F1, f1, rfl, k67.get eF16 nF1, by rw [List.length_map] at lF1; omega, ok1⟩
      · cases hv
        exact ⟨F2, f2, rfl, k67.get eF2 nF2, perm2.length_eq, fun z hz => fr.nm (zmem z (perm2.mem_iff.mp hz))⟩
      · cases hv
    clear hv
    have hp7 : PotAt H7 p (n + 600) := hp7.mono (by omega)
    have k17 : KpP p H1 H7 := ((k14.trans hk5).trans hk6).trans k67
    have eS7 := ((hk5.trans hk6).trans k67).get eS nSp
    have hD7 := k17.get hD1 nDp
    clear hp4 k14 hD4 hF1 lF1 nd1 ok1 eF1 hp5 hk5 eS5 hF2 perm2 eF2 hp6 hk6 eF16 hl hk7 k67 eS
    -- the dict
    refine ⟨_, rfl, _, rfl, S, Fv, _, _, rfl, SqL.of eS7, SqL.of eFv, by rw [List.length_map, List.length_map, lfs], fun DZ pz H8 hDZ s8 eDZ lpz hget => ?_⟩
    obtain ⟨ms, hms⟩ : ∃ ms, ms = zs.zip fs := ⟨_, rfl⟩
    have mk1 : ms.map (·.1) = zs := by rw [hms]; exact List.map_fst_zip (by omega)
    have mnd : (ms.map (·.1)).Nodup := by rw [mk1]; exact znd
    have mmem : ∀ q ∈ ms, q.1 ∈ allN ps ns us ∧ NameS q.2 := fun q hq => by
      have h1 : q.1 ∈ zs := by rw [← mk1]; exact List.mem_map.mpr ⟨q, hq, rfl⟩
      have h2 : q.2 ∈ fs := by rw [hms] at hq; exact (List.of_mem_zip hq).2
      exact ⟨zmem _ h1, okfs _ h2⟩
    have lms : ms.length = zs.length := by rw [← mk1, List.length_map]
    refine ⟨DZ, pz, ms.map fun q => ((Sum.inr q.1 : Key), V.str q.2), rfl, SqL.of eDZ, paired_of pz ms (by rw [lpz, List.length_map, lms]) (fun i p' q h1 h2 => ?_), fun Dn hDn => ?_⟩
    · obtain ⟨x', y', e1, e2, e3⟩ := hget i p' h1
      rw [hms] at h2
      obtain ⟨g1, g2⟩ := List.getElem?_zip_eq_some.mp h2
      rw [List.getElem?_map, g1] at e1
      rw [List.getElem?_map, g2] at e2
      cases e1
      cases e2
      exact SqT.of e3
    have dk : mergeK [] (ms.map fun q => ((Sum.inr q.1 : Key), V.str q.2)) = mD ms := by
      unfold mD dictV
      simp only [List.map_map]
      rfl
    rw [dk]
    have s9 : Same H8 (upd H8 Dn (.dK (mD ms))) := Same.upd hDn
    have eDn : (upd H8 Dn (.dK (mD ms))) Dn = some (.dK (mD ms)) := upd_same
    have nDn : ∀ {b : Addr} {o : HO}, H8 b = some o → b ≠ Dn := fun e => ne_of_none e hDn
    generalize upd H8 Dn (.dK (mD ms)) = H9 at s9 eDn ⊢
    have s79 := s8.trans s9
    have k19 : KpP p H1 H9 := k17.trans (Kp.same s79)
    have kH9 : KpP p H H9 := (Kp.same m1).trans k19
    have fr8 := fr.kpp hp (((Kp.same m1).trans k17).trans (Kp.same s8))
    have fr9 := fr8.same s9
    have rec9 := rec.kp kH9 hRp
    have hp9 : PotAt H9 p (n + 600) := hp7.same s79
    have hD9 := s79 _ _ hD7
    have hx9 := kH9.get hx nxp
    clear eS7 eFv hD7 hp7 k17 eDZ hDZ hget s8 s79 lpz dk okfs lfs hms
    have any : ∀ {X Y : Hp}, Same X Y → Kp All X Y := fun h => Kp.same h
    have getF : ∀ {G : Hp}, Same H9 G → IsD G Dn := fun m => .inl ⟨_, .inl (m _ _ eDn)⟩
    have getV : ∀ {G : Hp} (z : Str), Same H9 G → DGet G Dn (.str z) (valV (mD ms) (.inr z)) := fun z m => .inl ⟨_, Sum.inr z, .inl (m _ _ eDn), rfl, rfl⟩
    have getE : ∀ z : Str, (valV (mD ms) (.inr z)).getD (V.str z) = V.str (rnF ms z) := fun z => mD_getD mnd z
    obtain ⟨aA, xA, rfl, tA, dA⟩ := rec.pt.a.tupI
    obtain ⟨aP, xP, rfl, tP, dP⟩ := rec.pt.p.tupI
    obtain ⟨aU, xU, rfl, tU, dU⟩ := rec.pt.v.tupI
    have nA := dA.len
    rw [List.length_map] at nA
    have eP := dP.strE
    have eU := dU.strE
    subst eP eU
    have tA9 := kH9.tup tA
    have tP9 := kH9.tup tP
    have tU9 := kH9.tup tU
    have pairI : ∀ {i : Nat} {v : V}, xA[i]? = some v → ∃ (hi : i < ps.length) (b : Addr), v = .ref b ∧ TupF H9 b [.str ps[i].1, .str ps[i].2] := fun {i v} hv => by
      obtain ⟨e, he, dve⟩ := dA.get hv
      have hi' : i < ps.length := by
        have := (List.getElem?_eq_some_iff.mp hv).1
        omega
      rw [List.getElem?_map, List.getElem?_eq_getElem hi'] at he
      cases he
      obtain ⟨b, rfl, hb⟩ := dve.pairI
      exact ⟨hi', b, rfl, kH9.tup hb⟩
    -- the pairs
    refine ⟨_, rfl, R, _, 0, _, rfl, rfl, SqL.of rec9.l, rfl, aA, rfl, ⟨_, tA9.sq⟩, fun E1 hE1 => ?_⟩
    refine lc_it (walk_tup (K := K) (a := aA) (xs := xA)) (fun i G => Same H9 G ∧ ∃ ws : List V, G E1 = some (.lst ws) ∧ ws.length = i ∧ DvL All G ws (((ps.take i).map (rnP ms)).map pairD)) ⟨Same.upd hE1, [], upd_same, rfl, .nil⟩ (fun i G _ h => ((any h.1).tup tA9).sq) ?_ ?_
    · rintro i y G G' hi ⟨sm, ws, hG, hwl, hws⟩ ⟨rfl, hy⟩
      obtain ⟨hi', b, rfl, hb⟩ := pairI hy
      refine ⟨b, _, rfl, ((any sm).tup hb).sq, rfl, _, _, rfl, _, _, rfl, rfl, ?_⟩
      refine ⟨rfl, yes ⟨_, rfl, Dn, rfl, getF sm, _, rfl, _, rfl, _, getV _ sm, _, rfl, Dn, rfl, getF sm, _, rfl, _, rfl, _, getV _ sm, by show 2 ≤ sizeLine; decide, fun tt G2 st htt => ?_⟩⟩
      rw [getE, getE] at htt
      refine ⟨ws, st _ _ hG, by rw [hwl, sizeLine_eq]; omega, ?_, ws ++ [.ref tt], upd_same, by rw [List.length_append, hwl]; rfl, ?_⟩
      · intro b o e
        rw [upd_ne (ne_of_none e hE1)]
        exact st _ _ (sm b o e)
      · have ku : Kp All G2 (upd G2 E1 (.lst (ws ++ [.ref tt]))) := Kp.at trivial (st _ _ hG)
        rw [List.take_succ, List.getElem?_eq_getElem hi', List.map_append, List.map_append]
        exact ((hws.kp (any st)).kp ku).app (.cons (Dv.tupM (ku.tup htt) (.cons (.str _) (.cons (.str _) .nil))) .nil)
    rintro H10 ⟨s10, w1, eE1, hw1l, hw1⟩
    rw [nA, List.take_length] at hw1
    -- the due parts
    refine ⟨_, rfl, E1, w1, rfl, SqL.of eE1, fun tQ H11 s11 htQ => ⟨room 1 (by decide), fun lD hlD => ?_⟩⟩
    have s12 : Same H11 (upd H11 lD (.lst [.ref tQ])) := Same.upd hlD
    have elD : (upd H11 lD (.lst [.ref tQ])) lD = some (.lst [.ref tQ]) := upd_same
    have htQ := (any s12).tup htQ
    generalize upd H11 lD (.lst [.ref tQ]) = H12 at s12 elD htQ ⊢
    have s912 := (s10.trans s11).trans s12
    have hw12 := hw1.kp (any (s11.trans s12))
    refine ⟨_, rfl, _, rfl, R, _, rfl, SqL.of (s912 _ _ rec9.l), fun SL hSL => ⟨SL, rfl, ⟨_, SqL.of upd_same⟩, fun E2 hE2 => ?_⟩⟩
    rw [cut_drop _ 1 (by decide)] at hE2 ⊢
    have eSL : (upd H12 SL (.lst (([.ref aA, .ref aP, .ref aU] : List V).drop (1 : Int).toNat))) SL = some (.lst [.ref aP, .ref aU]) := upd_same
    have s13 : Same H12 (upd H12 SL (.lst (([.ref aA, .ref aP, .ref aU] : List V).drop (1 : Int).toNat))) := Same.upd hSL
    generalize upd H12 SL (.lst (([.ref aA, .ref aP, .ref aU] : List V).drop (1 : Int).toNat)) = H13 at eSL s13 hE2 ⊢
    have s913 := s912.trans s13
    refine lc_it (walk_list (K := K) (a := SL) (xs := [.ref aP, .ref aU])) (fun i G => Same H13 G ∧ ∃ ws : List V, G E2 = some (.lst ws) ∧ ws.length = i ∧ DvL All G ws (([.tuple ((ns.map (rnF ms)).map .str), .tuple ((us.map (rnF ms)).map .str)] : List PyData).take i)) ⟨Same.upd hE2, [], upd_same, rfl, .nil⟩ (fun i G _ h => SqL.of (h.1 _ _ eSL)) ?_ ?_
    · rintro i y G G' hi ⟨sm, ws, hG, hwl, hws⟩ ⟨rfl, hy⟩
      obtain ⟨aB, bs, rfl, tB, hk, lb⟩ : ∃ (aB : Addr) (bs : List Str), y = .ref aB ∧ TupF H9 aB (bs.map V.str) ∧ ([.tuple ((ns.map (rnF ms)).map .str), .tuple ((us.map (rnF ms)).map .str)] : List PyData)[i]? = some (.tuple ((bs.map (rnF ms)).map .str)) ∧ bs.length ≤ 6 := by
        rcases i with _ | _ | i
        · cases hy
          exact ⟨aP, ns, rfl, tP9, rfl, ln⟩
        · cases hy
          exact ⟨aU, us, rfl, tU9, rfl, lu⟩
        · cases hy
      have s9G := s913.trans sm
      have hi2 : i < 2 := hi
      refine ⟨rfl, yes ⟨_, rfl, aB, rfl, ⟨_, ((any s9G).tup tB).sq⟩, fun E3 hE3 => ?_⟩⟩
      refine lc_o (walk_tup (K := K) (a := aB) (xs := bs.map V.str)) (fun j => bs[j]?.map fun z => V.str (rnF ms z)) (by rw [List.length_map, sizeLine_eq]; omega) hE3 (fun Hx sx => ((any (s9G.trans sx)).tup tB).sq) ?_ ?_
      · rintro j v Hx Hy Nx hj sx hDx ⟨rfl, hv⟩ hno hyes
        rw [List.getElem?_map] at hv
        cases e : bs[j]? with
        | none => rw [e] at hv; cases hv
        | some z =>
          rw [e] at hv
          cases hv
          refine ⟨rfl, yes ⟨_, rfl, Dn, rfl, getF (s9G.trans sx), _, rfl, _, rfl, _, getV _ (s9G.trans sx), ?_⟩⟩
          rw [getE]
          exact hyes _ (by rw [e]; rfl) _ Same.refl
      · intro Hx sx hDx
        rw [List.length_map, range_list] at hDx
        refine ⟨E3, _, rfl, SqL.of hDx, fun tt G2 st htt => ?_⟩
        have sGx := sx.trans st
        refine ⟨ws, sGx _ _ hG, by rw [hwl, sizeLine_eq]; omega, ?_, ws ++ [.ref tt], upd_same, by rw [List.length_append, hwl]; rfl, ?_⟩
        · intro b o e
          rw [upd_ne (ne_of_none e hE2)]
          exact sGx _ _ (sm b o e)
        · have ku : Kp All G2 (upd G2 E2 (.lst (ws ++ [.ref tt]))) := Kp.at trivial (sGx _ _ hG)
          rw [List.take_succ, hk]
          refine ((hws.kp (any sGx)).kp ku).app (.cons (Dv.tupM (ku.tup htt) ?_) .nil)
          have e1 : (bs.map fun z => V.str (rnF ms z)) = (bs.map (rnF ms)).map V.str := by rw [List.map_map]; rfl
          rw [e1]
          exact DvL.strs _
    rintro H14 ⟨s14, w2, eE2, hw2l, hw2⟩
    have hw2l : w2.length = 2 := hw2l
    rw [List.take_of_length_le (Nat.le_refl 2)] at hw2
    refine ⟨lD, E2, _, _, rfl, rfl, (s13.trans s14) _ _ elD, eE2, by rw [hw2l, sizeLine_eq]; simp only [List.length_cons, List.length_nil]; omega, fun DU hDU => ?_⟩
    have s15 : Same H14 (upd H14 DU (.lst ([.ref tQ] ++ w2))) := Same.upd hDU
    have eDU : (upd H14 DU (.lst ([.ref tQ] ++ w2))) DU = some (.lst ([.ref tQ] ++ w2)) := upd_same
    have nDUp : DU ≠ p := (hp9.same (s913.trans s14)).ne hDU
    have nDUH : H DU = none := by
      cases e : H DU with
      | none => rfl
      | some o =>
        have := (kH9.trans (Kp.same (s913.trans s14))).get e nDUp
        rw [hDU] at this
        cases this
    generalize upd H14 DU (.lst ([.ref tQ] ++ w2)) = H15 at s15 eDU ⊢
    have s915 := (s913.trans s14).trans s15
    have fv : ∀ z, NameS z → NameS (rnF ms z) := fun z hz => rnF_ok (fun q hq => (mmem q hq).2) hz
    have recU : RecAt H15 DU (.ref tQ) (w2.getD 0 .non) (w2.getD 1 .non) (ps.map (rnP ms)) (ns.map (rnF ms)) (us.map (rnF ms)) := by
      have z2 := hw2.kp (any s15)
      cases z2 with
      | cons a r =>
        cases r with
        | cons b r =>
          cases r
          refine ⟨eDU, ⟨Dv.tupM ((any ((s13.trans s14).trans s15)).tup htQ) (hw12.kp (any ((s13.trans s14).trans s15))), a, b, by rw [List.length_map]; omega, by rw [List.length_map]; omega, by rw [List.length_map]; omega, fun q hq => ?_, fun z hz => ?_, fun z hz => ?_⟩, by rw [List.length_map]; omega, by rw [List.length_map]; omega, by rw [List.length_map]; omega⟩
          · obtain ⟨q0, h0, rfl⟩ := List.mem_map.mp hq
            exact ⟨fv _ (fr.nP.1 q0 h0).1, fv _ (fr.nP.1 q0 h0).2⟩
          · obtain ⟨z0, h0, rfl⟩ := List.mem_map.mp hz
            exact fv _ (fr.nP.2.1 z0 h0)
          · obtain ⟨z0, h0, rfl⟩ := List.mem_map.mp hz
            exact fv _ (fr.nP.2.2 z0 h0)
    -- whether it is let
    refine ⟨_, rfl, D, rfl, ⟨_, SqL.of (s915 _ _ hD9)⟩, fun E4 hE4 => ?_⟩
    refine lc_o (walk_list (K := K) (a := D) (xs := (allN ps ns us).map V.str)) (fun j => (allN ps ns us)[j]?.map fun z => V.str (rnF ms z)) (by rw [List.length_map, sizeLine_eq]; omega) hE4 (fun Hx sx => SqL.of ((s915.trans sx) _ _ hD9)) ?_ ?_
    · rintro j v Hx Hy Nx hj sx hDx ⟨rfl, hv⟩ hno hyes
      rw [List.getElem?_map] at hv
      cases e : (allN ps ns us)[j]? with
      | none => rw [e] at hv; cases hv
      | some z =>
        rw [e] at hv
        cases hv
        refine ⟨rfl, yes ⟨_, rfl, Dn, rfl, getF (s915.trans sx), _, rfl, _, rfl, _, getV _ (s915.trans sx), ?_⟩⟩
        rw [getE]
        exact hyes _ (by rw [e]; rfl) _ Same.refl
    intro H16 s16 hE4x
    rw [List.length_map, range_list] at hE4x
    have e1 : ((allN ps ns us).map fun z => V.str (rnF ms z)) = ((allN ps ns us).map (rnF ms)).map V.str := by rw [List.map_map]; rfl
    rw [e1] at hE4x
    have s916 := s915.trans s16
    refine ⟨E4, _, rfl, SqL.of hE4x, by rw [List.length_map]; omega, _, rfl, _, _, rfl, .inl ⟨_, SqL.of (s916 _ _ hD9), rfl⟩, ?_⟩
    rw [List.length_map]
    have s1516 := s15.trans s16
    have recU16 := recU.same s16
    have hx16 := s916 _ _ hx9
    have hp16 := hp9.same s916
    have kH16 : KpP p H H16 := kH9.trans (Kp.same s916)
    have fr16 := fr9.same s916
    have rec16 := rec9.same s916
    have lost : ∀ (L : Addr) (G9 : Hp), G9 L = none → Same H16 G9 → Q (.ref L) (upd G9 L (.lst [.ref x, .ref R])) := fun L G9 hL sm => by
      have sm2 := sm.trans (Same.upd (o := .lst [.ref x, .ref R]) hL)
      exact kq L x R _ _ _ _ _ _ ps ns us _ upd_same (fr16.same sm2) (rec16.same sm2) hRp (.inl rfl) ((hp16.same sm2).mono (by omega)) (kH16.trans (Kp.same sm2))
    have won : ∀ (y L : Addr) (ya yp yv : V) (G9 : Hp), FrameAt C G9 y ya yp yv (ps.map (rnP ms)) (ns.map (rnF ms)) (us.map (rnF ms)) → G9 L = none → Same H16 G9 → Q (.ref L) (upd G9 L (.lst [.ref y, .ref DU])) := fun y L ya yp yv G9 fy hL sm => by
      have s1 : Same G9 (upd G9 L (.lst [.ref y, .ref DU])) := Same.upd hL
      have sm2 := sm.trans s1
      exact kq L y DU _ _ _ _ _ _ _ _ _ _ upd_same (fy.same s1) (recU16.same sm2) nDUp (.inr nDUH) ((hp16.same sm2).mono (by omega)) (kH16.trans (Kp.same sm2))
    have lock : ∀ od, FrameAt C (upd H16 Dn (.frz od (.dK (mD ms)))) x _ _ _ ps ns us := fun od => fr8.same fun b o e => by
      rw [upd_ne (nDn e)]
      exact s916 _ _ (s9 b o e)
    have lt := uniq_lt ((allN ps ns us).map (rnF ms))
    have lle := uniq_len ((allN ps ns us).map (rnF ms))
    rw [List.length_map] at lt lle
    have lb : decide (V.int (((uniq ((allN ps ns us).map (rnF ms))).length : Nat) : Int) = V.int (((allN ps ns us).length : Nat) : Int)) = decide ((allN ps ns us).map (rnF ms)).Nodup := by
      by_cases nd : ((allN ps ns us).map (rnF ms)).Nodup
      · have : ¬ (uniq ((allN ps ns us).map (rnF ms))).length < (allN ps ns us).length := fun z => (lt.mp z) nd
        rw [decide_eq_true nd, decide_eq_true]
        rw [show (uniq ((allN ps ns us).map (rnF ms))).length = (allN ps ns us).length by omega]
      · have := lt.mpr nd
        rw [decide_eq_false nd, decide_eq_false]
        intro z
        have z2 : (((uniq ((allN ps ns us).map (rnF ms))).length : Nat) : Int) = (((allN ps ns us).length : Nat) : Int) := V.int.inj z
        omega
    refine ⟨rfl, ?_⟩
    rw [lb]
    refine ⟨_, rfl, x, dx, _, rfl, hx16, rfl, _, rfl, ?_⟩
    refine ⟨x, Dn, _, _, _, ps, ns, us, ms, rfl, fr16, s916 _ _ eDn, lock, mnd, mmem, by omega, fun nd y ya yp yv H17 fy m17 => ?_, fun nd H17 m17 => ?_⟩
    · rw [decide_eq_true nd]
      exact ⟨_, rfl, _, rfl, _, rfl, iteT ⟨_, rfl, room 2 (by decide), fun L hL => won y L _ _ _ _ fy hL m17⟩⟩
    · rw [decide_eq_false nd]
      exact ⟨true, hI, fun _ a ha => ⟨_, rfl, _, rfl, _, rfl, iteF ⟨_, rfl, room 2 (by decide), fun L hL => lost L _ hL m17⟩⟩, fun z => by cases z⟩
end
end Kx
namespace Kx
open PySem PySem.Spec PyProof.Rows L2
/-- a frame and its record -/
def FR (C : Addr) (G : Hp) (x R : Addr) : Prop := ∃ (va vp vv wa wp wv : V) (ps : List (Str × Str)) (ns us : List Str), FrameAt C G x va vp vv ps ns us ∧ RecAt G R wa wp wv ps ns us
theorem FR.same {C x R : Addr} {H H' : Hp} (h : FR C H x R) (s : Same H H') : FR C H' x R := let ⟨_, _, _, _, _, _, ps, ns, us, f, r⟩ := h; ⟨_, _, _, _, _, _, ps, ns, us, f.same s, r.same s⟩
theorem FR.kpp {C x R p : Addr} {n : Nat} {H H' : Hp} (h : FR C H x R) (hp : PotAt H p n) (k : KpP p H H') (nR : R ≠ p) : FR C H' x R := let ⟨_, _, _, _, _, _, ps, ns, us, f, r⟩ := h; ⟨_, _, _, _, _, _, ps, ns, us, f.kpp hp k, r.kp k nR⟩
theorem FrameAt.kpl {C x l : Addr} {xs : List V} {H H' : Hp} {va vp vv : V} {ps : List (Str × Str)} {ns us : List Str} (h : FrameAt C H x va vp vv ps ns us) (hl : H l = some (.lst xs)) (k : Kp (fun a => a = l) H H') : FrameAt C H' x va vp vv ps ns us := by
  obtain ⟨⟨dx, LB, LT, KD, h1, h2, h3, h4⟩, da, dp, dv, r1, r2, r3, r4, r5⟩ := h
  exact ⟨⟨dx, LB, LT, KD, k.get h1 (fun z => by rw [z, hl] at h1; cases h1), k.get h2 (fun z => by rw [z, hl] at h2; cases h2), k.tup h3, k.get h4 (fun z => by rw [z, hl] at h4; cases h4)⟩, da.kp k.all, dp.kp k.all, dv.kp k.all, r1, r2, r3, r4, r5⟩
theorem FR.kpl {C x R l : Addr} {xs : List V} {H H' : Hp} (h : FR C H x R) (hl : H l = some (.lst xs)) (k : Kp (fun a => a = l) H H') (nR : R ≠ l) : FR C H' x R := let ⟨_, _, _, _, _, _, ps, ns, us, f, r⟩ := h; ⟨_, _, _, _, _, _, ps, ns, us, f.kpl hl k, r.kp k nR⟩
theorem dupYS {S : Addr → Addr → Hp → Prop} {T : Addr → Addr → Hp → Prop} {goal : Prop} (main : (∀ y R G, S y R G → T y R G) → goal) (body : ∀ y R G, S y R G → T y R G) : goal := main body
theorem three_at {H : Hp} {R : Addr} {va vp vv : V} {ps : List (Str × Str)} {ns us : List Str} (r : RecAt H R va vp vv ps ns us) : Dv Non H (.ref R) (three ps ns us) := Dv.lst id r.l (.cons r.pt.a.no (.cons r.pt.p.no (.cons r.pt.v.no .nil)))
/-- what was put aside -/
def Old1 (C p EL : Addr) (G : Hp) (e : V) : Prop := ∃ (t x R : Addr), e = .ref t ∧ TupF G t [.ref x, .ref R] ∧ FR C G x R ∧ R ≠ p ∧ R ≠ EL
section
variable {P : Program} {w : World} {K : PySem.W.Frag} {mg : Str → Option Value} {base : Heap}
abbrev N_law_right : List Str := ["pot", "record", "frame", "elder", "turn", "one", "part"]
abbrev P_law_right : List Str := ["pot"]
theorem sc_law_right : FnScope N_law_right P_law_right (defScope s_law_right) := ⟨rfl, rfl, rfl, by decide +kernel, rfl, by decide +kernel, by decide +kernel⟩
def spRight (T1 T2 T3 : Addr) : Sp := fun vs H Q _ => ∃ (p : Addr) (n : Nat), vs = [.ref p] ∧ PotAt H p n ∧ n ≤ 400000 ∧ TupF H T1 [] ∧ TupF H T2 [] ∧ TupF H T3 [] ∧ ∀ (H' : Hp), PotAt H' p (n + 20000) → KpP p H H' → Q (.bl true) H'
theorem ok_right {om : Obj} (hK : K.lookup sysModules = some om) (T : Bt mg) {C I IO f0 fw fr T1 T2 T3 : Addr} {fd0 fdw fdr : FuncData} {dsW : List Value} (X : Fx K mg C) (FI : Fi K C) (h : Has K mg "_law_right" s_law_right) (M : Mk K C f0)
    (F0 : FnOk P w K mg base (L2N.CX P w) 5 f0 fd0 P_Frame_init (spInit C I)) (b0 : Binds K fd0 P_Frame_init []) (mW : Meth K C "with_names" fw) (Fw : FnOk P w K mg base (L2N.CX P w) 7 fw fdw P_Frame_with_names (spWith C I)) (bW : Binds K fdw P_Frame_with_names dsW) (dW : Vals [.ref T1, .ref T2, .ref T3] dsW)
    (mR : Meth K C "renamed" fr) (Fr : FnOk P w K mg base (L2N.CX P w) 7 fr fdr P_Frame_renamed (spRen C IO)) (bR : Binds K fdr P_Frame_renamed []) (M7 : Me P w K mg base C 1 "__eq__" P_Frame_eq (spEqF C)) (C1 : Ca P w K mg base 1 "_law_dip" P_law_dip spDip) (C2 : Ca P w K mg base 2 "_law_choose" P_law_choose spChoose)
    (C3 : Ca P w K mg base 5 "_law_parts" P_law_parts spParts) (C4 : Ca P w K mg base 8 "_law_more" P_law_more (spMore C T1 T2 T3)) (C5 : Ca P w K mg base 8 "_law_turned" P_law_turned (spTurn C)) (C6 : CaG P w K mg base 8 "_law_is_told" P_law_is_told (spTold C)) : CaG P w K mg base 9 "_law_right" P_law_right (spRight T1 T2 T3) := by
  obtain ⟨_, _, c__law_dip⟩ := C1
  obtain ⟨_, _, c__law_choose⟩ := C2
  obtain ⟨_, _, c__law_parts⟩ := C3
  obtain ⟨_, _, c__law_more⟩ := C4
  obtain ⟨_, _, c__law_turned⟩ := C5
  obtain ⟨_, _, c__law_is_told⟩ := C6
  obtain ⟨_, _, c_eq⟩ := M7
  refine calG_of h sc_law_right (fun _ _ _ _ _ _ us hl => match us, hl with | [_], _ => rfl) (fun vs H Q E h => ?_) (fun f cdv A outer s H vs Q E hgd hr h => ?_)
  · obtain ⟨p, n, rfl, _⟩ := h
    rfl
  · obtain ⟨p, n, rfl, hp, hn, t1, t2, t3, kq⟩ := h
    refine ⟨_, (pss_cons (ps_set (i := 1) sc_law_right.nd rfl (.inl rfl) (pe_call c__law_parts.1 (hr.mono (by decide)) rfl c__law_parts.2.1 c__law_parts.2.2.1 c__law_parts.2.2.2 .nil pass0 (pa_cons (pv 0) (pa_cons (pe_call c__law_choose.1 (hr.mono (by decide)) rfl c__law_choose.2.1 c__law_choose.2.2.1 c__law_choose.2.2.2 .nil pass0 (pa_cons (pv 0) (pa_cons (pe_lst (pa_cons pe_int (pa_cons pe_int pa_nil))) pa_nil))) (pa_cons (pe_call c__law_choose.1 (hr.mono (by decide)) rfl c__law_choose.2.1 c__law_choose.2.2.1 c__law_choose.2.2.2 .nil pass0 (pa_cons (pv 0) (pa_cons (pe_lst (pa_cons pe_int (pa_cons pe_int pa_nil))) pa_nil))) pa_nil)))))
      (pss_cons (ps_par (i := 2) (j := 3) (by rfl) sc_law_right.nd rfl rfl (by decide) rfl rfl (pa_cons (pe_make M F0 (hr.mono (by decide)) rfl X.mgC b0 .nil (L2N.passes_call takesF (fun cls d σ H h => h)) (pa_cons (pe_ix ix_list (pv 1) pe_int (fun _ _ => rfl)) (pa_cons (pe_ix ix_list (pv 1) pe_int (fun _ _ => rfl)) (pa_cons (pe_ix ix_list (pv 1) pe_int (fun _ _ => rfl)) pa_nil)))) (pa_cons (pe_lst pa_nil) pa_nil)) (by rfl))
      (pss_cons (ps_for PassesOwn.never rfl (pi_range1 rfl T.range (pa_cons (pe_op op_add pe_int (pe_call c__law_dip.1 (hr.mono (by decide)) rfl c__law_dip.2.1 c__law_dip.2.2.1 c__law_dip.2.2.2 .nil pass0 (pa_cons (pv 0) (pa_cons pe_int pa_nil)))) pa_nil)) (pg_name (i := 4) sc_law_right.nd rfl (.inl rfl))
        (pss_cons (ps_expr (pe_bm PySem.F.plainAttrs_list PySem.F.slot_list_append PySem.F.type_list_append mt_append (pv 3) (pa_cons (pe_tupF (pa_cons (pv 2) (pa_cons (pe_callTy call_list_of (by rfl) T.list (by decide +kernel) (pa_cons (pv 1) pa_nil)) pa_nil))) pa_nil)))
        (pss_cons (ps_if (pt_cmpR op_eq (pe_call c__law_dip.1 (hr.mono (by decide)) rfl c__law_dip.2.1 c__law_dip.2.2.1 c__law_dip.2.2.2 .nil pass0 (pa_cons (pv 0) (pa_cons pe_int pa_nil))) pe_int (nomark _)) (pss_one (ps_asg (pe_call c__law_more.1 (hr.mono (by decide)) rfl c__law_more.2.1 c__law_more.2.2.1 c__law_more.2.2.2 .nil pass0 (pa_cons (pv 0) (pa_cons (pv 2) (pa_cons (pv 1) pa_nil)))) (pg_lst (by rfl) (pgs_cons (pg_name (i := 2) sc_law_right.nd rfl (.inl rfl)) (pgs_cons (pg_name (i := 1) sc_law_right.nd rfl (.inl rfl)) pgs_nil))))) (pss_one (ps_asg (pe_call c__law_turned.1 (hr.mono (by decide)) rfl c__law_turned.2.1 c__law_turned.2.2.1 c__law_turned.2.2.2 .nil pass0 (pa_cons (pv 0) (pa_cons (pv 2) (pa_cons (pv 1) pa_nil)))) (pg_lst (by rfl) (pgs_cons (pg_name (i := 2) sc_law_right.nd rfl (.inl rfl)) (pgs_cons (pg_name (i := 1) sc_law_right.nd rfl (.inl rfl)) pgs_nil))))))
        (pss_one (ps_if (PW.pt (pw_or (pt_cmpR (op_eqL0 hr.units0) (pv 1) (pe_lst pa_nil) (nomark _)) (pw_or1 (pt_not (pt_val (pe_callG c__law_is_told.1 hgd (hr.mono (by decide)) rfl c__law_is_told.2.1 c__law_is_told.2.2.1 c__law_is_told.2.2.2 pass0 (pa_cons (pv 2) (pa_cons (pv 1) pa_nil)))))))) (pss_one (ps_ret pe_bl)) pss_nil)))))
      (pss_cons (ps_for PassesOwn.never rfl (pi_list (pv 3)) (pg_tup (by rfl) (pgs_cons (pg_name (i := 5) sc_law_right.nd rfl (.inl rfl)) (pgs_cons (pg_name (i := 6) sc_law_right.nd rfl (.inl rfl)) pgs_nil)))
        (pss_one (ps_if (PW.pt (pw_or (pt_not (pt_val (pe_callG c__law_is_told.1 hgd (hr.mono (by decide)) rfl c__law_is_told.2.1 c__law_is_told.2.2.1 c__law_is_told.2.2.2 pass0 (pa_cons (pv 5) (pa_cons (pv 6) pa_nil))))) (pw_or (pt_cmpR op_ne (pe_cmpR (op_eqO c_eq.2.1.at_ c_eq.2.1.fn FI.nf c_eq.1 (hr.mono (by decide)) c_eq.2.2 pass0) (pv 5) (pv 2) (nomark _)) (pe_cmpR (op_eqDv hK hr.units) (pv 6) (pv 1) (nomark _)) (nomark _)) (pw_or1 (pt_cmpR (op_eqO c_eq.2.1.at_ c_eq.2.1.fn FI.nf c_eq.1 (hr.mono (by decide)) c_eq.2.2 pass0) (pv 5) (pv 6) (nomark _)))))) (pss_one (ps_ret pe_bl)) pss_nil)))
      (pss_one (ps_ret (pe_and (pe_cmpR (op_eqO c_eq.2.1.at_ c_eq.2.1.fn FI.nf c_eq.1 (hr.mono (by decide)) c_eq.2.2 pass0) (pe_meth0 (pv 2) X.cl mW Fw (hr.mono (by decide)) bW dW (L2N.passes_call takesF (fun cls d σ H h => h))) (pv 2) (nomark _)) (pe_one (pe_cmpR (op_eqO c_eq.2.1.at_ c_eq.2.1.fn FI.nf c_eq.1 (hr.mono (by decide)) c_eq.2.2 pass0) (pe_meth (pv 2) X.cl mR Fr (hr.mono (by decide)) bR .nil (L2N.passes_call takesF (fun cls d σ H h => h)) (pa_cons pe_dnewK pa_nil)) (pv 2) (nomark _)))))))))), ?_⟩
    have room : ∀ m : Nat, m ≤ 10000 → m ≤ sizeLine := fun m h => by rw [sizeLine_eq]; omega
    have any : ∀ {X Y : Hp}, Same X Y → Kp All X Y := fun h => Kp.same h
    refine ⟨_, rfl, _, rfl, room 2 (by decide), fun l1 hl1 => ⟨p, n, _, _, rfl, hp.same (Same.upd hl1), by omega, .inl ⟨l1, rfl, hp.ne hl1, upd_same⟩, by show 1 ≤ 2; decide, by show 2 ≤ 1000; decide, fun i v H1 hv hp1 hk1 => ?_⟩⟩
    obtain ⟨t, rfl, ht0, ht1⟩ : ∃ t : Int, v = .int t ∧ 0 ≤ t ∧ t ≤ 12 := by
      have all : ∀ v ∈ ([.int 2, .int 12] : List V), ∃ m : Int, v = .int m ∧ 0 ≤ m ∧ m ≤ 12 := (by repeat (first | exact List.forall_mem_nil _ | refine List.forall_mem_cons.mpr ⟨⟨_, rfl, by decide, by decide⟩, ?_⟩))
      exact all v (List.mem_of_getElem? hv)
    clear hv
    have hk1 : KpP p H H1 := (Kp.new hl1).trans hk1
    refine ⟨_, rfl, room 2 (by decide), fun l2 hl2 => ⟨p, n + 1, _, _, rfl, hp1.same (Same.upd hl2), by omega, .inl ⟨l2, rfl, hp1.ne hl2, upd_same⟩, by show 1 ≤ 2; decide, by show 2 ≤ 1000; decide, fun i v H2 hv hp2 hk2 => ?_⟩⟩
    obtain ⟨m, rfl, hm0, hm1⟩ : ∃ t : Int, v = .int t ∧ 0 ≤ t ∧ t ≤ 6 := by
      have all : ∀ v ∈ ([.int 2, .int 6] : List V), ∃ m : Int, v = .int m ∧ 0 ≤ m ∧ m ≤ 6 := (by repeat (first | exact List.forall_mem_nil _ | refine List.forall_mem_cons.mpr ⟨⟨_, rfl, by decide, by decide⟩, ?_⟩))
      exact all v (List.mem_of_getElem? hv)
    clear hv
    have hk2 : KpP p H H2 := hk1.trans ((Kp.new hl2).trans hk2)
    refine ⟨p, n + 2, t, m, rfl, hp2, by omega, ht0, ht1, hm0, hm1, fun R0 x0 y0 z0 ps ns us H3 hR0 eR0 good d0 d1 d2 hp3 hk3 => ?_⟩
    have nRp0 : R0 ≠ p := hp2.ne hR0
    have hk3 : KpP p H H3 := hk2.trans hk3
    obtain ⟨g1, g2, g3', gok, gnd⟩ := id good
    have fnm : Names ps ns us := ⟨fun q hq => ⟨gok q.1 (List.mem_append.mpr (.inl (List.mem_map.mpr ⟨q, hq, rfl⟩))), gok q.2 (List.mem_append.mpr (.inr (List.mem_append.mpr (.inl (List.mem_map.mpr ⟨q, hq, rfl⟩)))))⟩, fun z hz => gok z (List.mem_append.mpr (.inr (List.mem_append.mpr (.inr (List.mem_append.mpr (.inl hz)))))), fun z hz => gok z (List.mem_append.mpr (.inr (List.mem_append.mpr (.inr (List.mem_append.mpr (.inr hz))))))⟩
    have rec3 : RecAt H3 R0 x0 y0 z0 ps ns us := ⟨eR0, ⟨d0 All, d1 All, d2 All, by omega, by omega, by omega, fnm⟩, by omega, by omega, by omega⟩
    have lb : letB ps ns us = true := by
      rw [letB_eq fnm]
      exact decide_eq_true ⟨gnd, g1, g2, g3'⟩
    refine ⟨_, rfl, R0, _, 0, _, rfl, rfl, SqL.of eR0, rfl, _, rfl, R0, _, 1, _, rfl, rfl, SqL.of eR0, rfl, _, rfl, R0, _, 2, _, rfl, rfl, SqL.of eR0, rfl, ?_⟩
    refine make_specA rec3.pt (fun _ y H4 fy s4 => ?_) (fun e => absurd (lb.symm.trans e) (by decide))
    refine ⟨Nat.zero_le _, fun EL hEL => ?_⟩
    have nEp : EL ≠ p := (hp3.same s4).ne hEL
    have s5 : Same H4 (upd H4 EL (.lst [])) := Same.upd hEL
    have eEL : (upd H4 EL (.lst [])) EL = some (.lst []) := upd_same
    have hELH : H EL = none := by
      cases e : H EL with
      | none => rfl
      | some o =>
        have := (hk3.trans (Kp.same s4)).get e nEp
        rw [hEL] at this
        cases this
    have nR0E : R0 ≠ EL := ne_of_none (s4 _ _ eR0) hEL
    generalize upd H4 EL (.lst []) = H5 at s5 eEL ⊢
    have s35 := s4.trans s5
    have hp5 : PotAt H5 p (n + 402) := hp3.same s35
    have kH5 : KpP p H H5 := hk3.trans (Kp.same s35)
    have cur0 : FR C H5 y R0 := ⟨_, _, _, _, _, _, ps, ns, us, fy.same s5, rec3.same s35⟩
    clear good d0 d1 d2 hp3 hk3 rec3 eR0 hR0 hl1 hl2 hp1 hp2 hk1 hk2 fy s4 s5 s35
    refine ⟨_, _, rfl, _, rfl, p, n + 402, 5, rfl, hp5, by omega, by decide, by decide, fun d H6 hd0 hd1 hp6 hk6 => ?_⟩
    have nRel : ∀ {b : Addr} {o : HO}, H b = some o → b ≠ EL := fun e => ne_of_none e hELH
    have cur6 := cur0.kpp hp5 hk6 nRp0
    have eEL6 := hk6.get eEL nEp
    have kH6 := kH5.trans hk6
    refine ⟨_, _, rfl, rfl, 5 + d, rfl, by omega, by omega, for_it (walk_range (lo := 0) (n := (5 + d).toNat)) (fun i σ G => ∃ (x R : Addr) (v4 : Option V) (es : List V), σ = [some (.ref p), some (.ref R), some (.ref x), some (.ref EL), v4, none, none] ∧ FR C G x R ∧ R ≠ p ∧ R ≠ EL ∧ PotAt G p (n + 403 + 1010 * i) ∧ KpP p H G ∧ G EL = some (.lst es) ∧ es.length = i ∧ ∀ e ∈ es, Old1 C p EL G e)
      ⟨y, R0, none, [], rfl, cur6, nRp0, nR0E, hp6.mono (by omega), kH6, eEL6, rfl, fun e he => by cases he⟩ (fun _ _ _ _ _ => trivial) ?_ ?_⟩
    · rintro i v σ G G' hi ⟨x, R, v4, es, rfl, cur, hRp, hRE, hpG, kG, eE, les, old⟩ ⟨rfl, rfl⟩
      have hi9 : i < 10 := by omega
      obtain ⟨va, vp, vv, wa, wp, wv, qs, ms, ts, fx, rx⟩ := id cur
      -- put aside
      refine ⟨_, rfl, .inl ⟨rfl, _, SqL.of eE⟩, _, rfl, _, rfl, R, _, rfl, .inl (SqL.of rx.l), fun RC hRC => ⟨room 2 (by decide), fun tt G2 st htt => ?_⟩⟩
      have sc : Same G' (upd G' RC (.lst [wa, wp, wv])) := Same.upd hRC
      have eRC : (upd G' RC (.lst [wa, wp, wv])) RC = some (.lst [wa, wp, wv]) := upd_same
      have nRCp : RC ≠ p := hpG.ne hRC
      have nRCE : RC ≠ EL := (ne_of_none eE hRC).symm
      generalize upd G' RC (.lst [wa, wp, wv]) = G1 at sc eRC st
      have s02 := sc.trans st
      have eE2 := s02 _ _ eE
      refine ⟨EL, _, _, rfl, rfl, eE2, by rw [les, sizeLine_eq]; omega, ?_⟩
      have kE : Kp (fun a => a = EL) G2 (upd G2 EL (.lst (es ++ [.ref tt]))) := Kp.at rfl eE2
      have eE3 : (upd G2 EL (.lst (es ++ [.ref tt]))) EL = some (.lst (es ++ [.ref tt])) := upd_same
      have hp3 : PotAt (upd G2 EL (.lst (es ++ [.ref tt]))) p (n + 403 + 1010 * i) := by
        obtain ⟨a1, b1, c1, e1, r1⟩ := hpG.same s02
        exact ⟨a1, b1, c1, by rw [upd_ne nEp.symm]; exact e1, r1⟩
      have kG3 : KpP p H (upd G2 EL (.lst (es ++ [.ref tt]))) := fun b o e n' => by
        rw [upd_ne (nRel e)]
        exact s02 _ _ (kG b o e n')
      have curO : FR C G2 x RC := ⟨_, _, _, _, _, _, qs, ms, ts, fx.same s02, ⟨st _ _ eRC, rx.pt.kp (any s02), rx.b1, rx.b2, rx.b3⟩⟩
      have old3 : ∀ e ∈ es ++ [.ref tt], Old1 C p EL (upd G2 EL (.lst (es ++ [.ref tt]))) e := fun e he => by
        rcases List.mem_append.mp he with he | he
        · obtain ⟨t', x', R', rfl, ht', f', n1, n2⟩ := old e he
          exact ⟨t', x', R', rfl, kE.tup ((any s02).tup ht'), (f'.same s02).kpl eE2 kE n2, n1, n2⟩
        · rw [List.mem_singleton.mp he]
          exact ⟨tt, x, RC, rfl, kE.tup htt, curO.kpl eE2 kE nRCE, nRCp, nRCE⟩
      have cur3 : FR C (upd G2 EL (.lst (es ++ [.ref tt]))) x R := (cur.same s02).kpl eE2 kE hRE
      have les3 : (es ++ [V.ref tt]).length = i + 1 := by rw [List.length_append, les]; rfl
      generalize upd G2 EL (.lst (es ++ [.ref tt])) = G3 at eE3 hp3 kG3 old3 cur3 ⊢
      generalize es ++ [V.ref tt] = es3 at eE3 old3 les3
      clear kE eE2 s02 st htt sc eRC hRC cur fx rx old eE kG hpG curO
      -- a deed
      apply @dupYS (fun y R' G => FR C G y R' ∧ R' ≠ p ∧ R' ≠ EL ∧ PotAt G p (n + 403 + 1010 * i + 1001) ∧ KpP p G3 G)
      · intro body
        refine ⟨_, rfl, p, _, 2, rfl, hp3, by omega, by decide, by decide, fun d2 G4 hd20 hd21 hp4 hk4 => ⟨rfl, _, rfl, ?_⟩⟩
        have hp4 : PotAt G4 p (n + 403 + 1010 * i + 1) := hp4
        have cur4 := cur3.kpp hp3 hk4 hRp
        have eE4 := hk4.get eE3 nEp
        have kG4 := kG3.trans hk4
        obtain ⟨va, vp, vv, wa, wp, wv, qs, ms, ts, fx, rx⟩ := id cur4
        by_cases hd : d2 = 0
        · rw [decide_eq_true (show V.int d2 = V.int 0 by rw [hd])]
          refine iteT ⟨_, rfl, _, rfl, _, rfl, p, x, R, _, va, vp, vv, wa, wp, wv, qs, ms, ts, rfl, hp4, by omega, fx, rx, hRp, kG4.tup t1, kG4.tup t2, kG4.tup t3, fun DD y S ya yp yv za zp zv qs' ms' ts' G5 hDD fy ry nS hSf hp5' hk5 => ?_⟩
          refine ⟨DD, _, rfl, SqL.of hDD, rfl, _, _, rfl, _, _, rfl, rfl, ?_⟩
          refine body y S G5 ⟨⟨_, _, _, _, _, _, _, _, _, fy, ry⟩, nS, ?_, hp5'.mono (by omega), hk4.trans hk5⟩
          rcases hSf with z | z
          · rw [z]; exact hRE
          · exact (ne_of_none eE4 z).symm
        · rw [decide_eq_false (fun z => hd (by cases z; rfl))]
          refine iteF ⟨_, rfl, _, rfl, _, rfl, p, x, R, _, va, vp, vv, wa, wp, wv, qs, ms, ts, rfl, hp4, by omega, fx, rx, hRp, fun DD y S ya yp yv za zp zv qs' ms' ts' G5 hDD fy ry nS hSf hp5' hk5 => ?_⟩
          refine ⟨DD, _, rfl, SqL.of hDD, rfl, _, _, rfl, _, _, rfl, rfl, ?_⟩
          refine body y S G5 ⟨⟨_, _, _, _, _, _, _, _, _, fy, ry⟩, nS, ?_, hp5'.mono (by omega), hk4.trans hk5⟩
          rcases hSf with z | z
          · rw [z]; exact hRE
          · exact (ne_of_none eE4 z).symm
      · rintro y S G5 ⟨cur5, nS, nSE, hp5', hk5⟩
        obtain ⟨va, vp, vv, wa, wp, wv, qs, ms, ts, fy, ry⟩ := id cur5
        refine ⟨_, rfl, Nat.zero_le _, fun pz hpz => ⟨S, pz, _, rfl, rfl, SqL.of ((Same.upd hpz) _ _ ry.l), SqL.of upd_same, _, rfl, ?_⟩⟩
        have sz : Same G5 (upd G5 pz (.lst [])) := Same.upd hpz
        generalize upd G5 pz (.lst []) = G6 at sz ⊢
        refine iteF ⟨_, rfl, _, rfl, y, S, va, vp, vv, wa, wp, wv, qs, ms, ts, rfl, fy.same sz, ry.same sz, fun G7 m7 => ⟨_, rfl, iteF ?_⟩⟩
        have s57 := sz.trans m7
        have k37 : KpP p G3 G7 := hk5.trans (Kp.same s57)
        exact ⟨y, S, _, es3, rfl, cur5.same s57, nS, nSE, (hp5'.same s57).mono (by omega), kG3.trans k37, k37.get eE3 nEp, les3, fun e he => by
          obtain ⟨t', x', R', rfl, ht', f', n1, n2⟩ := old3 e he
          exact ⟨t', x', R', rfl, k37.tup ht', f'.kpp hp3 k37 n1, n1, n2⟩⟩
    · rintro σ G ⟨x, R, v4, es, rfl, cur, hRp, hRE, hpG, kG, eE, les, old⟩
      obtain ⟨va, vp, vv, wa, wp, wv, qs, ms, ts, fx, rx⟩ := id cur
      obtain ⟨dx, _, _, _, hx, _⟩ := id fx.ob
      have b1 := fx.l1
      have b2 := fx.l2
      have b3 := fx.l3
      refine ⟨_, rfl, EL, rfl, ⟨_, SqL.of eE⟩, for_it (walk_list (K := K) (a := EL) (xs := es)) (fun i σ G2 => ∃ v5 v6 : Option V, σ = [some (.ref p), some (.ref R), some (.ref x), some (.ref EL), v4, v5, v6] ∧ Same G G2) ⟨none, none, rfl, Same.refl⟩ (fun i σ Hx _ ⟨_, _, _, sm⟩ => SqL.of (sm _ _ eE)) ?_ ?_⟩
      · rintro i e σ G2 G2' hi ⟨v5, v6, rfl, sm⟩ ⟨rfl, he⟩
        obtain ⟨t', x', R', rfl, ht', f', n1, n2⟩ := old e (List.mem_of_getElem? he)
        have f2 := f'.same sm
        obtain ⟨ua, up, uv, ya, yp, yv, qs', ms', ts', fy, ry⟩ := id f2
        obtain ⟨dy, _, _, _, hy, _⟩ := id fy.ob
        refine ⟨t', _, rfl, ((any sm).tup ht').sq, rfl, _, _, rfl, _, _, rfl, rfl, ?_⟩
        refine ⟨_, rfl, _, rfl, x', R', ua, up, uv, ya, yp, yv, qs', ms', ts', rfl, fy, ry, fun G3 m3 => ⟨_, rfl, iteF ?_⟩⟩
        have s3 := sm.trans m3
        refine ⟨_, rfl, _, rfl, x', dy, _, x, rfl, rfl, m3 _ _ hy, .inl ⟨dx, _, s3 _ _ hx⟩, x', x, ua, up, uv, qs', ms', ts', rfl, fy.same m3, .inl ⟨_, _, _, qs, ms, ts, fx.same s3, fun G4 m4 => ?_⟩⟩
        have s4 := s3.trans m4
        have m34 := m3.trans m4
        refine ⟨_, rfl, _, rfl, _, rfl, Non, Non, three qs' ms' ts', three qs ms ts, three_at (ry.same m34), three_at (rx.same s4), shaped_three fy.nP, shaped_three fx.nP, ?_⟩
        rw [eqv_three]
        refine ⟨rfl, _, rfl, ?_⟩
        rw [show (!decide (V.bl (same3 qs' ms' ts' qs ms ts) = V.bl (same3 qs' ms' ts' qs ms ts))) = false by rw [decide_eq_true rfl]; rfl]
        refine iteF ⟨_, rfl, _, rfl, x', dy, _, R', rfl, rfl, m34 _ _ hy, .inr ⟨_, m34 _ _ ry.l⟩, x', R', ua, up, uv, qs', ms', ts', rfl, fy.same m34, .inr ⟨_, m34 _ _ ry.l, ⟨_, rfl, _, rfl, iteF ?_⟩⟩⟩
        exact ⟨_, _, rfl, sm.trans m34⟩
      · rintro σ G2 ⟨v5, v6, rfl, sm⟩
        have fx2 := fx.same sm
        have hx2 := sm _ _ hx
        have kG2 : KpP p H G2 := kG.trans (Kp.same sm)
        have z1 := kG2.tup t1
        have z2 := kG2.tup t2
        have z3 := kG2.tup t3
        have lbT : letB (qs ++ []) (ms ++ []) (ts ++ []) = true := by
          rw [List.append_nil, List.append_nil, List.append_nil, letB_eq fx.nP]
          exact decide_eq_true ⟨fx.nd, b1, b2, b3⟩
        have pt0 : Prt G2 (.ref T1) (.ref T2) (.ref T3) [] [] [] := ⟨Dv.tupM (ds := []) z1 .nil, Dv.tupM (ds := []) z2 .nil, Dv.tupM (ds := []) z3 .nil, Nat.zero_le _, Nat.zero_le _, Nat.zero_le _, (fun q h => by cases h), (fun z h => by cases h), fun z h => by cases h⟩
        refine ⟨_, rfl, x, dx, _, rfl, hx2, rfl, x, va, vp, vv, .ref T1, .ref T2, .ref T3, qs, ms, ts, [], [], [], rfl, fx2, pt0, Nat.zero_le _, Nat.zero_le _, Nat.zero_le _, fun _ y1 ya yp yv G3 fy m3 => ?_, fun e => absurd (lbT.symm.trans e) (by decide)⟩
        rw [List.append_nil, List.append_nil, List.append_nil] at fy
        obtain ⟨dy, _, _, _, hy, _⟩ := id fy.ob
        have hx3 := m3 _ _ hx2
        have fx3 := fx2.same m3
        refine ⟨_, rfl, y1, dy, _, x, rfl, rfl, hy, .inl ⟨dx, _, hx3⟩, y1, x, ya, yp, yv, qs, ms, ts, rfl, fy, .inl ⟨_, _, _, qs, ms, ts, fx3, fun G4 m4 => ?_⟩⟩
        refine ⟨_, rfl, _, rfl, ?_⟩
        rw [show same3 qs ms ts qs ms ts = true from decide_eq_true ⟨rfl, rfl, rfl⟩, if_pos rfl]
        have hx4 := m4 _ _ hx3
        have fx4 := fx3.same m4
        have i1 : ∀ l : List (Str × Str), l.map (rnP []) = l := fun l => (List.map_congr_left (fun q _ => rfl)).trans (List.map_id l)
        have i2 : ∀ l : List Str, l.map (rnF []) = l := fun l => (List.map_congr_left (fun q _ => rfl)).trans (List.map_id l)
        refine ⟨_, rfl, x, dx, _, rfl, hx4, rfl, fun Dn hDn => ?_⟩
        have s5 : Same G4 (upd G4 Dn (.dK [])) := Same.upd hDn
        refine ⟨x, Dn, va, vp, vv, qs, ms, ts, [], rfl, fx4.same s5, upd_same, fun od => fx4.same fun b o e => ?_, List.nodup_nil, (fun q h => by cases h), Nat.zero_le _, fun _ y2 ua up uv G5 fz m5 => ?_, fun e => absurd (by rw [i2]; exact fx.nd) e⟩
        · rw [upd_ne (ne_of_none e hDn)]
          exact s5 b o e
        rw [i1, i2, i2] at fz
        obtain ⟨dz, _, _, _, hz, _⟩ := id fz.ob
        have s45 := s5.trans m5
        refine ⟨_, rfl, y2, dz, _, x, rfl, rfl, hz, .inl ⟨dx, _, s45 _ _ hx4⟩, y2, x, ua, up, uv, qs, ms, ts, rfl, fz, .inl ⟨_, _, _, qs, ms, ts, fx4.same s45, fun G6 m6 => ?_⟩⟩
        rw [show same3 qs ms ts qs ms ts = true from decide_eq_true ⟨rfl, rfl, rfl⟩]
        have sAll := (((sm.trans m3).trans m4).trans s45).trans m6
        exact ⟨_, rfl, kq _ ((hpG.same sAll).mono (by omega)) (kG.trans (Kp.same sAll))⟩
end
end Kx
namespace Kx
open PySem PySem.Spec PyProof.Rows L2
def psL : List (Str × Str) := [("a", "n"), ("b", "n"), ("c", "m")]
def msL : List (Str × Str) := [("n", "i"), ("i", "n"), ("a", "b"), ("b", "a")]
theorem psL_ok : Names psL ["i"] [] := by
  have a1 : ∀ q ∈ psL, NameS q.1 ∧ NameS q.2 := by decide +kernel
  have a2 : ∀ z ∈ (["i"] : List Str), NameS z := by decide +kernel
  exact ⟨a1, a2, fun z h => by cases h⟩
theorem psL_let : letB psL ["i"] [] = true := by decide +kernel
theorem msL_nd : (msL.map (·.1)).Nodup := by decide +kernel
theorem msL_ok : ∀ q ∈ msL, q.1 ∈ allN psL ["i"] [] ∧ NameS q.2 := by decide +kernel
theorem msL_inj : ((allN psL ["i"] []).map (rnF msL)).Nodup := by decide +kernel
def told1 : PyData := .list [.str (rowS (psL.map (rnP msL)) ((["i"] : List Str).map (rnF msL)) (([] : List Str).map (rnF msL))), .int (((allN psL ["i"] []).length : Nat) : Int), .tuple ((uniq (psL.map (·.2))).map .str)]
def told2 : PyData := .list [.str "b:i a:i c:m | n | -", .int 6, .tuple [.str "n", .str "m"]]
theorem told_sh : SeqAt.shaped told1 = true ∧ SeqAt.shaped told2 = true := ⟨by decide +kernel, by decide +kernel⟩
theorem told_eq : PyData.eqv told1 told2 = true := by decide +kernel
section
variable {P : Program} {w : World} {K : PySem.W.Frag} {mg : Str → Option Value} {base : Heap}
theorem calG_at {x : Str} {st : Stmt} {N ps : List Str} {k : Nat} {sp : Sp} {f : Addr} {fd : FuncData} (F : FunD K x x (defArgs st) (defBody st) (defScope st) [] [] f fd) (S : FnScope N ps (defScope st)) (len : ∀ vs H Q E, sp vs H Q E → vs.length = ps.length)
    (body : ∀ (f : Addr) (cdv : Value) (A : Around) (outer : List Env) (s : Shared) (H : Hp) (vs : List V) (Q : VK) (E : XK), (A.deeper (envOfC x (defScope st) s.heap.objs.size f cdv)).guards = some [] → Room k (A.deeper (envOfC x (defScope st) s.heap.objs.size f cdv)) → sp vs H Q E →
      ∃ t, PSs (cxOf CX0 P w K mg base N x (defScope st) f cdv A outer s H E).nox (defBody st) t ∧ t { nx := fun _ H' => Q .non H', rt := Q } (start N vs) H) : FnOkG P w K mg base CX0 (k + 1) f fd ps sp :=
  okG F S len (fun cdv A outer s H vs Q E hgd hr h => let ⟨t, ht, q⟩ := body f cdv A outer s H vs Q E hgd hr h; ⟨t, PSs.nox ht, q⟩)
abbrev N_law : List Str := ["script", "at", "frame", "told"]
abbrev P_law : List Str := ["script"]
theorem sc_law : FnScope N_law P_law (defScope s_law) := ⟨rfl, rfl, rfl, by decide +kernel, rfl, by decide +kernel, by decide +kernel⟩
def spLaw (K : PySem.W.Frag) (T1 T2 T3 : Addr) : Sp := fun vs H Q _ => ∃ (a : Addr) (ns : List Int), vs = [.ref a] ∧ SqL K H a (ns.map V.int) ∧ ns.length ≤ 63 ∧ TupF H T1 [] ∧ TupF H T2 [] ∧ TupF H T3 [] ∧ ∀ H', Q (.bl true) H'
theorem ok_law {om : Obj} (hK : K.lookup sysModules = some om) (T : Bt mg) {C I IO f0 fi fr T1 T2 T3 : Addr} {fd0 fdi fdr : FuncData} (F0' : FunD K "law" "law" (defArgs s_law) (defBody s_law) (defScope s_law) [] [] f0 fd0) (X : Fx K mg C) (M : Mk K C fi)
    (F0 : FnOk P w K mg base (L2N.CX P w) 5 fi fdi P_Frame_init (spInit C I)) (b0 : Binds K fdi P_Frame_init []) (mR : Meth K C "renamed" fr) (Fr : FnOk P w K mg base (L2N.CX P w) 7 fr fdr P_Frame_renamed (spRen C IO)) (bR : Binds K fdr P_Frame_renamed [])
    (M5 : Me P w K mg base C 2 "__str__" P_Frame_str (spStr C)) (M6 : Me P w K mg base C 1 "__len__" P_Frame_len (spLen C)) (A4 : Pr P w K mg base C "lengths" "_lengths") (C1 : Ca P w K mg base 1 "_law_filled" P_law_filled (spFilled K)) (C7 : CaG P w K mg base 9 "_law_right" P_law_right (spRight T1 T2 T3)) :
    FnOkG P w K mg base CX0 10 f0 fd0 P_law (spLaw K T1 T2 T3) := by
  obtain ⟨_, _, c__law_filled⟩ := C1
  obtain ⟨_, _, c__law_right⟩ := C7
  obtain ⟨_, _, c_str⟩ := M5
  obtain ⟨_, _, c_len⟩ := M6
  obtain ⟨_, _, _, p_lengths⟩ := A4
  refine calG_at F0' sc_law (fun vs H Q E h => ?_) (fun f cdv A outer s H vs Q E hgd hr h => ?_)
  · obtain ⟨a, ns, rfl, _⟩ := h
    rfl
  · obtain ⟨a, ns, rfl, hS, hl, t1, t2, t3, kq⟩ := h
    refine ⟨_, (pss_cons (ps_for PassesOwn.never rfl (pi_range1 rfl T.range (pa_cons (pe_callB (call_max2 rfl) (by rfl) T.max (by decide +kernel) (pa_cons pe_int (pa_cons (pe_callB (call_min2 rfl) (by rfl) T.min (by decide +kernel) (pa_cons pe_int (pa_cons (pe_callB call_len (by rfl) T.len (by decide +kernel) (pa_cons (pv 0) pa_nil)) pa_nil))) pa_nil))) pa_nil)) (pg_name (i := 1) sc_law.nd rfl (.inl rfl))
        (pss_one (ps_if (pt_not (pt_val (pe_callG c__law_right.1 hgd (hr.mono (by decide)) rfl c__law_right.2.1 c__law_right.2.2.1 c__law_right.2.2.2 pass0 (pa_cons (pe_call c__law_filled.1 (hr.mono (by decide)) rfl c__law_filled.2.1 c__law_filled.2.2.1 c__law_filled.2.2.2 .nil pass0 (pa_cons (pv 0) (pa_cons (pv 1) pa_nil))) pa_nil)))) (pss_one (ps_ret pe_bl)) pss_nil)))
      (pss_cons (ps_set (i := 2) sc_law.nd rfl (.inl rfl) (pe_make M F0 (hr.mono (by decide)) rfl X.mgC b0 .nil (L2N.passes_call takesF (fun cls d σ H h => h)) (pa_cons (pe_tupF (pa_cons (pe_tupF (pa_cons pe_str (pa_cons pe_str pa_nil))) (pa_cons (pe_tupF (pa_cons pe_str (pa_cons pe_str pa_nil))) (pa_cons (pe_tupF (pa_cons pe_str (pa_cons pe_str pa_nil))) pa_nil)))) (pa_cons (pe_tupF (pa_cons pe_str pa_nil)) (pa_cons (pe_tupF pa_nil) pa_nil)))))
      (pss_cons (ps_set (i := 3) sc_law.nd rfl (.inl rfl) (pe_lst (pa_cons (pe_callTy (call_strO c_str.2.1.at_ c_str.2.1.fn c_str.1 (hr.mono (by decide)) c_str.2.2 pass0) (by rfl) T.str (by decide +kernel) (pa_cons (pe_meth (pv 2) X.cl mR Fr (hr.mono (by decide)) bR .nil (L2N.passes_call takesF (fun cls d σ H h => h)) (pa_cons (pe_disp (pps_cons pe_str pe_str (pps_cons pe_str pe_str (pps_cons pe_str pe_str (pps_cons pe_str pe_str pps_nil)))) rfl rfl (by simp) (by decide)) pa_nil)) pa_nil)) (pa_cons (pe_callB (call_lenO c_len.2.1.at_ c_len.2.1.fn c_len.1 (hr.mono (by decide)) c_len.2.2 pass0) (by rfl) T.len (by decide +kernel) (pa_cons (pv 2) pa_nil)) (pa_cons (pe_prop (pv 2) X.cl p_lengths.1 p_lengths.2.1 (hr.mono (by decide)) p_lengths.2.2 .nil pass0 rfl) pa_nil)))))
      (pss_one (ps_ret (pe_cmpR (op_eqDv hK hr.units) (pv 3) (pe_lst (pa_cons pe_str (pa_cons pe_int (pa_cons (pe_tupF (pa_cons pe_str (pa_cons pe_str pa_nil))) pa_nil)))) (nomark _))))))), ?_⟩
    have room : ∀ m : Nat, m ≤ 10000 → m ≤ sizeLine := fun m h => by rw [sizeLine_eq]; omega
    have any : ∀ {X Y : Hp}, Same X Y → Kp All X Y := fun h => Kp.same h
    refine ⟨_, rfl, _, _, rfl, .inl ⟨_, hS, rfl⟩, 4, _, rfl, 1, _, rfl, ?_⟩
    rw [List.length_map]
    generalize hM : (if (if (ns.length : Int) < 4 then (ns.length : Int) else 4) > 1 then (if (ns.length : Int) < 4 then (ns.length : Int) else 4) else 1) = M1
    have hM0 : 1 ≤ M1 ∧ M1 ≤ 4 := by
      rw [← hM]
      split <;> (try split) <;> (constructor <;> (try split) <;> omega)
    clear hM
    refine ⟨M1, rfl, by omega, by omega, for_it (walk_range (lo := 0) (n := M1.toNat)) (fun i σ G => ∃ v1 : Option V, σ = [some (.ref a), v1, none, none] ∧ Same H G)
      ⟨none, rfl, Same.refl⟩ (fun _ _ _ _ _ => trivial) ?_ ?_⟩
    · rintro i v σ G G' hi ⟨v1, rfl, sm⟩ ⟨rfl, rfl⟩
      refine ⟨_, rfl, _, rfl, a, ns, _, rfl, sqL_same hS sm, hl, by omega, by omega, fun p H1 hpn s1 hp1 => ?_⟩
      have back : ∀ {Y : Hp}, KpP p H1 Y → Same H Y := fun k b o e => k b o (s1 b o (sm b o e)) fun z => absurd z (ne_of_none (sm b o e) hpn)
      have sH1 := sm.trans s1
      exact ⟨p, 0, rfl, hp1, by omega, (any sH1).tup t1, (any sH1).tup t2, (any sH1).tup t3, fun H' hp' hk' => ⟨_, rfl, iteF ⟨_, rfl, back hk'⟩⟩⟩
    · rintro σ G ⟨v1, rfl, sm⟩
      refine ⟨room 2 (by decide), fun ta A1 m1 ha => ⟨room 2 (by decide), fun tb A2 m2 hb => ⟨room 2 (by decide), fun tc A3 m3 hc => ⟨room 3 (by decide), fun tp A4 m4 htp => ⟨room 1 (by decide), fun ti A5 m5 hi => ⟨room 0 (by decide), fun tu A6 m6 hu => ?_⟩⟩⟩⟩⟩⟩
      have m56 := m5.trans m6
      have m46 := m4.trans m56
      have m36 := m3.trans m46
      have m26 := m2.trans m36
      refine make_specA (qs := psL) (ms := ["i"]) (ts := []) ⟨Dv.tupM ((any m56).tup htp) (.cons (Dv.tupM ((any m26).tup ha) (.cons (.str _) (.cons (.str _) .nil))) (.cons (Dv.tupM ((any m36).tup hb) (.cons (.str _) (.cons (.str _) .nil))) (.cons (Dv.tupM ((any m46).tup hc) (.cons (.str _) (.cons (.str _) .nil))) .nil))),
        Dv.tupM ((any m6).tup hi) (.cons (.str _) .nil), Dv.tupM (ds := []) hu .nil, by decide, by decide, by decide, psL_ok.1, psL_ok.2.1, psL_ok.2.2⟩ (fun _ x H7 fx m7 => ?_) (fun e => absurd (psL_let.symm.trans e) (by decide))
      obtain ⟨dx, LB, LT, KD, hx, _, hlt, _⟩ := id fx.ob
      refine ⟨_, rfl, x, dx, _, rfl, hx, rfl, fun Dn hDn => ⟨upd_same, [(.inr "n", .str "i"), (.inr "i", .str "n"), (.inr "a", .str "b"), (.inr "b", .str "a")], rfl, by decide, ?_⟩⟩
      have s8 : ∀ u, Same H7 (upd (upd H7 Dn (.dK [])) Dn u) := fun u b o e => by
        rw [upd_ne (ne_of_none e hDn), upd_ne (ne_of_none e hDn)]
        exact e
      have s9 : ∀ u u', Same H7 (upd (upd (upd H7 Dn (.dK [])) Dn u) Dn u') := fun u u' b o e => by
        rw [upd_ne (ne_of_none e hDn)]
        exact s8 u b o e
      refine ⟨x, Dn, _, _, _, psL, ["i"], [], msL, rfl, fx.same (s8 _), upd_same, fun od => fx.same (s9 _ _), msL_nd, msL_ok, by decide, fun _ y ya yp yv H8 fy m8 => ?_, fun e => absurd msL_inj e⟩
      obtain ⟨dy, _, _, _, hy, _⟩ := id fy.ob
      have s78 := (s8 _).trans m8
      refine ⟨y, dy, _, rfl, hy, y, _, _, _, _, _, _, rfl, fy, fun H9 m9 => ?_⟩
      have s79 := s78.trans m9
      have fx9 := fx.same s79
      have hx9 := s79 _ _ hx
      refine ⟨_, rfl, _, rfl, x, dx, _, rfl, hx9, x, _, _, _, psL, ["i"], [], rfl, fx9, _, rfl, by omega, by show (6 : Int) < _; decide, _, rfl, x, dx, _, rfl, hx9, x, dx, _, .ref LT, rfl, hx9, rfl, room 3 (by decide), fun l1 hl1 => ?_⟩
      have sl : Same H9 (upd H9 l1 (.lst [.str (rowS (psL.map (rnP msL)) ((["i"] : List Str).map (rnF msL)) (([] : List Str).map (rnF msL))), .int (((allN psL ["i"] []).length : Nat) : Int), .ref LT])) := Same.upd hl1
      refine ⟨_, rfl, room 2 (by decide), fun tn K1 q1 hn => ⟨room 3 (by decide), fun l2 hl2 => ?_⟩⟩
      have sq : Same (upd H9 l1 (.lst [.str (rowS (psL.map (rnP msL)) ((["i"] : List Str).map (rnF msL)) (([] : List Str).map (rnF msL))), .int (((allN psL ["i"] []).length : Nat) : Int), .ref LT])) (upd K1 l2 (.lst [.str "b:i a:i c:m | n | -", .int 6, .ref tn])) := q1.trans (Same.upd hl2)
      refine ⟨Non, Non, told1, told2, Dv.lst id (sq _ _ upd_same) (.cons (.str _) (.cons (.int _) (.cons (Dv.tupM ((any (s79.trans (sl.trans sq))).tup hlt) (DvL.strs _)) .nil))), Dv.lst id upd_same (.cons (.str _) (.cons (.int _) (.cons (Dv.tupM ((any (Same.upd hl2)).tup hn) (.cons (.str _) (.cons (.str _) .nil))) .nil))), told_sh.1, told_sh.2, ?_⟩
      rw [told_eq]
      exact kq _
end
end Kx
namespace Kx
open PySem PySem.Spec PyProof.Rows L2
theorem g3_rel : ∀ {vs zs : List V} {us ws : List Value} {mz : List V} {mv : List Value}, Vals vs us → Vals mz mv → Vals zs ws → Vals (g3 vs mz zs) (g3 us mv ws)
  | _, [], _, [], _, _, r1, _, .nil => r1
  | _, [_], _, [_], _, _, r1, _, .cons _ .nil => r1
  | _, [_, _], _, [_, _], _, _, r1, _, .cons _ (.cons _ .nil) => r1
  | _, [_, _, _], _, [_, _, _], _, _, r1, _, .cons a (.cons b (.cons c .nil)) => r1.append (.cons b (.cons c (.cons a .nil)))
  | _, _ :: _ :: _ :: _ :: _, _, _ :: _ :: _ :: _ :: _, _, _, r1, _, .cons _ (.cons _ (.cons _ (.cons _ _))) => r1
theorem gP_rel : ∀ {vs zs : List V} {us ws : List Value} {mz : List V} {mv : List Value}, Vals vs us → Vals mz mv → Vals zs ws → Vals (gP vs mz zs) (gP us mv ws)
  | _, _, _, _, [], [], r1, .nil, _ => r1
  | _, _, _, _, [_], [_], r1, .cons _ .nil, _ => r1
  | _, _, _, _, [_, _], [_, _], r1, .cons a (.cons c .nil), r3 => ((r1.append (.cons a .nil)).append r3).append (.cons c .nil)
  | _, _, _, _, _ :: _ :: _ :: _, _ :: _ :: _ :: _, r1, .cons _ (.cons _ (.cons _ _)), _ => r1
theorem kws_of {K : PySem.W.Frag} {f T1 T2 T3 : Addr} {fd : FuncData} (F : FunD K "with_names" "Frame.with_names" (defArgs s_Frame_with_names) (defBody s_Frame_with_names) (defScope s_Frame_with_names) [] [("arrays", .ref T1), ("positions", .ref T2), ("values", .ref T3)] f fd) :
    Kws K fd T1 T2 T3 ∧ ∃ ds, Vals [.ref T1, .ref T2, .ref T3] ds ∧ Binds K fd P_Frame_with_names ds := by
  refine ⟨⟨?_, ?_, ?_, ?_⟩, ?_⟩
  · obtain ⟨mv, k⟩ := FunD.kbinds0 (ps := P_Frame_with_names) F 1 ["values", "arrays", "positions"] [] @g3 (by simp) (fun q h => by cases h) g3_rel (fun D doc pm an cdv ct us mv ws h1 h2 h3 => match us, mv, ws, h1, h2, h3 with
      | [_], [], [_, _, _], _, _, _ => rfl)
    exact ⟨_, k⟩
  · obtain ⟨mv, k⟩ := FunD.kbinds0 (ps := P_Frame_with_names) F 1 ["arrays"] [("positions", .ref T2), ("values", .ref T3)] @gA (by simp) (fun q h => List.mem_cons_of_mem _ h) (fun r1 r2 r3 => (r1.append r3).append r2) (fun D doc pm an cdv ct us mv ws h1 h2 h3 => match us, mv, ws, h1, h2, h3 with
      | [_], [_, _], [_], _, _, _ => ⟨_, _, _, _, _, _, rfl, rfl, _, _, _, _, _, _, rfl, rfl, rfl⟩)
    exact ⟨_, k⟩
  · obtain ⟨mv, k⟩ := FunD.kbinds0 (ps := P_Frame_with_names) F 1 ["positions"] [("arrays", .ref T1), ("values", .ref T3)] @gP (by simp) (fun q h => by
      rcases List.mem_cons.mp h with e | h
      · rw [e]; exact List.mem_cons_self
      · exact List.mem_cons_of_mem _ (List.mem_cons_of_mem _ h)) gP_rel (fun D doc pm an cdv ct us mv ws h1 h2 h3 => match us, mv, ws, h1, h2, h3 with
      | [_], [_, _], [_], _, _, _ => ⟨_, _, _, _, _, _, rfl, rfl, _, _, _, _, _, _, rfl, rfl, rfl⟩)
    exact ⟨_, k⟩
  · obtain ⟨mv, k⟩ := FunD.kbinds0 (ps := P_Frame_with_names) F 1 ["values"] [("arrays", .ref T1), ("positions", .ref T2)] @gVa (by simp) (fun q h => by
      rcases List.mem_cons.mp h with e | h
      · rw [e]; exact List.mem_cons_self
      · rcases List.mem_cons.mp h with e | h
        · rw [e]; exact List.mem_cons_of_mem _ List.mem_cons_self
        · cases h) (fun r1 r2 r3 => (r1.append r2).append r3) (fun D doc pm an cdv ct us mv ws h1 h2 h3 => match us, mv, ws, h1, h2, h3 with
      | [_], [_, _], [_], _, _, _ => ⟨_, _, _, _, _, _, rfl, rfl, _, _, _, _, _, _, rfl, rfl, rfl⟩)
    exact ⟨_, k⟩
  · exact FunD.binds0 (ps := P_Frame_with_names) F 1 (by simp) rfl (fun D doc pm an cdv ct us ks h1 h2 => match us, ks, h1, h2 with
      | [_], [_, _, _], _, _ => ⟨_, _, _, _, _, _, rfl, rfl, _, _, _, _, _, _, rfl, rfl, _, _, _, _, _, _, rfl, rfl, rfl⟩)
end Kx
namespace Kx
open PySem PySem.Spec PyProof.Rows L2
section
variable {P : Program} {w : World} {K : PySem.W.Frag} {mg mb : Str → Option Value} {k : Nat} {fa a : Addr} {fd : FuncData} {x : Str} {sp : Sp} {s₁ : Shared} {vs : List Value} {ns : List Int}
/-- the call of the law over one abstract heap of unchanging lists and tuples -/
theorem law_coreT {H : Hp} (hok : HOk P w H s₁.heap) (hfrz : ∀ b u, H b = some u → K.lookup b = none ∧ ∃ o v its n, u = .frz o v ∧ o.data = .seq its n)
    (KX : K.In s₁.heap) (hns : s₁.heap.Ns mainGlobals mg) (hb : s₁.heap.Ns builtinsNs mb) (hbb : ∀ x : Str, x ≠ "__name__" → mb x = bootBuiltins x) (hlim : s₁.heap.NoLimit) (hg : s₁.gens = #[]) (hr : Room k callerA)
    (F : ∀ base : Heap, K.In base → base.Ns mainGlobals mg → FnOkG P w K mg base CX0 k fa fd [x] sp) (hbind : ∀ (s : Shared) (u : Value), BindsTo s fd ⟨[u], []⟩ [(x, u)])
    (hsp : sp [.ref a] H (fun v _ => v = .bl true) fun _ _ _ => False) :
    codeAny (model P w) callerA (.call (.ref fa) ⟨[.ref a], []⟩) (fun r s' => r = .ok (.ret (.bool true)) ∧ OldK s₁.heap s'.heap ∧ s'.os = s₁.os ∧ AllBare s'.gens) s₁ := by
  have inB : ∀ {b : Addr} {o : Obj}, s₁.heap.get? b = some o → H b = none → (hidT s₁.heap H).get? b = some o := fun e n => hidT_get e n
  have dictFree : ∀ {b : Addr} {o : Obj} {es : Array DictEntry} {ep : Nat}, s₁.heap.get? b = some o → o.data = .dict es ep → H b = none := fun {b o es ep} e d => by
    cases q : H b with
    | none => rfl
    | some u =>
      obtain ⟨_, ob, v, its, n, rfl, hd⟩ := hfrz b u q
      obtain ⟨e1, _⟩ := hok b _ q
      rw [e] at e1
      cases e1
      rw [hd] at d
      cases d
  have nsB : ∀ {b : Addr} {m : Str → Option Value}, s₁.heap.Ns b m → (hidT s₁.heap H).Ns b m := fun {b m} h => by
    obtain ⟨o, es, ep, e, d, r⟩ := h
    exact ⟨o, es, ep, inB e (dictFree e d), d, r⟩
  have inKB : K.In (hidT s₁.heap H) := by
    intro b o e
    refine inB (KX b o e) ?_
    cases q : H b with
    | none => rfl
    | some u =>
      rw [(hfrz b u q).1] at e
      cases e
  have md : Mod K mg (hidT s₁.heap H) := by
    obtain ⟨mc, h1, h2⟩ := hlim
    exact ⟨inKB, nsB hns, ⟨mb, nsB hb, hbb⟩, mc, nsB h1, h2⟩
  have none_in : ∀ b : Addr, ¬ b ∈ ([] : List Addr) := fun b => List.not_mem_nil
  have e0 : Env0 P w K mg (hidT s₁.heap H) callerA [] s₁ H := ⟨rfl, md, fun b o e => of_hidT e, Nat.le_of_eq (hidT_size _ _), trivial, fun b hb => absurd (show b ∈ ([] : List Addr) from hb) (none_in b), hok, .of_eq hg⟩
  refine codeAny_mono ((F _ inKB (nsB hns)).run callerA [] s₁ H ⟨[.ref a], []⟩ [.ref a] [.ref a] _ _ rfl hr e0 (hbind s₁ (.ref a)) (.cons rfl .nil) hsp) ?_
  intro r s' h
  cases r with
  | error e => exact absurd h (by intro z; exact z.elim)
  | ok fl =>
    cases fl with
    | next => exact h.elim
    | brk => exact h.elim
    | cont => exact h.elim
    | ret u =>
      obtain ⟨v, H', os, bare, un, hok', r', q⟩ := h
      obtain rfl : v = .bl true := q
      obtain rfl : u = Value.bool true := r'
      refine ⟨rfl, OldK.of_keep fun b o e => ?_, os, bare⟩
      cases q : H b with
      | none => exact un.keep b o e q (none_in b) (by simp)
      | some u =>
        obtain ⟨_, ob, xs, _, _, rfl, _⟩ := hfrz b u q
        obtain ⟨e1, _⟩ := hok b _ q
        obtain ⟨e2, _⟩ := hok' b _ (un.frzs b ob _ q)
        rw [e] at e1
        cases e1
        exact e2
/-- an empty tuple stands at t, out of K -/
def Emp (K : PySem.W.Frag) (h : Heap) (t : Addr) : Prop := K.lookup t = none ∧ ∃ (o : Obj) (n : Nat), h.get? t = some o ∧ o.cls = .type "tuple" ∧ o.dict = none ∧ o.data = .seq #[] n
theorem law_callT {ts : List Addr} (hts : ∀ t ∈ ts, Emp K s₁.heap t) (KX : K.In s₁.heap) (hns : s₁.heap.Ns mainGlobals mg) (hb : s₁.heap.Ns builtinsNs mb) (hbb : ∀ x : Str, x ≠ "__name__" → mb x = bootBuiltins x) (hlim : s₁.heap.NoLimit) (hg : s₁.gens = #[])
    (ha : s₁.heap.get? a = some { cls := .type "list", data := .seq vs.toArray }) (hi : IntsAre vs ns) (hl : ns.length ≤ sizeLine) (hr : Room k callerA)
    (F : ∀ base : Heap, K.In base → base.Ns mainGlobals mg → FnOkG P w K mg base CX0 k fa fd [x] sp) (hbind : ∀ (s : Shared) (u : Value), BindsTo s fd ⟨[u], []⟩ [(x, u)])
    (hsp : ∀ H : Hp, SqL K H a (ns.map V.int) → (∀ t ∈ ts, TupF H t []) → sp [.ref a] H (fun v _ => v = .bl true) fun _ _ _ => False) :
    codeAny (model P w) callerA (.call (.ref fa) ⟨[.ref a], []⟩) (fun r s' => r = .ok (.ret (.bool true)) ∧ OldK s₁.heap s'.heap ∧ s'.os = s₁.os ∧ AllBare s'.gens) s₁ := by
  have rv := vals_ints hi
  have hlv : vs.length ≤ sizeLine := by rw [hi.length]; exact hl
  let H0 : Hp := fun b => if b ∈ ts then (match s₁.heap.get? b with | some o => some (.frz o (.tup [])) | none => none) else none
  have H0_of : ∀ b u, H0 b = some u → b ∈ ts ∧ ∃ o, s₁.heap.get? b = some o ∧ u = .frz o (.tup []) := fun b u e => by
    by_cases hb : b ∈ ts
    · have e' : (match s₁.heap.get? b with | some o => some (HO.frz o (.tup [])) | none => none) = some u := by rw [← e]; exact (if_pos hb).symm
      cases q : s₁.heap.get? b with
      | none => rw [q] at e'; cases e'
      | some o => rw [q] at e'; cases e'; exact ⟨hb, o, rfl, rfl⟩
    · have e' : (none : Option HO) = some u := by rw [← e]; exact (if_neg hb).symm
      cases e'
  have H0_at : ∀ t ∈ ts, ∃ o, o.dict = none ∧ H0 t = some (.frz o (.tup [])) := fun t ht => by
    obtain ⟨_, o, n, e, _, hd, _⟩ := hts t ht
    refine ⟨o, hd, ?_⟩
    show (if t ∈ ts then (match s₁.heap.get? t with | some o => some (HO.frz o (.tup [])) | none => none) else none) = _
    rw [if_pos ht, e]
  have okT : ∀ (H : Hp) (b : Addr) (u : HO), H0 b = some u → ObjOk P w H s₁.heap b u := fun H b u e => by
    obtain ⟨hb, o, ho, rfl⟩ := H0_of b u e
    obtain ⟨_, o', n, e', hc, _, hdt⟩ := hts b hb
    rw [ho] at e'
    cases e'
    exact ⟨ho, Nat.zero_le _, [], .nil, ⟨o, ho, hc, n, hdt⟩⟩
  have fz : ∀ b u, H0 b = some u → K.lookup b = none ∧ ∃ o v its n, u = .frz o v ∧ o.data = .seq its n := fun b u e => by
    obtain ⟨hb, o, ho, rfl⟩ := H0_of b u e
    obtain ⟨hk, o', n, e', _, _, hdt⟩ := hts b hb
    rw [ho] at e'
    cases e'
    exact ⟨hk, o, _, _, n, rfl, hdt⟩
  have nat : a ∉ ts := fun h => by
    obtain ⟨_, o, n, e, hc, _⟩ := hts a h
    rw [ha] at e
    cases e
    have hc' : Value.type "list" = Value.type "tuple" := hc
    exact absurd (Value.type.inj hc') (by decide)
  cases hk : K.lookup a with
  | some o =>
    have e := KX a o hk
    rw [ha] at e
    cases e
    have hS : SqL K H0 a (ns.map V.int) := .inr ⟨_, vs.toArray, _, hk, rfl, rfl, rfl, by rw [List.size_toArray]; exact hlv, by simpa using rv⟩
    exact law_coreT (H := H0) (fun b u e => okT _ b u e) fz KX hns hb hbb hlim hg hr F hbind (hsp _ hS fun t ht => let ⟨o, d, e⟩ := H0_at t ht; ⟨o, d, e⟩)
  | none =>
    let ob : Obj := { cls := .type "list", data := .seq vs.toArray }
    let H : Hp := upd H0 a (.frz ob (.lst (ns.map V.int)))
    have H_at : H a = some (.frz ob (.lst (ns.map V.int))) := upd_same
    have hS : SqL K H a (ns.map V.int) := .inl (.inr ⟨ob, H_at⟩)
    refine law_coreT (H := H) (fun b u e => ?_) (fun b u e => ?_) KX hns hb hbb hlim hg hr F hbind (hsp _ hS fun t ht => ?_)
    · by_cases h : b = a
      · subst h
        rw [H_at] at e
        cases e
        exact ⟨ha, by rw [List.length_map]; exact hl, vs, _, rv, ha⟩
      · have e' : H0 b = some u := (upd_ne h).symm.trans e
        exact okT _ b u e'
    · by_cases h : b = a
      · subst h
        rw [H_at] at e
        cases e
        exact ⟨hk, ob, _, _, _, rfl, rfl⟩
      · exact fz b u ((upd_ne h).symm.trans e)
    · obtain ⟨o, d, e⟩ := H0_at t ht
      exact ⟨o, d, (upd_ne (fun z => nat (by rw [← z]; exact ht))).trans e⟩
end
/-- the end of a law whose def is told by FnOkG, with empty tuples -/
theorem walk_ofT {l : PySem.W.OpenLaw} {n k : Nat} {q : Program} {loose : List Str} {XP : (Str → Option Value) → Heap → Prop} {YP : World → Heap → Prop} {d : DefRec} {x : Str}
    (hn : l.most = some n) (hn2 : n ≤ sizeLine) (hdf : d.params.defaults = []) (hr : Room k callerA)
    (F : ∀ (w : World) (mg : Str → Option Value) (fa : Addr) (h : Heap), YP w h → h.Ns mainGlobals mg → mg d.name = some (.ref fa) →
      ∃ (K : PySem.W.Frag) (fd : FuncData) (sp : Sp) (ts : List Addr), K.In h ∧ (∀ t ∈ ts, Emp K h t) ∧ (∀ (s : Shared) (u : Value), BindsTo s fd ⟨[u], []⟩ [(x, u)]) ∧
        (∀ (H : Hp) (a : Addr) (ns : List Int), ns.length ≤ n → SqL K H a (ns.map V.int) → (∀ t ∈ ts, TupF H t []) → sp [.ref a] H (fun v _ => v = .bl true) fun _ _ _ => False) ∧
        ∀ base : Heap, K.In base → base.Ns mainGlobals mg → FnOkG l.prog w K mg base CX0 k fa fd [x] sp) :
    PySem.W.WalkO q loose XP YP l.row.toRowW d [] (fun f vs => PySem.call f vs) := by
  refine Att.attach_call hn hdf ?_
  intro w s₀ s₁ mg mb fa o pm cd doc a vs ns G Y ho hd hcd hmg hobj hints hlen hg
  obtain ⟨K, fd, sp, ts, inK, emp, bd, hs, hF⟩ := F w mg fa _ Y G.T.g hmg
  exact law_callT emp inK G.T.g G.T.b G.T.builtins G.T.nolimit hg hobj hints (Nat.le_trans hlen hn2) hr hF bd fun H hS ht => hs H a ns hlen hS ht
end Kx
namespace Kx
open PySem PySem.Spec PyProof.Rows L2
/-- the dict of keyword defaults of with_names, and what stands in it -/
def kwAt (x : Str) (K : PySem.W.Frag) : Addr := match K.lookup (He.fAd K ("Frame", some "with_names")) with
  | some ⟨_, _, .func fd, _⟩ => (match fd.kwdefaults with
    | .ref D => (match PySem.W.nsIn K D x with
      | some (some (.ref t)) => t
      | _ => 0)
    | _ => 0)
  | _ => 0
def tsOf (K : PySem.W.Frag) : List Addr := [kwAt "arrays" K, kwAt "positions" K, kwAt "values" K]
def cutT (K : PySem.W.Frag) (ts : List Addr) : PySem.W.Frag := List.filter (fun q => !ts.contains q.1) K
theorem cutT_none {ts : List Addr} {t : Addr} (h : t ∈ ts) : ∀ K : PySem.W.Frag, (cutT K ts).lookup t = none
  | [] => rfl
  | (b, o) :: r => by
    unfold cutT
    rw [List.filter_cons]
    split
    · next c =>
      have nb : ¬ t = b := fun e => by
        subst e
        have c2 : (!ts.contains t) = true := c
        rw [List.contains_iff_mem.mpr h] at c2
        cases c2
      rw [List.lookup_cons, show (t == b) = false from beq_eq_false_iff_ne.mpr nb]
      exact cutT_none h r
    · exact cutT_none h r
theorem cutT_some {ts : List Addr} {t : Addr} (h : ¬ t ∈ ts) : ∀ K : PySem.W.Frag, (cutT K ts).lookup t = K.lookup t
  | [] => rfl
  | (b, o) :: r => by
    unfold cutT
    rw [List.filter_cons]
    by_cases e : t = b
    · subst e
      have c : (!ts.contains t) = true := by
        cases q : ts.contains t with
        | false => rfl
        | true => exact absurd (List.contains_iff_mem.mp q) h
      rw [if_pos c, List.lookup_cons, List.lookup_cons, show (t == t) = true from beq_self_eq_true t]
    · have e1 : (t == b) = false := beq_eq_false_iff_ne.mpr e
      split
      · rw [List.lookup_cons, List.lookup_cons, e1]
        exact cutT_some h r
      · rw [List.lookup_cons, e1]
        exact cutT_some h r
theorem cutT_in {ts : List Addr} {K : PySem.W.Frag} {h : Heap} (X : K.In h) : (cutT K ts).In h := fun a o e => by
  by_cases m : a ∈ ts
  · rw [cutT_none m] at e
    cases e
  · rw [cutT_some m] at e
    exact X a o e
def empB (K : PySem.W.Frag) (t : Addr) : Bool := match K.lookup t with
  | some ⟨.type c, none, .seq its _, _⟩ => decide (c = "tuple") && decide (its = #[])
  | _ => false
theorem empB_ok {K : PySem.W.Frag} {ts : List Addr} {h : Heap} {t : Addr} (X : K.In h) (m : t ∈ ts) (c : empB K t = true) : Emp (cutT K ts) h t := by
  refine ⟨cutT_none m K, ?_⟩
  unfold empB at c
  cases q : K.lookup t with
  | none => rw [q] at c; cases c
  | some o =>
    obtain ⟨oc, od, dt, osl⟩ := o
    rw [q] at c
    cases oc with
    | type n =>
      cases od with
      | some _ => cases dt <;> cases c
      | none =>
        cases dt with
        | seq its k =>
          obtain ⟨c1, c2⟩ := He.ba (show (decide (n = "tuple") && decide (its = #[])) = true from c)
          have e1 : n = "tuple" := of_decide_eq_true c1
          have e2 : its = #[] := of_decide_eq_true c2
          subst e1 e2
          exact ⟨_, k, X t _ q, rfl, rfl, rfl⟩
        | _ => cases c
    | _ => cases od <;> cases dt <;> cases c
def dd (x : Str) (st : Stmt) : He.DefD := ⟨(x, none), x, x, defArgs st, defBody st, defScope st, [], []⟩
def dm (m q : Str) (st : Stmt) : He.DefD := ⟨("Frame", some m), m, q, defArgs st, defBody st, defScope st, [], []⟩
def dmk (m q : Str) (st : Stmt) : He.DefD := ⟨("Frame", some m), m, q, defArgs st, defBody st, defScope st, [], [("arrays", .adr (kwAt "arrays")), ("positions", .adr (kwAt "positions")), ("values", .adr (kwAt "values"))]⟩
def fn : List He.DefD := [dd "is_name" s_is_name, dd "_are_names" s_are_names, dd "_is_array" s_is_array, dd "_are_arrays" s_are_arrays, dd "_kinds_of" s_kinds_of, dd "_with_blanks" s_with_blanks, dd "_law_filled" s_law_filled, dd "_law_dip" s_law_dip, dd "_law_choose" s_law_choose, dd "_law_shuffled" s_law_shuffled, dd "_law_name" s_law_name, dd "_law_names" s_law_names, dd "_law_parts" s_law_parts, dd "_law_lengths" s_law_lengths, dd "_law_all_names" s_law_all_names, dd "_law_is_let" s_law_is_let, dd "_law_is_told" s_law_is_told, dd "_law_more" s_law_more, dd "_law_turned" s_law_turned, dd "_law_right" s_law_right, dd "law" s_law, dm "__init__" "Frame.__init__" s_Frame_init, dm "length_of" "Frame.length_of" s_Frame_length_of, dm "kind_of" "Frame.kind_of" s_Frame_kind_of, dm "is_fresh" "Frame.is_fresh" s_Frame_is_fresh, dm "_is_of_kind" "Frame._is_of_kind" s_Frame_is_of_kind, dm "__contains__" "Frame.__contains__" s_Frame_contains, dm "__len__" "Frame.__len__" s_Frame_len, dm "__str__" "Frame.__str__" s_Frame_str, dm "__eq__" "Frame.__eq__" s_Frame_eq, dm "renamed" "Frame.renamed" s_Frame_renamed, dmk "with_names" "Frame.with_names" s_Frame_with_names]
def fa : List He.Fa := [.glo "is_name", .glo "_are_names", .glo "_is_array", .glo "_are_arrays", .glo "_kinds_of", .glo "_with_blanks", .glo "_law_filled", .glo "_law_dip", .glo "_law_choose", .glo "_law_shuffled", .glo "_law_name", .glo "_law_names", .glo "_law_parts", .glo "_law_lengths", .glo "_law_all_names", .glo "_law_is_let", .glo "_law_is_told", .glo "_law_more", .glo "_law_turned", .glo "_law_right", .glo "law", .glo "InvalidFrame", .glo "InvalidOperation", .glo "Frame", .free "abs", .free "all", .free "dict", .free "enumerate", .free "int", .free "isinstance", .free "len", .free "list", .free "max", .free "min", .free "range", .free "repr", .free "set", .free "str", .free "sum", .free "tuple", .free "zip", .int "LONGEST_NAME" 8, .int "MAX_ARRAYS" 12, .int "MAX_POSITIONS" 6, .int "MAX_VALUES" 6, .cls "Frame", .noat "Frame" "_arrays", .noat "Frame" "_positions", .noat "Frame" "_amounts", .noat "Frame" "_length_by_array", .noat "Frame" "_lengths", .noat "Frame" "_kinds", .meth "Frame" "length_of", .meth "Frame" "kind_of", .meth "Frame" "is_fresh", .meth "Frame" "_is_of_kind", .meth "Frame" "__contains__", .meth "Frame" "__len__", .meth "Frame" "__str__", .meth "Frame" "__eq__", .meth "Frame" "renamed", .meth "Frame" "with_names", .mkr "Frame", .exc "InvalidFrame", .exc "InvalidOperation", .exm "InvalidFrame" "InvalidFrame" true, .exm "InvalidOperation" "InvalidOperation" true]
def names1 : List Str := ["_wall", "copied", "ClaimError", "InvalidFrame", "InvalidOperation", "UnknownName", "LONGEST_NAME", "MAX_ARRAYS", "MAX_POSITIONS", "MAX_VALUES", "is_name", "_are_names", "_is_array", "_are_arrays", "_kinds_of", "_with_blanks"]
def names2 : List Str := ["Frame", "_law_filled", "_law_dip", "_law_choose", "_law_shuffled", "_law_name", "_law_names", "_law_parts", "_law_lengths", "_law_all_names", "_law_is_let", "_law_is_told", "_law_more", "_law_turned", "_law_right"]
/-- what == asks of the class -/
def fiB (K : PySem.W.Frag) (C : Addr) : Bool := He.eqO (PySem.W.findIn K (.ref C) "__class__") (some (some (.builtin "object.__class__"))) && (He.eqO (PySem.W.specialIn K (.builtin "object.__class__") "__get__") (some (some (.builtin "getset_descriptor.__get__"))) &&
  (decide (PySem.W.takesIn K (.builtin "object.__class__") = some true) && (decide (PySem.W.mroIn K C (.type "object") = some true) && (decide (PySem.W.kitOne K (.type "list") (.ref C) = some false) && (PySem.W.notFirst K C (.type "list") &&
  He.eqO (PySem.W.findIn K (.ref C) "__ne__") (some (some (.builtin "object.__ne__"))))))))
theorem fiB_ok {K : PySem.W.Frag} {C : Addr} (c : fiB K C = true) : Fi K C := by
  obtain ⟨c1, c⟩ := He.ba c
  obtain ⟨c2, c⟩ := He.ba c
  obtain ⟨c3, c⟩ := He.ba c
  obtain ⟨c4, c⟩ := He.ba c
  obtain ⟨c5, c⟩ := He.ba c
  obtain ⟨c6, c7⟩ := He.ba c
  exact ⟨He.eqO_ok c1, He.eqO_ok c2, of_decide_eq_true c3, of_decide_eq_true c4, of_decide_eq_true c5, c6, He.eqO_ok c7⟩
/-! ### the properties -/
def pAt (K : PySem.W.Frag) (f : Str) : Addr := match PySem.W.findIn K (.ref (He.ga K "Frame")) f with
  | some (some (.ref p)) => p
  | _ => 0
def gAt (K : PySem.W.Frag) (f : Str) : Addr := match PySem.W.recIn K (pAt K f) "property" with
  | some (.ref g :: _) => g
  | _ => 0
def prB (K : PySem.W.Frag) (f q : Str) : Bool :=
  He.eqO (PySem.W.findIn K (.ref (He.ga K "Frame")) f) (some (some (.ref (pAt K f)))) && (He.eqO (PySem.W.specialIn K (.ref (pAt K f)) "__get__") (some (some (.builtin "property.__get__"))) && (decide (PySem.W.takesIn K (.ref (pAt K f)) = some true) &&
    ((match PySem.W.recIn K (pAt K f) "property" with
      | some (.ref _ :: _) => true
      | _ => false) && (match K.lookup (gAt K f) with
      | some ⟨_, _, .func fd, _⟩ => PySem.W.codeIn K fd.code q
      | _ => false))))
def prV (K : PySem.W.Frag) (f : Str) : He.FnV := match K.lookup (gAt K f) with
  | some ⟨_, _, .func fd, _⟩ => some (fd.name, fd.qualname, fd.params, fd.body, fd.scope, fd.globals, fd.closure, fd.defaults, fd.builtins)
  | _ => none
def pd : List (Str × Str × Stmt) := [("arrays", "Frame.arrays", s_Frame_arrays), ("positions", "Frame.positions", s_Frame_positions), ("amounts", "Frame.amounts", s_Frame_amounts), ("lengths", "Frame.lengths", s_Frame_lengths)]
def prW (d : Str × Str × Stmt) : He.FnV := some (d.1, d.2.1, defArgs d.2.2, .stmts (defBody d.2.2), defScope d.2.2, mainGlobals, [], .none, builtinsNs)
abbrev AlX : Type := He.AlD × (Bool × List He.FnV)
def obsX (K : PySem.W.Frag) : AlX := (He.obsD fa fn K, ((K.lookup sysModules).isSome && (fiB K (He.ga K "Frame") && pd.all fun d => prB K d.1 d.2.1), pd.map fun d => prV K d.1))
def valX : AlX := (He.valD fn, (true, pd.map prW))
abbrev AlY : Type := AlX × Bool
def obsY (K : PySem.W.Frag) : AlY := (obsX (cutT K (tsOf K)), decide (tsOf (cutT K (tsOf K)) = tsOf K) && (tsOf K).all (empB K))
def valY : AlY := (valX, true)
def obsYG (g : Addr → Option Obj) : AlY := obsY (He.frG g (sysModules :: (He.asD g 6 ++ tsOf (He.frG g (He.asD g 6)))))
def hkX : PySem.W.Hook where
  α := AlY
  obs := fun s => obsYG s.heap.get?
  val := fun _ => valY
  says := fun _ h => ∃ K : PySem.W.Frag, K.In h ∧ obsY K = valY
  of := fun _ _ e => ⟨_, He.frG_in, e⟩
  keeps := fun _ _ _ ⟨K, hK, c⟩ k => ⟨K, PySem.W.Frag.In.keeps hK k, c⟩
abbrev RR : PySem.W.OpenRow := PySem.W.OpenLaw.row PySem.Challenge.rw_cellsenough_k01_whole_histories_of_frame
def obX (s : PySem.W.SharedT) : AlY := obsYG (HandSHeadRun.getT s)
theorem obX_eq (s : PySem.W.SharedT) : obX s = hkX.obs s.abs := by
  have e : HandSHeadRun.getT s = s.abs.heap.get? := funext (HandSHeadRun.getT_eq s)
  show obsYG (HandSHeadRun.getT s) = obsYG s.abs.heap.get?
  rw [e]
theorem runX (w : World) : HandSHeadRun.RunEq RR (PySem.W.view RR.prog [34]) hkX obX 3000 (names1 ++ names2) w := by
  intro os
  kernel_rfl
theorem pr_of {P : Program} {w : World} {K : PySem.W.Frag} {mg : Str → Option Value} {base : Heap} (c : obsX K = valX) (i : Nat) {d : Str × Str × Stmt} (h : pd[i]? = some d) {a : Str} {p1 p2 p3 : Pos} (S : FnScope ["self"] ["self"] (defScope d.2.2))
    (bd : ∀ (kV doc pm : Value) (an : Option Addr) (cdv ct : Value) (us : List Value), us.length = 1 → bindArgs (PySem.W.fnOf d.1 d.2.1 (defArgs d.2.2) (defBody d.2.2) (defScope d.2.2) .none kV doc pm an cdv ct) ⟨us, []⟩ = pure ((["self"] : List Str).zip us))
    (hb : defBody d.2.2 = [.Return (some (.Attribute (.Name "self" p1) a p2)) p3]) (cl : Cls K (He.ga K "Frame")) (n : NoAttr K (He.ga K "Frame") a) : Pr P w K mg base (He.ga K "Frame") d.1 a := by
  have c2 : ((K.lookup sysModules).isSome && (fiB K (He.ga K "Frame") && pd.all fun d => prB K d.1 d.2.1), pd.map fun d => prV K d.1) = (true, pd.map prW) := congrArg (fun z : AlX => z.2) c
  have c3 := congrArg Prod.fst c2
  have c4 := congrArg Prod.snd c2
  have e := congrArg (fun l => l[i]?) c4
  rw [List.getElem?_map, List.getElem?_map, h] at e
  have e2 : prV K d.1 = prW d := Option.some.inj e
  have c5 := List.all_eq_true.mp (He.ba (He.ba c3).2).2 d (List.mem_of_getElem? h)
  obtain ⟨b1, c5⟩ := He.ba c5
  obtain ⟨b2, c5⟩ := He.ba c5
  obtain ⟨b3, c5⟩ := He.ba c5
  obtain ⟨b4, b5⟩ := He.ba c5
  have hrec : ∃ rest, PySem.W.recIn K (pAt K d.1) "property" = some (.ref (gAt K d.1) :: rest) := by
    cases q : PySem.W.recIn K (pAt K d.1) "property" with
    | none => rw [q] at b4; cases b4
    | some vs =>
      rw [q] at b4
      cases vs with
      | nil => cases b4
      | cons v r =>
        cases v with
        | ref g => exact ⟨r, by unfold gAt; rw [q]⟩
        | _ => cases b4
  have P0 : PropOf K (He.ga K "Frame") d.1 (pAt K d.1) (gAt K d.1) := ⟨He.eqO_ok b1, He.eqO_ok b2, of_decide_eq_true b3, hrec⟩
  unfold prV prW at e2
  cases q : K.lookup (gAt K d.1) with
  | none => rw [q] at b5; cases b5
  | some o =>
    obtain ⟨oc, od, dt, osl⟩ := o
    rw [q] at b5 e2
    cases dt with
    | func fd =>
      obtain ⟨n1, n2, n3, n4, n5, n6, n7, n8, n9, n10, n11, n12, n13, n14, n15⟩ := fd
      have e3 : (some (n1, n2, n3, n4, n5, n6, n7, n8, n15) : He.FnV) = some (d.1, d.2.1, defArgs d.2.2, .stmts (defBody d.2.2), defScope d.2.2, mainGlobals, [], .none, builtinsNs) := e2
      simp only [Option.some.injEq, Prod.mk.injEq] at e3
      obtain ⟨h1, h2, h3, h4, h5, h6, h7, h8, h9⟩ := e3
      subst h1 h2 h3 h4 h5 h6 h7 h8 h9
      exact ⟨pAt K d.1, gAt K d.1, _, P0, fn_getter (f := a) q b5 S rfl hb cl n, Binds.all fun us hl => bd _ _ _ _ _ _ us hl⟩
    | _ => cases b5
theorem facts {P : Program} {w : World} {K : PySem.W.Frag} {h : Heap} {mg : Str → Option Value} {f : Addr} (X : K.In h) (G : h.Ns mainGlobals mg) (hfa : mg ("law" : Str) = some (.ref f)) (c : obsX K = valX) :
    ∃ fd : FuncData, (∀ (s : Shared) (v : Value), BindsTo s fd ⟨[v], []⟩ [("script", v)]) ∧ ∀ base : Heap, K.In base → base.Ns mainGlobals mg → FnOkG P w K mg base CX0 10 f fd ["script"] (spLaw K (kwAt "arrays" K) (kwAt "positions" K) (kwAt "values" K)) := by
  have cD : He.SaysD fa fn K := congrArg (fun z : AlX => z.1) c
  have c3 : ((K.lookup sysModules).isSome && (fiB K (He.ga K "Frame") && pd.all fun d => prB K d.1 d.2.1)) = true := congrArg (fun z : AlX => z.2.1) c
  obtain ⟨om, hK⟩ := Option.isSome_iff_exists.mp (He.ba c3).1
  have FI := fiB_ok (He.ba (He.ba c3).2).1
  have T : Bt mg := ⟨He.free_ok X G (cD.fact 24 (f := .free "abs") rfl), He.free_ok X G (cD.fact 25 (f := .free "all") rfl), He.free_ok X G (cD.fact 26 (f := .free "dict") rfl), He.free_ok X G (cD.fact 27 (f := .free "enumerate") rfl), He.free_ok X G (cD.fact 28 (f := .free "int") rfl), He.free_ok X G (cD.fact 29 (f := .free "isinstance") rfl), He.free_ok X G (cD.fact 30 (f := .free "len") rfl), He.free_ok X G (cD.fact 31 (f := .free "list") rfl), He.free_ok X G (cD.fact 32 (f := .free "max") rfl), He.free_ok X G (cD.fact 33 (f := .free "min") rfl), He.free_ok X G (cD.fact 34 (f := .free "range") rfl), He.free_ok X G (cD.fact 35 (f := .free "repr") rfl), He.free_ok X G (cD.fact 36 (f := .free "set") rfl), He.free_ok X G (cD.fact 37 (f := .free "str") rfl), He.free_ok X G (cD.fact 38 (f := .free "sum") rfl), He.free_ok X G (cD.fact 39 (f := .free "tuple") rfl)⟩
  have Tz : mg "zip" = none := He.free_ok X G (cD.fact 40 (f := .free "zip") rfl)
  have Co_ : Co mg := ⟨He.int_ok X G (cD.fact 41 (f := .int "LONGEST_NAME" 8) rfl), He.int_ok X G (cD.fact 42 (f := .int "MAX_ARRAYS" 12) rfl), He.int_ok X G (cD.fact 43 (f := .int "MAX_POSITIONS" 6) rfl), He.int_ok X G (cD.fact 44 (f := .int "MAX_VALUES" 6) rfl)⟩
  have X0 : Fx K mg (He.ga K "Frame") := ⟨He.cls_ok (cD.fact 45 (f := .cls "Frame") rfl), He.noat_ok (cD.fact 46 (f := .noat "Frame" "_arrays") rfl), He.noat_ok (cD.fact 47 (f := .noat "Frame" "_positions") rfl), He.noat_ok (cD.fact 48 (f := .noat "Frame" "_amounts") rfl), He.noat_ok (cD.fact 49 (f := .noat "Frame" "_length_by_array") rfl), He.noat_ok (cD.fact 50 (f := .noat "Frame" "_lengths") rfl), He.noat_ok (cD.fact 51 (f := .noat "Frame" "_kinds") rfl), He.glo_ok X G (cD.fact 23 (f := .glo "Frame") rfl)⟩
  obtain ⟨xI1, xI2, xI3, xI4⟩ := He.exc_ok (cD.fact 63 (f := .exc "InvalidFrame") rfl)
  have XI : Ex K mg (He.ga K "InvalidFrame") := ⟨He.glo_ok X G (cD.fact 21 (f := .glo "InvalidFrame") rfl), xI1, xI2, xI3, xI4⟩
  have hI := He.exm_ok (cD.fact 65 (f := .exm "InvalidFrame" "InvalidFrame" true) rfl)
  obtain ⟨xO1, xO2, xO3, xO4⟩ := He.exc_ok (cD.fact 64 (f := .exc "InvalidOperation") rfl)
  have XO : ExO K mg (He.ga K "InvalidOperation") := ⟨He.glo_ok X G (cD.fact 22 (f := .glo "InvalidOperation") rfl), xO1, xO2, xO3, xO4⟩
  have hO := He.exm_ok (cD.fact 66 (f := .exm "InvalidOperation" "InvalidOperation" true) rfl)
  have M := He.mkr_ok (cD.fact 62 (f := .mkr "Frame") rfl)
  obtain ⟨fd0, F0⟩ := cD.def_ 21 (d := dm "__init__" "Frame.__init__" s_Frame_init) rfl
  obtain ⟨fdL, FL⟩ := cD.def_ 20 (d := dd "law" s_law) rfl
  obtain ⟨fdR, FR⟩ := cD.def_ 30 (d := dm "renamed" "Frame.renamed" s_Frame_renamed) rfl
  obtain ⟨fdW, FW⟩ := cD.def_ 31 (d := dmk "with_names" "Frame.with_names" s_Frame_with_names) rfl
  have FW' : FunD K "with_names" "Frame.with_names" (defArgs s_Frame_with_names) (defBody s_Frame_with_names) (defScope s_Frame_with_names) [] [("arrays", .ref (kwAt "arrays" K)), ("positions", .ref (kwAt "positions" K)), ("values", .ref (kwAt "values" K))] (He.fAd K ("Frame", some "with_names")) fdW := FW
  obtain ⟨KW, dsW, dW, bW⟩ := kws_of FW'
  have eL := hfa.symm.trans (He.glo_ok X G (cD.fact 20 (f := .glo "law") rfl))
  cases eL
  have b0 : Binds K fd0 P_Frame_init [] := FunD.bindsN F0 fun _ _ _ _ _ _ us hl => match us, hl with | [_, _, _, _], _ => rfl
  have bR : Binds K fdR P_Frame_renamed [] := FunD.bindsN FR fun _ _ _ _ _ _ us hl => match us, hl with | [_, _], _ => rfl
  have bL := FunD.bindsA (ps := ["script"]) FL fun _ _ _ _ _ _ us hl => match us, hl with | [_], _ => rfl
  have mW := He.meth_ok (cD.fact 61 (f := .meth "Frame" "with_names") rfl)
  have mR := He.meth_ok (cD.fact 60 (f := .meth "Frame" "renamed") rfl)
  refine ⟨fdL, fun s v => bL s [v] rfl, fun base kb nb => ?_⟩
  have hDip := ok_dip (P := P) (w := w) (K := K) (mg := mg) (base := base) T ⟨_, _, (cD.def_ 7 (d := dd "_law_dip" s_law_dip) rfl).choose_spec, He.glo_ok X G (cD.fact 7 (f := .glo "_law_dip") rfl)⟩
  have hFil := ok_filled (P := P) (w := w) (K := K) (mg := mg) (base := base) T ⟨_, _, (cD.def_ 6 (d := dd "_law_filled" s_law_filled) rfl).choose_spec, He.glo_ok X G (cD.fact 6 (f := .glo "_law_filled") rfl)⟩
  have hCho := ok_choose T ⟨_, _, (cD.def_ 8 (d := dd "_law_choose" s_law_choose) rfl).choose_spec, He.glo_ok X G (cD.fact 8 (f := .glo "_law_choose") rfl)⟩ hDip
  have hShu := ok_shuf T ⟨_, _, (cD.def_ 9 (d := dd "_law_shuffled" s_law_shuffled) rfl).choose_spec, He.glo_ok X G (cD.fact 9 (f := .glo "_law_shuffled") rfl)⟩ hDip
  have hNam := ok_name T ⟨_, _, (cD.def_ 10 (d := dd "_law_name" s_law_name) rfl).choose_spec, He.glo_ok X G (cD.fact 10 (f := .glo "_law_name") rfl)⟩ hDip hCho
  have hNms := ok_names T ⟨_, _, (cD.def_ 11 (d := dd "_law_names" s_law_names) rfl).choose_spec, He.glo_ok X G (cD.fact 11 (f := .glo "_law_names") rfl)⟩ hNam
  have hLen := ok_lengths (P := P) (w := w) (K := K) (mg := mg) (base := base) T ⟨_, _, (cD.def_ 13 (d := dd "_law_lengths" s_law_lengths) rfl).choose_spec, He.glo_ok X G (cD.fact 13 (f := .glo "_law_lengths") rfl)⟩
  have hPar := ok_parts T ⟨_, _, (cD.def_ 12 (d := dd "_law_parts" s_law_parts) rfl).choose_spec, He.glo_ok X G (cD.fact 12 (f := .glo "_law_parts") rfl)⟩ hDip hNms
  have hAln := ok_alln T ⟨_, _, (cD.def_ 14 (d := dd "_law_all_names" s_law_all_names) rfl).choose_spec, He.glo_ok X G (cD.fact 14 (f := .glo "_law_all_names") rfl)⟩ hLen
  have hLet := ok_let T ⟨_, _, (cD.def_ 15 (d := dd "_law_is_let" s_law_is_let) rfl).choose_spec, He.glo_ok X G (cD.fact 15 (f := .glo "_law_is_let") rfl)⟩ hAln
  have hLenH := ok_lengthsH (P := P) (w := w) (K := K) (mg := mg) (base := base) T ⟨_, _, (cD.def_ 13 (d := dd "_law_lengths" s_law_lengths) rfl).choose_spec, He.glo_ok X G (cD.fact 13 (f := .glo "_law_lengths") rfl)⟩
  have hAlnH := ok_allnH T ⟨_, _, (cD.def_ 14 (d := dd "_law_all_names" s_law_all_names) rfl).choose_spec, He.glo_ok X G (cD.fact 14 (f := .glo "_law_all_names") rfl)⟩ hLenH
  have hLetH := ok_letH T ⟨_, _, (cD.def_ 15 (d := dd "_law_is_let" s_law_is_let) rfl).choose_spec, He.glo_ok X G (cD.fact 15 (f := .glo "_law_is_let") rfl)⟩ hAlnH
  have hIsn := ok_is_name (P := P) (w := w) (K := K) (mg := mg) (base := base) T Co_ ⟨_, _, (cD.def_ 0 (d := dd "is_name" s_is_name) rfl).choose_spec, He.glo_ok X G (cD.fact 0 (f := .glo "is_name") rfl)⟩
  have hAre := ok_are_names T ⟨_, _, (cD.def_ 1 (d := dd "_are_names" s_are_names) rfl).choose_spec, He.glo_ok X G (cD.fact 1 (f := .glo "_are_names") rfl)⟩ hIsn
  have hArr := ok_is_array T ⟨_, _, (cD.def_ 2 (d := dd "_is_array" s_is_array) rfl).choose_spec, He.glo_ok X G (cD.fact 2 (f := .glo "_is_array") rfl)⟩ hAre
  have hArs := ok_are_arrays T Co_ ⟨_, _, (cD.def_ 3 (d := dd "_are_arrays" s_are_arrays) rfl).choose_spec, He.glo_ok X G (cD.fact 3 (f := .glo "_are_arrays") rfl)⟩ hArr
  have hKin := ok_kinds (P := P) (w := w) (K := K) (mg := mg) (base := base) T ⟨_, _, (cD.def_ 4 (d := dd "_kinds_of" s_kinds_of) rfl).choose_spec, He.glo_ok X G (cD.fact 4 (f := .glo "_kinds_of") rfl)⟩
  have hBla := ok_blanks (P := P) (w := w) (K := K) (mg := mg) (base := base) T ⟨_, _, (cD.def_ 5 (d := dd "_with_blanks" s_with_blanks) rfl).choose_spec, He.glo_ok X G (cD.fact 5 (f := .glo "_with_blanks") rfl)⟩
  have hIni := ok_init T Co_ F0 X0 XI hArs hAre hKin
  have mKind := ok_kind (P := P) (w := w) (K := K) (mg := mg) (base := base) T X0 ⟨_, _, (cD.def_ 25 (d := dm "_is_of_kind" "Frame._is_of_kind" s_Frame_is_of_kind) rfl).choose_spec, He.meth_ok (cD.fact 55 (f := .meth "Frame" "_is_of_kind") rfl)⟩
  have mHas := ok_contains (P := P) (w := w) (K := K) (mg := mg) (base := base) T X0 ⟨_, _, (cD.def_ 26 (d := dm "__contains__" "Frame.__contains__" s_Frame_contains) rfl).choose_spec, He.meth_ok (cD.fact 56 (f := .meth "Frame" "__contains__") rfl)⟩
  have mFre := ok_fresh T X0 ⟨_, _, (cD.def_ 24 (d := dm "is_fresh" "Frame.is_fresh" s_Frame_is_fresh) rfl).choose_spec, He.meth_ok (cD.fact 54 (f := .meth "Frame" "is_fresh") rfl)⟩ hIsn
  have mKof := ok_kind_of T X0 ⟨_, _, (cD.def_ 23 (d := dm "kind_of" "Frame.kind_of" s_Frame_kind_of) rfl).choose_spec, He.meth_ok (cD.fact 53 (f := .meth "Frame" "kind_of") rfl)⟩ mHas
  have mLof := ok_length_of T X0 ⟨_, _, (cD.def_ 22 (d := dm "length_of" "Frame.length_of" s_Frame_length_of) rfl).choose_spec, He.meth_ok (cD.fact 52 (f := .meth "Frame" "length_of") rfl)⟩ mKind
  have mLen := ok_len (P := P) (w := w) (K := K) (mg := mg) (base := base) T X0 ⟨_, _, (cD.def_ 27 (d := dm "__len__" "Frame.__len__" s_Frame_len) rfl).choose_spec, He.meth_ok (cD.fact 57 (f := .meth "Frame" "__len__") rfl)⟩
  have mStr := ok_str T X0 ⟨_, _, (cD.def_ 28 (d := dm "__str__" "Frame.__str__" s_Frame_str) rfl).choose_spec, He.meth_ok (cD.fact 58 (f := .meth "Frame" "__str__") rfl)⟩ hBla
  have mEq := ok_eq (P := P) (w := w) (K := K) (mg := mg) (base := base) hK T X0 FI ⟨_, _, (cD.def_ 29 (d := dm "__eq__" "Frame.__eq__" s_Frame_eq) rfl).choose_spec, He.meth_ok (cD.fact 59 (f := .meth "Frame" "__eq__") rfl)⟩
  have hWit := ok_with T FW' X0 M hIni b0
  have hRen := ok_renamed T FR X0 XO M hIni b0 hIsn mHas
  have p0 := pr_of (P := P) (w := w) (K := K) (mg := mg) (base := base) c 0 (d := ("arrays", "Frame.arrays", s_Frame_arrays)) rfl ⟨rfl, rfl, rfl, by decide +kernel, rfl, by decide +kernel, by decide +kernel⟩ (fun _ _ _ _ _ _ us hl => match us, hl with | [_], _ => rfl) rfl X0.cl X0.n1
  have p1 := pr_of (P := P) (w := w) (K := K) (mg := mg) (base := base) c 1 (d := ("positions", "Frame.positions", s_Frame_positions)) rfl ⟨rfl, rfl, rfl, by decide +kernel, rfl, by decide +kernel, by decide +kernel⟩ (fun _ _ _ _ _ _ us hl => match us, hl with | [_], _ => rfl) rfl X0.cl X0.n2
  have p2 := pr_of (P := P) (w := w) (K := K) (mg := mg) (base := base) c 2 (d := ("amounts", "Frame.amounts", s_Frame_amounts)) rfl ⟨rfl, rfl, rfl, by decide +kernel, rfl, by decide +kernel, by decide +kernel⟩ (fun _ _ _ _ _ _ us hl => match us, hl with | [_], _ => rfl) rfl X0.cl X0.n3
  have p3 := pr_of (P := P) (w := w) (K := K) (mg := mg) (base := base) c 3 (d := ("lengths", "Frame.lengths", s_Frame_lengths)) rfl ⟨rfl, rfl, rfl, by decide +kernel, rfl, by decide +kernel, by decide +kernel⟩ (fun _ _ _ _ _ _ us hl => match us, hl with | [_], _ => rfl) rfl X0.cl X0.n5
  have hTol := ok_told hK T X0 FI ⟨_, _, (cD.def_ 16 (d := dd "_law_is_told" s_law_is_told) rfl).choose_spec, He.glo_ok X G (cD.fact 16 (f := .glo "_law_is_told") rfl)⟩ hLen p0 p1 p2 p3 mKof mHas mFre mLof mStr mLen mEq M hIni b0
  have hMor := ok_more T X0 XI hI ⟨_, _, (cD.def_ 17 (d := dd "_law_more" s_law_more) rfl).choose_spec, He.glo_ok X G (cD.fact 17 (f := .glo "_law_more") rfl)⟩ mW hWit KW hDip hCho hPar hLet hLetH
  have hTur := ok_turned T Tz X0 XO hO ⟨_, _, (cD.def_ 18 (d := dd "_law_turned" s_law_turned) rfl).choose_spec, He.glo_ok X G (cD.fact 18 (f := .glo "_law_turned") rfl)⟩ mR hRen bR hDip hCho hNms hAln hShu
  have hRig := ok_right hK T X0 FI ⟨_, _, (cD.def_ 19 (d := dd "_law_right" s_law_right) rfl).choose_spec, He.glo_ok X G (cD.fact 19 (f := .glo "_law_right") rfl)⟩ M hIni b0 mW hWit bW dW mR hRen bR mEq hDip hCho hPar hMor hTur hTol
  exact ok_law hK T FL X0 M hIni b0 mR hRen bR mStr mLen p3 hFil hRig
end Kx
open PySem PySem.W PySem.Calls PyProof.Rows
theorem PySem.Challenge.cw_cellsenough_k01_whole_histories_of_frame_holds : PySem.Challenge.rw_cellsenough_k01_whole_histories_of_frame.Holds := by
  w_on; o_law
  refine HandSHeadRun.head_any (r := OpenLaw.row PySem.Challenge.rw_cellsenough_k01_whole_histories_of_frame) (q := view (OpenLaw.row PySem.Challenge.rw_cellsenough_k01_whole_histories_of_frame).prog [34]) (H := Kx.hkX) (ob := Kx.obX) (M := 3000) (loose := Kx.names1 ++ Kx.names2) (d := HandSHeadRun.topDef (OpenLaw.row PySem.Challenge.rw_cellsenough_k01_whole_histories_of_frame).prog 34) (kwd := []) Kx.obX_eq
    (by kernel_rfl) (fun s => by kernel_rfl) Kx.runX (by kernel_rfl) (by kernel_rfl) (by kernel_rfl) (by rfl) (by first | assumption | decide +kernel) (by decide +kernel) ⟨rfl, rfl, rfl, rfl, rfl, by decide +kernel⟩ ?hw ?hc
  case hw => w_witness2
  case hc =>
    refine Kx.walk_ofT (l := PySem.Challenge.rw_cellsenough_k01_whole_histories_of_frame) (n := 63) (k := 10) (x := "script") rfl (by decide) (by kernel_rfl) ⟨rfl, by decide, by decide⟩ ?F
    intro w mg fa h Y G hmg0
    obtain ⟨K, KX, c⟩ := Y
    have hmg : mg ("law" : PySem.Str) = some (.ref fa) := by
      have e : (HandSHeadRun.topDef (OpenLaw.row PySem.Challenge.rw_cellsenough_k01_whole_histories_of_frame).prog 34).name = ("law" : PySem.Str) := by kernel_rfl
      rw [← e]
      exact hmg0
    have c1 : Kx.obsX (Kx.cutT K (Kx.tsOf K)) = Kx.valX := congrArg (fun z : Kx.AlY => z.1) c
    have c2 : (decide (Kx.tsOf (Kx.cutT K (Kx.tsOf K)) = Kx.tsOf K) && (Kx.tsOf K).all (Kx.empB K)) = true := congrArg (fun z : Kx.AlY => z.2) c
    obtain ⟨c3, c4⟩ := He.ba c2
    have c5 : Kx.tsOf (Kx.cutT K (Kx.tsOf K)) = Kx.tsOf K := of_decide_eq_true c3
    have emp : ∀ t ∈ Kx.tsOf (Kx.cutT K (Kx.tsOf K)), Kx.Emp (Kx.cutT K (Kx.tsOf K)) h t := fun t ht => by
      rw [c5] at ht
      exact Kx.empB_ok KX ht (List.all_eq_true.mp c4 t ht)
    obtain ⟨fd, hb, hF⟩ := Kx.facts (P := (PySem.Challenge.rw_cellsenough_k01_whole_histories_of_frame).prog) (w := w) (Kx.cutT_in KX) G hmg c1
    exact ⟨Kx.cutT K (Kx.tsOf K), fd, _, Kx.tsOf (Kx.cutT K (Kx.tsOf K)), Kx.cutT_in KX, emp, hb, fun H a ns hl hS hT => ⟨a, ns, rfl, hS, hl, hT _ List.mem_cons_self, hT _ (List.mem_cons_of_mem _ List.mem_cons_self), hT _ (List.mem_cons_of_mem _ (List.mem_cons_of_mem _ List.mem_cons_self)), fun _ => rfl⟩, hF⟩
