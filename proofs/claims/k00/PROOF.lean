import PyProof.Rows.All
import Wide.All
import OpenK.AllK
import Wide.FinOn
import KE.KStateDown
import Lean
import HandS.ForMost
import HandS.Exc
import HandS.TryOnly
import HandS.ExcOwn
import HandS.WordsExc
import HandS.Defaults
import HandS.IsInst
import HandS.Wide
import HandS.Flow
import HandS.Style
import HandS.Property
import HandS.DictComp
import HandS.FStr
import HandS.Strs
import HandS.TupAny
import HandS.TupMul
import HandS.Conv
import HandS.More
import PyProof.StrLawsRepr
import PyProof.FitsInt
import KE.KFmtOwn
import PyProof.NeKinds
import PyProof.ListStr
import PyProof.StrOps2
import KE.KDictPairs
import KE.KDictSum
import HandS.HeadEnd
import PySem.Challenge.RW_cellsenough_k00_names_and_frames_judged
import HandS.Walk
import HandS.StrMore
import HandS.DictSub
import PyProof.CollectStr
import HandS.DeepEq
import HandS.Ends
import HandS.Head0
import HandS.Head1
import HandS.Head2
import HandS.HeadHook1
import HandS.HeadHook2
set_option Elab.async false
set_option linter.all false
set_option maxRecDepth 100000
set_option maxHeartbeats 0
namespace Kx
open PySem PySem.Spec PyProof.Rows L2

/-! ### data that stand in the heap, apart from some addresses -/
def keyD : Key → PyData
  | .inl i => .int i
  | .inr x => .str x
mutual
inductive Dv (ex : Addr → Prop) (H : Hp) : V → PyData → Prop
  | non : Dv ex H .non .none
  | bl (b : Bool) : Dv ex H (.bl b) (.bool b)
  | int (i : Int) : Dv ex H (.int i) (.int i)
  | str (x : Str) : Dv ex H (.str x) (.str x)
  | lst {a : Addr} {xs : List V} {ds : List PyData} : ¬ ex a → H a = some (.lst xs) → DvL ex H xs ds → Dv ex H (.ref a) (.list ds)
  | tup {a : Addr} {o : Obj} {xs : List V} {ds : List PyData} : o.dict = none → H a = some (.frz o (.tup xs)) → DvL ex H xs ds → Dv ex H (.ref a) (.tuple ds)
  | dic {a : Addr} {kvs : List (Key × V)} {es : List (PyData × PyData)} : ¬ ex a → H a = some (.dK kvs) → DvK ex H kvs es → Dv ex H (.ref a) (.dict es)
inductive DvL (ex : Addr → Prop) (H : Hp) : List V → List PyData → Prop
  | nil : DvL ex H [] []
  | cons {v : V} {vs : List V} {d : PyData} {ds : List PyData} : Dv ex H v d → DvL ex H vs ds → DvL ex H (v :: vs) (d :: ds)
inductive DvK (ex : Addr → Prop) (H : Hp) : List (Key × V) → List (PyData × PyData) → Prop
  | nil : DvK ex H [] []
  | cons {k : Key} {v : V} {d : PyData} {kvs : List (Key × V)} {es : List (PyData × PyData)} : Dv ex H v d → DvK ex H kvs es → DvK ex H ((k, v) :: kvs) ((keyD k, d) :: es)
end
/-- a plain tuple that was made here -/
def TupF (H : Hp) (a : Addr) (xs : List V) : Prop := ∃ o : Obj, o.dict = none ∧ H a = some (.frz o (.tup xs))
theorem TupF.sq {K : PySem.W.Frag} {H : Hp} {a : Addr} {xs : List V} (h : TupF H a xs) : SqT K H a xs := let ⟨o, _, e⟩ := h; .inl (.inr ⟨o, e⟩)
/-- all but ex stays, and all that never changes -/
def Kp (ex : Addr → Prop) (H H' : Hp) : Prop := ∀ a o, H a = some o → (ex a → ∃ ob u, o = HO.frz ob u) → H' a = some o
theorem Kp.get {ex : Addr → Prop} {H H' : Hp} (k : Kp ex H H') {a : Addr} {o : HO} (e : H a = some o) (n : ¬ ex a) : H' a = some o := k a o e fun z => absurd z n
theorem Kp.tup {ex : Addr → Prop} {H H' : Hp} (k : Kp ex H H') {a : Addr} {xs : List V} (h : TupF H a xs) : TupF H' a xs := by
  obtain ⟨o, od, e⟩ := h
  exact ⟨o, od, k a _ e fun _ => ⟨_, _, rfl⟩⟩
theorem Kp.refl {ex : Addr → Prop} {H : Hp} : Kp ex H H := fun _ _ e _ => e
theorem Kp.trans {ex : Addr → Prop} {H H1 H2 : Hp} (a : Kp ex H H1) (b : Kp ex H1 H2) : Kp ex H H2 := fun c o e n => b c o (a c o e n) n
theorem Kp.weak {ex ey : Addr → Prop} {H H1 : Hp} (a : Kp ex H H1) (h : ∀ b, ex b → ey b) : Kp ey H H1 := fun c o e n => a c o e fun z => n (h c z)
theorem Kp.new {ex : Addr → Prop} {H : Hp} {p : Addr} {o : HO} (h : H p = none) : Kp ex H (upd H p o) := fun a u e _ => by rw [upd_ne (ne_of_none e h)]; exact e
theorem Kp.at {ex : Addr → Prop} {H : Hp} {p : Addr} {o : HO} {xs : List V} (h : ex p) (hl : H p = some (.lst xs)) : Kp ex H (upd H p o) := fun a u e n => by
  have : a ≠ p := fun z => by
    subst z
    obtain ⟨ob, w, rfl⟩ := n h
    rw [hl] at e
    cases e
  rw [upd_ne this]; exact e
theorem Kp.same {ex : Addr → Prop} {H H1 : Hp} (h : Same H H1) : Kp ex H H1 := fun c o e _ => h c o e
section
variable {ex ey : Addr → Prop} {H H' : Hp}
mutual
theorem Dv.mono (k : Kp ex H H') (hy : ∀ a, ey a → ex a) : ∀ {v : V} {d : PyData}, Dv ex H v d → Dv ey H' v d
  | _, _, .non => .non
  | _, _, .bl b => .bl b
  | _, _, .int i => .int i
  | _, _, .str x => .str x
  | _, _, .lst n e l => .lst (fun z => n (hy _ z)) (k.get e n) (DvL.mono k hy l)
  | _, _, .tup d e l => .tup d (k _ _ e fun _ => ⟨_, _, rfl⟩) (DvL.mono k hy l)
  | _, _, .dic n e l => .dic (fun z => n (hy _ z)) (k.get e n) (DvK.mono k hy l)
theorem DvL.mono (k : Kp ex H H') (hy : ∀ a, ey a → ex a) : ∀ {vs : List V} {ds : List PyData}, DvL ex H vs ds → DvL ey H' vs ds
  | _, _, .nil => .nil
  | _, _, .cons a b => .cons (Dv.mono k hy a) (DvL.mono k hy b)
theorem DvK.mono (k : Kp ex H H') (hy : ∀ a, ey a → ex a) : ∀ {vs : List (Key × V)} {ds : List (PyData × PyData)}, DvK ex H vs ds → DvK ey H' vs ds
  | _, _, .nil => .nil
  | _, _, .cons a b => .cons (Dv.mono k hy a) (DvK.mono k hy b)
end
theorem Dv.kp {v : V} {d : PyData} (h : Dv ex H v d) (k : Kp ex H H') : Dv ex H' v d := h.mono k fun _ z => z
theorem DvL.kp {v : List V} {d : List PyData} (h : DvL ex H v d) (k : Kp ex H H') : DvL ex H' v d := h.mono k fun _ z => z
mutual
theorem Dv.off {n : Addr} (hn : H n = none) : ∀ {v : V} {d : PyData}, Dv ex H v d → Dv (fun a => ex a ∨ a = n) H v d
  | _, _, .non => .non
  | _, _, .bl b => .bl b
  | _, _, .int i => .int i
  | _, _, .str x => .str x
  | _, _, .lst m e l => .lst (fun z => z.elim m (ne_of_none e hn)) e (DvL.off hn l)
  | _, _, .tup d e l => .tup d e (DvL.off hn l)
  | _, _, .dic m e l => .dic (fun z => z.elim m (ne_of_none e hn)) e (DvK.off hn l)
theorem DvL.off {n : Addr} (hn : H n = none) : ∀ {v : List V} {d : List PyData}, DvL ex H v d → DvL (fun a => ex a ∨ a = n) H v d
  | _, _, .nil => .nil
  | _, _, .cons a b => .cons (Dv.off hn a) (DvL.off hn b)
theorem DvK.off {n : Addr} (hn : H n = none) : ∀ {v : List (Key × V)} {d : List (PyData × PyData)}, DvK ex H v d → DvK (fun a => ex a ∨ a = n) H v d
  | _, _, .nil => .nil
  | _, _, .cons a b => .cons (Dv.off hn a) (DvK.off hn b)
end
theorem Dv.tupI {v : V} {ds : List PyData} (h : Dv ex H v (.tuple ds)) : ∃ a xs, v = .ref a ∧ TupF H a xs ∧ DvL ex H xs ds := by
  cases h with
  | tup d e l => exact ⟨_, _, rfl, ⟨_, d, e⟩, l⟩
theorem Dv.tupM {a : Addr} {xs : List V} {ds : List PyData} (h : TupF H a xs) (l : DvL ex H xs ds) : Dv ex H (.ref a) (.tuple ds) := by
  obtain ⟨o, d, e⟩ := h
  exact .tup d e l
theorem Dv.strI {v : V} {x : Str} (h : Dv ex H v (.str x)) : v = .str x := by
  cases h
  rfl
theorem DvL.len : ∀ {v : List V} {d : List PyData}, DvL ex H v d → v.length = d.length
  | _, _, .nil => rfl
  | _, _, .cons _ b => congrArg (· + 1) (DvL.len b)
theorem DvL.get : ∀ {v : List V} {d : List PyData} {i : Nat} {x : V}, DvL ex H v d → v[i]? = some x → ∃ e, d[i]? = some e ∧ Dv ex H x e
  | _, _, 0, _, .cons a _, h => ⟨_, rfl, by cases h; exact a⟩
  | _, _, i + 1, _, .cons _ b, h => DvL.get (i := i) b h
  | _, _, _, _, .nil, h => by simp at h
theorem DvL.getd : ∀ {v : List V} {d : List PyData} {i : Nat} {e : PyData}, DvL ex H v d → d[i]? = some e → ∃ x, v[i]? = some x ∧ Dv ex H x e
  | _, _, 0, _, .cons a _, h => ⟨_, rfl, by cases h; exact a⟩
  | _, _, i + 1, _, .cons _ b, h => DvL.getd (i := i) b h
  | _, _, _, _, .nil, h => by simp at h
theorem DvL.app : ∀ {v w : List V} {d e : List PyData}, DvL ex H v d → DvL ex H w e → DvL ex H (v ++ w) (d ++ e)
  | _, _, _, _, .nil, h => h
  | _, _, _, _, .cons a b, h => .cons a (DvL.app b h)
theorem DvL.take : ∀ (n : Nat) {v : List V} {d : List PyData}, DvL ex H v d → DvL ex H (v.take n) (d.take n)
  | 0, _, _, _ => .nil
  | _ + 1, _, _, .nil => .nil
  | n + 1, _, _, .cons a b => .cons a (DvL.take n b)
theorem DvL.drop : ∀ (n : Nat) {v : List V} {d : List PyData}, DvL ex H v d → DvL ex H (v.drop n) (d.drop n)
  | 0, _, _, h => h
  | _ + 1, _, _, .nil => .nil
  | n + 1, _, _, .cons _ b => DvL.drop n b
theorem DvL.rev : ∀ {v : List V} {d : List PyData}, DvL ex H v d → DvL ex H v.reverse d.reverse
  | _, _, .nil => .nil
  | _, _, .cons a b => by rw [List.reverse_cons, List.reverse_cons]; exact DvL.app (DvL.rev b) (.cons a .nil)
theorem DvL.strs : ∀ (ns : List Str), DvL ex H (ns.map V.str) (ns.map PyData.str)
  | [] => .nil
  | x :: r => .cons (.str x) (DvL.strs r)
end

/-! ### how long a shown datum may be -/
def okS (x : Str) : Prop := ∀ c ∈ x.cps.toList, c < 16 ^ 8
mutual
def cost : PyData → Nat
  | .none => 4
  | .bool _ => 5
  | .int _ => 120
  | .str x => 10 * x.length + 2
  | .list xs | .tuple xs => costL xs + 3
  | .dict es => costK es + 3
def costL : List PyData → Nat
  | [] => 0
  | x :: r => cost x + 2 + costL r
def costK : List (PyData × PyData) → Nat
  | [] => 0
  | (a, b) :: r => cost a + cost b + 4 + costK r
end
mutual
def okD : PyData → Prop
  | .none | .bool _ => True
  | .int i => i.natAbs < 10 ^ 100
  | .str x => okS x
  | .list xs | .tuple xs => okL xs
  | .dict es => okK es
def okL : List PyData → Prop
  | [] => True
  | x :: r => okD x ∧ okL r
def okK : List (PyData × PyData) → Prop
  | [] => True
  | (a, b) :: r => okD a ∧ okD b ∧ okK r
end
theorem none_len : ("None" : Str).length = 4 := by decide +kernel
theorem true_len : ("True" : Str).length ≤ 5 := by decide +kernel
theorem false_len : ("False" : Str).length ≤ 5 := by decide +kernel
theorem colon_len : (": " : Str).length = 2 := by decide +kernel
mutual
theorem shown_le : ∀ d : PyData, okD d → d.shown.length ≤ cost d
  | .none, _ => by simp only [PyData.shown, cost]; exact Nat.le_of_eq none_len
  | .bool true, _ => by simp only [PyData.shown, cost]; exact true_len
  | .bool false, _ => by simp only [PyData.shown, cost]; exact false_len
  | .int i, h => by
    have h' : i.natAbs < 10 ^ 100 := by simpa only [okD] using h
    have := int_text_length_le10 (a := i) (k := 100) (by decide) h'
    simp only [PyData.shown, cost]
    have e : (Str.ofString (toString i)).length = (toString i).length := PySem.ofString_length _
    show (Str.ofString (toString i)).length ≤ 120
    omega
  | .str x, h => by
    have h' : okS x := by simpa only [okD] using h
    simp only [PyData.shown, cost]
    exact StrLaws.reprText_len x h'
  | .list xs, h => by
    have h' : okL xs := by simpa only [okD] using h
    simp only [PyData.shown, cost]
    have := shownAll_le xs h'
    have := listText_len_le (PyData.shownAll xs)
    omega
  | .tuple xs, h => by
    have h' : okL xs := by simpa only [okD] using h
    simp only [PyData.shown, cost]
    have := shownAll_le xs h'
    have := tupleText_len_le (PyData.shownAll xs)
    omega
  | .dict es, h => by
    have h' : okK es := by simpa only [okD] using h
    simp only [PyData.shown, cost]
    have := shownKv_le es h'
    have := dictText_len_le (PyData.shownKv es)
    omega
theorem shownAll_le : ∀ xs : List PyData, okL xs → ((PyData.shownAll xs).map (·.length)).sum + 2 * (PyData.shownAll xs).length ≤ costL xs
  | [], _ => by simp [PyData.shownAll, costL]
  | x :: r, h => by
    have h' : okD x ∧ okL r := by simpa only [okL] using h
    have a := shown_le x h'.1
    have b := shownAll_le r h'.2
    simp only [PyData.shownAll, costL, List.map_cons, List.sum_cons, List.length_cons]
    omega
theorem shownKv_le : ∀ xs : List (PyData × PyData), okK xs → ((PyData.shownKv xs).map (·.length)).sum + 2 * (PyData.shownKv xs).length ≤ costK xs
  | [], _ => by simp [PyData.shownKv, costK]
  | (k, v) :: r, h => by
    have h' : okD k ∧ okD v ∧ okK r := by simpa only [okK] using h
    have a := shown_le k h'.1
    have a2 := shown_le v h'.2.1
    have b := shownKv_le r h'.2.2
    simp only [PyData.shownKv, costK, List.map_cons, List.sum_cons, List.length_cons, strLen_append, colon_len]
    omega
end
mutual
theorem okD_showable : ∀ d : PyData, okD d → d.showable = true
  | .none, _ => by simp only [PyData.showable]
  | .bool _, _ => by simp only [PyData.showable]
  | .str _, _ => by simp only [PyData.showable]
  | .int i, h => by
    have h' : i.natAbs < 10 ^ 100 := by simpa only [okD] using h
    simp only [PyData.showable, decide_eq_true_eq]
    exact Flt.log2_lt_of (by decide) (Nat.lt_trans h' (by decide +kernel))
  | .list xs, h => by simp only [PyData.showable]; exact okL_showable xs (by simpa only [okD] using h)
  | .tuple xs, h => by simp only [PyData.showable]; exact okL_showable xs (by simpa only [okD] using h)
  | .dict es, h => by simp only [PyData.showable]; exact okK_showable es (by simpa only [okD] using h)
theorem okL_showable : ∀ d : List PyData, okL d → PyData.showableAll d = true
  | [], _ => by simp only [PyData.showableAll]
  | x :: r, h => by
    have h' : okD x ∧ okL r := by simpa only [okL] using h
    simp only [PyData.showableAll, okD_showable x h'.1, okL_showable r h'.2, Bool.and_self]
theorem okK_showable : ∀ d : List (PyData × PyData), okK d → PyData.showableKv d = true
  | [], _ => by simp only [PyData.showableKv]
  | (k, v) :: r, h => by
    have h' : okD k ∧ okD v ∧ okK r := by simpa only [okK] using h
    simp only [PyData.showableKv, okD_showable k h'.1, okD_showable v h'.2.1, okK_showable r h'.2.2, Bool.and_self]
end

/-! ### such data are read -/
section
variable {X : Cx} {pins : List (Addr × Obj)} {σ : L2.St} {H : Hp} {s : Shared} {ex : Addr → Prop}
theorem rel_key {k : Key} {v : Value} (h : keyIs k v = true) : ∃ as, Reads s.heap v (keyD k) as ∧ sysModules ∉ as := by
  rcases keyIs_shape h with ⟨i, t, rfl, rfl⟩ | ⟨x, t, rfl, rfl⟩
  · exact ⟨[], Reads.int i t, by simp⟩
  · exact ⟨[], Reads.str x t, by simp⟩
mutual
theorem Dv.reads (I : Inv X pins σ H s) (hsm : H sysModules = none) : ∀ (d : PyData) (v : V) (u : Value), Dv ex H v d → RelV v u → ∃ as, Reads s.heap u d as ∧ sysModules ∉ as
  | .none, _, _, h, r => by cases h; cases r; exact ⟨[], Reads.none, by simp⟩
  | .bool b, _, _, h, r => by cases h; cases r; exact ⟨[], Reads.bool b, by simp⟩
  | .int i, _, _, h, r => by cases h; obtain ⟨t, rfl⟩ := r; exact ⟨[], Reads.int i t, by simp⟩
  | .str x, _, _, h, r => by cases h; obtain ⟨t, rfl⟩ := r; exact ⟨[], Reads.str x t, by simp⟩
  | .list ds, _, _, h, r => by
    cases h with
    | @lst a xs _ na e l =>
      cases r
      obtain ⟨_, its, n, rv, ho⟩ := (show ObjOk X.prog X.w H s.heap a (.lst xs) from I.hok a _ e)
      obtain ⟨as, hr, hs⟩ := Dv.readsAll I hsm ds _ its l rv
      exact ⟨_, Reads.list ho rfl rfl hr, fun z => by
        rcases List.mem_cons.mp z with z | z
        · rw [z] at hsm; rw [hsm] at e; cases e
        · exact hs z⟩
  | .tuple ds, _, _, h, r => by
    cases h with
    | @tup a ob xs _ od e l =>
      cases r
      obtain ⟨_, _, its, rv, o, ho, hc, n, hd⟩ := (show ObjOk X.prog X.w H s.heap a (.frz ob (.tup xs)) from I.hok a _ e)
      obtain ⟨as, hr, hs⟩ := Dv.readsAll I hsm ds _ its l rv
      exact ⟨_, Reads.tuple ho hc hd hr, hs⟩
  | .dict es, _, _, h, r => by
    cases h with
    | @dic a kvs _ na e l =>
      cases r
      obtain ⟨_, hne, vs, rv, o, es', ep, ho, hx, hd, hk, hp, _⟩ := (show ObjOk X.prog X.w H s.heap a (.dK kvs) from I.hok a _ e)
      obtain ⟨as, bs, h1, h2, h3, h4⟩ := Dv.readsKv I hsm es _ vs es'.toList l rv hp
      exact ⟨_, Reads.dict ho hx.1 hd h1 h2, fun z => by
        rcases List.mem_append.mp z with z | z
        · rcases List.mem_cons.mp z with z | z
          · rw [z] at hsm; rw [hsm] at e; cases e
          · exact h3 z
        · exact h4 z⟩
theorem Dv.readsAll (I : Inv X pins σ H s) (hsm : H sysModules = none) : ∀ (ds : List PyData) (vs : List V) (us : List Value), DvL ex H vs ds → Vals vs us → ∃ as, ReadsAll s.heap us ds as ∧ sysModules ∉ as
  | [], _, _, h, r => by cases h; cases r; exact ⟨[], ReadsAll.nil, by simp⟩
  | d :: ds, _, _, h, r => by
    cases h with
    | cons h1 h2 =>
      cases r with
      | cons r1 r2 =>
        obtain ⟨as, q1, n1⟩ := Dv.reads I hsm d _ _ h1 r1
        obtain ⟨bs, q2, n2⟩ := Dv.readsAll I hsm ds _ _ h2 r2
        exact ⟨_, ReadsAll.cons q1 q2, fun z => (List.mem_append.mp z).elim n1 n2⟩
theorem Dv.readsKv (I : Inv X pins σ H s) (hsm : H sysModules = none) : ∀ (es : List (PyData × PyData)) (kvs : List (Key × V)) (vs : List (Key × Value)) (des : List DictEntry), DvK ex H kvs es → KV kvs vs → Pairs (mixKind X.prog X.w) des vs →
    ∃ as bs, ReadsAll s.heap (des.map (·.key)) (es.map (·.1)) as ∧ ReadsAll s.heap (des.map (·.val)) (es.map (·.2)) bs ∧ sysModules ∉ as ∧ sysModules ∉ bs
  | [], _, _, _, h, r, p => by cases h; cases r; cases p; exact ⟨[], [], ReadsAll.nil, ReadsAll.nil, by simp, by simp⟩
  | (kd, d) :: es, _, _, _, h, r, p => by
    cases h with
    | @cons k v _ kvs _ h1 h2 =>
      cases r with
      | @cons _ q _ qs r1 r2 =>
        cases p with
        | @cons en _ ens _ p1 p2 p3 =>
          obtain ⟨as, bs, a1, a2, a3, a4⟩ := Dv.readsKv I hsm es _ _ _ h2 r2 p3
          obtain ⟨rk, rv⟩ := r1
          have pk : keyIs k en.key = true := by
            have : keyIs q.1 en.key = true := p1
            rw [← rk] at this
            exact this
          obtain ⟨cs, c1, c2⟩ := rel_key (s := s) pk
          obtain ⟨ds, d1, d2⟩ := Dv.reads I hsm d _ _ h1 rv
          rw [← p2] at d1
          exact ⟨_, _, ReadsAll.cons c1 a1, ReadsAll.cons d1 a2, fun z => (List.mem_append.mp z).elim c2 a3, fun z => (List.mem_append.mp z).elim d2 a4⟩
end
end
section
variable {X : Cx}
/-- repr of a list of data -/
def rRepr : List V → Hp → VK → Prop := fun xs H Q => ∃ a d, xs = [.ref a] ∧ Dv (fun _ => False) H (.ref a) d ∧ okD d ∧ d.depth ≤ 20 ∧ cost d ≤ sizeLine ∧ Q (.str d.shown) H
theorem call_repr {om : Obj} (hK : X.K.lookup sysModules = some om) (hg : X.A.guards = some []) (hu : X.A.units + 64 < cLine) : CallR X (.builtin "repr") rRepr := by
  intro pins s σ H xs us Q I r h
  obtain ⟨a, d, rfl, dv, ok, hd, hc, q⟩ := h
  have hsm : H sysModules = none := (I.bs _ _ (I.ok.mod.kin _ _ hK)).2
  obtain ⟨u, rfl, rx⟩ := vals1 r
  obtain ⟨as, hr, hs⟩ := Dv.reads I hsm d _ _ dv rx
  cases rx
  refine repr_of_reads' hr (okD_showable d ok) (fun _ => hs) hg (by omega) (fun _ _ e => e) (fun h' u tk hk => ?_) (Nat.le_trans (shown_le d ok) hc)
  exact ⟨.str d.shown, H, I.kept hk, ⟨u, rfl⟩, q⟩
end
end Kx
namespace Kx
open PySem PySem.Spec PyProof.Rows L2

section
variable {X : Cx}
/-! ### numbers -/
theorem big10 : Builtin.Int.intTooBig (((Builtin.Int.intBits (10 ^ 60) : Nat) : Int) * 10) = false := by decide +kernel
/-- (10 ** 60) ** 10 -/
theorem op_powBig : OpR X (binaryOp .Pow) (fun x y H Q => x = .int (10 ^ 60) ∧ y = .int 10 ∧ Q (.int (10 ^ 600)) H) := by
  intro pins s σ H x y v u Q I rx ry h
  obtain ⟨rfl, rfl, q⟩ := h
  obtain ⟨t, rfl⟩ := rx
  obtain ⟨t2, rfl⟩ := ry
  refine PySem.AutoIntOps.pow_4 (by decide) (by decide) (by decide +kernel) (by decide +kernel) (by rw [big10]; decide) ?_
  have e : ((10 : Int) ^ 60) ^ (Int.toNat 10) = 10 ^ 600 := by decide +kernel
  rw [e]
  exact ⟨.int (10 ^ 600), H, I.tok _, ⟨_, rfl⟩, q⟩
/-! ### s * n for texts -/
def repS (x : Str) (n : Nat) : Str := ⟨(List.replicate n x.cps).foldl (· ++ ·) #[]⟩
theorem rep_foldl (c : Array Nat) : ∀ (n : Nat) (acc : Array Nat), ((List.replicate n c).foldl (· ++ ·) acc).size = acc.size + n * c.size
  | 0, acc => by simp
  | n + 1, acc => by
    rw [List.replicate_succ, List.foldl_cons, rep_foldl c n, Array.size_append, Nat.succ_mul]; omega
theorem repS_len (x : Str) (n : Nat) : (repS x n).length = n * x.length := by
  show ((List.replicate n x.cps).foldl (· ++ ·) #[]).size = n * x.cps.size
  rw [rep_foldl]; simp
theorem rep_mem (c : Array Nat) (k : Nat) : ∀ (n : Nat) (acc : Array Nat), k ∈ (List.replicate n c).foldl (· ++ ·) acc → k ∈ acc ∨ k ∈ c
  | 0, acc, h => .inl (by simpa using h)
  | n + 1, acc, h => by
    rw [List.replicate_succ, List.foldl_cons] at h
    rcases rep_mem c k n _ h with h | h
    · rcases Array.mem_append.mp h with h | h
      · exact .inl h
      · exact .inr h
    · exact .inr h
theorem repS_ok {x : Str} {n : Nat} (h : okS x) : okS (repS x n) := fun c hc => by
  have hc' : c ∈ (List.replicate n x.cps).foldl (· ++ ·) #[] := by simpa [repS] using hc
  rcases rep_mem _ _ _ _ hc' with z | z
  · simp at z
  · exact h c (by simpa using z)
theorem op_mulS : OpR X (binaryOp .Mult) (fun x y H Q => ∃ (z : Str) (n : Int), x = .str z ∧ y = .int n ∧ 2 ≤ n ∧ n ≤ 10000 ∧ z.length ≤ 1000 ∧ 1 ≤ z.length ∧ Q (.str (repS z n.toNat)) H) := by
  intro pins s σ H x y v u Q I rx ry h
  obtain ⟨z, n, rfl, rfl, h1, h2, h3, h4, q⟩ := h
  obtain ⟨t, rfl⟩ := rx
  obtain ⟨t2, rfl⟩ := ry
  have hb : z.length * n.toNat ≤ 1000 * 10000 := Nat.mul_le_mul h3 (by omega)
  refine PySem.P.mul_str (by rw [decide_eq_false (by omega), decide_eq_false (by omega)]; rfl) (fun _ _ => ?_) (fun _ _ => ?_) ?_
  · have : (10000 : Int) ≤ (2 ^ 63 - 1) / n := by
      refine Int.le_ediv_of_mul_le (by omega) ?_
      omega
    omega
  · unfold Builtin.Str.tooLong
    exact decide_eq_false (by rw [sizeLine_eq]; omega)
  · rw [if_neg (by omega)]
    have e : (n == 1 || z.length == 0) = false := by
      rw [beq_eq_false_iff_ne.mpr (by omega), beq_eq_false_iff_ne.mpr (by omega)]; rfl
    rw [if_neg (by rw [e]; exact Bool.false_ne_true)]
    refine ⟨?_, ⟨.str (repS z n.toNat), H, I.tok _, ⟨_, rfl⟩, q⟩⟩
    have := repS_len z n.toNat
    show (repS z n.toNat).length ≤ sizeLine
    rw [this, sizeLine_eq, Nat.mul_comm]; omega
/-! ### == () and != [] whatever the items are -/
def rEqT0 (K : PySem.W.Frag) : R2 := fun x y H Q => ∃ a b xs, x = .ref a ∧ y = .ref b ∧ SqT K H a xs ∧ SqT K H b [] ∧ Q (.bl xs.isEmpty) H
theorem op_eqT0 (hu : X.A.units < cLine) : OpR X (compareOp .Eq) (rEqT0 X.K) := by
  intro pins s σ H x y v u Q I rx ry h
  obtain ⟨a, b, xs, rfl, rfl, h1, h2, q⟩ := h
  cases rx
  cases ry
  obtain ⟨its, r, p1, _⟩ := I.tuple h1
  obtain ⟨its2, r2, p2, _⟩ := I.tuple h2
  cases r2
  have e : ((List.range (min its.toArray.size 0)).all (fun _ => true) && its.toArray.size == 0) = xs.isEmpty := by
    have := r.length
    cases xs with
    | nil => cases r; rfl
    | cons y ys => cases r; rfl
  refine SeqAt.eq_tupleAt (e := fun _ => true) p1 p2 hu (fun j hj h2 => absurd h2 (by simp)) ?_
  refine ⟨.bl xs.isEmpty, H, I, ?_, q⟩
  rw [← e]
  rfl
def rNeL0 (K : PySem.W.Frag) : R2 := fun x y H Q => ∃ a b xs, x = .ref a ∧ y = .ref b ∧ SqL K H a xs ∧ SqL K H b [] ∧ Q (.bl (!xs.isEmpty)) H
theorem op_neL0 (hu : X.A.units < cLine) : OpR X (compareOp .NotEq) (rNeL0 X.K) := by
  intro pins s σ H x y v u Q I rx ry h
  obtain ⟨a, b, xs, rfl, rfl, h1, h2, q⟩ := h
  cases rx
  cases ry
  obtain ⟨its, r, p1, _⟩ := I.list h1
  obtain ⟨its2, r2, p2, _⟩ := I.list h2
  cases r2
  cases r with
  | nil => exact PySem.EqBoolInt.of_rcne (SeqAt.RcNeAt.lists (e := fun _ => true) p1.isList p2.isList rfl hu (fun j hj _ => absurd hj (by simp))) ⟨.bl false, H, I, rfl, q⟩
  | cons r0 r1 => exact PySem.EqBoolInt.of_rcne (SeqAt.RcNeAt.lists_lengths p1.isList p2.isList (by simp) hu) ⟨.bl true, H, I, rfl, q⟩
end

/-! ### an own class's in, len, str -/
section
variable {X : Cx} {CX : CXT} {k : Nat} {C f a dx : Addr} {fd : FuncData} {ps : List Str} {sp : Sp} {E : XK}
/-- x not in o, by the own __contains__'s promise -/
def rNotInO (C : Addr) (sp : Sp) (E : XK) : R2 := fun x y H Q => ∃ a dx fs, y = .ref a ∧ H a = some (.ins C dx fs) ∧ sp [.ref a, x] H (fun v H' => ∃ b, v = .bl b ∧ Q (.bl (!b)) H') E
theorem op_notInO (c : Cls X.K C) (hs : PySem.W.findIn X.K (.ref C) "__contains__" = some (some (.ref f))) (hf : PySem.W.isFn X.K (.ref f) = true) (F : FnOk X.prog X.w X.K X.mg X.base CX k f fd ps sp) (hr : Room k X.A) (hb : Binds X.K fd ps [])
    (hx : Passes CX X E) : OpR X (compareOp .NotIn) (rNotInO C sp E) := by
  intro pins s σ H x y v u Q I rx ry h
  obtain ⟨a, dx, fs, rfl, ha, q⟩ := h
  cases ry
  obtain ⟨mA, O, _⟩ := ins_get I.hok ha
  obtain ⟨od, J, _⟩ := O.look
  obtain ⟨m, fr⟩ := I.fr
  refine PySem.W.notIn_K fr I.ok.mod.kin J hs hf ?_
  refine wpAny_mono (run_fn (us := [.ref a, v]) (vs := [.ref a, x]) (ds := []) (dvs := []) F hr hb .nil hx I (.cons rfl (.cons rx .nil)) q) (fun r s' z => ?_) fun _ _ z => z
  obtain ⟨v', H', I', rv, b, rfl, qq⟩ := z
  cases (show r = Value.bool b from rv)
  exact wpAny_truthy_bool ⟨.bl (!b), H', I', rfl, qq⟩
/-- len(o) -/
def rLenO (C : Addr) (sp : Sp) (E : XK) : List V → Hp → VK → Prop := fun xs H Q => ∃ a dx fs, xs = [.ref a] ∧ H a = some (.ins C dx fs) ∧ sp [.ref a] H (fun v H' => ∃ n : Int, v = .int n ∧ 0 ≤ n ∧ n < 2 ^ 63 ∧ Q (.int n) H') E
theorem call_lenO (hs : PySem.W.findIn X.K (.ref C) "__len__" = some (some (.ref f))) (hf : PySem.W.isFn X.K (.ref f) = true) (F : FnOk X.prog X.w X.K X.mg X.base CX k f fd ps sp) (hr : Room (k + 1) X.A) (hb : Binds X.K fd ps [])
    (hx : Passes CX X.nox E) : CallR X (.builtin "len") (rLenO C sp E) := by
  intro pins s σ H xs us Q I r h
  obtain ⟨a, dx, fs, rfl, ha, q⟩ := h
  obtain ⟨u, rfl, rx⟩ := vals1 r
  cases rx
  obtain ⟨mA, O, _⟩ := ins_get I.hok ha
  obtain ⟨od, J, _⟩ := O.look
  obtain ⟨m, fr⟩ := I.fr
  refine PySem.W.len_K fr I.ok.mod.kin J hs hf ?_
  refine wpAny_call (codeAny_mono (F.run X.A.in1 X.stack s H ⟨[.ref a], []⟩ [.ref a] [.ref a] _ E hr.in1 I.env0.in1 (hb s [.ref a] I.kIn ?_) (.cons rfl .nil) q) fun r s' z => ?_)
  · rw [← F.len _ _ _ _ q]; rfl
  · cases r with
    | error e => exact (hx pins σ H s e s' (I.wish _) z).elim
    | ok fl =>
      cases fl with
      | ret u =>
        obtain ⟨v, H', I3, rv, n, rfl, h0, h1, qq⟩ := I.after z
        obtain ⟨t, rfl⟩ := rv
        exact ⟨⟨h0, h1⟩, .int n, H', I3.tok _, ⟨_, rfl⟩, qq⟩
      | next => exact False.elim z
      | brk => exact False.elim z
      | cont => exact False.elim z
/-- str(o) -/
def rStrO (C : Addr) (sp : Sp) (E : XK) : List V → Hp → VK → Prop := fun xs H Q => ∃ a dx fs, xs = [.ref a] ∧ H a = some (.ins C dx fs) ∧ sp [.ref a] H (fun v H' => ∃ z : Str, v = .str z ∧ Q (.str z) H') E
theorem str_own {prog : Program} {w : World} {A : Around} {E : Value → Shared → Prop} {s : Shared} {K : PySem.W.Frag} {x C f : Addr} {ox : Obj} {od : Option Obj} {Q : Value → Shared → Prop}
    (room : A.in1.in1.units < cLine) (X : K.In s.heap) (I : PySem.W.InstAt s.heap x ox C od) (hs : PySem.W.findIn K (.ref C) "__str__" = some (some (.ref f))) (hf : PySem.W.isFn K (.ref f) = true)
    (h : wpAny (model prog w) A.in1.in1 (call (.ref f) [.ref x]) (PySem.W.StrBack Q) E s) : wpAny (model prog w) A (call (.type "str") [.ref x]) Q E s := by
  have made : wpAny (model prog w) A.in1.in1 (PySem.Builtin.Str.strOf (.ref x)) (fun r t => ∃ y u, r = .str y u ∧ Q r t) E s := by
    unfold PySem.Builtin.Str.strOf
    rw [show PySem.Builtin.Str.isExactStr (.ref x) = false from rfl]
    refine wpAny_bind (m := cRoomFor _ _) (wpAny_cRoomFor room ?_)
    refine wpAny_bind (m := callSpecial? (.ref x) (Str.ofString "__str__")) (PySem.W.special_fn X I hs (beq_iff_eq.mp hf) ?_)
    refine wpAny_mono h (fun r s' z => ?_) fun _ _ y => y
    cases r with
    | str y u => exact wpAny_pure ⟨y, u, rfl, z⟩
    | _ => exact z.elim
  refine callType_codes (T := "str") (Bi := Builtin.«object.__init__») (Q₁ := fun r t => ∃ y u, r = .str y u ∧ Q r t) PySem.F.called_str (PySem.F.typeCall_str_1 _) PySem.F.entry_object_init (codeAny_of_tree ?_) ?_
  · show wpAny _ A.in1.in1 (checkBuiltinCall "str.__new__" ⟨[.type "str", .ref x], []⟩ >>= fun _ => again (.builtin "str.__new__" ⟨[.type "str", .ref x], []⟩)) _ _ s
    refine wpAny_bind (wpAny_of_eq (PySem.F.newCall_str_1 _) (wpAny_pure ⟨plainId_quiet (by decide +kernel) _, codeAny_builtin PySem.F.entry_str_new ?_⟩))
    rw [Around.under_plainId (by decide +kernel) _, str_new_tree]
    refine wpAny_bind (wpAny_pure (wpAny_bind (wpAny_of_eq isSubtype_str_str ?_)))
    exact wpAny_bind (wpAny_mono made (fun _ _ z => wpAny_pure z) fun _ _ z => z)
  · rintro obj t ⟨y, u, rfl, z⟩
    exact ⟨typeIs_str _ _ _, PySem.F.args_object_init_2 _ _, object_init_meets PySem.F.called_str.init.lookup PySem.F.called_str.made (by decide) prog w A.in1 _ t ⟨typeIs_str _ _ _, rfl, z⟩⟩
theorem call_strO (hs : PySem.W.findIn X.K (.ref C) "__str__" = some (some (.ref f))) (hf : PySem.W.isFn X.K (.ref f) = true) (F : FnOk X.prog X.w X.K X.mg X.base CX k f fd ps sp) (hr : Room (k + 2) X.A) (hb : Binds X.K fd ps [])
    (hx : Passes CX X.nox E) : CallR X (.type "str") (rStrO C sp E) := by
  intro pins s σ H xs us Q I r h
  obtain ⟨a, dx, fs, rfl, ha, q⟩ := h
  obtain ⟨u, rfl, rx⟩ := vals1 r
  cases rx
  obtain ⟨mA, O, _⟩ := ins_get I.hok ha
  obtain ⟨od, J, _⟩ := O.look
  refine str_own (by have := hr.un; show X.A.units + 1 + 1 < cLine; omega) I.kIn J hs hf ?_
  refine wpAny_call (codeAny_mono (F.run X.A.in1.in1 X.stack s H ⟨[.ref a], []⟩ [.ref a] [.ref a] _ E hr.in1.in1 I.env0.in1.in1 (hb s [.ref a] I.kIn ?_) (.cons rfl .nil) q) fun r s' z => ?_)
  · rw [← F.len _ _ _ _ q]; rfl
  · cases r with
    | error e => exact (hx pins σ H s e s' (I.wish _) z).elim
    | ok fl =>
      cases fl with
      | ret u =>
        obtain ⟨v, H', I3, rv, n, rfl, qq⟩ := I.after z
        obtain ⟨t, rfl⟩ := rv
        exact ⟨.str n, H', I3, ⟨_, rfl⟩, qq⟩
      | next => exact False.elim z
      | brk => exact False.elim z
      | cont => exact False.elim z
end
end Kx
namespace Kx
open PySem PySem.Spec PyProof.Rows L2
theorem vals_at : ∀ {us : List Value} {vs : List V}, us.length = vs.length → (∀ (j : Nat) (u : Value), us[j]? = some u → ∃ v, vs[j]? = some v ∧ RelV v u) → Vals vs us
  | [], [], _, _ => .nil
  | [], _ :: _, hl, _ => by simp at hl
  | _ :: _, [], hl, _ => by simp at hl
  | u :: us, v :: vs, hl, h => by
    obtain ⟨w, e, r⟩ := h 0 u rfl
    cases e
    exact .cons r (vals_at (by simpa using hl) fun j x e => h (j + 1) x e)
section
variable {X : Cx}
/-! ### list(text) -/
def signsV (x : Str) : List V := x.cps.toList.map fun c => V.str ⟨#[c]⟩
theorem call_listS (hcalm : X.calm = true) : CallR X (.type "list") (fun xs H Q => ∃ z : Str, xs = [.str z] ∧ z.length ≤ sizeLine ∧ ∀ p, H p = none → Q (.ref p) (upd H p (.lst (signsV z)))) := by
  intro pins s σ H xs us Q I r h
  obtain ⟨z, rfl, hz, q⟩ := h
  obtain ⟨u, rfl, rx⟩ := vals1 r
  obtain ⟨t, rfl⟩ := rx
  refine call_list_str (I.ok.hd hcalm) z t (fun h' tk acc c' hk hS hacc => ?_) hz
  refine ⟨.ref s.heap.objs.size, _, I.laid (t' := tk) (o := .lst (signsV z)) hk (Nat.le_refl _) ?_, rfl, q _ (I.hok.fresh (Nat.le_refl _))⟩
  refine ⟨by unfold signsV; rw [List.length_map, Array.length_toList]; exact hz, acc.toList, c', vals_at ?_ (fun j v e => ?_), by rw [Array.toArray_toList]; exact hS⟩
  · unfold signsV; rw [List.length_map, Array.length_toList, Array.length_toList]; exact hacc.1
  · obtain ⟨c, w, e1, e2⟩ := hacc.2 j v (by rw [← Array.getElem?_toList]; exact e)
    refine ⟨.str ⟨#[c]⟩, ?_, w, e2⟩
    unfold signsV
    rw [List.getElem?_map, Array.getElem?_toList, e1]
    rfl
/-! ### tuple(dict) -/
theorem call_tupleD (hcalm : X.calm = true) : CallR X (.type "tuple") (fun xs H Q => ∃ (a : Addr) (kvs : List (Key × V)), xs = [.ref a] ∧ Rd H a (.dK kvs) ∧ ∀ p, H p = none → Q (.ref p) (upd H p (.tup (kvs.map fun kv => kV kv.1)))) := by
  intro pins s σ H xs us Q I r h
  obtain ⟨a, kvs, rfl, hd, q⟩ := h
  obtain ⟨u, rfl, rx⟩ := vals1 r
  cases rx
  obtain ⟨z, lo, vs, rel, dd⟩ := dk_rd I.hok hd
  obtain ⟨ep, hat⟩ := dd.dictAt
  have ek : (kvs.map fun kv => kV kv.1) = vs.map fun p => kV p.1 := by
    have e := congrArg (List.map kV) rel.keys
    rw [List.map_map, List.map_map] at e
    exact e
  have lenv : vs.length ≤ sizeLine := by rw [← rel.length]; exact z
  have made : codeAny (model X.prog X.w) X.A.in1 (.call (.builtin "tuple.__new__") ⟨[.type "tuple", .ref a], []⟩) (wants (fun obj s₁ => s₁.TypeIs obj "tuple" ∧ EP X pins σ Q obj s₁) X.xe) s := by
    refine codeAny_of_tree ?_
    show wpAny _ X.A.in1.in1 (checkBuiltinCall "tuple.__new__" ⟨[.type "tuple", .ref a], []⟩ >>= fun _ => again (.builtin "tuple.__new__" ⟨[.type "tuple", .ref a], []⟩)) _ _ s
    refine wpAny_bind (wpAny_of_eq (PySem.F.newCall_tuple_1 _) (wpAny_pure ⟨plainId_quiet PySem.F.plain_tuple_new _, codeAny_builtin PySem.F.entry_tuple_new ?_⟩))
    rw [Around.under_plainId PySem.F.plain_tuple_new _]
    have g1 := sub_tuple_self
    have g2 := init_tuple_lookup
    have g3 := madeHere_tuple
    have g4 : s.TypeIs (.ref a) "dict" := dd.typeIs
    have gh : X.A.in1.in1.handled = none := I.ok.hd hcalm
    wp_walk using wpAny_typeOf g4, PySem.W.kdu_collect (PySem.W.kdl_dict (knd := mixKind X.prog X.w) (kvs := vs) (ep := ep) lo) gh hat lenv
    intro h' tk acc hk hacc
    have hv : Vals (vs.map fun p => kV p.1) acc.toList := keys_at (by rw [Array.length_toList]; exact hacc.1) fun j v e => hacc.2 j v (by rw [← Array.getElem?_toList]; exact e)
    show wpAny _ _ (Builtin.Tuple.tupleExact acc.toList.toArray >>= fun v => ret v) _ _ _
    unfold Builtin.Tuple.tupleExact
    refine wpAny_bind (wpAny_newObj_type ?_ (show acc.toList.toArray.size ≤ sizeLine by rw [Array.toArray_toList, hacc.1]; exact lenv))
    have I1 : Inv X pins σ H { s with heap := h', toks := tk } := I.kept (t' := tk) hk
    refine wpAny_pure ⟨⟨_, Heap.get?_push_size _ rfl, rfl⟩, ?_⟩
    refine ⟨.ref h'.objs.size, _, I1.laid (t' := tk) (o := .tup (kvs.map fun kv => kV kv.1)) (fun b ob e => Heap.get?_push_of_some _ e) (Nat.le_refl _) ?_, rfl, q _ (I1.hok.fresh (Nat.le_refl _))⟩
    exact ⟨by rw [List.length_map]; exact z, acc.toList, by rw [ek]; exact hv, IsTup.new _ _⟩
  refine callType_codes PySem.F.called_tuple (PySem.F.typeCall_tuple_1 _) PySem.F.entry_object_init made fun obj s₁ h₁ => ?_
  exact ⟨h₁.1, PySem.F.args_object_init_2 obj _, object_init_meets PySem.F.called_tuple.init.lookup PySem.F.called_tuple.made (by decide) X.prog X.w X.A.in1 _ s₁ ⟨h₁.1, rfl, h₁.2⟩⟩
end
end Kx
namespace Kx
open PySem PySem.Spec PyProof.Rows L2
/-- a plain tuple has been laid (or stood) -/
def kT (xs : List V) (H : Hp) (Q : VK) : Prop := ∀ p H', Same H H' → TupF H' p xs → Q (.ref p) H'
section
variable {X : Cx} {pins : List (Addr × Obj)} {σ : L2.St} {H : Hp} {s : Shared} {Q : VK}
theorem Same.refl {H : Hp} : Same H H := fun _ _ e => e
theorem Same.upd {H : Hp} {p : Addr} {o : HO} (h : H p = none) : Same H (upd H p o) := fun a u e => by rw [upd_ne (ne_of_none e h)]; exact e
theorem Same.trans {H H1 H2 : Hp} (a : Same H H1) (b : Same H1 H2) : Same H H2 := fun c o e => b c o (a c o e)
theorem laidT (I : Inv X pins σ H s) {xs : List V} {its : List Value} {h' : Heap} {t' n : Nat} (r : Vals xs its) (hz : xs.length ≤ sizeLine) (k : ∀ b o, s.heap.get? b = some o → h'.get? b = some o) {p : Addr} (hp : s.heap.objs.size ≤ p)
    (e : h'.get? p = some { cls := .type "tuple", data := .seq its.toArray n }) (q : kT xs H Q) : EP X pins σ Q (.ref p) { s with heap := h', toks := t' } := by
  have hn := I.hok.fresh hp
  refine ⟨.ref p, upd H p (.frz { cls := .type "tuple", data := .seq its.toArray n } (.tup xs)), I.laid (t' := t') k hp ⟨e, hz, its, r, _, e, rfl, _, rfl⟩, rfl, q _ _ (Same.upd hn) ⟨_, rfl, upd_same⟩⟩
theorem stayT (I : Inv X pins σ H s) {xs : List V} {p : Addr} (h : TupF H p xs) (q : kT xs H Q) : EP X pins σ Q (.ref p) s := ⟨.ref p, H, I, rfl, q _ _ Same.refl h⟩
end
section
variable {X : Cx}
/-- (a, b) -/
def tTupF (t : TA) : TE := fun σ H Q => t σ H fun xs H1 => xs.length ≤ sizeLine ∧ kT xs H1 Q
theorem pe_tupF {es : List Expr} {t : TA} {x1} {pos : Pos} (h : PA X es t) : PE X (.Tuple es x1 pos) (tTupF t) := by
  refine ⟨fun pins s σ H Q I hq => ?_⟩
  refine wpAny_Tuple_spliced (thn (h.run pos pins s σ H _ I hq) fun us s1 ⟨xs, H1, I1, r, z, q⟩ => ⟨by rw [← r.length]; exact z, ?_⟩)
  exact laidT (t' := s1.toks) I1 r z (fun b u e => Heap.get?_push_of_some _ e) (Nat.le_refl _) (Heap.get?_push_size _ rfl) q
/-- tuple(list) -/
theorem call_tupF : CallR X (.type "tuple") (fun xs H Q => ∃ a ys, xs = [.ref a] ∧ SqL X.K H a ys ∧ kT ys H Q) := by
  intro pins s σ H xs us Q I r h
  obtain ⟨a, ys, rfl, ha, q⟩ := h
  obtain ⟨u, rfl, rx⟩ := vals1 r
  cases rx
  obtain ⟨its, r', pl, hz⟩ := I.list ha
  have hlen := r'.length
  refine call_tuple_list pl.isList (fun h' kp => ?_) (by simp only [List.size_toArray] <;> omega)
  exact laidT (t' := s.toks) (I.kept (t' := s.toks) kp) r' hz (fun b o e => Heap.get?_push_of_some _ e) (Nat.le_refl _) (Heap.get?_push_size _ rfl) q
/-- t + u -/
def rCatF : R2 := fun x y H Q => ∃ a b xs ys, x = .ref a ∧ y = .ref b ∧ TupF H a xs ∧ TupF H b ys ∧ xs.length + ys.length ≤ sizeLine ∧ kT (xs ++ ys) H Q
theorem op_catF : OpR X (binaryOp .Add) rCatF := by
  intro pins s σ H x y v u Q I rx ry h
  obtain ⟨a, b, xs, ys, rfl, rfl, ha, hb, hz, q⟩ := h
  cases rx
  cases ry
  obtain ⟨its, r1, p1, _⟩ := I.tuple (ha.sq (K := X.K))
  obtain ⟨its2, r2, p2, _⟩ := I.tuple (hb.sq (K := X.K))
  by_cases hx : xs = []
  · subst hx
    cases r1
    exact L2.cat_tup0 p1 p2 (stayT I hb q)
  · refine HT.cat_tup p1 p2 (fun z => hx (r1.nil_iff.mp z)) (fun z => ?_) (fun z => ?_) (by rw [← r1.length, ← r2.length]; exact hz)
    · have e := r2.nil_iff.mp z
      subst e
      rw [List.append_nil] at q
      exact stayT I ha q
    · exact laidT (t' := s.toks) I (r1.append r2) (by rw [List.length_append]; exact hz) (fun b o e => Heap.get?_push_of_some _ e) (Nat.le_refl _) (Heap.get?_push_size _ rfl) q
/-- t[i:j] -/
def rSlF : V → Option Int → Option Int → Hp → VK → Prop := fun x lo hi H Q => ∃ a xs, x = .ref a ∧ TupF H a xs ∧ kT (cutV xs lo hi) H Q
theorem sl_tupF : SlR X rSlF := by
  intro pins s σ H x v vl vu lo hi sl Q I rx hs pl pu h
  obtain ⟨a, xs, rfl, hx, q⟩ := h
  cases rx
  obtain ⟨its, r, ht, hz⟩ := I.tuple (hx.sq (K := X.K))
  have hlen : its.toArray.size = xs.length := by rw [List.size_toArray]; exact r.length.symm
  refine ⟨"tuple", _, PyProof.Rows.slot_tuple_getitem.lookup, ht.typeIs, ?_⟩
  by_cases hw : HT.sIx xs.length 0 lo = 0 ∧ HT.sIx xs.length xs.length hi = xs.length
  · have e : cutV xs lo hi = xs := by
      unfold cutV
      rw [hw.1, hw.2]
      simp
    rw [e] at q
    exact L2.getItem_tuple_whole ht hs pl pu (by rw [hlen]; exact hw) (stayT I hx q)
  · refine HT.getItem_tuple_cut ht hs pl pu (by rw [hlen]; exact hw) ?_ (by rw [hlen]; exact hz)
    rw [hlen]
    exact laidT (t' := s.toks) I ((r.drop (HT.sIx xs.length 0 lo)).take (HT.sIx xs.length xs.length hi - HT.sIx xs.length 0 lo)) (Nat.le_trans (cutV_length xs lo hi) hz) (fun b o e => Heap.get?_push_of_some _ e) (Nat.le_refl _) (Heap.get?_push_size _ rfl) q
end
end Kx
namespace Kx
open PySem PySem.Spec PyProof.Rows L2
section
variable {prog : Program} {w : World} {A : Around} {E : Value → Shared → Prop} {s : Shared}
theorem adjust_back (n : Nat) : Builtin.Slice.sliceAdjust none none (-1) (n : Int) = ((n : Int) - 1, -1) := by
  unfold Builtin.Slice.sliceAdjust
  simp
theorem places_back (n : Nat) : Builtin.Slice.slicePlaces ((n : Int) - 1) (-1) (-1) = n := by
  unfold Builtin.Slice.slicePlaces
  simp
  omega
theorem applied_back {sl : Addr} {vl vu vs : Value} {n : Nat} {Q : Int × Int × Nat → Shared → Prop} (hs : s.heap.IsSliceOf sl vl vu vs) (pl : IsPart vl none) (pu : IsPart vu none) (pst : IsPart vs (some (-1)))
    (h : Q ((n : Int) - 1, -1, n) s) : wpAny (model prog w) A (Builtin.Slice.sliceApplied (.ref sl) (pure (n : Int))) Q E s := by
  obtain ⟨os, hos, hcs, hds⟩ := id hs
  unfold Builtin.Slice.sliceApplied Builtin.Slice.sliceFields
  refine wpAny_bind (wpAny_bind (wpAny_field hos hds (x := vl) rfl (wpAny_bind (wpAny_field hos hds (x := vu) rfl (wpAny_bind (wpAny_field hos hds (x := vs) rfl (wpAny_pure ?_)))))))
  refine wpAny_bind (HT.slicePart_ pst ?_)
  show wpAny _ _ (if ((-1 : Int) == 0) = true then _ else _) _ _ s
  rw [if_neg (by decide)]
  refine wpAny_bind (HT.slicePart_ pl (wpAny_bind (HT.slicePart_ pu (wpAny_bind (wpAny_pure ?_)))))
  show wpAny _ _ (match Builtin.Slice.sliceAdjust none none (-1) (n : Int) with | (lo, hi) => pure (lo, (-1 : Int), Builtin.Slice.slicePlaces lo hi (-1))) _ _ s
  rw [adjust_back]
  show wpAny _ _ (pure ((n : Int) - 1, (-1 : Int), Builtin.Slice.slicePlaces ((n : Int) - 1) (-1) (-1))) _ _ s
  rw [places_back]
  exact wpAny_pure h
theorem back_list {α : Type} (l : List α) : ∀ k, k ≤ l.length → (List.range k).filterMap (fun m => l[l.length - 1 - m]?) = l.reverse.take k
  | 0, _ => by simp
  | k + 1, h => by
    rw [List.range_succ, List.filterMap_append, back_list l k (by omega), List.take_succ]
    congr 1
    have e : l.reverse[k]? = l[l.length - 1 - k]? := List.getElem?_reverse (by omega)
    rw [e]
    cases q : l[l.length - 1 - k]? with
    | none => simp [q]
    | some a => simp [q]
theorem pick_back (xs : Array Value) : ((List.range xs.size).filterMap fun (m : Nat) => xs[((((xs.size : Nat) : Int) - 1) + (m : Int) * (-1)).toNat]?) = xs.toList.reverse := by
  have e : (fun (m : Nat) => xs[((((xs.size : Nat) : Int) - 1) + (m : Int) * (-1)).toNat]?) = fun m => xs.toList[xs.toList.length - 1 - m]? := by
    funext m
    have : ((((xs.size : Nat) : Int) - 1) + (m : Int) * (-1)).toNat = xs.toList.length - 1 - m := by
      rw [Array.length_toList]; omega
    rw [this, Array.getElem?_toList]
  rw [e]
  have := back_list xs.toList xs.toList.length (Nat.le_refl _)
  rw [← Array.length_toList, this, ← List.length_reverse, List.take_length]
theorem getItem_tuple_back {t sl : Addr} {items : Array Value} {vl vu vs : Value} {Q : Value → Shared → Prop} (ht : IsTup s.heap t items) (hs : s.heap.IsSliceOf sl vl vu vs) (pl : IsPart vl none) (pu : IsPart vu none) (pst : IsPart vs (some (-1)))
    (h : Q (.ref s.heap.objs.size) { s with heap := s.heap.push { cls := .type "tuple", data := .seq items.toList.reverse.toArray } }) (hsz : items.size ≤ sizeLine) : wpAny (model prog w) A (getItem (.ref t) (.ref sl)) Q E s := by
  have room : sizeOk (.seq items.toList.reverse.toArray) := by
    show items.toList.reverse.toArray.size ≤ sizeLine
    rw [List.size_toArray, List.length_reverse, Array.length_toList]
    exact hsz
  obtain ⟨os, hos, hcs, hds⟩ := id hs
  have hTs : s.TypeIs (.ref sl) "slice" := ⟨os, hos, hcs⟩
  unfold getItem
  try with_reducible refine wpAny_holding ?_
  first | refine wpAny_bind (wpAny_pure ?_) | skip
  refine wpAny_bind (wpAny_sequenceKey ht.typeIs (by decide) ?_)
  refine wpAny_bind (wpAny_callSpecial?_slot (name := Str.ofString "__getitem__") ht.typeIs PyProof.Rows.slot_tuple_getitem (wpAny_call_entry PyProof.Rows.slot_tuple_getitem ht.typeIs entry_tuple_getitem ?_ (args_tuple_getitem _ _)))
  show wpAny _ _ (Builtin.Tuple.tupleItemsOf (.ref t) >>= _) _ _ s
  refine wpAny_bind (tupleItemsOf_ ht (wpAny_bind (wpAny_typeOf hTs ?_)))
  rw [if_pos (by decide)]
  refine wpAny_bind (applied_back hs pl pu pst ?_)
  have off : ¬ ((((items.size : Nat) : Int) - 1 == 0 && (-1 : Int) == 1 && items.size == items.size) = true) := by
    rw [show ((-1 : Int) == 1) = false from rfl, Bool.and_false, Bool.false_and]
    exact Bool.false_ne_true
  show wpAny _ _ (if ((((items.size : Nat) : Int) - 1) == 0 && (-1 : Int) == 1 && items.size == items.size) = true then _ else _) _ _ s
  rw [if_neg off, pick_back]
  first
    | exact wpAny_bind (m := Builtin.Tuple.tupleExact _) (wpAny_newObj_type (wpAny_pure ⟨_, rfl, wpAny_pure h⟩) room)
    | exact wpAny_bind (m := Builtin.Tuple.tupleExact _) (wpAny_newObj_type (wpAny_bind (wpAny_pure (wpAny_pure ⟨_, rfl, wpAny_pure h⟩))) room)
    | exact wpAny_bind (wpAny_bind (m := Builtin.Tuple.tupleExact _) (wpAny_newObj_type (wpAny_pure (wpAny_pure ⟨_, rfl, wpAny_pure h⟩)) room))
    | exact wpAny_bind (wpAny_bind (m := Builtin.Tuple.tupleExact _) (wpAny_newObj_type (wpAny_pure ⟨_, rfl, wpAny_pure h⟩) room))
end
section
variable {X : Cx}
/-- t[::-1] -/
def tRevT (te : TE) : TE := fun σ H Q => te σ H fun x H1 => ∃ a xs, x = .ref a ∧ TupF H1 a xs ∧ kT xs.reverse H1 Q
theorem pe_revT {e : Expr} {te : TE} {k : Nat} {p1 p2 p3 pos : Pos} (he : PE X e te) : PE X (.Subscript e (.Slice none none (some (.UnaryOp .USub (.Constant (.int 1) k p1) p2)) p3) pos) (tRevT te) := by
  refine ⟨fun pins s σ H Q I h => Subscript_ (thn (he.run pins s σ H _ I h) fun v s1 ⟨x, H1, I1, r1, q1⟩ => ?_)⟩
  obtain ⟨a, xs, rfl, hx, q⟩ := q1
  cases r1
  have step : PO X (some (.UnaryOp .USub (.Constant (.int 1) k p1) p2)) (tPart (tUn (rU fun i => .int (-i)) (tC (.int 1)))) := po_some (pe_un un_neg pe_int)
  refine wpAny_Slice (thn (po_none.run pins s1 σ H1 (fun o H2 => o = none ∧ H2 = H1) I1 ⟨rfl, rfl⟩) fun vl s2 ⟨l, H2, I2, pl, el, e2⟩ => ?_)
  subst el e2
  refine thn (po_none.run pins s2 σ H2 (fun o H3 => o = none ∧ H3 = H2) I2 ⟨rfl, rfl⟩) fun vu s3 ⟨u, H3, I3, pu, eu, e3⟩ => ?_
  subst eu e3
  refine thn (step.run pins s3 σ H3 (fun o H4 => o = some (-1) ∧ H4 = H3) I3 ⟨1, rfl, -1, rfl, rfl, rfl⟩) fun vs s4 ⟨o, H4, I4, pst, eo, e4⟩ => ?_
  subst eo e4
  have I5 : Inv X pins σ H4 { s4 with heap := s4.heap.push { cls := .type "slice", data := .fields #[vl, vu, vs] } } := I4.kept (t' := s4.toks) fun b ob q => Heap.get?_push_of_some _ q
  obtain ⟨its, r, ht, hz⟩ := I5.tuple (hx.sq (K := X.K))
  have hlen := r.length
  show wpAny (model X.prog X.w) X.A (subscriptTail e (.Slice none none (some (.UnaryOp .USub (.Constant (.int 1) k p1) p2)) p3) (.ref a) (.ref s4.heap.objs.size)) (EP X pins σ Q) X.xe { s4 with heap := s4.heap.push { cls := .type "slice", data := .fields #[vl, vu, vs] } }
  refine tail_any (ops := [.ref a, .ref s4.heap.objs.size]) ht.typeIs (PyProof.Rows.slot_tuple_getitem.lookup) ?_ (by with_unfolding_all rfl)
  refine getItem_tuple_back ht (Heap.IsSliceOf.new _ vl vu vs) pl pu pst ?_ (by rw [List.size_toArray]; omega)
  exact laidT (t' := s4.toks) I5 r.reverse (by rw [List.length_reverse]; exact hz) (fun b ob q => Heap.get?_push_of_some _ q) (Nat.le_refl _) (Heap.get?_push_size _ rfl) q
end
end Kx
namespace Kx
open PySem PySem.Spec PyProof.Rows L2
section
variable {X : Cx}
theorem pairs_at {pins : List (Addr × Obj)} {σ : L2.St} {H : Hp} {s : Shared} (I : Inv X pins σ H s) : ∀ {ps : List Addr} {kvs : List (Key × V)}, Paired (fun p kv => SqT X.K H p [kV kv.1, kv.2]) ps kvs →
    ∃ (prs : List (Key × Value)) (vps : List (Value × Value)), KV kvs prs ∧ prs.length = ps.length ∧ vps.length = ps.length ∧
      ∀ (j : Nat) (k v : Value), vps[j]? = some (k, v) → ∃ (b : Addr) (kk : Key), ps[j]? = some b ∧ IsTup s.heap b #[k, v] ∧ prs[j]? = some (kk, v) ∧ keyIs kk k = true
  | _, _, .nil => ⟨[], [], .nil, rfl, rfl, fun j k v e => by simp at e⟩
  | _, _, .cons (a := p) (b := kv) h t => by
    obtain ⟨prs, vps, r, h1, h2, hp⟩ := pairs_at I t
    obtain ⟨its, rv, ht, _⟩ := I.tuple h
    obtain ⟨u, y, ei, ru, ry⟩ := vals2 rv
    subst ei
    have hk : keyIs kv.1 u = true := by
      cases e : kv.1 with
      | inl i => rw [e] at ru; obtain ⟨t, rfl⟩ := ru; exact keyIs_int i t
      | inr x => rw [e] at ru; obtain ⟨t, rfl⟩ := ru; exact keyIs_str x t
    refine ⟨(kv.1, y) :: prs, (u, y) :: vps, .cons ⟨rfl, ry⟩ r, by simp [h1], by simp [h2], fun j k v e => ?_⟩
    cases j with
    | zero =>
      cases e
      exact ⟨p, kv.1, rfl, ht, rfl, hk⟩
    | succ j => exact hp j k v e
/-- dict(tuple of pairs) -/
theorem call_dictT (hcalm : X.calm = true) : CallR X (.type "dict") (fun xs H Q => ∃ (a : Addr) (ps : List Addr) (kvs : List (Key × V)), xs = [.ref a] ∧ TupF H a (ps.map V.ref) ∧ Paired (fun p kv => SqT X.K H p [kV kv.1, kv.2]) ps kvs ∧
    ∀ p, H p = none → Q (.ref p) (upd H p (.dK (mergeK [] kvs)))) := by
  intro pins s σ H xs us Q I r q
  obtain ⟨a, ps, kvs, rfl, hq, hp, q⟩ := q
  obtain ⟨u, rfl, rx⟩ := vals1 r
  cases rx
  obtain ⟨ob, od, hob⟩ := hq
  obtain ⟨g1, hz, its, rv, o, g2, oc, n, odat⟩ := (show ObjOk X.prog X.w H s.heap a (.frz ob (.tup (ps.map V.ref))) from I.hok a _ hob)
  rw [g1] at g2
  cases g2
  have ei := refs_at rv
  rw [List.length_map] at hz
  obtain ⟨prs, vps, rel, hl, hl2, hpr⟩ := pairs_at I hp
  have ok : (fun h => PlainSeq "tuple" h a its.toArray ∧ PairItems h its.toArray (fun j => ps.getD j 0) vps) s.heap := by
    refine ⟨⟨ob, n, g1, oc, od, odat⟩, ?_, fun j k v e => ?_⟩
    · rw [List.size_toArray, ei, List.length_map, hl2]
    · obtain ⟨b, kk, e1, e2, _⟩ := hpr j k v e
      refine ⟨?_, ?_⟩
      · show its.toArray[j]? = _
        rw [List.getElem?_toArray, ei, List.getElem?_map, e1]
        simp [e1]
      · show PairAt s.heap (ps.getD j 0) k v
        rw [List.getD_eq_getElem?_getD, e1]
        exact .inl e2
  refine PySem.call_dict_pairs (knd := mixKind X.prog X.w) (kvs := prs) (PairArg.tuple a its.toArray (fun j => ps.getD j 0) vps) (I.ok.hd hcalm) ok ⟨by rw [hl, hl2], fun i k v e => ?_⟩ (by rw [hl2]; exact hz) fun h' tk hd' k => ?_
  · obtain ⟨b, kk, _, _, e3, e4⟩ := hpr i k v e
    exact ⟨kk, e3, e4⟩
  · have hm : (s.heap.objs.size == sysModules) = false := beq_eq_false_iff_ne.mpr (Nat.ne_of_gt I.big)
    have hlen : (mergeK [] kvs).length ≤ sizeLine := by
      refine Nat.le_trans (length_mergeK kvs []) ?_
      rw [List.length_nil, Nat.zero_add, rel.length, hl]
      exact hz
    exact ⟨.ref s.heap.objs.size, upd H s.heap.objs.size (.dK (mergeK [] kvs)), I.laid (t' := tk) (fun b o e => k b o (by simp) e) (Nat.le_refl _) (show ObjOk X.prog X.w _ _ _ (.dK (mergeK [] kvs)) from ⟨hlen, hm, merged [] prs, KV.merge rel .nil, hd'⟩), rfl, q _ (I.hok.fresh (Nat.le_refl _))⟩
/-! ### t * n, the empty one too -/
theorem tuple_mul0 (l : Addr) (n : Nat) (dd : Option Addr) (sl : Array (Option Value)) (x : Int) (u : Tok) (c0 : (decide (x < -(2 ^ 63)) || decide (x ≥ 2 ^ 63)) = false) :
    Meets (Builtin.«tuple.__mul__» ⟨[.ref l, .int x u], []⟩) (fun _ R s => s.heap.get? l = some { cls := .type "tuple", dict := dd, data := .seq #[] n, slots := sl } ∧ R (.ok (.ret (Value.ref l))) s) :=
  .of_wp fun prog w A R s h => by
    obtain ⟨hp, g, d, tk, os⟩ := s
    obtain ⟨hl, h⟩ := h
    have f1 := AutoSeq1.idx_int
    wp_walk using PySem.AutoSeq1.wpAny_loadPart' hl
    refine wpAny_ite_false (decide_eq_false (by rw [c0]; exact Bool.false_ne_true)) ?_
    wp_walk using PySem.AutoSeq1.wpAny_loadPart' hl
    exact ⟨_, rfl, h⟩
def rRepF : R2 := fun x y H Q => ∃ l k xs, x = .ref l ∧ y = .int k ∧ TupF H l xs ∧ 2 ≤ k ∧ k ≤ 1000 ∧ xs.length ≤ 1000 ∧ kT (List.replicate k.toNat xs).flatten H Q
theorem op_repF : OpR X (binaryOp .Mult) rRepF := by
  intro pins s σ H x y v u Q I rx ry h
  obtain ⟨l, k, xs, rfl, rfl, hT, h1, h2, hz, q⟩ := h
  have ryk := ry
  have rxl := rx
  cases rx
  obtain ⟨t, rfl⟩ := ry
  obtain ⟨its, r, ⟨⟨cls, dd, data, sl⟩, ho, hc, n, hd⟩, hs⟩ := I.tuple (hT.sq (K := X.K))
  simp only at hc hd
  subst hc hd
  have c0 : (decide (k < -(2 ^ 63)) || decide (k ≥ 2 ^ 63)) = false := by
    rw [decide_eq_false (by omega), decide_eq_false (by omega)] <;> rfl
  by_cases hne : xs = []
  · subst hne
    cases r
    have e : (List.replicate k.toNat ([] : List V)).flatten = [] := by simp
    rw [e] at q
    refine wpAny_binaryOp_repeat_ref (T := "tuple") (U := "int") (by decide) ⟨_, ho, rfl⟩ (fun s' => typeIs_int s' k t) noFill_tuple_mul PySem.F.fills_int_mul PySem.F.slot_int_rmul repeat_tuple PySem.F.slot_int_index.lookup
      (call_meets PySem.F.slot_int_rmul (typeIs_int s k t) PySem.F.entry_int_rmul (PySem.F.args_int_rmul_2 _ _) (int_rmul_tuple k t l #[] n dd sl)
        ⟨ho, rfl, ⟨_, ho, rfl⟩, call_meets PySem.F.slot_tuple_mul ⟨_, ho, rfl⟩ PySem.F.entry_tuple_mul (PySem.F.args_tuple_mul_2 _ _) (tuple_mul0 l n dd sl k t c0) ⟨ho, ?_⟩⟩)
    exact stayT I hT q
  · have hi : its ≠ [] := fun e => hne (by
      have := r.length
      rw [e] at this
      exact List.eq_nil_of_length_eq_zero this)
    have hie : its.toArray.isEmpty = false := by
      cases its with
      | nil => exact absurd rfl hi
      | cons a b => rfl
    have hl : its.toArray.size = xs.length := by rw [List.size_toArray]; exact r.length.symm
    have hm : ((its.toArray.size : Nat) : Int) * k ≤ 1000000 := by
      rw [hl]
      have a1 : ((xs.length : Nat) : Int) * k ≤ 1000 * k := Int.mul_le_mul_of_nonneg_right (by omega) (by omega)
      omega
    have flen : (List.replicate k.toNat xs).flatten.length ≤ sizeLine := by
      rw [PyProof.Rows.lm_len_rep_flat, sizeLine_eq]
      have a1 : k.toNat * xs.length ≤ 1000 * 1000 := Nat.mul_le_mul (by omega) hz
      omega
    have flen2 : (List.replicate k.toNat its).flatten.length ≤ sizeLine := by
      rw [PyProof.Rows.lm_len_rep_flat, ← r.length, ← PyProof.Rows.lm_len_rep_flat]
      exact flen
    have c1 : (its.toArray.isEmpty || k == 1) = false := by
      rw [hie, Bool.false_or]
      exact beq_eq_false_iff_ne.mpr (by omega)
    have c2 : (decide (k ≤ 0) || its.toArray.isEmpty) = false := by
      rw [hie, Bool.or_false]
      exact decide_eq_false (by omega)
    have c4 : Builtin.Tuple.tupleTooMany (((its.toArray.size : Nat) : Int) * k) = false := by
      unfold Builtin.Tuple.tupleTooMany
      rw [sizeLine_eq]
      exact decide_eq_false (by omega)
    refine wpAny_binaryOp_repeat_ref (T := "tuple") (U := "int") (by decide) ⟨_, ho, rfl⟩ (fun s' => typeIs_int s' k t) noFill_tuple_mul PySem.F.fills_int_mul PySem.F.slot_int_rmul repeat_tuple PySem.F.slot_int_index.lookup
      (call_meets PySem.F.slot_int_rmul (typeIs_int s k t) PySem.F.entry_int_rmul (PySem.F.args_int_rmul_2 _ _) (int_rmul_tuple k t l its.toArray n dd sl)
        ⟨ho, rfl, ⟨_, ho, rfl⟩, call_meets PySem.F.slot_tuple_mul ⟨_, ho, rfl⟩ PySem.F.entry_tuple_mul (PySem.F.args_tuple_mul_2 _ _) (tuple_mulW l its.toArray n dd sl k t c0 c1 c2 (by omega) c4 (by rw [size_rep, List.size_toArray]; exact flen2)) ⟨ho, ?_⟩⟩)
    rw [size_rep]
    exact laidT (t' := s.toks) I (r.rep k.toNat) flen (fun b o e => Heap.get?_push_of_some _ e) (Nat.le_refl _) (Heap.get?_push_size _ rfl) q
end
end Kx
namespace Kx
open PySem PySem.Spec PyProof.Rows L2
/-! ### defs that are called where nothing is being shown -/
structure FnOkG (P : Program) (w : World) (K : PySem.W.Frag) (mg : Str → Option Value) (base : Heap) (CX : CXT) (k : Nat) (f : Addr) (fd : FuncData) (ps : List Str) (sp : Sp) : Prop where
  len : ∀ vs H Q E, sp vs H Q E → vs.length = ps.length
  run : ∀ (A : Around) (outer : List Env) (s : Shared) (H : Hp) (args : Args) (us : List Value) (vs : List V) (Q : VK) (E : XK), A.guards = some [] → Room k A → Env0 P w K mg base A outer s H → BindsTo s fd args (ps.zip us) → Vals vs us → sp vs H Q E →
    codeAny (model P w) A (.call (.ref f) args) (CR CX outer P w H s Q E) s
section
variable {P : Program} {w : World} {K : PySem.W.Frag} {mg : Str → Option Value} {base : Heap} {x qual : Str} {params : Arguments} {body : List Stmt} {scope : Scope} {dvs : List V} {kws : List (Str × V)} {f : Addr} {fd : FuncData}
theorem okG {CX : CXT} {N ps : List Str} {k : Nat} {sp : Sp} (F : FunD K x qual params body scope dvs kws f fd) (S : FnScope N ps scope) (len : ∀ vs H Q E, sp vs H Q E → vs.length = ps.length)
    (hb : ∀ (cdv : Value) (A : Around) (outer : List Env) (s : Shared) (H : Hp) (vs : List V) (Q : VK) (E : XK), A.guards = some [] → Room k (A.deeper (envOfC qual scope s.heap.objs.size f cdv)) → sp vs H Q E →
      ∃ t, PSs (cxOf CX P w K mg base N qual scope f cdv A outer s H E) body t ∧ t { nx := fun _ H' => Q .non H', rt := Q } (start N vs) H) : FnOkG P w K mg base CX (k + 1) f fd ps sp := by
  obtain ⟨oc, od, dV, kV, doc, pm, an, cdv, ct, osl, rfl, lk, hcd, _, _⟩ := F.ex
  refine ⟨len, ?_⟩
  intro A outer s H args us vs Q E hg hr e0 hbd r hsp
  have keepB : ∀ b o, base.get? b = some o → s.heap.get? b = some o := fun b o e => (e0.bs b o e).1
  have inK := e0.mod.kin.keeps keepB
  have kinds : ∀ y ∈ ps.zip us, scope.names.lookup y.1 = some .local ∨ (scope.names.lookup y.1 = some .cell ∧ ((cellsFrom (s.heap.objs.size + 1) scope.names []).lookup y.1).isSome = true) := by
    intro y hy
    obtain ⟨n, v⟩ := y
    exact (S.par n (List.of_mem_zip hy).1).imp id fun q => ⟨q, PySem.W.cellsFrom_some _ _ _ (.inl q)⟩
  refine codeAny_call_function hr.depth (inK _ _ lk) rfl S.co S.gen rfl (PySem.W.codeRec_of inK hcd) (hbd _ _ _ _ (wpAny_newFunctionEnv_cells S.kind kinds ?_))
  intro env he s1 x1
  subst he
  refine ⟨(e0.mod.nolimit.keeps keepB).keeps x1.toInCall.keep, codeAny_func ?_⟩
  obtain ⟨t, ht, hq⟩ := hb cdv A outer s H vs Q E hg (hr.deeper _) hsp
  have I := inv_start (CX := CX) (E := E) S hr.hd e0 (len _ _ _ _ hsp) r x1
  refine wpAny_mono (ht.run [] s1 (start N vs) H _ I hq) (fun fl s' hs => ?_) fun _ _ hs => hs
  cases fl with
  | ret u => exact let ⟨v, _, H', J, rv, q⟩ := hs; ⟨v, H', J.os, J.bare, J.base, J.hok, rv, q⟩
  | next => exact let ⟨_, H', J, q⟩ := hs; ⟨V.non, H', J.os, J.bare, J.base, J.hok, rfl, q⟩
  | brk => exact let ⟨_, _, _, q⟩ := hs; q.elim
  | cont => exact let ⟨_, _, _, q⟩ := hs; q.elim
end
section
variable {X : Cx} {CX : CXT} {k : Nat} {f : Addr} {fd : FuncData} {ps : List Str} {sp : Sp} {E : XK} {x : Str} {p pos : Pos} {e : Expr} {es : List Expr} {t : TA}
theorem pe_callG (F : FnOkG X.prog X.w X.K X.mg X.base CX k f fd ps sp) (hgd : X.A.guards = some []) (hr : Room k X.A) (hg : Gl X x) (hm : X.mg x = some (.ref f)) (hk : PySem.W.keepIn X.K (.ref f) = true) (hb : Binds X.K fd ps []) (hx : Passes CX X E)
    (ha : PA X (e :: es) t) (hdb : (x == ("__debug__" : Str)) = false := by decide) (he : starEach (e :: es) X.env = (false, eval e X.env) :: starEach es X.env := by rfl) (hpl : (backTo pos (starEach es X.env)).any (·.1) = false := by rfl) :
    PE X (.Call (.Name x p) (e :: es) [] pos) (tCall sp [] E t) := by
  refine ⟨fun pins s σ H Q I h => wpAny_Call_Name_kw (ld_glob I hg hm ?_ hdb)⟩
  refine PySem.W.callWith_K (h₀ := X.base) I.ok.mod.kin hk (thn (ha.run pos pins s σ H _ I h) fun us s1 ⟨vs, H1, I1, r, q⟩ => ⟨I1.kIn, ?_⟩) he hpl
  have q' : sp vs H1 Q E := by simpa using q
  have hl : us.length = ps.length := by rw [← r.length]; exact F.len _ _ _ _ q'
  have bd : BindsTo s1 fd ⟨us, []⟩ (ps.zip us) := by simpa using hb s1 us I1.kIn (by simpa using hl)
  refine wpAny_call (codeAny_mono (F.run X.A X.stack s1 H1 ⟨us, []⟩ us vs Q E hgd hr I1.env0 bd r q') fun r s' hq => ?_)
  cases r with
  | error e => exact hx pins σ H1 s1 e s' I1 hq
  | ok fl =>
    cases fl with
    | ret u => exact I1.after hq
    | next => exact hq.elim
    | brk => exact hq.elim
    | cont => exact hq.elim
end
end Kx
namespace Kx
open PySem PySem.Spec PyProof.Rows L2
section
variable {P : Program} {w : World} {K : PySem.W.Frag} {mg mb : Str → Option Value} {k : Nat} {fa a : Addr} {fd : FuncData} {x : Str} {sp : Sp} {s₁ : Shared} {vs : List Value} {ns : List Int}
/-- the call of the law over one abstract heap -/
theorem law_coreG {H : Hp} (hO : Only H) (hS : SqL K H a (ns.map V.int)) (hok : HOk P w H s₁.heap) (hfrz : ∀ b u, H b = some u → ∃ o xs, u = .frz o (.lst xs)) (hA : ∀ b, H b ≠ none → b = a) (hK : H a ≠ none → K.lookup a = none)
    (KX : K.In s₁.heap) (hns : s₁.heap.Ns mainGlobals mg) (hb : s₁.heap.Ns builtinsNs mb) (hbb : ∀ x : Str, x ≠ "__name__" → mb x = bootBuiltins x) (hlim : s₁.heap.NoLimit) (hg : s₁.gens = #[])
    (ha : s₁.heap.get? a = some { cls := .type "list", data := .seq vs.toArray }) (hr : Room k callerA)
    (F : ∀ base : Heap, K.In base → base.Ns mainGlobals mg → FnOkG P w K mg base CX0 k fa fd [x] sp) (hbind : ∀ (s : Shared) (u : Value), BindsTo s fd ⟨[u], []⟩ [(x, u)])
    (hsp : sp [.ref a] H (fun v _ => v = .bl true) fun _ _ _ => False) :
    codeAny (model P w) callerA (.call (.ref fa) ⟨[.ref a], []⟩) (fun r s' => r = .ok (.ret (.bool true)) ∧ OldK s₁.heap s'.heap ∧ s'.os = s₁.os ∧ AllBare s'.gens) s₁ := by
  have inB : ∀ {b : Addr} {o : Obj}, s₁.heap.get? b = some o → H b = none → (hidT s₁.heap H).get? b = some o := fun e n => hidT_get e n
  have free : ∀ {b : Addr} {o : Obj}, s₁.heap.get? b = some o → (b = a → K.lookup a = none → False) → (b = a → H a = none) → H b = none := fun {b o} e _ h2 => by
    cases q : H b with
    | none => rfl
    | some u =>
      have e' := hA b (by rw [q]; simp)
      have := h2 e'
      rw [e', this] at q
      cases q
  have dictFree : ∀ {b : Addr} {o : Obj} {es : Array DictEntry} {ep : Nat}, s₁.heap.get? b = some o → o.data = .dict es ep → H b = none := fun {b o es ep} e d => by
    cases q : H b with
    | none => rfl
    | some u =>
      have e' := hA b (by rw [q]; simp)
      rw [e', ha] at e
      cases e
      cases (show Data.seq vs.toArray _ = Data.dict es ep from d)
  have nsB : ∀ {b : Addr} {m : Str → Option Value}, s₁.heap.Ns b m → (hidT s₁.heap H).Ns b m := fun {b m} h => by
    obtain ⟨o, es, ep, e, d, r⟩ := h
    exact ⟨o, es, ep, inB e (dictFree e d), d, r⟩
  have inKB : K.In (hidT s₁.heap H) := by
    intro b o e
    refine inB (KX b o e) ?_
    cases q : H b with
    | none => rfl
    | some u =>
      have e' := hA b (by rw [q]; simp)
      rw [e'] at e q
      rw [hK (by rw [q]; simp)] at e
      cases e
  have md : Mod K mg (hidT s₁.heap H) := by
    obtain ⟨mc, h1, h2⟩ := hlim
    exact ⟨inKB, nsB hns, ⟨mb, nsB hb, hbb⟩, mc, nsB h1, h2⟩
  have none_in : ∀ b : Addr, ¬ b ∈ ([] : List Addr) := fun b => List.not_mem_nil
  have e0 : Env0 P w K mg (hidT s₁.heap H) callerA [] s₁ H := ⟨rfl, md, fun b o e => of_hidT e, Nat.le_of_eq (hidT_size _ _), trivial, fun b hb => absurd (show b ∈ ([] : List Addr) from hb) (none_in b), hok, .of_eq hg⟩
  refine codeAny_mono ((F _ inKB (nsB hns)).run callerA [] s₁ H ⟨[.ref a], []⟩ [.ref a] [.ref a] _ _ rfl hr e0 (hbind s₁ (.ref a)) (.cons rfl .nil) hsp) ?_
  intro r s' h
  cases r with
  | error e => exact absurd h (by intro z; exact z.elim)
  | ok fl =>
    cases fl with
    | next => exact h.elim
    | brk => exact h.elim
    | cont => exact h.elim
    | ret u =>
      obtain ⟨v, H', os, bare, un, hok', r', q⟩ := h
      obtain rfl : v = .bl true := q
      obtain rfl : u = Value.bool true := r'
      refine ⟨rfl, OldK.of_keep fun b o e => ?_, os, bare⟩
      cases q : H b with
      | none => exact un.keep b o e q (none_in b) (by simp)
      | some u =>
        obtain ⟨ob, xs, rfl⟩ := hfrz b u q
        obtain ⟨e1, _⟩ := hok b _ q
        obtain ⟨e2, _⟩ := hok' b _ (un.frzs b ob _ q)
        rw [e] at e1
        cases e1
        exact e2
theorem law_callG (KX : K.In s₁.heap) (hns : s₁.heap.Ns mainGlobals mg) (hb : s₁.heap.Ns builtinsNs mb) (hbb : ∀ x : Str, x ≠ "__name__" → mb x = bootBuiltins x) (hlim : s₁.heap.NoLimit) (hg : s₁.gens = #[])
    (ha : s₁.heap.get? a = some { cls := .type "list", data := .seq vs.toArray }) (hi : IntsAre vs ns) (hl : ns.length ≤ sizeLine) (hr : Room k callerA)
    (F : ∀ base : Heap, K.In base → base.Ns mainGlobals mg → FnOkG P w K mg base CX0 k fa fd [x] sp) (hbind : ∀ (s : Shared) (u : Value), BindsTo s fd ⟨[u], []⟩ [(x, u)])
    (hsp : ∀ H : Hp, Only H → SqL K H a (ns.map V.int) → sp [.ref a] H (fun v _ => v = .bl true) fun _ _ _ => False) :
    codeAny (model P w) callerA (.call (.ref fa) ⟨[.ref a], []⟩) (fun r s' => r = .ok (.ret (.bool true)) ∧ OldK s₁.heap s'.heap ∧ s'.os = s₁.os ∧ AllBare s'.gens) s₁ := by
  have rv := vals_ints hi
  have hlv : vs.length ≤ sizeLine := by rw [hi.length]; exact hl
  cases hk : K.lookup a with
  | some o =>
    have e := KX a o hk
    rw [ha] at e
    cases e
    have hO : Only (fun _ => none : Hp) := fun _ => .inl rfl
    have hS : SqL K (fun _ => none : Hp) a (ns.map V.int) := .inr ⟨_, vs.toArray, _, hk, rfl, rfl, rfl, by rw [List.size_toArray]; exact hlv, by simpa using rv⟩
    refine law_coreG hO hS (fun b u z => ?_) (fun b u z => ?_) (fun b z => absurd rfl z) (fun z => absurd rfl z) KX hns hb hbb hlim hg ha hr F hbind (hsp _ hO hS)
    · cases (show (none : Option HO) = some u from z)
    · cases (show (none : Option HO) = some u from z)
  | none =>
    let ob : Obj := { cls := .type "list", data := .seq vs.toArray }
    let H : Hp := upd (fun _ => none) a (.frz ob (.lst (ns.map V.int)))
    have H_at : H a = some (.frz ob (.lst (ns.map V.int))) := upd_same
    have H_off : ∀ b, b ≠ a → H b = none := fun b h => upd_ne h
    have H_is : ∀ b u, H b = some u → b = a ∧ u = .frz ob (.lst (ns.map V.int)) := fun b u z => by
      by_cases h : b = a
      · subst h; rw [H_at] at z; cases z; exact ⟨rfl, rfl⟩
      · rw [H_off b h] at z; cases z
    have hO : Only H := fun b => by
      by_cases h : b = a
      · exact .inr ⟨ob, _, h ▸ H_at⟩
      · exact .inl (H_off b h)
    have hS : SqL K H a (ns.map V.int) := .inl (.inr ⟨ob, H_at⟩)
    refine law_coreG hO hS (fun b u z => ?_) (fun b u z => ?_) (fun b z => ?_) (fun _ => hk) KX hns hb hbb hlim hg ha hr F hbind (hsp _ hO hS)
    · obtain ⟨rfl, rfl⟩ := H_is b u z
      exact ⟨ha, by rw [List.length_map]; exact hl, vs, _, rv, ha⟩
    · obtain ⟨_, rfl⟩ := H_is b u z
      exact ⟨_, _, rfl⟩
    · by_cases h : b = a
      · exact h
      · exact absurd (H_off b h) z
end
/-- the end of a law whose def is told by FnOkG -/
theorem walk_ofG {l : PySem.W.OpenLaw} {n k : Nat} {q : Program} {loose : List Str} {XP : (Str → Option Value) → Heap → Prop} {YP : World → Heap → Prop} {d : DefRec} {x : Str}
    (hn : l.most = some n) (hn2 : n ≤ sizeLine) (hdf : d.params.defaults = []) (hr : Room k callerA)
    (F : ∀ (w : World) (mg : Str → Option Value) (fa : Addr) (h : Heap), YP w h → h.Ns mainGlobals mg → mg d.name = some (.ref fa) →
      ∃ (K : PySem.W.Frag) (fd : FuncData) (sp : Sp), K.In h ∧ (∀ (s : Shared) (u : Value), BindsTo s fd ⟨[u], []⟩ [(x, u)]) ∧
        (∀ (H : Hp) (a : Addr) (ns : List Int), ns.length ≤ n → Only H → SqL K H a (ns.map V.int) → sp [.ref a] H (fun v _ => v = .bl true) fun _ _ _ => False) ∧
        ∀ base : Heap, K.In base → base.Ns mainGlobals mg → FnOkG l.prog w K mg base CX0 k fa fd [x] sp) :
    PySem.W.WalkO q loose XP YP l.row.toRowW d [] (fun f vs => PySem.call f vs) := by
  refine Att.attach_call hn hdf ?_
  intro w s₀ s₁ mg mb fa o pm cd doc a vs ns G Y ho hd hcd hmg hobj hints hlen hg
  obtain ⟨K, fd, sp, inK, bd, hs, hF⟩ := F w mg fa _ Y G.T.g hmg
  exact law_callG inK G.T.g G.T.b G.T.builtins G.T.nolimit hg hobj hints (Nat.le_trans hlen hn2) hr hF bd fun H hO hS => hs H a ns hlen hO hS
end Kx
namespace Kx
open PySem PySem.Spec PyProof.Rows L2
def top (i : Nat) : Stmt := PySem.Challenge.pw_cellsenough_k00_names_and_frames_judged.main.body.getD i (.Pass ⟨0, 0, 0, 0⟩)
abbrev s_wall : Stmt := top 0
abbrev s_copied : Stmt := top 2
abbrev s_UnknownName_init : Stmt := inClass (top 5) 0
abbrev s_is_name : Stmt := top 11
abbrev s_are_names : Stmt := top 12
abbrev s_is_array : Stmt := top 13
abbrev s_are_arrays : Stmt := top 14
abbrev s_kinds_of : Stmt := top 15
abbrev s_with_blanks : Stmt := top 16
abbrev s_Frame_init : Stmt := inClass (top 17) 0
abbrev s_Frame_arrays : Stmt := inClass (top 17) 1
abbrev s_Frame_positions : Stmt := inClass (top 17) 2
abbrev s_Frame_amounts : Stmt := inClass (top 17) 3
abbrev s_Frame_lengths : Stmt := inClass (top 17) 4
abbrev s_Frame_length_of : Stmt := inClass (top 17) 5
abbrev s_Frame_kind_of : Stmt := inClass (top 17) 6
abbrev s_Frame_is_fresh : Stmt := inClass (top 17) 7
abbrev s_Frame_is_position_term : Stmt := inClass (top 17) 8
abbrev s_Frame_is_value_term : Stmt := inClass (top 17) 9
abbrev s_Frame_shifted : Stmt := inClass (top 17) 10
abbrev s_Frame_with_names : Stmt := inClass (top 17) 11
abbrev s_Frame_renamed : Stmt := inClass (top 17) 12
abbrev s_Frame_has_place : Stmt := inClass (top 17) 13
abbrev s_Frame_has_amount : Stmt := inClass (top 17) 14
abbrev s_Frame_is_of_kind : Stmt := inClass (top 17) 15
abbrev s_Frame_contains : Stmt := inClass (top 17) 16
abbrev s_Frame_len : Stmt := inClass (top 17) 17
abbrev s_Frame_eq : Stmt := inClass (top 17) 18
abbrev s_Frame_str : Stmt := inClass (top 17) 19
abbrev s_law_filled : Stmt := top 19
abbrev s_law_dip : Stmt := top 20
abbrev s_law_choose : Stmt := top 21
abbrev s_law_shuffled : Stmt := top 22
abbrev s_law_name : Stmt := top 23
abbrev s_law_names : Stmt := top 24
abbrev s_law_parts : Stmt := top 25
abbrev s_law_lengths : Stmt := top 26
abbrev s_law_is_name : Stmt := top 27
abbrev s_law_is_frame : Stmt := top 28
abbrev s_law_odd_name : Stmt := top 29
abbrev s_law_near : Stmt := top 30
abbrev s_law_met : Stmt := top 31
abbrev s_law_is_told : Stmt := top 32
abbrev s_law_right : Stmt := top 33
abbrev s_law : Stmt := top 34
/-- a def of the top stands under its name -/
def Has (K : PySem.W.Frag) (mg : Str → Option Value) (x : Str) (st : Stmt) : Prop := ∃ f fd, FunD K x x (defArgs st) (defBody st) (defScope st) [] [] f fd ∧ mg x = some (.ref f)
/-- it keeps a promise -/
structure Cal (P : Program) (w : World) (K : PySem.W.Frag) (mg : Str → Option Value) (base : Heap) (CX : CXT) (k : Nat) (x : Str) (ps : List Str) (sp : Sp) (f : Addr) (fd : FuncData) : Prop where
  ok : FnOk P w K mg base CX k f fd ps sp
  g : mg x = some (.ref f)
  kp : PySem.W.keepIn K (.ref f) = true
  b : Binds K fd ps []
abbrev Ca (P : Program) (w : World) (K : PySem.W.Frag) (mg : Str → Option Value) (base : Heap) (k : Nat) (x : Str) (ps : List Str) (sp : Sp) : Prop := ∃ f fd, FnOk P w K mg base CX0 k f fd ps sp ∧ mg x = some (.ref f) ∧ PySem.W.keepIn K (.ref f) = true ∧ Binds K fd ps []
section
variable {P : Program} {w : World} {K : PySem.W.Frag} {mg : Str → Option Value} {base : Heap}
theorem cal_of {x : Str} {st : Stmt} {N ps : List Str} {k : Nat} {sp : Sp} (h : Has K mg x st) (S : FnScope N ps (defScope st))
    (bd : ∀ (kV doc pm : Value) (an : Option Addr) (cdv ct : Value) (us : List Value), us.length = ps.length → bindArgs (PySem.W.fnOf x x (defArgs st) (defBody st) (defScope st) .none kV doc pm an cdv ct) ⟨us, []⟩ = pure (ps.zip us))
    (len : ∀ vs H Q E, sp vs H Q E → vs.length = ps.length)
    (body : ∀ (f : Addr) (cdv : Value) (A : Around) (outer : List Env) (s : Shared) (H : Hp) (vs : List V) (Q : VK) (E : XK), Room k (A.deeper (envOfC x (defScope st) s.heap.objs.size f cdv)) → sp vs H Q E →
      ∃ t, PSs (cxOf CX0 P w K mg base N x (defScope st) f cdv A outer s H E).nox (defBody st) t ∧ t { nx := fun _ H' => Q .non H', rt := Q } (start N vs) H) : Ca P w K mg base (k + 1) x ps sp := by
  obtain ⟨f, fd, F, g⟩ := h
  exact ⟨f, fd, F.ok S len (fun cdv A outer s H vs Q E hr h => let ⟨t, ht, q⟩ := body f cdv A outer s H vs Q E hr h; ⟨t, PSs.nox ht, q⟩), g, F.kp, F.bindsN bd⟩
/-- the built-ins are still there -/
structure Bt (mg : Str → Option Value) : Prop where
  abs : mg "abs" = none
  all : mg "all" = none
  dict : mg "dict" = none
  enumerate : mg "enumerate" = none
  int : mg "int" = none
  isinstance : mg "isinstance" = none
  len : mg "len" = none
  list : mg "list" = none
  max : mg "max" = none
  min : mg "min" = none
  range : mg "range" = none
  repr : mg "repr" = none
  set : mg "set" = none
  str : mg "str" = none
  sum : mg "sum" = none
  tuple : mg "tuple" = none
/-! ### the purse of draws -/
def PotAt (H : Hp) (p : Addr) (n : Nat) : Prop := ∃ a b c : Int, H p = some (.lst [.int a, .int b, .int c]) ∧ 0 ≤ a ∧ 0 ≤ b ∧ b < 2 ^ 61 ∧ 0 ≤ c ∧ c ≤ n
abbrev KpP (p : Addr) (H H' : Hp) : Prop := Kp (fun a => a = p) H H'
theorem PotAt.mono {H : Hp} {p : Addr} {n m : Nat} (h : PotAt H p n) (k : n ≤ m) : PotAt H p m := by
  obtain ⟨a, b, c, e, h1, h2, h3, h4, h5⟩ := h
  exact ⟨a, b, c, e, h1, h2, h3, h4, by omega⟩
theorem PotAt.same {H H' : Hp} {p : Addr} {n : Nat} (h : PotAt H p n) (k : Same H H') : PotAt H' p n := by
  obtain ⟨a, b, c, e, r⟩ := h
  exact ⟨a, b, c, k _ _ e, r⟩
abbrev N_law_filled : List Str := ["script", "at", "cell", "whole", "mixed"]
abbrev P_law_filled : List Str := ["script", "at"]
theorem sc_law_filled : FnScope N_law_filled P_law_filled (defScope s_law_filled) := ⟨rfl, rfl, rfl, by decide +kernel, rfl, by decide +kernel, by decide +kernel⟩
def spFilled (K : PySem.W.Frag) : Sp := fun vs H Q _ => ∃ (a : Addr) (ns : List Int) (i : Int), vs = [.ref a, .int i] ∧ SqL K H a (ns.map V.int) ∧ ns.length ≤ 63 ∧ 0 ≤ i ∧ i ≤ 100 ∧ ∀ (p : Addr) (H' : Hp), H p = none → Same H H' → PotAt H' p 0 → Q (.ref p) H'
theorem natAbs_pow {i : Int} {n : Nat} (h : 0 ≤ i) (h2 : i < 2 ^ n) : i.natAbs < 2 ^ n := by
  have : ((i.natAbs : Nat) : Int) < ((2 ^ n : Nat) : Int) := by
    rw [Int.natAbs_of_nonneg h]
    simpa using h2
  exact_mod_cast this
theorem modN_range (i : Int) {n : Int} (h : 0 < n) : 0 ≤ i.fmod n ∧ i.fmod n < n := by
  rw [Int.fmod_eq_emod_of_nonneg i (by omega)]
  exact ⟨Int.emod_nonneg _ (by omega), Int.emod_lt_of_pos _ h⟩
theorem pow60 : V.int (10 ^ (Int.toNat 60)) = V.int (10 ^ 60) := rfl
theorem ne0 {j : Int} (h : decide (j = 0) = false) : j ≠ 0 := of_decide_eq_false h
theorem ok_filled (T : Bt mg) (h : Has K mg "_law_filled" s_law_filled) : Ca P w K mg base 1 "_law_filled" P_law_filled (spFilled K) := by
  refine cal_of h sc_law_filled (fun _ _ _ _ _ _ us hl => match us, hl with | [_, _], _ => rfl) (fun vs H Q E h => ?_) (fun f cdv A outer s H vs Q E hr h => ?_)
  · obtain ⟨a, ns, i, rfl, _⟩ := h
    rfl
  · obtain ⟨a, ns, i, rfl, hS, hl, h0, h1, k⟩ := h
    refine ⟨_, (pss_cons (ps_set (i := 2) sc_law_filled.nd rfl (.inl rfl) (pe_ifExp (pt_cmpR op_lt (pv 1) (pe_callB call_len (by rfl) T.len (by decide +kernel) (pa_cons (pv 0) pa_nil)) (nomark _)) (pe_ix ix_list (pv 0) (pv 1) (fun _ _ => rfl)) (pe_op op_add (pe_op op_mul pe_int (pv 1)) pe_int)))
      (pss_cons (ps_set (i := 3) sc_law_filled.nd rfl (.inl rfl) (pe_op op_modN (pe_callTy call_int1 (by rfl) T.int (by decide +kernel) (pa_cons (pe_callB call_abs (by rfl) T.abs (by decide +kernel) (pa_cons (pv 2) pa_nil)) pa_nil)) (pe_op op_powBig (pe_op op_pow pe_int pe_int) pe_int)))
      (pss_cons (ps_set (i := 4) sc_law_filled.nd rfl (.inl rfl) (pe_op op_modN (pe_callTy call_int1 (by rfl) T.int (by decide +kernel) (pa_cons (pe_op op_add (pe_op op_add (pe_op op_add (pv 3) (pe_op op_mul pe_int (pv 1))) (pe_op op_mul pe_int (pe_callTy call_int1 (by rfl) T.int (by decide +kernel) (pa_cons (pe_cmpR op_lt (pv 2) pe_int (nomark _)) pa_nil)))) pe_int) pa_nil)) pe_int))
      (pss_one (ps_ret (pe_lst (pa_cons (pe_callB (call_max2 rfl) (by rfl) T.max (by decide +kernel) (pa_cons pe_int (pa_cons (pe_op op_sub (pv 3) (pe_op op_pow pe_int pe_int)) pa_nil))) (pa_cons (pv 4) (pa_cons pe_int pa_nil))))))))), ?_⟩
    refine ⟨_, rfl, _, rfl, _, _, rfl, .inl ⟨_, hS, rfl⟩, _, _, rfl, rfl, _, rfl, ite2 (fun hlt => ?ga) (fun hge => ?gb)⟩
    case' ga =>
      have hlt' : i < ((ns.map V.int).length : Int) := of_decide_eq_true hlt
      rw [List.length_map] at hlt'
      obtain ⟨j, rfl⟩ : ∃ j : Nat, i = j := ⟨i.toNat, by omega⟩
      have hj : j < ns.length := by omega
      have hat : (ns.map V.int)[j]? = some (.int ns[j]) := by rw [List.getElem?_map, List.getElem?_eq_getElem hj]; rfl
      refine ⟨_, rfl, _, rfl, a, _, _, _, rfl, rfl, hS, atI_nat hat, ?_⟩
    case' gb => refine ⟨_, rfl, _, _, rfl, rfl, .inl ⟨by decide, by decide⟩, _, _, rfl, rfl, ?_⟩
    all_goals
      refine ⟨_, rfl, _, rfl, .inl ⟨_, rfl, _, _, rfl, rfl, ⟨by decide, by decide, by decide⟩, pow60, rfl, _, _, rfl, rfl, ne0 (by decide +kernel), ?_⟩⟩
      refine ⟨_, rfl, _, rfl, _, _, rfl, rfl, .inl ⟨by decide, by decide⟩, _, _, rfl, rfl, _, rfl, _, _, rfl, rfl, .inr ⟨_, rfl, _, _, rfl, rfl, .inl ⟨by decide, by decide⟩, _, _, rfl, rfl, _, _, rfl, rfl, .inl ⟨_, rfl, _, _, rfl, rfl, ne0 (by decide), ?_⟩⟩⟩
      refine ⟨_, rfl, _, _, rfl, rfl, ⟨by decide, by decide, by decide⟩, _, _, rfl, rfl, _, _, rfl, _, rfl, by show 3 ≤ sizeLine; decide, fun p hp => ?_⟩
      exact k p _ hp (Same.upd hp) ⟨_, _, 0, upd_same, (by split <;> omega), (modN_range _ (by decide)).1, Int.lt_trans (modN_range _ (by decide)).2 (by decide), by omega, by omega⟩
abbrev N_law_dip : List Str := ["pot", "total", "found", "one", "two"]
abbrev P_law_dip : List Str := ["pot", "total"]
theorem sc_law_dip : FnScope N_law_dip P_law_dip (defScope s_law_dip) := ⟨rfl, rfl, rfl, by decide +kernel, rfl, by decide +kernel, by decide +kernel⟩
def spDip : Sp := fun vs H Q _ => ∃ (p : Addr) (n : Nat) (t : Int), vs = [.ref p, .int t] ∧ PotAt H p n ∧ n ≤ 1000000 ∧ 1 ≤ t ∧ t ≤ 1000000 ∧
  ∀ (d : Int) (H' : Hp), 0 ≤ d → d < t → PotAt H' p (n + 1) → KpP p H H' → Q (.int d) H'
theorem ok_dip (T : Bt mg) (h : Has K mg "_law_dip" s_law_dip) : Ca P w K mg base 1 "_law_dip" P_law_dip spDip := by
  refine cal_of h sc_law_dip (fun _ _ _ _ _ _ us hl => match us, hl with | [_, _], _ => rfl) (fun vs H Q E h => ?_) (fun f cdv A outer s H vs Q E hr h => ?_)
  · obtain ⟨p, n, t, rfl, _⟩ := h
    rfl
  · obtain ⟨p, n, t, rfl, ⟨a, b, c, hp, ha, hb, hb2, hc, hc2⟩, hn, ht, ht2, k⟩ := h
    refine ⟨_, (pss_cons (ps_if (pt_cmpR op_gt (pe_ix ix_list (pv 0) pe_int (fun _ _ => rfl)) pe_int (nomark _)) (pss_cons (ps_set (i := 2) sc_law_dip.nd rfl (.inl rfl) (pe_op op_modN (pe_callTy call_int1 (by rfl) T.int (by decide +kernel) (pa_cons (pe_ix ix_list (pv 0) pe_int (fun _ _ => rfl)) pa_nil)) (pv 1)))
        (pss_cons (ps_asg (pe_op op_fdivN (pe_ix ix_list (pv 0) pe_int (fun _ _ => rfl)) (pv 1)) (pg_sub (pv 0) pe_int set_list))
        (pss_one (ps_ret (pv 2))))) pss_nil)
      (pss_cons (ps_asg (pe_op op_add (pe_ix ix_list (pv 0) pe_int (fun _ _ => rfl)) pe_int) (pg_sub (pv 0) pe_int set_list))
      (pss_cons (ps_set (i := 3) sc_law_dip.nd rfl (.inl rfl) (pe_op op_modN (pe_callTy call_int1 (by rfl) T.int (by decide +kernel) (pa_cons (pe_op op_add (pe_op op_mul (pe_ix ix_list (pv 0) pe_int (fun _ _ => rfl)) pe_int) (pe_op op_mul (pe_ix ix_list (pv 0) pe_int (fun _ _ => rfl)) pe_int)) pa_nil)) pe_int))
      (pss_cons (ps_set (i := 4) sc_law_dip.nd rfl (.inl rfl) (pe_op op_modN (pe_callTy call_int1 (by rfl) T.int (by decide +kernel) (pa_cons (pe_op op_add (pe_op op_mul (pv 3) (pv 3)) (pe_op op_mul pe_int (pe_ix ix_list (pv 0) pe_int (fun _ _ => rfl)))) pa_nil)) pe_int))
      (pss_one (ps_ret (pe_op op_modN (pe_callTy call_int1 (by rfl) T.int (by decide +kernel) (pa_cons (pe_op op_fdivN (pe_op op_modN (pe_callTy call_int1 (by rfl) T.int (by decide +kernel) (pa_cons (pe_op op_add (pe_op op_mul (pv 4) pe_int) (pv 3)) pa_nil)) pe_int) pe_int) pa_nil)) (pv 1)))))))), ?_⟩
    refine ⟨_, rfl, p, _, _, _, rfl, rfl, SqL.of hp, rfl, _, _, rfl, rfl, _, rfl, ?_⟩
    refine ite2 (fun hpos => ?_) (fun hneg => ?_)
    · have hpos' : 0 < a := of_decide_eq_true hpos
      refine ⟨_, rfl, p, _, _, _, rfl, rfl, SqL.of hp, rfl, .inl ⟨_, rfl, _, rfl, _, _, rfl, rfl, (by omega), ?_⟩⟩
      refine ⟨_, rfl, p, _, _, _, rfl, rfl, SqL.of hp, rfl, _, rfl, _, _, rfl, rfl, ⟨by omega, by omega⟩, _, rfl, p, _, _, 0, rfl, rfl, hp, rfl, ?_⟩
      refine ⟨_, rfl, ?_⟩
      have hd : 0 ≤ a.fmod t ∧ a.fmod t < t := by
        rw [Int.fmod_eq_emod_of_nonneg a (by omega)]
        exact ⟨Int.emod_nonneg _ (by omega), Int.emod_lt_of_pos _ (by omega)⟩
      refine k _ _ hd.1 hd.2 ⟨a.fdiv t, b, c, upd_same, ?_, hb, hb2, hc, by omega⟩ (Kp.at rfl hp)
      rw [Int.fdiv_eq_ediv_of_nonneg a (by omega)]
      exact Int.ediv_nonneg ha (by omega)
    · refine ⟨_, rfl, p, _, _, _, rfl, rfl, SqL.of hp, rfl, _, _, rfl, rfl, _, rfl, p, _, _, 2, rfl, rfl, hp, rfl, ?_⟩
      have hp2 : upd H p (HO.lst [V.int a, V.int b, V.int (c + 1)]) p = some (.lst [.int a, .int b, .int (c + 1)]) := upd_same
      refine ⟨_, rfl, p, _, _, _, rfl, rfl, SqL.of hp2, rfl, _, _, rfl, rfl, .inl ⟨by omega, by omega⟩, _, rfl, p, _, _, _, rfl, rfl, SqL.of hp2, rfl, _, _, rfl, rfl, .inl ⟨by omega, by omega⟩, _, _, rfl, rfl, .inl ⟨_, rfl, _, _, rfl, rfl, ne0 (by decide), ?_⟩⟩
      have m1 := modN_range (b * 3935559000370003845 + (c + 1) * 2691343689449507681) (n := 2305843009213693951) (by decide)
      refine ⟨_, rfl, _, rfl, _, _, rfl, rfl, .inl ⟨by omega, by omega⟩, _, rfl, p, _, _, _, rfl, rfl, SqL.of hp2, rfl, _, _, rfl, rfl, .inl ⟨by decide, by decide⟩, _, _, rfl, rfl, .inl ⟨_, rfl, _, _, rfl, rfl, ne0 (by decide), ?_⟩⟩
      have m2 := modN_range ((b * 3935559000370003845 + (c + 1) * 2691343689449507681).fmod 2305843009213693951 * (b * 3935559000370003845 + (c + 1) * 2691343689449507681).fmod 2305843009213693951 + 40503 * (c + 1)) (n := 1152921504606846883) (by decide)
      refine ⟨_, rfl, _, _, rfl, rfl, .inl ⟨by omega, by omega⟩, _, rfl, _, _, rfl, rfl, .inl ⟨_, rfl, _, _, rfl, rfl, ne0 (by decide), _, _, rfl, rfl, ⟨by decide, by decide⟩, .inl ⟨_, rfl, _, rfl, _, _, rfl, rfl, (by omega), ?_⟩⟩⟩
      exact k _ _ (modN_range _ (by omega)).1 (modN_range _ (by omega)).2 ⟨a, b, c + 1, upd_same, ha, hb, hb2, by omega, by omega⟩ (Kp.at rfl hp)
end
end Kx
namespace Kx
open PySem PySem.Spec PyProof.Rows L2
section
variable {P : Program} {w : World} {K : PySem.W.Frag} {mg : Str → Option Value} {base : Heap}
theorem yes {σ : L2.St} {H : Hp} {A B : Hp → Prop} (h : A H) : tYes σ H (fun b H3 => if b = true then A H3 else B H3) := by
  show if true = true then A H else B H
  rw [if_pos rfl]
  exact h
/-- x can be chosen from: a list, a tuple, a text -/
def Pick (H : Hp) (p : Addr) (x : V) (xs : List V) : Prop :=
  (∃ a, x = .ref a ∧ a ≠ p ∧ H a = some (.lst xs)) ∨ (∃ a, x = .ref a ∧ a ≠ p ∧ TupF H a xs) ∨ ∃ z : Str, x = .str z ∧ z.length ≤ 1000 ∧ xs = signsV z
abbrev N_law_choose : List Str := ["pot", "items"]
abbrev P_law_choose : List Str := ["pot", "items"]
theorem sc_law_choose : FnScope N_law_choose P_law_choose (defScope s_law_choose) := ⟨rfl, rfl, rfl, by decide +kernel, rfl, by decide +kernel, by decide +kernel⟩
def spChoose : Sp := fun vs H Q _ => ∃ (p : Addr) (n : Nat) (x : V) (xs : List V), vs = [.ref p, x] ∧ PotAt H p n ∧ n ≤ 1000000 ∧ Pick H p x xs ∧ 1 ≤ xs.length ∧ xs.length ≤ 1000 ∧
  ∀ (i : Nat) (v : V) (H' : Hp), xs[i]? = some v → PotAt H' p (n + 1) → KpP p H H' → Q v H'
theorem ok_choose (T : Bt mg) (h : Has K mg "_law_choose" s_law_choose) (C1 : Ca P w K mg base 1 "_law_dip" P_law_dip spDip) : Ca P w K mg base 2 "_law_choose" P_law_choose spChoose := by
  obtain ⟨_, _, c__law_dip⟩ := C1
  refine cal_of h sc_law_choose (fun _ _ _ _ _ _ us hl => match us, hl with | [_, _], _ => rfl) (fun vs H Q E h => ?_) (fun f cdv A outer s H vs Q E hr h => ?_)
  · obtain ⟨p, n, x, xs, rfl, _⟩ := h
    rfl
  · obtain ⟨p, n, x, xs, rfl, hp, hn, hx, h1, h2, k⟩ := h
    refine ⟨_, (pss_one (ps_ret (pe_ix ix_seq (pv 1) (pe_call c__law_dip.1 (hr.mono (by decide)) rfl c__law_dip.2.1 c__law_dip.2.2.1 c__law_dip.2.2.2 .nil pass0 (pa_cons (pv 0) (pa_cons (pe_callB call_len (by rfl) T.len (by decide +kernel) (pa_cons (pv 1) pa_nil)) pa_nil))) (fun _ _ => rfl)))), ?_⟩
    have room : ∀ m : Nat, m ≤ 1000 → m ≤ sizeLine := fun m hm => by rw [sizeLine_eq]; omega
    have after : ∀ (d : Int) (H' : Hp), 0 ≤ d → d < (xs.length : Int) → PotAt H' p (n + 1) → KpP p H H' → ∃ i v, d = ((i : Nat) : Int) ∧ xs[i]? = some v ∧ Q v H' := fun d H' h0 hd hp' hk => by
      have hi : d.toNat < xs.length := by omega
      exact ⟨d.toNat, _, by omega, List.getElem?_eq_getElem hi, k d.toNat _ H' (List.getElem?_eq_getElem hi) hp' hk⟩
    rcases hx with ⟨a, rfl, hne, ha⟩ | ⟨a, rfl, hne, ha⟩ | ⟨z, rfl, hz, rfl⟩
    · refine ⟨_, rfl, _, rfl, _, rfl, _, _, rfl, .inl ⟨_, SqL.of ha, rfl⟩, p, n, _, rfl, hp, hn, by omega, by omega, fun d H' h0 hd hp' hk => ?_⟩
      obtain ⟨i, v, rfl, hv, q⟩ := after d H' h0 hd hp' hk
      exact .inl ⟨a, _, _, _, rfl, rfl, SqL.of (hk.get ha hne), atI_nat hv, q⟩
    · refine ⟨_, rfl, _, rfl, _, rfl, _, _, rfl, .inr ⟨_, ha.sq, rfl⟩, p, n, _, rfl, hp, hn, by omega, by omega, fun d H' h0 hd hp' hk => ?_⟩
      obtain ⟨i, v, rfl, hv, q⟩ := after d H' h0 hd hp' hk
      obtain ⟨o, od, e⟩ := ha
      exact .inr (.inl ⟨a, _, _, _, rfl, rfl, (hk.tup ⟨o, od, e⟩).sq, atI_nat hv, q⟩)
    · have el : (signsV z).length = z.length := by unfold signsV; rw [List.length_map, Array.length_toList]; rfl
      refine ⟨_, rfl, _, rfl, _, rfl, _, _, rfl, ⟨room _ hz, rfl⟩, p, n, _, rfl, hp, hn, by omega, by omega, fun d H' h0 hd hp' hk => ?_⟩
      obtain ⟨i, v, rfl, hv, q⟩ := after d H' h0 (by omega) hp' hk
      unfold signsV at hv
      rw [List.getElem?_map] at hv
      cases e : z.cps.toList[i]? with
      | none => rw [e] at hv; cases hv
      | some c =>
        rw [e] at hv
        cases hv
        exact .inr (.inr ⟨z, _, c, rfl, rfl, room _ hz, atI_nat e, q⟩)
/-! ### names -/
def NameS (z : Str) : Prop := 1 ≤ z.length ∧ z.length ≤ 8 ∧ ∀ c ∈ z.cps.toList, 97 ≤ c ∧ c ≤ 122
instance (z : Str) : Decidable (NameS z) := inferInstanceAs (Decidable (_ ∧ _ ∧ _))
theorem TL.joinL_nil : ∀ ps : List (List Nat), TL.joinL [] ps = ps.flatten
  | [] => rfl
  | [p] => by simp [TL.joinL]
  | p :: q :: r => by
    show p ++ ([] ++ TL.joinL [] (q :: r)) = _
    rw [TL.joinL_nil (q :: r)]
    simp
theorem join0 (ys : List Str) : (Txt.join Str.empty ys).cps.toList = (ys.map fun y => y.cps.toList).flatten := by
  rw [TL.join_eq]
  have := TL.tl_join Str.empty ys
  rw [show TL.tl Str.empty = [] from rfl, TL.joinL_nil] at this
  exact this
theorem nameS_join {ys : List Str} (h1 : 1 ≤ ys.length) (h2 : ys.length ≤ 8) (h : ∀ y ∈ ys, ∃ c, y = ⟨#[c]⟩ ∧ 97 ≤ c ∧ c ≤ 122) : NameS (Txt.join Str.empty ys) := by
  have e := join0 ys
  have len : (Txt.join Str.empty ys).length = ys.length := by
    have : (Txt.join Str.empty ys).length = (Txt.join Str.empty ys).cps.toList.length := by rw [Array.length_toList]; rfl
    rw [this, e]
    clear e this h1 h2
    induction ys with
    | nil => rfl
    | cons y r ih =>
      obtain ⟨c, rfl, _⟩ := h y List.mem_cons_self
      rw [List.map_cons, List.flatten_cons, List.length_append, ih fun z hz => h z (List.mem_cons_of_mem _ hz)]
      simp; omega
  refine ⟨by omega, by omega, fun c hc => ?_⟩
  rw [e] at hc
  obtain ⟨l, hl, hcl⟩ := List.mem_flatten.mp hc
  obtain ⟨y, hy, rfl⟩ := List.mem_map.mp hl
  obtain ⟨d, rfl, hd⟩ := h y hy
  have : c = d := by simpa using hcl
  rw [this]; exact hd
def LetV (v : V) : Prop := ∃ z : Str, v = .str z ∧ (1 ≤ z.length ∧ z.length ≤ 26 ∧ ∀ c ∈ z.cps.toList, 97 ≤ c ∧ c ≤ 122)
theorem PotAt.ne {H : Hp} {p l : Addr} {n : Nat} (h : PotAt H p n) (hl : H l = none) : l ≠ p := by
  obtain ⟨a, b, c, e, _⟩ := h
  exact (ne_of_none e hl).symm
abbrev N_law_name : List Str := ["pot", "letters", "word", "turn"]
abbrev P_law_name : List Str := ["pot"]
theorem sc_law_name : FnScope N_law_name P_law_name (defScope s_law_name) := ⟨rfl, rfl, rfl, by decide +kernel, rfl, by decide +kernel, by decide +kernel⟩
def spName : Sp := fun vs H Q _ => ∃ (p : Addr) (n : Nat), vs = [.ref p] ∧ PotAt H p n ∧ n ≤ 900000 ∧ ∀ (z : Str) (H' : Hp), NameS z → PotAt H' p (n + 12) → KpP p H H' → Q (.str z) H'
theorem ok_name (T : Bt mg) (h : Has K mg "_law_name" s_law_name) (C1 : Ca P w K mg base 1 "_law_dip" P_law_dip spDip) (C2 : Ca P w K mg base 2 "_law_choose" P_law_choose spChoose) : Ca P w K mg base 3 "_law_name" P_law_name spName := by
  obtain ⟨_, _, c__law_dip⟩ := C1
  obtain ⟨_, _, c__law_choose⟩ := C2
  refine cal_of h sc_law_name (fun _ _ _ _ _ _ us hl => match us, hl with | [_], _ => rfl) (fun vs H Q E h => ?_) (fun f cdv A outer s H vs Q E hr h => ?_)
  · obtain ⟨p, n, rfl, _⟩ := h
    rfl
  · obtain ⟨p, n, rfl, hp, hn, k⟩ := h
    refine ⟨_, (pss_cons (ps_set (i := 1) sc_law_name.nd rfl (.inr rfl) (pe_call c__law_choose.1 (hr.mono (by decide)) rfl c__law_choose.2.1 c__law_choose.2.2.1 c__law_choose.2.2.2 .nil pass0 (pa_cons (pv 0) (pa_cons (pe_lst (pa_cons pe_str (pa_cons pe_str (pa_cons pe_str (pa_cons pe_str pa_nil))))) pa_nil))))
      (pss_cons (ps_set (i := 2) sc_law_name.nd rfl (.inl rfl) (pe_join pe_str (pe_lc (own := [("turn", 3)]) (g := (gName 3)) (tt := tYes) (by rfl) sc_law_name.nd (pi_range1 rfl T.range (pa_cons (pe_op op_add pe_int (pe_call c__law_dip.1 (hr.mono (by decide)) rfl c__law_dip.2.1 c__law_dip.2.2.1 c__law_dip.2.2.2 .nil pass0 (pa_cons (pv 0) (pa_cons (pe_call c__law_choose.1 (hr.mono (by decide)) rfl c__law_choose.2.1 c__law_choose.2.2.1 c__law_choose.2.2.2 .nil pass0 (pa_cons (pv 0) (pa_cons (pe_lst (pa_cons pe_int (pa_cons pe_int (pa_cons pe_int pa_nil)))) pa_nil))) pa_nil)))) pa_nil)) (blkOk_by (own := [("turn", 3)]) (N := ["pot", "letters", "word", "turn"]) (sc := defScope s_law_name) (by decide +kernel)) (fun _ _ _ _ _ => pg_name (i := 3) sc_law_name.nd rfl (Or.inl rfl)) (fun _ _ _ _ _ => pts_nil) (fun _ _ _ _ _ => (pe_call c__law_choose.1 (hr.mono (by decide)) rfl c__law_choose.2.1 c__law_choose.2.2.1 c__law_choose.2.2.2 .nil pass0 (pa_cons (pv 0) (pa_cons (pv 1) pa_nil)))))))
      (pss_one (ps_ret (pe_call c__law_choose.1 (hr.mono (by decide)) rfl c__law_choose.2.1 c__law_choose.2.2.1 c__law_choose.2.2.2 .nil pass0 (pa_cons (pv 0) (pa_cons (pe_lst (pa_cons (pv 2) (pa_cons (pv 2) (pa_cons (pv 2) (pa_cons (pv 2) (pa_cons pe_str (pa_cons pe_str (pa_cons pe_str (pa_cons pe_str (pa_cons pe_str (pa_cons pe_str (pa_cons pe_str (pa_cons pe_str pa_nil))))))))))))) pa_nil))))))), ?_⟩
    -- letters
    refine ⟨_, rfl, by show 4 ≤ sizeLine; decide, fun l hl => ⟨p, n, _, _, rfl, hp.same (Same.upd hl), by omega, .inl ⟨l, rfl, hp.ne hl, upd_same⟩, by decide, by decide, fun i v H1 hv hp1 hk1 => ?_⟩⟩
    have hk1 : KpP p H H1 := (Kp.new hl).trans hk1
    have lv : LetV v := by
      have all : ∀ v ∈ ([.str "ijk", .str "abcdefghijklmnopqrstuvwxyz", .str "an", .str "k"] : List V), LetV v := (by repeat (first | exact List.forall_mem_nil _ | refine List.forall_mem_cons.mpr ⟨⟨_, rfl, by decide +kernel⟩, ?_⟩))
      exact all v (List.mem_of_getElem? hv)
    obtain ⟨z, rfl, hz⟩ := lv
    clear hv
    -- how many
    refine ⟨⟨_, rfl⟩, _, rfl, _, rfl, by show 3 ≤ sizeLine; decide, fun l2 hl2 => ⟨p, n + 1, _, _, rfl, hp1.same (Same.upd hl2), by omega, .inl ⟨l2, rfl, hp1.ne hl2, upd_same⟩, by decide, by decide, fun i v H2 hv hp2 hk2 => ?_⟩⟩
    have hk2 : KpP p H H2 := hk1.trans ((Kp.new hl2).trans hk2)
    obtain ⟨m, rfl, hm1, hm2⟩ : ∃ m : Int, v = .int m ∧ 1 ≤ m ∧ m ≤ 8 := by
      have all : ∀ v ∈ ([.int 1, .int 2, .int 8] : List V), ∃ m : Int, v = .int m ∧ 1 ≤ m ∧ m ≤ 8 := (by repeat (first | exact List.forall_mem_nil _ | refine List.forall_mem_cons.mpr ⟨⟨_, rfl, by decide, by decide⟩, ?_⟩))
      exact all v (List.mem_of_getElem? hv)
    clear hv
    refine ⟨p, n + 2, m, rfl, hp2, by omega, by omega, by omega, fun d H3 hd1 hd2 hp3 hk3 => ⟨_, _, rfl, rfl, ?_⟩⟩
    have hk3 : KpP p H H3 := hk2.trans hk3
    have hnn : 0 ≤ 1 + d ∧ 1 + d < 2 ^ 62 := by constructor <;> omega
    refine ⟨_, rfl, by omega, by omega, fun D hD => ?_⟩
    have hDp : D ≠ p := hp3.ne hD
    obtain ⟨hz1, hz2, hz3⟩ := hz
    have el : (signsV z).length = z.length := by unfold signsV; rw [List.length_map, Array.length_toList]; rfl
    refine lc_range (lo := 0) (n := (1 + d).toNat) (fun i Hx => ∃ ys : List Str, Hx D = some (.lst (ys.map V.str)) ∧ ys.length = i ∧ (∀ y ∈ ys, ∃ c, y = ⟨#[c]⟩ ∧ 97 ≤ c ∧ c ≤ 122) ∧ PotAt Hx p (n + 3 + i) ∧ KpP p H Hx)
      ⟨[], upd_same, rfl, (fun y hy => nomatch hy), hp3.same (Same.upd hD), hk3.trans (Kp.new hD)⟩ ?_ ?_
    · rintro i Hx hi ⟨ys, hDx, hyl, hy, hpx, hkx⟩
      refine ⟨rfl, ?_⟩
      refine yes ?_
      refine ⟨_, rfl, _, rfl, p, n + 3 + i, _, _, rfl, hpx, by omega, .inr (.inr ⟨z, rfl, by omega, rfl⟩), by omega, by omega, fun j v H4 hv hp4 hk4 => ?_⟩
      obtain ⟨c, hc, rfl⟩ : ∃ c, c ∈ z.cps.toList ∧ v = .str ⟨#[c]⟩ := by
        have := List.mem_of_getElem? hv
        obtain ⟨c, hc, e⟩ := List.mem_map.mp this
        exact ⟨c, hc, e.symm⟩
      refine ⟨_, hk4.get hDx hDp, by rw [List.length_map, hyl, sizeLine_eq]; omega, ys ++ [⟨#[c]⟩], by rw [upd_same, List.map_append]; rfl, by rw [List.length_append, hyl]; rfl, fun y hy' => ?_, ?_, ?_⟩
      · rcases List.mem_append.mp hy' with h | h
        · exact hy y h
        · exact ⟨c, List.mem_singleton.mp h, hz3 c hc⟩
      · obtain ⟨a1, b1, c1, e1, r1⟩ := hp4
        exact PotAt.mono ⟨a1, b1, c1, by rw [upd_ne hDp.symm]; exact e1, r1⟩ (by omega)
      · refine fun b o hb hbp => ?_
        have hbD : b ≠ D := fun e => by
          have := hk3 b o hb hbp
          rw [e, hD] at this
          cases this
        rw [upd_ne hbD]
        exact hk4 b o (hkx b o hb hbp) hbp
    · rintro H5 ⟨ys, hDx, hyl, hy, hp5, hk5⟩
      have hyl2 : ys.length ≤ 8 := by omega
      refine ⟨_, D, ys, rfl, rfl, .inl (SqL.of hDx), ?_, ?_⟩
      · have : (ys.map (·.length)).sum ≤ ys.length := by
          clear hDx hyl hyl2
          induction ys with
          | nil => exact Nat.le_refl _
          | cons y r ih =>
            obtain ⟨c, rfl, _⟩ := hy y List.mem_cons_self
            rw [List.map_cons, List.sum_cons, List.length_cons]
            have := ih fun z hz => hy z (List.mem_cons_of_mem _ hz)
            have e : (⟨#[c]⟩ : Str).length = 1 := rfl
            omega
        have e0 : (("" : Str)).length = 0 := by decide +kernel
        show (ys.map (·.length)).sum + ys.length * ("" : Str).length ≤ 16777216
        rw [e0]
        omega
      · have hw : NameS (Txt.join "" ys) := nameS_join (by omega) hyl2 hy
        generalize Txt.join "" ys = word at hw
        refine ⟨_, rfl, _, rfl, _, rfl, _, rfl, _, rfl, by show 12 ≤ sizeLine; decide, fun l6 hl6 => ⟨p, n + 11, _, _, rfl, (hp5.mono (by omega)).same (Same.upd hl6), by omega, .inl ⟨l6, rfl, hp5.ne hl6, upd_same⟩, by show 1 ≤ 12; decide, by show 12 ≤ 1000; decide, fun i v H6 hv hp6 hk6 => ?_⟩⟩
        have all : ∀ v ∈ ([.str word, .str word, .str word, .str word, .str "pos", .str "val", .str "all", .str "not", .str "k", .str "kk", .str "wa", .str "end"] : List V), ∃ z, v = .str z ∧ NameS z := (by repeat (first | exact List.forall_mem_nil _ | refine List.forall_mem_cons.mpr ⟨⟨_, rfl, by first | exact hw | decide +kernel⟩, ?_⟩))
        obtain ⟨z6, rfl, hz6⟩ := all v (List.mem_of_getElem? hv)
        exact k z6 H6 hz6 hp6 (hk5.trans ((Kp.new hl6).trans hk6))
end
end Kx
namespace Kx
open PySem PySem.Spec PyProof.Rows L2
/-- a comprehension that changes nothing: the i-th turn adds o i, or nothing -/
theorem lc_o {J : It} {n : Nat} {G : Hp → Prop} {Y : Nat → Hp → V → Hp → Prop} (w : Walk J n G Y) {g : TG} {tt : TT} {te : TE} {vs : List Nat} {σ : L2.St} {H1 : Hp} {D : Addr} {Qd : Hp → Prop} (o : Nat → Option V) (hn : n < sizeLine)
    (hD : H1 D = none) (hG : ∀ H, Same H1 H → G H)
    (hs : ∀ i x H H' (Nx : Hp → Prop), i < n → Same H1 H → H D ≠ none → Y i H x H' → (o i = none → ∀ H3, Same H H3 → Nx H3) → (∀ y, o i = some y → ∀ H4, Same H H4 → ∃ acc, H4 D = some (.lst acc) ∧ acc.length < sizeLine ∧ Nx (upd H4 D (.lst (acc ++ [y])))) →
      g x (wipe σ vs) H' fun σ2 H2 => wipe σ2 vs = wipe σ vs ∧ tt σ2 H2 fun b H3 => if b = true then te σ2 H3 fun y H4 => ∃ acc, H4 D = some (.lst acc) ∧ acc.length < sizeLine ∧ Nx (upd H4 D (.lst (acc ++ [y]))) else Nx H3)
    (hd : ∀ H, Same H1 H → H D = some (.lst ((List.range n).filterMap o)) → Qd H) :
    ∃ W : Nat → Nat → Hp → Prop, (∃ m, W 0 m (upd H1 D (.lst []))) ∧ ∀ i m H, W i m H →
      (J.stop i H ∧ Qd H) ∨ (J.go i H ∧ ∃ Nx : Hp → Prop, (∀ H', Nx H' → ∃ m', m' < m ∧ W (i + 1) m' H') ∧ ∀ x H', J.yld i H x H' → g x (wipe σ vs) H' fun σ2 H2 => wipe σ2 vs = wipe σ vs ∧ tt σ2 H2 fun b H3 =>
        if b = true then te σ2 H3 fun y H4 => ∃ acc, H4 D = some (.lst acc) ∧ acc.length < sizeLine ∧ Nx (upd H4 D (.lst (acc ++ [y]))) else Nx H3) := by
  have off : ∀ {H : Hp} {xs : List V}, Same H1 H → Same H1 (upd H D (.lst xs)) := fun {H xs} h b u e => by
    rw [upd_ne (ne_of_none e hD)]
    exact h b u e
  refine lc_it w (fun i H => Same H1 H ∧ H D = some (.lst ((List.range i).filterMap o))) ⟨Same.upd hD, upd_same⟩ (fun i H _ h => hG H h.1) (fun i x H H' hi h y => ?_) (fun H h => hd H h.1 h.2)
  have step : ∀ (q : Option V), o i = q → (List.range (i + 1)).filterMap o = (List.range i).filterMap o ++ q.toList := fun q e => by
    rw [List.range_succ, List.filterMap_append]
    cases q with
    | none => simp [e]
    | some z => simp [e]
  refine hs i x H H' _ hi h.1 (by rw [h.2]; simp) y (fun e H3 k => ⟨h.1.trans k, ?_⟩) (fun z e H4 k => ⟨_, k _ _ h.2, ?_, off (h.1.trans k), ?_⟩)
  · rw [step none e, k _ _ h.2]
    simp
  · have := List.length_filterMap_le o (List.range i)
    rw [List.length_range] at this
    omega
  · rw [upd_same, step (some z) e]
    rfl
theorem range_bind {α β : Type} (f : α → Option β) : ∀ (xs : List α), (List.range xs.length).filterMap (fun i => xs[i]?.bind f) = xs.filterMap f := fun xs => by
  have key : ∀ k, k ≤ xs.length → (List.range k).filterMap (fun i => xs[i]?.bind f) = (xs.take k).filterMap f := fun k => by
    induction k with
    | zero => intro _; simp
    | succ k ih =>
      intro h
      have hk : k < xs.length := by omega
      rw [List.range_succ, List.filterMap_append, ih (by omega), List.take_succ, List.filterMap_append]
      congr 1
      rw [List.getElem?_eq_getElem hk]
      cases hf : f xs[k] with
      | none => simp [List.getElem?_eq_getElem hk, hf]
      | some b => simp [List.getElem?_eq_getElem hk, hf]
  have := key xs.length (Nat.le_refl _)
  rw [List.take_length] at this
  exact this
theorem nodup_le {α : Type} [DecidableEq α] : ∀ (l m : List α), l.Nodup → (∀ x ∈ l, x ∈ m) → l.length ≤ m.length
  | [], _, _, _ => Nat.zero_le _
  | a :: l, m, hn, h => by
    have ha := h a List.mem_cons_self
    have hn' := List.nodup_cons.mp hn
    have := nodup_le l (m.erase a) hn'.2 fun x hx => by
      have hne : x ≠ a := fun e => hn'.1 (e ▸ hx)
      exact (List.mem_erase_of_ne hne).mpr (h x (List.mem_cons_of_mem _ hx))
    rw [List.length_erase_of_mem ha] at this
    have := List.length_pos_of_mem ha
    rw [List.length_cons]
    omega
section
variable {P : Program} {w : World} {K : PySem.W.Frag} {mg : Str → Option Value} {base : Heap}
theorem eqV_str (a b : Str) : eqV (.str a) (.str b) = decide (a = b) := by
  first
    | rfl
    | (show (a == b) = decide (a = b); by_cases h : a = b <;> simp [h])
theorem inV_str (z : Str) (zs : List Str) : inV (.str z) (zs.map V.str) = decide (z ∈ zs) := by
  unfold inV
  induction zs with
  | nil => simp
  | cons a r ih =>
    rw [List.map_cons, List.any_cons, ih, eqV_str]
    by_cases h : a = z
    · subst h; simp
    · have : ¬ z = a := fun e => h e.symm
      simp [h, this]
theorem flat_strs (zs : List Str) : (zs.map V.str).all flatV = true := by
  rw [List.all_eq_true]
  intro v hv
  obtain ⟨z, _, rfl⟩ := List.mem_map.mp hv
  rfl
/-! ### some different names -/
def abcL : List Nat := [97, 98, 99, 100, 101, 102, 103, 104, 105, 106, 107, 108]
theorem abc_cps : (("abcdefghijkl" : Str)).cps = abcL.toArray := by decide +kernel
theorem qrs_cps : (("qrs" : Str)).cps = #[113, 114, 115] := by decide +kernel
def spareL : List Str := (["q", "r", "s"] : List Str).flatMap fun a => (["a", "b", "c", "d", "e", "f", "g", "h", "i", "j", "k", "l"] : List Str).map fun b => a ++ b
theorem spare_len : spareL.length = 36 := by decide +kernel
theorem spare_nd : spareL.Nodup := by decide +kernel
theorem spare_ok : ∀ z ∈ spareL, NameS z := by decide +kernel
abbrev N_law_names : List Str := ["pot", "many", "found", "spare", "letter", "turn", "name", "other", "one"]
abbrev P_law_names : List Str := ["pot", "many"]
theorem sc_law_names : FnScope N_law_names P_law_names (defScope s_law_names) := ⟨rfl, rfl, rfl, by decide +kernel, rfl, by decide +kernel, by decide +kernel⟩
def spNames : Sp := fun vs H Q _ => ∃ (p : Addr) (n : Nat) (m : Int), vs = [.ref p, .int m] ∧ PotAt H p n ∧ n ≤ 800000 ∧ 0 ≤ m ∧ m ≤ 30 ∧
  ∀ (D : Addr) (zs : List Str) (H' : Hp), H D = none → (zs.length : Int) = m → zs.Nodup → (∀ z ∈ zs, NameS z) → H' D = some (.lst (zs.map V.str)) → PotAt H' p (n + 12 * 30) → KpP p H H' → Q (.ref D) H'
theorem ok_names (T : Bt mg) (h : Has K mg "_law_names" s_law_names) (C1 : Ca P w K mg base 3 "_law_name" P_law_name spName) : Ca P w K mg base 4 "_law_names" P_law_names spNames := by
  obtain ⟨_, _, c__law_name⟩ := C1
  refine cal_of h sc_law_names (fun _ _ _ _ _ _ us hl => match us, hl with | [_, _], _ => rfl) (fun vs H Q E h => ?_) (fun f cdv A outer s H vs Q E hr h => ?_)
  · obtain ⟨p, n, m, rfl, _⟩ := h
    rfl
  · obtain ⟨p, n, m, rfl, hp, hn, hm0, hm1, k⟩ := h
    refine ⟨_, (pss_cons (ps_asg (pe_tupF (pa_cons (pe_lst pa_nil) (pa_cons (pe_lst pa_nil) pa_nil))) (pg_tup (by rfl) (pgs_cons (pg_name (i := 2) sc_law_names.nd rfl (.inr rfl)) (pgs_cons (pg_name (i := 3) sc_law_names.nd rfl (.inl rfl)) pgs_nil))))
      (pss_cons (ps_for PassesOwn.never rfl (pi_str pe_str) (pg_name (i := 4) sc_law_names.nd rfl (.inr rfl))
        (pss_one (ps_set (i := 3) sc_law_names.nd rfl (.inl rfl) (pe_op op_cat (pv 3) (pe_lc (own := [("other", 7)]) (g := (gName 7)) (tt := tYes) (by rfl) sc_law_names.nd (pi_str pe_str) (blkOk_by (own := [("other", 7)]) (N := ["pot", "many", "found", "spare", "letter", "turn", "name", "other", "one"]) (sc := defScope s_law_names) (by decide +kernel)) (fun _ _ _ _ _ => pg_name (i := 7) sc_law_names.nd rfl (Or.inl rfl)) (fun _ _ _ _ _ => pts_nil) (fun _ _ _ _ _ => (pe_op op_add_str (pv 4) (pv 7))))))))
      (pss_cons (ps_for PassesOwn.never rfl (pi_range1 rfl T.range (pa_cons (pv 1) pa_nil)) (pg_name (i := 5) sc_law_names.nd rfl (.inl rfl))
        (pss_cons (ps_set (i := 6) sc_law_names.nd rfl (.inl rfl) (pe_call c__law_name.1 (hr.mono (by decide)) rfl c__law_name.2.1 c__law_name.2.2.1 c__law_name.2.2.2 .nil pass0 (pa_cons (pv 0) pa_nil)))
        (pss_one (ps_expr (pe_bm PySem.F.plainAttrs_list PySem.F.slot_list_append PySem.F.type_list_append mt_append (pv 2) (pa_cons (pe_ifExp (pt_cmpR op_notIn_seq (pv 6) (pv 2) rfl) (pv 6) (pe_ix ix_list (pe_lc (own := [("one", 8)]) (g := (gName 8)) (by rfl) sc_law_names.nd (pi_list (pv 3)) (blkOk_by (own := [("one", 8)]) (N := ["pot", "many", "found", "spare", "letter", "turn", "name", "other", "one"]) (sc := defScope s_law_names) (by decide +kernel)) (fun _ _ _ _ _ => pg_name (i := 8) sc_law_names.nd rfl (Or.inl rfl)) (fun _ _ _ _ _ => pts_one (pt_cmpR (show OpR _ (compareOp .NotIn) (rIn K true) from op_notIn_seq) (pv 8) (pv 2) rfl)) (fun _ _ _ _ _ => (pv 8))) pe_int (fun _ _ => rfl))) pa_nil))))))
      (pss_one (ps_ret (pv 2)))))), ?_⟩
    refine ⟨Nat.zero_le _, fun F0 hF0 => ⟨Nat.zero_le _, fun S0 hS0 => ⟨by show 2 ≤ sizeLine; decide, fun t H1 hs1 ht1 => ⟨_, _, rfl, ht1.sq, rfl, ?_⟩⟩⟩⟩
    have hF1 : H1 F0 = some (.lst []) := hs1 _ _ (by rw [upd_ne (ne_of_none upd_same hS0)]; exact upd_same)
    have hS1 : H1 S0 = some (.lst []) := hs1 _ _ upd_same
    have sm1 : Same H H1 := (Same.upd hF0).trans ((Same.upd hS0).trans hs1)
    have nFp : F0 ≠ p := hp.ne hF0
    have nSp : S0 ≠ p := (hp.same (Same.upd hF0)).ne hS0
    -- spare
    refine ⟨_, _, rfl, _, _, rfl, rfl, _, rfl, for_it walk_str (fun i σ Hx => ∃ (S : Addr) (v4 : Option V), σ = [some (.ref p), some (.int m), some (.ref F0), some (.ref S), v4, none, none, none, none] ∧ Same H1 Hx ∧ Hx S = some (.lst ((spareL.take (12 * i)).map V.str)) ∧ S ≠ p ∧ S ≠ F0)
      ⟨S0, none, rfl, Same.refl, hS1, nSp, fun e => by rw [e, upd_same] at hS0; cases hS0⟩ (fun _ _ _ _ _ => trivial) ?_ ?_⟩
    · rintro i x σ Hx H' hi ⟨S, v4, rfl, sm, hS, nS, nSF⟩ ⟨rfl, c, hc, rfl⟩
      refine ⟨_, rfl, _, rfl, fun D hD => ?_⟩
      refine lc_o walk_str (fun j => (abcL[j]?).map fun d => V.str (⟨#[c]⟩ ++ ⟨#[d]⟩)) (by rw [abc_cps, sizeLine_eq]; decide) hD (fun _ _ => trivial) ?_ ?_
      · rintro j y Hy H'' Nx hj smy hDy ⟨rfl, d, hd, rfl⟩ hno hyes
        refine ⟨rfl, yes ⟨_, rfl, _, rfl, _, _, rfl, rfl, by rw [sizeLine_eq]; show 1 + 1 ≤ _; omega, ?_⟩⟩
        rw [abc_cps, List.getElem?_toArray] at hd
        exact hyes _ (by rw [hd]; rfl) _ Same.refl
      · intro Hy smy hDy
        refine ⟨_, _, _, _, rfl, rfl, smy _ _ hS, hDy, ?_, fun p' hp' => ?_⟩
        · have := List.length_filterMap_le (fun j => (abcL[j]?).map fun d => V.str (⟨#[c]⟩ ++ ⟨#[d]⟩)) (List.range ("abcdefghijkl" : Str).cps.size)
          rw [List.length_range, abc_cps] at this
          rw [List.length_map, List.length_take, spare_len, sizeLine_eq, abc_cps]
          have e : abcL.toArray.size = 12 := rfl
          omega
        · have nn : ∀ b o, Hy b = some o → b ≠ p' := fun b o e => ne_of_none e hp'
          refine ⟨p', _, rfl, (sm.trans smy).trans (Same.upd hp'), ?_, ?_, ?_⟩
          · rw [upd_same]
            congr 2
            have three : i < 3 := by rw [qrs_cps] at hi; exact hi
            rw [qrs_cps] at hc
            rw [abc_cps]
            rcases (show i = 0 ∨ i = 1 ∨ i = 2 by omega) with rfl | rfl | rfl
            · obtain rfl : 113 = c := by simpa using hc
              decide +kernel
            · obtain rfl : 114 = c := by simpa using hc
              decide +kernel
            · obtain rfl : 115 = c := by simpa using hc
              decide +kernel
          · obtain ⟨a1, b1, c1, e1, _⟩ := hp.same (sm1.trans (sm.trans smy))
            exact (nn _ _ e1).symm
          · exact (nn _ _ ((sm.trans smy) _ _ hF1)).symm
    · rintro σ Hx ⟨S, v4, rfl, sm, hS, nS, nSF⟩
      have e36 : (spareL.take (12 * ("qrs" : Str).cps.size)) = spareL := by rw [qrs_cps]; decide +kernel
      rw [e36] at hS
      -- the names
      refine ⟨_, rfl, m, rfl, by omega, by omega, for_it (walk_range (lo := 0) (n := m.toNat)) (fun i σ Hx => ∃ (v4 v5 v6 : Option V) (zs : List Str), σ = [some (.ref p), some (.int m), some (.ref F0), some (.ref S), v4, v5, v6, none, none] ∧
        Hx F0 = some (.lst (zs.map V.str)) ∧ Hx S = some (.lst (spareL.map V.str)) ∧ zs.length = i ∧ zs.Nodup ∧ (∀ z ∈ zs, NameS z) ∧ PotAt Hx p (n + 12 * i) ∧ KpP p H Hx)
        ⟨v4, none, none, [], rfl, sm _ _ hF1, hS, rfl, List.nodup_nil, (fun z hz => nomatch hz), hp.same (sm1.trans sm), Kp.same (sm1.trans sm)⟩ (fun _ _ _ _ _ => trivial) ?_ ?_⟩
      · rintro i x σ Hy H' hi ⟨v4, v5, v6, zs, rfl, hF, hSy, hl, hnd, hok, hpy, hky⟩ ⟨rfl, rfl⟩
        refine ⟨_, rfl, p, n + 12 * i, rfl, hpy, by omega, fun z H2 hz hp2 hk2 => ?_⟩
        have hF2 := hk2.get hF nFp
        have hS2 := hk2.get hSy nS
        have fin : ∀ (y : Str) (H3 : Hp), y ∉ zs → NameS y → Same H2 H3 → ∃ (v4' v5' v6' : Option V) (zs' : List Str), [some (V.ref p), some (.int m), some (.ref F0), some (.ref S), v4, some (.int (0 + (i : Int))), some (.str z), none, none] = [some (.ref p), some (.int m), some (.ref F0), some (.ref S), v4', v5', v6', none, none] ∧
            (upd H3 F0 (.lst (zs.map V.str ++ [.str y]))) F0 = some (.lst (zs'.map V.str)) ∧ (upd H3 F0 (.lst (zs.map V.str ++ [.str y]))) S = some (.lst (spareL.map V.str)) ∧ zs'.length = i + 1 ∧ zs'.Nodup ∧ (∀ z ∈ zs', NameS z) ∧
            PotAt (upd H3 F0 (.lst (zs.map V.str ++ [.str y]))) p (n + 12 * (i + 1)) ∧ KpP p H (upd H3 F0 (.lst (zs.map V.str ++ [.str y]))) := fun y H3 hy hyo sm3 => by
          refine ⟨v4, _, _, zs ++ [y], rfl, by rw [upd_same, List.map_append]; rfl, by rw [upd_ne nSF]; exact sm3 _ _ hS2, by rw [List.length_append, hl]; rfl, ?_, ?_, ?_, ?_⟩
          · exact List.nodup_append.mpr ⟨hnd, List.nodup_cons.mpr ⟨List.not_mem_nil, List.nodup_nil⟩, fun a ha b hb => by
              rw [List.mem_singleton.mp hb]
              exact fun e => hy (e ▸ ha)⟩
          · intro w hw
            rcases List.mem_append.mp hw with h | h
            · exact hok w h
            · rw [List.mem_singleton.mp h]; exact hyo
          · obtain ⟨a1, b1, c1, e1, r1⟩ := hp2.same sm3
            exact PotAt.mono ⟨a1, b1, c1, by rw [upd_ne nFp.symm]; exact e1, r1⟩ (by omega)
          · intro b o hb hbp
            rw [upd_ne (ne_of_none hb hF0)]
            exact sm3 _ _ (hk2 b o (hky b o hb hbp) hbp)
        have hsz : (zs.map V.str).length < sizeLine := by rw [List.length_map, hl, sizeLine_eq]; omega
        refine ⟨_, rfl, .inl ⟨rfl, _, SqL.of hF2⟩, _, rfl, _, rfl, F0, _, rfl, .inl (SqL.of hF2), rfl, flat_strs _, _, rfl, ?_⟩
        by_cases hin : z ∈ zs
        · rw [inV_str, decide_eq_true hin]
          refine iteF ?_
          refine ⟨_, rfl, S, rfl, ⟨_, SqL.of hS2⟩, fun D hD => lc_o (walk_list (K := K) (a := S) (xs := spareL.map V.str)) (fun j => spareL[j]?.bind fun y => if y ∈ zs then none else some (V.str y)) (by rw [List.length_map, spare_len, sizeLine_eq]; decide) hD (fun Hq sq => SqL.of (sq _ _ hS2)) ?_ ?_⟩
          · rintro j x Hq H'' Nx hj sq hDne ⟨rfl, hx⟩ hno hyes
            rw [List.getElem?_map] at hx
            cases ey : spareL[j]? with
            | none => rw [ey] at hx; cases hx
            | some y =>
              rw [ey] at hx
              cases hx
              refine ⟨rfl, _, rfl, _, rfl, F0, _, rfl, .inl (SqL.of (sq _ _ hF2)), rfl, flat_strs _, _, rfl, ?_⟩
              by_cases hy : y ∈ zs
              · rw [inV_str, decide_eq_true hy]
                refine iteF (hno ?_ _ Same.refl)
                rw [ey]
                simp [hy]
              · rw [inV_str, decide_eq_false hy]
                refine iteT ⟨_, rfl, hyes _ ?_ _ Same.refl⟩
                rw [ey]
                simp [hy]
          · intro Hq sq hDq
            have e1 : ((List.range (spareL.map V.str).length).filterMap fun j => spareL[j]?.bind fun y => if y ∈ zs then none else some (V.str y)) = spareL.filterMap fun y => if y ∈ zs then none else some (V.str y) := by
              rw [List.length_map]
              exact range_bind _ _
            rw [e1] at hDq
            cases eq : spareL.filterMap (fun y => if y ∈ zs then none else some (V.str y)) with
            | nil =>
              exfalso
              have hall : ∀ y ∈ spareL, y ∈ zs := fun y hy => by
                by_cases h : y ∈ zs
                · exact h
                · have : V.str y ∈ spareL.filterMap (fun y => if y ∈ zs then none else some (V.str y)) := List.mem_filterMap.mpr ⟨y, hy, by rw [if_neg h]⟩
                  rw [eq] at this
                  cases this
              have := nodup_le spareL zs spare_nd hall
              rw [spare_len] at this
              omega
            | cons v vs =>
              rw [eq] at hDq
              obtain ⟨y, hy, hv⟩ := List.mem_filterMap.mp (show v ∈ spareL.filterMap (fun y => if y ∈ zs then none else some (V.str y)) from by rw [eq]; exact List.mem_cons_self)
              by_cases hyz : y ∈ zs
              · rw [if_pos hyz] at hv
                cases hv
              · rw [if_neg hyz] at hv
                cases hv
                exact ⟨D, _, _, _, rfl, rfl, SqL.of hDq, atI_nat (j := 0) rfl, F0, _, _, rfl, rfl, sq _ _ hF2, hsz, fin y Hq hyz (spare_ok y hy) sq⟩
        · rw [inV_str, decide_eq_false hin]
          refine iteT ?_
          refine ⟨_, rfl, F0, _, _, rfl, rfl, hF2, hsz, ?_⟩
          exact fin z H2 hin hz Same.refl
      · rintro σ Hy ⟨v4, v5, v6, zs, rfl, hF, hSy, hl, hnd, hok, hpy, hky⟩
        exact ⟨_, rfl, k F0 zs Hy hF0 (by omega) hnd hok hF (hpy.mono (by omega)) hky⟩
end
end Kx
namespace Kx
open PySem PySem.Spec PyProof.Rows L2
def uniqF (acc : List Str) (x : Str) : List Str := if x ∈ acc then acc else acc ++ [x]
/-- each once, where it stands first -/
def uniq (l : List Str) : List Str := l.foldl uniqF []
def pairD (q : Str × Str) : PyData := .tuple [.str q.1, .str q.2]
theorem uniqF_nd {acc : List Str} {x : Str} (h : acc.Nodup) : (uniqF acc x).Nodup := by
  unfold uniqF
  split
  · exact h
  · rename_i hx
    exact List.nodup_append.mpr ⟨h, List.nodup_cons.mpr ⟨List.not_mem_nil, List.nodup_nil⟩, fun a ha b hb e => hx (by rw [List.mem_singleton.mp hb] at e; exact e ▸ ha)⟩
theorem uniq_gen (l : List Str) : ∀ acc : List Str, acc.Nodup → (l.foldl uniqF acc).Nodup ∧ ∀ z, z ∈ l.foldl uniqF acc ↔ z ∈ acc ∨ z ∈ l := by
  induction l with
  | nil => intro acc h; exact ⟨h, fun z => by simp⟩
  | cons x r ih =>
    intro acc h
    obtain ⟨h1, h2⟩ := ih (uniqF acc x) (uniqF_nd h)
    refine ⟨h1, fun z => (h2 z).trans ?_⟩
    unfold uniqF
    split
    · rename_i hx
      rw [List.mem_cons]
      refine ⟨fun q => q.elim .inl fun q => .inr (.inr q), fun q => q.elim .inl fun q => q.elim (fun e => .inl (e ▸ hx)) .inr⟩
    · rw [List.mem_append, List.mem_singleton, List.mem_cons, or_assoc]
theorem uniq_nd (l : List Str) : (uniq l).Nodup := (uniq_gen l [] List.nodup_nil).1
theorem uniq_mem (l : List Str) (z : Str) : z ∈ uniq l ↔ z ∈ l := by
  have := (uniq_gen l [] List.nodup_nil).2 z
  exact this.trans (by simp)
theorem uniqF_len (acc : List Str) (x : Str) : (uniqF acc x).length ≤ acc.length + 1 := by
  unfold uniqF
  split <;> simp
theorem uniq_take (l : List Str) (i : Nat) (h : i < l.length) : uniq (l.take (i + 1)) = uniqF (uniq (l.take i)) l[i] := by
  unfold uniq
  rw [List.take_succ, List.getElem?_eq_getElem h, List.foldl_append]
  rfl
theorem uniq_len (l : List Str) : (uniq l).length ≤ l.length := by
  refine nodup_le _ _ (uniq_nd l) fun x hx => (uniq_mem l x).mp hx
theorem Dv.pairI {ex : Addr → Prop} {H : Hp} {v : V} {q : Str × Str} (h : Dv ex H v (pairD q)) : ∃ b, v = .ref b ∧ TupF H b [.str q.1, .str q.2] := by
  obtain ⟨b, xs, rfl, ht, l⟩ := h.tupI
  cases l with
  | cons a l =>
    cases l with
    | cons a2 l =>
      cases l
      rw [a.strI, a2.strI] at ht
      exact ⟨b, rfl, ht⟩
section
variable {P : Program} {w : World} {K : PySem.W.Frag} {mg : Str → Option Value} {base : Heap}
abbrev N_law_lengths : List Str := ["pairs", "found", "name", "length"]
abbrev P_law_lengths : List Str := ["pairs"]
theorem sc_law_lengths : FnScope N_law_lengths P_law_lengths (defScope s_law_lengths) := ⟨rfl, rfl, rfl, by decide +kernel, rfl, by decide +kernel, by decide +kernel⟩
def spLengths : Sp := fun vs H Q _ => ∃ (ex : Addr → Prop) (v : V) (ps : List (Str × Str)), vs = [v] ∧ Dv ex H v (.tuple (ps.map pairD)) ∧ ps.length ≤ 100 ∧
  ∀ (D : Addr) (H' : Hp), H D = none → Same H H' → H' D = some (.lst ((uniq (ps.map (·.2))).map V.str)) → Q (.ref D) H'
theorem ok_lengths (T : Bt mg) (h : Has K mg "_law_lengths" s_law_lengths) : Ca P w K mg base 1 "_law_lengths" P_law_lengths spLengths := by
  refine cal_of h sc_law_lengths (fun _ _ _ _ _ _ us hl => match us, hl with | [_], _ => rfl) (fun vs H Q E h => ?_) (fun f cdv A outer s H vs Q E hr h => ?_)
  · obtain ⟨ex, v, ps, rfl, _⟩ := h
    rfl
  · obtain ⟨ex, v, ps, rfl, dv, hl, k⟩ := h
    obtain ⟨a, xs, rfl, ht, hd⟩ := dv.tupI
    have hxl := hd.len
    rw [List.length_map] at hxl
    refine ⟨_, (pss_cons (ps_set (i := 1) sc_law_lengths.nd rfl (.inl rfl) (pe_lst pa_nil))
      (pss_cons (ps_for PassesOwn.never rfl (pi_tup (pv 0)) (pg_tup (by rfl) (pgs_cons (pg_name (i := 2) sc_law_lengths.nd rfl (.inl rfl)) (pgs_cons (pg_name (i := 3) sc_law_lengths.nd rfl (.inl rfl)) pgs_nil)))
        (pss_one (ps_if (pt_cmpR op_notIn_seq (pv 3) (pv 1) rfl) (pss_one (ps_expr (pe_bm PySem.F.plainAttrs_list PySem.F.slot_list_append PySem.F.type_list_append mt_append (pv 1) (pa_cons (pv 3) pa_nil)))) pss_nil)))
      (pss_one (ps_ret (pv 1))))), ?_⟩
    refine ⟨Nat.zero_le _, fun D hD => ⟨_, rfl, a, rfl, ⟨_, (show TupF (upd H D (.lst [])) a xs from (Kp.new (ex := ex) hD).tup ht).sq⟩, for_it (walk_tup (K := K) (a := a) (xs := xs)) (fun i σ Hx => ∃ (v2 v3 : Option V), σ = [some (.ref a), some (.ref D), v2, v3] ∧ Same H Hx ∧ Hx D = some (.lst ((uniq ((ps.map (·.2)).take i)).map V.str)))
      ⟨none, none, rfl, Same.upd hD, upd_same⟩ (fun i σ Hx _ ⟨_, _, _, sm, _⟩ => ((Kp.same (ex := ex) sm).tup ht).sq) ?_ ?_⟩⟩
    · rintro i x σ Hx H' hi ⟨v2, v3, rfl, sm, hDx⟩ ⟨rfl, hx⟩
      obtain ⟨e, he, dve⟩ := hd.get hx
      rw [List.getElem?_map] at he
      have hi' : i < ps.length := by omega
      rw [List.getElem?_eq_getElem hi'] at he
      cases he
      obtain ⟨b, rfl, hb⟩ := dve.pairI
      have hmap : i < (ps.map (·.2)).length := by rw [List.length_map]; exact hi'
      have e2 : (ps.map (·.2))[i] = ps[i].2 := List.getElem_map _
      have hsz : ((uniq ((ps.map (·.2)).take i)).map V.str).length < sizeLine := by
        have := uniq_len ((ps.map (·.2)).take i)
        rw [List.length_take, List.length_map] at this
        rw [List.length_map, sizeLine_eq]
        omega
      refine ⟨b, _, rfl, ((Kp.same (ex := ex) sm).tup hb).sq, rfl, _, _, rfl, _, _, rfl, rfl, ?_⟩
      refine ⟨_, rfl, _, rfl, D, _, rfl, .inl (SqL.of hDx), rfl, flat_strs _, _, rfl, ?_⟩
      by_cases hin : ps[i].2 ∈ uniq ((ps.map (·.2)).take i)
      · rw [inV_str, decide_eq_true hin]
        refine iteF ⟨_, _, rfl, sm, ?_⟩
        rw [uniq_take _ i hmap, e2, uniqF, if_pos hin]
        exact hDx
      · rw [inV_str, decide_eq_false hin]
        refine iteT ⟨_, rfl, .inl ⟨rfl, _, SqL.of hDx⟩, _, rfl, D, _, _, rfl, rfl, hDx, hsz, _, _, rfl, ?_, ?_⟩
        · intro b o hb
          rw [upd_ne (ne_of_none hb hD)]
          exact sm b o hb
        · rw [upd_same, uniq_take _ i hmap, e2, uniqF, if_neg hin, List.map_append]
          rfl
    · rintro σ Hx ⟨v2, v3, rfl, sm, hDx⟩
      refine ⟨_, rfl, k D Hx hD sm ?_⟩
      rw [hDx, List.take_of_length_le (by rw [List.length_map]; omega)]
/-! ### the parts of a frame -/
theorem cut_take (xs : List V) (i : Int) (h : 0 ≤ i) : cutV xs none (some i) = xs.take i.toNat := by
  obtain ⟨j, rfl⟩ : ∃ j : Nat, i = j := ⟨i.toNat, by omega⟩
  unfold cutV
  rw [HT.sIx_nat]
  show (xs.drop 0).take (min j xs.length - 0) = _
  rw [List.drop_zero, Nat.sub_zero, List.take_eq_take_iff]
  simp
theorem cut_drop (xs : List V) (i : Int) (h : 0 ≤ i) : cutV xs (some i) none = xs.drop i.toNat := by
  obtain ⟨j, rfl⟩ : ∃ j : Nat, i = j := ⟨i.toNat, by omega⟩
  unfold cutV
  rw [HT.sIx_nat]
  show (xs.drop (min j xs.length)).take (xs.length - min j xs.length) = xs.drop j
  rw [List.take_of_length_le (by rw [List.length_drop]; omega)]
  by_cases hj : j ≤ xs.length
  · rw [Nat.min_eq_left hj]
  · rw [Nat.min_eq_right (by omega), List.drop_length, List.drop_of_length_le (by omega)]
/-- the parts of a frame are right -/
def Good (ps : List (Str × Str)) (ns vs : List Str) : Prop :=
  ps.length ≤ 12 ∧ ns.length ≤ 6 ∧ vs.length ≤ 6 ∧ (∀ z ∈ ps.map (·.1) ++ (ps.map (·.2) ++ (ns ++ vs)), NameS z) ∧ (ps.map (·.1) ++ (uniq (ps.map (·.2)) ++ (ns ++ vs))).Nodup
theorem good_of {zs : List Str} {qs : List (Str × Str)} {M N s1 s2 : Nat} (hnd : zs.Nodup) (hok : ∀ z ∈ zs, NameS z) (hl : zs.length = M + N + s1 + s2) (hM : M ≤ 12) (h1 : s1 ≤ 6) (h2 : s2 ≤ 6)
    (ha : qs.map (·.1) = zs.take M) (hb : ∀ q ∈ qs, q.2 ∈ (zs.drop M).take N) : Good qs ((zs.drop (M + N)).take s1) ((zs.drop (M + N)).drop s1) := by
  have split : zs = zs.take M ++ ((zs.drop M).take N ++ zs.drop (M + N)) := by
    rw [← List.drop_drop, List.take_append_drop, List.take_append_drop]
  have hq : qs.length ≤ 12 := by
    have := congrArg List.length ha
    rw [List.length_map, List.length_take] at this
    omega
  have hsub : ∀ z ∈ qs.map (·.2), z ∈ (zs.drop M).take N := fun z hz => by
    obtain ⟨q, hq, rfl⟩ := List.mem_map.mp hz
    exact hb q hq
  have inz : ∀ z, z ∈ zs.take M ∨ z ∈ (zs.drop M).take N ∨ z ∈ zs.drop (M + N) → z ∈ zs := fun z hz => by
    rw [split]
    rw [List.mem_append, List.mem_append]
    exact hz
  refine ⟨hq, ?_, ?_, ?_, ?_⟩
  · rw [List.length_take]; omega
  · rw [List.length_drop, List.length_drop]; omega
  · intro z hz
    rw [List.take_append_drop, ha, List.mem_append, List.mem_append] at hz
    refine hok z (inz z ?_)
    rcases hz with h | h | h
    · exact .inl h
    · exact .inr (.inl (hsub z h))
    · exact .inr (.inr h)
  · rw [List.take_append_drop, ha]
    rw [split] at hnd
    obtain ⟨n1, n2, n3⟩ := List.nodup_append.mp hnd
    obtain ⟨n4, n5, n6⟩ := List.nodup_append.mp n2
    refine List.nodup_append.mpr ⟨n1, List.nodup_append.mpr ⟨uniq_nd _, n5, fun a h1 b h2 => n6 a (hsub a ((uniq_mem _ a).mp h1)) b h2⟩, fun a h1 b h2 => n3 a h1 b ?_⟩
    rcases List.mem_append.mp h2 with h | h
    · exact List.mem_append.mpr (.inl (hsub b ((uniq_mem _ b).mp h)))
    · exact List.mem_append.mpr (.inr h)
theorem DvL.snoc {ex : Addr → Prop} {H : Hp} {xs : List V} {ds : List PyData} {v : V} {d : PyData} (h : DvL ex H xs ds) (a : Dv ex H v d) : DvL ex H (xs ++ [v]) (ds ++ [d]) := h.app (.cons a .nil)
abbrev N_law_parts : List Str := ["pot", "top", "most", "many", "sizes", "lengths", "names", "pairs", "rest", "at", "name"]
abbrev P_law_parts : List Str := ["pot", "top", "most"]
theorem sc_law_parts : FnScope N_law_parts P_law_parts (defScope s_law_parts) := ⟨rfl, rfl, rfl, by decide +kernel, rfl, by decide +kernel, by decide +kernel⟩
def spParts : Sp := fun vs H Q _ => ∃ (p : Addr) (n : Nat) (t m : Int), vs = [.ref p, .int t, .int m] ∧ PotAt H p n ∧ n ≤ 700000 ∧ 0 ≤ t ∧ t ≤ 12 ∧ 0 ≤ m ∧ m ≤ 6 ∧
  ∀ (R : Addr) (x y z : V) (ps : List (Str × Str)) (ns vs : List Str) (H' : Hp), H R = none → H' R = some (.lst [x, y, z]) → Good ps ns vs → (∀ ex, Dv ex H' x (.tuple (ps.map pairD))) → (∀ ex, Dv ex H' y (.tuple (ns.map .str))) → (∀ ex, Dv ex H' z (.tuple (vs.map .str))) →
    PotAt H' p (n + 400) → KpP p H H' → Q (.ref R) H'
theorem ok_parts (T : Bt mg) (h : Has K mg "_law_parts" s_law_parts) (C1 : Ca P w K mg base 1 "_law_dip" P_law_dip spDip) (C2 : Ca P w K mg base 4 "_law_names" P_law_names spNames) : Ca P w K mg base 5 "_law_parts" P_law_parts spParts := by
  obtain ⟨_, _, c__law_dip⟩ := C1
  obtain ⟨_, _, c__law_names⟩ := C2
  refine cal_of h sc_law_parts (fun _ _ _ _ _ _ us hl => match us, hl with | [_, _, _], _ => rfl) (fun vs H Q E h => ?_) (fun f cdv A outer s H vs Q E hr h => ?_)
  · obtain ⟨p, n, t, m, rfl, _⟩ := h
    rfl
  · obtain ⟨p, n, t, m, rfl, hp, hn, ht0, ht1, hm0, hm1, k⟩ := h
    refine ⟨_, (pss_cons (ps_set (i := 3) sc_law_parts.nd rfl (.inl rfl) (pe_call c__law_dip.1 (hr.mono (by decide)) rfl c__law_dip.2.1 c__law_dip.2.2.1 c__law_dip.2.2.2 .nil pass0 (pa_cons (pv 0) (pa_cons (pe_op op_add (pv 1) pe_int) pa_nil))))
      (pss_cons (ps_set (i := 4) sc_law_parts.nd rfl (.inl rfl) (pe_lst (pa_cons (pe_call c__law_dip.1 (hr.mono (by decide)) rfl c__law_dip.2.1 c__law_dip.2.2.1 c__law_dip.2.2.2 .nil pass0 (pa_cons (pv 0) (pa_cons (pe_op op_add (pv 2) pe_int) pa_nil))) (pa_cons (pe_call c__law_dip.1 (hr.mono (by decide)) rfl c__law_dip.2.1 c__law_dip.2.2.1 c__law_dip.2.2.2 .nil pass0 (pa_cons (pv 0) (pa_cons (pe_op op_add (pv 2) pe_int) pa_nil))) pa_nil))))
      (pss_cons (ps_set (i := 5) sc_law_parts.nd rfl (.inl rfl) (pe_callB (call_max2 rfl) (by rfl) T.max (by decide +kernel) (pa_cons pe_int (pa_cons (pe_callB (call_min2 rfl) (by rfl) T.min (by decide +kernel) (pa_cons (pv 3) (pa_cons (pe_op op_add pe_int (pe_call c__law_dip.1 (hr.mono (by decide)) rfl c__law_dip.2.1 c__law_dip.2.2.1 c__law_dip.2.2.2 .nil pass0 (pa_cons (pv 0) (pa_cons pe_int pa_nil)))) pa_nil))) pa_nil))))
      (pss_cons (ps_set (i := 6) sc_law_parts.nd rfl (.inl rfl) (pe_call c__law_names.1 (hr.mono (by decide)) rfl c__law_names.2.1 c__law_names.2.2.1 c__law_names.2.2.2 .nil pass0 (pa_cons (pv 0) (pa_cons (pe_op op_add (pe_op op_add (pe_op op_add (pv 3) (pv 5)) (pe_ix ix_list (pv 4) pe_int (fun _ _ => rfl))) (pe_ix ix_list (pv 4) pe_int (fun _ _ => rfl))) pa_nil))))
      (pss_cons (ps_par (i := 7) (j := 8) (by rfl) sc_law_parts.nd rfl rfl (by decide) rfl rfl (pa_cons (pe_lst pa_nil) (pa_cons (pe_slice sl_list (pv 6) (po_some (pe_op op_add (pv 3) (pv 5))) po_none) pa_nil)) (by rfl))
      (pss_cons (ps_for PassesOwn.never rfl (pi_enum (by rfl) T.enumerate (pa_cons (pe_slice sl_list (pv 6) po_none (po_some (pv 3))) pa_nil)) (pg_tup (by rfl) (pgs_cons (pg_name (i := 9) sc_law_parts.nd rfl (.inl rfl)) (pgs_cons (pg_name (i := 10) sc_law_parts.nd rfl (.inl rfl)) pgs_nil)))
        (pss_one (ps_expr (pe_bm PySem.F.plainAttrs_list PySem.F.slot_list_append PySem.F.type_list_append mt_append (pv 7) (pa_cons (pe_tupF (pa_cons (pv 10) (pa_cons (pe_ix ix_list (pv 6) (pe_op op_add (pv 3) (pe_ifExp (pt_cmpR op_lt (pv 9) (pv 5) (nomark _)) (pv 9) (pe_call c__law_dip.1 (hr.mono (by decide)) rfl c__law_dip.2.1 c__law_dip.2.2.1 c__law_dip.2.2.2 .nil pass0 (pa_cons (pv 0) (pa_cons (pv 5) pa_nil))))) (fun _ _ => rfl)) pa_nil))) pa_nil)))))
      (pss_one (ps_ret (pe_lst (pa_cons (pe_callTy call_tupF (by rfl) T.tuple (by decide +kernel) (pa_cons (pv 7) pa_nil)) (pa_cons (pe_callTy call_tupF (by rfl) T.tuple (by decide +kernel) (pa_cons (pe_slice sl_list (pv 8) po_none (po_some (pe_ix ix_list (pv 4) pe_int (fun _ _ => rfl)))) pa_nil)) (pa_cons (pe_callTy call_tupF (by rfl) T.tuple (by decide +kernel) (pa_cons (pe_slice sl_list (pv 8) (po_some (pe_ix ix_list (pv 4) pe_int (fun _ _ => rfl))) po_none) pa_nil)) pa_nil)))))))))))), ?_⟩
    -- many, sizes, lengths
    refine ⟨_, rfl, _, rfl, _, _, rfl, rfl, p, n, _, rfl, hp, by omega, by omega, by omega, fun many H1 a0 a1 hp1 hk1 => ?_⟩
    refine ⟨_, rfl, _, rfl, _, _, rfl, rfl, p, n + 1, _, rfl, hp1, by omega, by omega, by omega, fun s1 H2 b0 b1 hp2 hk2 => ⟨_, rfl, _, rfl, _, _, rfl, rfl, p, n + 2, _, rfl, hp2, by omega, by omega, by omega, fun s2 H3 c0 c1 hp3 hk3 => ⟨by show 2 ≤ sizeLine; decide, fun SZ hSZ => ?_⟩⟩⟩
    refine ⟨_, rfl, _, rfl, p, n + 3, 3, rfl, hp3.same (Same.upd hSZ), by omega, by decide, by decide, fun d H4 d0 d1 hp4 hk4 => ⟨_, _, rfl, rfl, _, _, rfl, _, _, rfl, ?_⟩⟩
    generalize hL : (if (if 1 + d < many then 1 + d else many) > 1 then (if 1 + d < many then 1 + d else many) else 1) = L
    have hL2 : 1 ≤ L ∧ L ≤ 3 := by
      rw [← hL]
      split <;> (try split) <;> (constructor <;> (try split) <;> omega)
    have nSp : SZ ≠ p := hp3.ne hSZ
    have hS4 : H4 SZ = some (.lst [.int s1, .int s2]) := hk4.get upd_same nSp
    have k4 : KpP p H H4 := hk1.trans (hk2.trans (hk3.trans ((Kp.new hSZ).trans hk4)))
    -- names
    refine ⟨_, rfl, _, rfl, _, rfl, _, _, rfl, rfl, _, rfl, SZ, _, _, _, rfl, rfl, SqL.of hS4, rfl, _, _, rfl, rfl, _, rfl, SZ, _, _, _, rfl, rfl, SqL.of hS4, rfl, _, _, rfl, rfl, p, n + 4, _, rfl, hp4, by omega, by omega, by omega, fun D zs H5 hD hzl hnd hok hD5 hp5 hk5 => ?_⟩
    have nDp : D ≠ p := hp4.ne hD
    have hS5 : H5 SZ = some (.lst [.int s1, .int s2]) := hk5.get hS4 nSp
    have k5 : KpP p H H5 := k4.trans hk5
    obtain ⟨M, rfl⟩ : ∃ M : Nat, many = M := ⟨many.toNat, by omega⟩
    obtain ⟨N, rfl⟩ : ∃ N : Nat, L = N := ⟨L.toNat, by omega⟩
    obtain ⟨u1, rfl⟩ : ∃ u : Nat, s1 = u := ⟨s1.toNat, by omega⟩
    obtain ⟨u2, rfl⟩ : ∃ u : Nat, s2 = u := ⟨s2.toNat, by omega⟩
    have hzl' : zs.length = M + N + u1 + u2 := by omega
    -- pairs, rest
    refine ⟨Nat.zero_le _, fun PL hPL => ⟨_, rfl, _, rfl, _, rfl, _, _, rfl, rfl, _, rfl, D, _, rfl, SqL.of ((Kp.new (ex := fun a => a = p) hPL).get hD5 nDp), fun RS hRS => ⟨_, _, rfl, ?_⟩⟩⟩
    have eRS : cutV (zs.map V.str) (some ((M : Int) + (N : Int))) none = (zs.drop (M + N)).map V.str := by
      rw [cut_drop _ _ (by omega), show ((M : Int) + (N : Int)).toNat = M + N by omega, List.map_drop]
    rw [eRS] at *
    have nPp : PL ≠ p := hp5.ne hPL
    have hp6 := hp5.same (Same.upd (o := .lst []) hPL)
    have nRp : RS ≠ p := hp6.ne hRS
    have nRP : RS ≠ PL := (ne_of_none upd_same hRS).symm
    have nDP : D ≠ PL := ne_of_none hD5 hPL
    have sm7 : Same H5 (upd (upd H5 PL (.lst [])) RS (.lst ((zs.drop (M + N)).map V.str))) := (Same.upd hPL).trans (Same.upd hRS)
    have hP7 : (upd (upd H5 PL (.lst [])) RS (.lst ((zs.drop (M + N)).map V.str))) PL = some (.lst []) := by rw [upd_ne nRP.symm]; exact upd_same
    have hR7 : (upd (upd H5 PL (.lst [])) RS (.lst ((zs.drop (M + N)).map V.str))) RS = some (.lst ((zs.drop (M + N)).map V.str)) := upd_same
    generalize upd (upd H5 PL (.lst [])) RS (.lst ((zs.drop (M + N)).map V.str)) = H7 at sm7 hP7 hR7 ⊢
    -- enumerate(names[:many])
    have hD7 : H7 D = some (.lst (zs.map V.str)) := sm7 _ _ hD5
    have hp7 : PotAt H7 p (n + 4 + 12 * 30) := hp5.same sm7
    refine ⟨_, rfl, _, rfl, _, rfl, D, _, rfl, SqL.of hD7, fun EN hEN => ?_⟩
    rw [cut_take _ _ (by omega : (0 : Int) ≤ (M : Int)), Int.toNat_natCast]
    have sm8 : Same H7 (upd H7 EN (.lst ((zs.map V.str).take M))) := Same.upd hEN
    have hE8 : (upd H7 EN (.lst ((zs.map V.str).take M))) EN = some (.lst ((zs.map V.str).take M)) := upd_same
    have nEp : EN ≠ p := hp7.ne hEN
    have nEP : EN ≠ PL := (ne_of_none hP7 hEN).symm
    generalize upd H7 EN (.lst ((zs.map V.str).take M)) = H8 at sm8 hE8 ⊢
    have k8 : KpP p H H8 := k5.trans (Kp.same (sm7.trans sm8))
    have hMz : M ≤ zs.length := by omega
    have eM : ((zs.map V.str).take M).length = M := by rw [List.length_take, List.length_map]; omega
    refine ⟨EN, _, rfl, SqL.of hE8, for_it (walk_enum (K := K) (a := EN) (xs := (zs.map V.str).take M)) (fun i σ Hx => ∃ (v9 v10 : Option V) (qs : List (Str × Str)) (xs : List V),
      σ = [some (.ref p), some (.int t), some (.int m), some (.int M), some (.ref SZ), some (.int N), some (.ref D), some (.ref PL), some (.ref RS), v9, v10] ∧ Hx PL = some (.lst xs) ∧ DvL (fun _ => True) Hx xs (qs.map pairD) ∧ qs.length = i ∧ qs.map (·.1) = (zs.take M).take i ∧
      (∀ q ∈ qs, q.2 ∈ (zs.drop M).take N) ∧ PotAt Hx p (n + 364 + i) ∧ Kp (fun a => a = p ∨ a = PL) H8 Hx)
      ⟨none, none, [], [], rfl, sm8 _ _ hP7, .nil, rfl, by simp, (fun q hq => nomatch hq), hp7.same sm8, Kp.refl⟩ (fun i σ Hx _ ⟨_, _, _, _, _, _, _, _, _, _, _, kk⟩ => SqL.of (kk.get hE8 (fun z => z.elim nEp nEP))) ?_ ?_⟩
    · rintro i x σ Hx H' hi ⟨v9, v10, qs, xs, rfl, hPx, hdx, hql, hqa, hqb, hpx, kx⟩ ⟨T0, y1, y2, rfl, hT0, rfl, e1, e2⟩
      cases e1
      rw [eM] at hi
      have hiz : i < zs.length := by omega
      have e3 : y2 = .str zs[i] := by
        have e2 : ((zs.map V.str).take M)[i]? = some y2 := e2
        rw [List.getElem?_take_of_lt hi, List.getElem?_map, List.getElem?_eq_getElem hiz] at e2
        cases e2
        rfl
      subst e3
      have kT0 : Kp (fun a => a = p ∨ a = PL) H8 (upd Hx T0 (.tup [.int (i : Nat), .str zs[i]])) := kx.trans (Kp.new hT0)
      have hP0 : (upd Hx T0 (.tup [.int (i : Nat), .str zs[i]])) PL = some (.lst xs) := by rw [upd_ne (ne_of_none hPx hT0)]; exact hPx
      have hd0 : DvL (fun _ => True) (upd Hx T0 (.tup [.int (i : Nat), .str zs[i]])) xs (qs.map pairD) := hdx.kp (Kp.new hT0)
      have hp0 := hpx.same (Same.upd (o := .tup [.int (i : Nat), .str zs[i]]) hT0)
      have hT1 : (upd Hx T0 (.tup [.int (i : Nat), .str zs[i]])) T0 = some (.tup [.int (i : Nat), .str zs[i]]) := upd_same
      generalize upd Hx T0 (.tup [.int (i : Nat), .str zs[i]]) = H9 at kT0 hP0 hd0 hp0 hT1 ⊢
      have nI : ∀ a, a ≠ p → a ≠ PL → ¬ (a = p ∨ a = PL) := fun a h1 h2 z => z.elim h1 h2
      have fin : ∀ (j : Int) (Hd : Hp), 0 ≤ j → j < N → KpP p H9 Hd → PotAt Hd p (n + 364 + (i + 1)) →
          ∃ y, atI (zs.map V.str) ((M : Int) + j) = some (.str y) ∧ ∀ (t2 : Addr) (H2 : Hp), Same Hd H2 → TupF H2 t2 [.str zs[i], .str y] → H2 PL = some (.lst xs) ∧
            ∃ (v9' v10' : Option V) (qs' : List (Str × Str)) (xs' : List V),
              [some (V.ref p), some (.int t), some (.int m), some (.int M), some (.ref SZ), some (.int N), some (.ref D), some (.ref PL), some (.ref RS), some (.int (i : Nat)), some (.str zs[i])] = [some (.ref p), some (.int t), some (.int m), some (.int M), some (.ref SZ), some (.int N), some (.ref D), some (.ref PL), some (.ref RS), v9', v10'] ∧
              (upd H2 PL (.lst (xs ++ [.ref t2]))) PL = some (.lst xs') ∧ DvL (fun _ => True) (upd H2 PL (.lst (xs ++ [.ref t2]))) xs' (qs'.map pairD) ∧ qs'.length = i + 1 ∧ qs'.map (·.1) = (zs.take M).take (i + 1) ∧
              (∀ q ∈ qs', q.2 ∈ (zs.drop M).take N) ∧ PotAt (upd H2 PL (.lst (xs ++ [.ref t2]))) p (n + 364 + (i + 1)) ∧ Kp (fun a => a = p ∨ a = PL) H8 (upd H2 PL (.lst (xs ++ [.ref t2]))) := by
        intro j Hd hj0 hj1 kd hpd
        obtain ⟨j, rfl⟩ : ∃ k : Nat, j = k := ⟨j.toNat, by omega⟩
        have hjz : M + j < zs.length := by omega
        refine ⟨zs[M + j], ?_, fun t2 H2 sm2 ht2 => ?_⟩
        · have : (zs.map V.str)[M + j]? = some (.str zs[M + j]) := by rw [List.getElem?_map, List.getElem?_eq_getElem hjz]; rfl
          have := atI_nat this
          rw [show ((M + j : Nat) : Int) = (M : Int) + (j : Int) by omega] at this
          exact this
        have hP2 : H2 PL = some (.lst xs) := sm2 _ _ (kd.get hP0 nPp)
        have kU : Kp (fun a => a = PL) H2 (upd H2 PL (.lst (xs ++ [.ref t2]))) := Kp.at rfl hP2
        have hd2 : DvL (fun _ => True) H2 xs (qs.map pairD) := hd0.kp ((kd.weak fun _ _ => trivial).trans (Kp.same sm2))
        refine ⟨hP2, _, _, qs ++ [(zs[i], zs[M + j])], xs ++ [.ref t2], rfl, upd_same, ?_, by rw [List.length_append, hql]; rfl, ?_, ?_, ?_, ?_⟩
        · rw [List.map_append]
          exact (hd2.kp (kU.weak fun _ _ => trivial)).snoc (Dv.tupM (kU.tup ht2) (.cons (.str _) (.cons (.str _) .nil)))
        · rw [List.map_append, hqa, List.take_succ, List.getElem?_take_of_lt hi, List.getElem?_eq_getElem hiz]
          rfl
        · intro q hq
          rcases List.mem_append.mp hq with h | h
          · exact hqb q h
          · rw [List.mem_singleton.mp h]
            refine List.mem_iff_getElem?.mpr ⟨j, ?_⟩
            rw [List.getElem?_take_of_lt (by omega), List.getElem?_drop, List.getElem?_eq_getElem hjz]
        · obtain ⟨a1, b1, c1, g1, r1⟩ := hpd.same sm2
          exact ⟨a1, b1, c1, by rw [upd_ne nPp.symm]; exact g1, r1⟩
        · exact kT0.trans ((kd.weak fun _ => .inl).trans ((Kp.same sm2).trans (kU.weak fun _ => .inr)))
      have hsz : xs.length < sizeLine := by
        have := hd0.len
        rw [List.length_map] at this
        rw [sizeLine_eq]
        omega
      have hD9 : H9 D = some (.lst (zs.map V.str)) := kT0.get (sm8 _ _ hD7) (nI _ nDp nDP)
      refine ⟨T0, _, rfl, .inl (.inl hT1), rfl, _, _, rfl, _, _, rfl, rfl, ?_⟩
      refine ⟨_, rfl, .inl ⟨rfl, _, SqL.of hP0⟩, _, rfl, _, rfl, _, rfl, _, rfl, _, rfl, _, _, rfl, rfl, _, rfl, ite2 (fun hlt => ?_) (fun hge => ?_)⟩
      · have hlt' : ((i : Nat) : Int) < (N : Int) := of_decide_eq_true hlt
        obtain ⟨y, hy, hfin⟩ := fin i H9 (by omega) hlt' Kp.refl (hp0.mono (by omega))
        refine ⟨_, rfl, _, _, rfl, rfl, D, _, _, _, rfl, rfl, SqL.of hD9, hy, by show 2 ≤ sizeLine; decide, fun t2 H2 sm2 ht2 => ?_⟩
        obtain ⟨g1, g2⟩ := hfin t2 H2 sm2 ht2
        exact ⟨PL, _, _, rfl, rfl, g1, hsz, g2⟩
      · refine ⟨_, rfl, _, rfl, p, _, _, rfl, hp0, by omega, by omega, by omega, fun j Hd hj0 hj1 hpd hkd => ?_⟩
        obtain ⟨y, hy, hfin⟩ := fin j Hd hj0 hj1 hkd (hpd.mono (by omega))
        refine ⟨_, _, rfl, rfl, D, _, _, _, rfl, rfl, SqL.of (hkd.get hD9 nDp), hy, by show 2 ≤ sizeLine; decide, fun t2 H2 sm2 ht2 => ?_⟩
        obtain ⟨g1, g2⟩ := hfin t2 H2 sm2 ht2
        exact ⟨PL, _, _, rfl, rfl, g1, hsz, g2⟩
    · rintro σ Hx ⟨v9, v10, qs, xs, rfl, hPx, hdx, hql, hqa, hqb, hpx, kx⟩
      rw [eM] at hql hqa hpx
      rw [List.take_take, Nat.min_self] at hqa
      have hRx : Hx RS = some (.lst ((zs.drop (M + N)).map V.str)) := kx.get (sm8 _ _ hR7) (fun z => z.elim nRp nRP)
      have hSx : Hx SZ = some (.lst [.int u1, .int u2]) := kx.get ((sm7.trans sm8) _ _ hS5) (fun z => z.elim nSp (ne_of_none hS5 hPL))
      have all : ∀ {H1 H2 : Hp} {ds : List PyData} {vs : List V}, Same H1 H2 → DvL (fun _ => True) H1 vs ds → DvL (fun _ => True) H2 vs ds := fun sm d => d.kp (Kp.same sm)
      refine ⟨_, rfl, PL, _, rfl, SqL.of hPx, fun t1 Ha sa ta => ?_⟩
      refine ⟨_, rfl, _, rfl, SZ, _, _, _, rfl, rfl, SqL.of (sa _ _ hSx), rfl, _, rfl, RS, _, rfl, SqL.of (sa _ _ hRx), fun P1 hP1 => ⟨P1, _, rfl, SqL.of upd_same, fun t2 Hb sb tb => ?_⟩⟩
      have sab : Same Ha Hb := (Same.upd hP1).trans sb
      refine ⟨_, rfl, _, rfl, SZ, _, _, _, rfl, rfl, SqL.of ((sa.trans sab) _ _ hSx), rfl, _, rfl, RS, _, rfl, SqL.of ((sa.trans sab) _ _ hRx), fun P2 hP2 => ⟨P2, _, rfl, SqL.of upd_same, fun t3 Hc sc tc => ⟨by show 3 ≤ sizeLine; decide, fun R hR => ?_⟩⟩⟩
      have sbc : Same Hb Hc := (Same.upd hP2).trans sc
      have sR : Same Hc (upd Hc R (.lst [.ref t1, .ref t2, .ref t3])) := Same.upd hR
      rw [cut_take _ _ (by omega : (0 : Int) ≤ (u1 : Int)), Int.toNat_natCast, ← List.map_take] at tb
      rw [cut_drop _ _ (by omega : (0 : Int) ≤ (u1 : Int)), Int.toNat_natCast, ← List.map_drop] at tc
      have kHx : KpP p H Hx := fun b o hb hn => kx b o (k8 b o hb hn) fun z => z.elim hn fun e => by
        have := k5 b o hb hn
        rw [e, hPL] at this
        cases this
      have kHc : KpP p H Hc := kHx.trans (Kp.same (sa.trans (sab.trans sbc)))
      have free : H R = none := by
        cases q : H R with
        | none => rfl
        | some o =>
          exfalso
          by_cases e : R = p
          · obtain ⟨a2, b2, c2, g2, _⟩ := hpx.same (sa.trans (sab.trans sbc))
            rw [e, g2] at hR
            cases hR
          · have := kHc R o q fun z => absurd z e
            rw [hR] at this
            cases this
      refine k R _ _ _ qs ((zs.drop (M + N)).take u1) ((zs.drop (M + N)).drop u1) _ free upd_same (good_of hnd hok hzl' (by omega) (by omega) (by omega) hqa hqb) ?_ ?_ ?_ ?_ ?_
      · intro ex
        exact (Dv.tupM ((Kp.same (ex := fun _ => True) ((sab.trans sbc).trans sR)).tup ta) (all (sa.trans ((sab.trans sbc).trans sR)) hdx)).mono Kp.refl fun _ _ => trivial
      · intro ex
        exact (Dv.tupM ((Kp.same (ex := fun _ => True) (sbc.trans sR)).tup tb) (DvL.strs _)).mono Kp.refl fun _ _ => trivial
      · intro ex
        exact (Dv.tupM ((Kp.same (ex := fun _ => True) sR).tup tc) (DvL.strs _)).mono Kp.refl fun _ _ => trivial
      · exact ((hpx.same (sa.trans ((sab.trans sbc).trans sR)))).mono (by omega)
      · exact kHc.trans (Kp.same sR)
end
end Kx
namespace Kx
open PySem PySem.Spec PyProof.Rows L2
/-! ### what the judges say of data -/
def nameD : PyData → Bool
  | .str s => decide (NameS s)
  | _ => false
def pairOkD : PyData → Bool
  | .tuple [a, b] => nameD a && nameD b
  | _ => false
def namesD (m : Nat) : PyData → Bool
  | .tuple xs => decide (xs.length ≤ m) && xs.all nameD
  | _ => false
def arrsD : PyData → Bool
  | .tuple xs => decide (xs.length ≤ 12) && xs.all pairOkD
  | _ => false
def isStrD : PyData → Bool
  | .str _ => true
  | _ => false
def isTupD : PyData → Bool
  | .tuple _ => true
  | _ => false
def tyD : PyData → String
  | .none => "NoneType"
  | .bool _ => "bool"
  | .int _ => "int"
  | .str _ => "str"
  | .list _ => "list"
  | .tuple _ => "tuple"
  | .dict _ => "dict"
theorem Dv.ty {K : PySem.W.Frag} {ex : Addr → Prop} {H : Hp} {v : V} {d : PyData} (h : Dv ex H v d) : TyX K H v (.type (tyD d)) := by
  cases h with
  | non => exact .base .non
  | bl b => exact .base (.bl b)
  | int i => exact .base (.int i)
  | str x => exact .base (.str x)
  | lst _ e _ => exact .base (.lst e)
  | tup _ e _ => exact .fTuple e
  | dic _ e _ => exact .base (.dK e)
theorem kitS {K : PySem.W.Frag} (d : PyData) : PySem.W.kitOne K (.type (tyD d)) (.type "str") = some (isStrD d) := by
  cases d with
  | none => exact kit_ty (show kitB "NoneType" "str" = some false by decide +kernel)
  | bool _ => exact kit_ty (show kitB "bool" "str" = some false by decide +kernel)
  | int _ => exact kit_ty (show kitB "int" "str" = some false by decide +kernel)
  | str _ => exact kit_ty (show kitB "str" "str" = some true by decide +kernel)
  | list _ => exact kit_ty (show kitB "list" "str" = some false by decide +kernel)
  | tuple _ => exact kit_ty (show kitB "tuple" "str" = some false by decide +kernel)
  | dict _ => exact kit_ty (show kitB "dict" "str" = some false by decide +kernel)
theorem kitT {K : PySem.W.Frag} (d : PyData) : PySem.W.kitOne K (.type (tyD d)) (.type "tuple") = some (isTupD d) := by
  cases d with
  | none => exact kit_ty (show kitB "NoneType" "tuple" = some false by decide +kernel)
  | bool _ => exact kit_ty (show kitB "bool" "tuple" = some false by decide +kernel)
  | int _ => exact kit_ty (show kitB "int" "tuple" = some false by decide +kernel)
  | str _ => exact kit_ty (show kitB "str" "tuple" = some false by decide +kernel)
  | list _ => exact kit_ty (show kitB "list" "tuple" = some false by decide +kernel)
  | tuple _ => exact kit_ty (show kitB "tuple" "tuple" = some true by decide +kernel)
  | dict _ => exact kit_ty (show kitB "dict" "tuple" = some false by decide +kernel)
theorem cost_mem : ∀ {xs : List PyData} {x : PyData}, x ∈ xs → cost x + 2 ≤ costL xs
  | y :: r, x, h => by
    rcases List.mem_cons.mp h with rfl | h
    · simp only [costL]; omega
    · have := cost_mem h
      simp only [costL]; omega
theorem costL_len : ∀ xs : List PyData, 2 * xs.length ≤ costL xs
  | [] => by simp [costL]
  | x :: r => by
    have := costL_len r
    simp only [costL, List.length_cons]; omega
theorem abc_all : ("abcdefghijklmnopqrstuvwxyz" : Str).cps.toList = (List.range 26).map (· + 97) := by decide +kernel
theorem mem_abc (c : Nat) : c ∈ ("abcdefghijklmnopqrstuvwxyz" : Str).cps.toList ↔ 97 ≤ c ∧ c ≤ 122 := by
  rw [abc_all, List.mem_map]
  constructor
  · rintro ⟨i, hi, rfl⟩
    have := List.mem_range.mp hi
    omega
  · intro h
    exact ⟨c - 97, List.mem_range.mpr (by omega), by omega⟩
theorem range_arr {α β : Type} (xs : Array α) (f : α → β) : (List.range xs.size).filterMap (fun i => xs[i]?.map f) = xs.toList.map f := by
  have := range_bind (fun a => some (f a)) xs.toList
  rw [List.filterMap_eq_map', Array.length_toList] at this
  rw [← this]
  refine congrArg (fun g => List.filterMap g _) (funext fun i => ?_)
  rw [Array.getElem?_toList]
  cases xs[i]? <;> rfl
theorem range_list {α β : Type} (xs : List α) (f : α → β) : (List.range xs.length).filterMap (fun i => xs[i]?.map f) = xs.map f := by
  have := range_arr xs.toArray f
  simpa using this
section
variable {P : Program} {w : World} {K : PySem.W.Frag} {mg : Str → Option Value} {base : Heap}
structure Co (mg : Str → Option Value) : Prop where
  LONGEST_NAME : ∃ t, mg "LONGEST_NAME" = some (.int 8 t)
  MAX_ARRAYS : ∃ t, mg "MAX_ARRAYS" = some (.int 12 t)
  MAX_POSITIONS : ∃ t, mg "MAX_POSITIONS" = some (.int 6 t)
  MAX_VALUES : ∃ t, mg "MAX_VALUES" = some (.int 6 t)
/-- the promise of a judge of one datum -/
def spJudge (f : PyData → Bool) : Sp := fun vs H Q _ => ∃ (ex : Addr → Prop) (v : V) (d : PyData), vs = [v] ∧ Dv ex H v d ∧ cost d ≤ 8000000 ∧ ∀ H', Same H H' → Q (.bl (f d)) H'
theorem nameS_iff (s : Str) : NameS s ↔ (1 ≤ s.length ∧ s.length ≤ 8) ∧ (s.cps.toList.map fun c => decide (c ∈ ("abcdefghijklmnopqrstuvwxyz" : Str).cps.toList)).all id = true := by
  unfold NameS
  rw [List.all_map, List.all_eq_true]
  constructor
  · rintro ⟨h1, h2, h3⟩
    exact ⟨⟨h1, h2⟩, fun c hc => decide_eq_true ((mem_abc c).mpr (h3 c hc))⟩
  · rintro ⟨⟨h1, h2⟩, h3⟩
    exact ⟨h1, h2, fun c hc => (mem_abc c).mp (of_decide_eq_true (h3 c hc))⟩
theorem nameD_all (z : Str) (hh : 1 ≤ z.length ∧ z.length ≤ 8) : nameD (.str z) = (z.cps.toList.map fun c => decide (c ∈ ("abcdefghijklmnopqrstuvwxyz" : Str).cps.toList)).all id := by
  show decide (NameS z) = _
  cases hB : (z.cps.toList.map fun c => decide (c ∈ ("abcdefghijklmnopqrstuvwxyz" : Str).cps.toList)).all id with
  | true => exact decide_eq_true ((nameS_iff z).mpr ⟨hh, hB⟩)
  | false =>
    refine decide_eq_false fun q => ?_
    have := ((nameS_iff z).mp q).2
    rw [hB] at this
    cases this
theorem ascii_tab : ∀ c : Nat, c < 128 → (Unicode.isAlpha c = (decide (97 ≤ c ∧ c ≤ 122) || decide (65 ≤ c ∧ c ≤ 90))) ∧ (Unicode.isLower c = decide (97 ≤ c ∧ c ≤ 122)) ∧ (Unicode.isUpper c = decide (65 ≤ c ∧ c ≤ 90)) ∧ Unicode.isTitle c = false := by
  decide +kernel
theorem low_iff (z : Str) (hh : 1 ≤ z.length) : (Txt.isascii z && (Txt.isalpha z && Txt.islower z)) = true ↔ ∀ c ∈ z.cps.toList, 97 ≤ c ∧ c ≤ 122 := by
  have hz : z.cps.toList.length = z.length := by rw [Array.length_toList]; rfl
  unfold Txt.isascii Txt.isalpha Txt.islower
  rw [← Array.all_toList, ← Array.all_toList, ← Array.any_toList, ← Array.any_toList]
  simp only [Bool.and_eq_true, Bool.not_eq_true', List.all_eq_true, List.any_eq_true, List.any_eq_false, decide_eq_true_eq]
  constructor
  · rintro ⟨h1, ⟨_, h2⟩, h3, h4⟩ c hc
    have t := ascii_tab c (h1 c hc)
    have a := h2 c hc
    have b := h4 c hc
    rw [t.2.2.1, t.2.2.2, Bool.or_false] at b
    rw [t.1] at a
    simp only [Bool.or_eq_true, decide_eq_true_eq] at a b
    omega
  · intro h
    refine ⟨fun c hc => by have := h c hc; omega, ⟨hh, fun c hc => ?_⟩, ?_, fun c hc => ?_⟩
    · have := h c hc
      rw [(ascii_tab c (by omega)).1, decide_eq_true this]; rfl
    · obtain ⟨c, hc⟩ : ∃ c, c ∈ z.cps.toList := by
        cases e : z.cps.toList with
        | nil => rw [e] at hz; simp at hz; omega
        | cons c r => exact ⟨c, List.mem_cons_self⟩
      have := h c hc
      exact ⟨c, hc, by rw [(ascii_tab c (by omega)).2.1, decide_eq_true this]⟩
    · have := h c hc
      have t := ascii_tab c (by omega)
      rw [t.2.2.1, t.2.2.2, decide_eq_false (by omega)]; decide
theorem nameD_low (z : Str) (hh : 1 ≤ z.length ∧ z.length ≤ 8) : nameD (.str z) = (Txt.isascii z && (Txt.isalpha z && Txt.islower z)) := by
  show decide (NameS z) = _
  rw [Bool.eq_iff_iff, low_iff z hh.1, decide_eq_true_iff]
  exact ⟨fun h => h.2.2, fun h => ⟨hh.1, hh.2, h⟩⟩
theorem pairOkD_eq (ds : List PyData) : pairOkD (.tuple ds) = (decide (ds.length = 2) && ds.all nameD) := by
  match ds with
  | [] => rfl
  | [a] => rfl
  | [a, b] => simp [pairOkD]
  | a :: b :: c :: r => simp [pairOkD]
abbrev N_is_name : List Str := ["value"]
abbrev P_is_name : List Str := ["value"]
theorem sc_is_name : FnScope N_is_name P_is_name (defScope s_is_name) := ⟨rfl, rfl, rfl, by decide +kernel, rfl, by decide +kernel, by decide +kernel⟩
theorem ok_is_name (T : Bt mg) (C : Co mg) (h : Has K mg "is_name" s_is_name) : Ca P w K mg base 1 "is_name" P_is_name (spJudge nameD) := by
  obtain ⟨_, gN⟩ := C.LONGEST_NAME
  refine cal_of h sc_is_name (fun _ _ _ _ _ _ us hl => match us, hl with | [_], _ => rfl) (fun vs H Q E h => ?_) (fun f cdv A outer s H vs Q E hr h => ?_)
  · obtain ⟨ex, v, d, rfl, _⟩ := h
    rfl
  · obtain ⟨ex, v, d, rfl, dv, hc, k⟩ := h
    refine ⟨_, (pss_cons (ps_if (PW.pt (pw_or (pt_not (pt_val (pe_callB call_isi (by rfl) T.isinstance (by decide +kernel) (pa_cons (pv 0) (pa_cons (pe_bltn (v := .ty "str") (by rfl) T.str (by decide +kernel) rfl) pa_nil))))) (pw_or1 (pt_not (pt_chain op_le op_le pe_int (pe_callB call_len (by rfl) T.len (by decide +kernel) (pa_cons (pv 0) pa_nil)) (pe_glob (v := .int 8) rfl gN ⟨_, rfl⟩)))))) (pss_one (ps_ret pe_bl)) pss_nil)
      (pss_one (ps_ret (pe_and (pe_m0 PySem.F.slot_str_isascii PySem.F.type_str_isascii mt_isascii (pv 0)) (pe_and (pe_m0 PySem.F.slot_str_isalpha PySem.F.type_str_isalpha mt_isalpha (pv 0)) (pe_one (pe_m0 PySem.F.slot_str_islower PySem.F.type_str_islower mt_islower (pv 0)))))))), ?_⟩
    refine ⟨_, rfl, _, _, _, _, _, rfl, .ty _, dv.ty, kitS d, _, rfl, ?_⟩
    have no : isStrD d = false → nameD d = false := fun e => by cases d <;> first | rfl | cases e
    cases e : isStrD d with
    | false =>
      refine iteT ?_
      have := k H Same.refl
      rw [no e] at this
      exact iteT this
    | true =>
      refine iteF ?_
      obtain ⟨z, rfl⟩ : ∃ z, d = .str z := by cases d <;> first | exact ⟨_, rfl⟩ | cases e
      cases dv.strI
      have hz : z.length ≤ sizeLine := by
        simp only [cost] at hc
        rw [sizeLine_eq]; omega
      have bad : ¬ (1 ≤ z.length ∧ z.length ≤ 8) → nameD (.str z) = false := fun n => decide_eq_false fun q => n ⟨q.1, q.2.1⟩
      refine ⟨_, rfl, _, _, rfl, ⟨hz, rfl⟩, _, _, rfl, rfl, _, rfl, ?_⟩
      by_cases h1 : (1 : Int) ≤ (z.length : Int)
      · rw [decide_eq_true h1]
        refine iteT ⟨_, _, rfl, rfl, _, rfl, ?_⟩
        by_cases h2 : (z.length : Int) ≤ 8
        · rw [decide_eq_true h2]
          refine iteF ?_
          have := k H Same.refl
          rw [nameD_low z (by omega)] at this
          refine ⟨_, rfl, ⟨_, rfl⟩, _, rfl, rfl, trivial, _, rfl, ?_⟩
          cases e1 : Txt.isascii z with
          | false => rw [e1] at this; exact iteF this
          | true =>
            rw [e1, Bool.true_and] at this
            refine iteT ⟨_, rfl, ⟨_, rfl⟩, _, rfl, rfl, trivial, _, rfl, ?_⟩
            cases e2 : Txt.isalpha z with
            | false => rw [e2] at this; exact iteF this
            | true =>
              rw [e2, Bool.true_and] at this
              exact iteT ⟨_, rfl, ⟨_, rfl⟩, _, rfl, rfl, trivial, this⟩
        · rw [decide_eq_false h2]
          have := k H Same.refl
          rw [bad (by omega)] at this
          exact iteT this
      · rw [decide_eq_false h1]
        have := k H Same.refl
        rw [bad (by omega)] at this
        exact iteF ⟨_, rfl, iteT this⟩
theorem namesD_tup (m : Nat) (ds : List PyData) : namesD m (.tuple ds) = (decide (ds.length ≤ m) && ds.all nameD) := rfl
/-- all([f(part) for part in t]) -/
abbrev N_are_names : List Str := ["value", "most", "part"]
abbrev P_are_names : List Str := ["value", "most"]
theorem sc_are_names : FnScope N_are_names P_are_names (defScope s_are_names) := ⟨rfl, rfl, rfl, by decide +kernel, rfl, by decide +kernel, by decide +kernel⟩
def spAreNames : Sp := fun vs H Q _ => ∃ (ex : Addr → Prop) (v : V) (d : PyData) (m : Nat), vs = [v, .int m] ∧ Dv ex H v d ∧ cost d ≤ 8000000 ∧ ∀ H', Same H H' → Q (.bl (namesD m d)) H'
theorem ok_are_names (T : Bt mg) (h : Has K mg "_are_names" s_are_names) (C1 : Ca P w K mg base 1 "is_name" P_is_name (spJudge nameD)) : Ca P w K mg base 2 "_are_names" P_are_names spAreNames := by
  obtain ⟨_, _, c_is_name⟩ := C1
  refine cal_of h sc_are_names (fun _ _ _ _ _ _ us hl => match us, hl with | [_, _], _ => rfl) (fun vs H Q E h => ?_) (fun f cdv A outer s H vs Q E hr h => ?_)
  · obtain ⟨ex, v, d, m, rfl, _⟩ := h
    rfl
  · obtain ⟨ex, v, d, m, rfl, dv, hc, k⟩ := h
    refine ⟨_, (pss_one (ps_ret (pe_and (pe_callB call_isi (by rfl) T.isinstance (by decide +kernel) (pa_cons (pv 0) (pa_cons (pe_bltn (v := .ty "tuple") (by rfl) T.tuple (by decide +kernel) rfl) pa_nil))) (pe_and (pe_cmpR op_le (pe_callB call_len (by rfl) T.len (by decide +kernel) (pa_cons (pv 0) pa_nil)) (pv 1) (nomark _)) (pe_one (pe_callB (cr_all rfl) (by rfl) T.all (by decide +kernel) (pa_cons (pe_lc (own := [("part", 2)]) (g := (gName 2)) (tt := tYes) (by rfl) sc_are_names.nd (pi_tup (pv 0)) (blkOk_by (own := [("part", 2)]) (N := ["value", "most", "part"]) (sc := defScope s_are_names) (by decide +kernel)) (fun _ _ _ _ _ => pg_name (i := 2) sc_are_names.nd rfl (Or.inl rfl)) (fun _ _ _ _ _ => pts_nil) (fun _ _ _ _ _ => (pe_call c_is_name.1 (hr.mono (by decide)) rfl c_is_name.2.1 c_is_name.2.2.1 c_is_name.2.2.2 .nil pass0 (pa_cons (pv 2) pa_nil)))) pa_nil))))))), ?_⟩
    refine ⟨_, rfl, _, _, _, _, _, rfl, .ty _, dv.ty, kitT d, _, rfl, ?_⟩
    cases e : isTupD d with
    | false =>
      have no : namesD m d = false := by cases d <;> first | rfl | cases e
      have := k H Same.refl
      rw [no] at this
      exact iteF this
    | true =>
      obtain ⟨ds, rfl⟩ : ∃ ds, d = .tuple ds := by cases d <;> first | exact ⟨_, rfl⟩ | cases e
      obtain ⟨a, xs, rfl, ht, dl⟩ := dv.tupI
      have hl := dl.len
      simp only [cost] at hc
      have hl2 := costL_len ds
      refine iteT ⟨_, rfl, _, _, rfl, .inr ⟨_, ht.sq, rfl⟩, _, rfl, _, _, rfl, rfl, _, rfl, ?_⟩
      by_cases hm : (xs.length : Int) ≤ (m : Int)
      · rw [decide_eq_true hm]
        refine iteT ⟨_, rfl, a, rfl, ⟨_, ht.sq⟩, fun D hD => lc_o (walk_tup (K := K) (a := a) (xs := xs)) (fun i => ds[i]?.map fun e => V.bl (nameD e)) (by rw [sizeLine_eq]; omega) hD (fun Hx sm => ((Kp.same (ex := ex) sm).tup ht).sq) ?_ ?_⟩
        · rintro i x Hx H' Nx hi sm hDx ⟨rfl, hx⟩ hno hyes
          obtain ⟨e, he, dve⟩ := dl.get hx
          refine ⟨rfl, yes ⟨_, rfl, ex, x, e, rfl, dve.kp (Kp.same sm), ?_, fun H2 sm2 => ?_⟩⟩
          · have := cost_mem (List.mem_of_getElem? he)
            omega
          · exact hyes _ (by rw [he]; rfl) _ sm2
        · intro Hx sm hDx
          rw [hl, range_list, show (ds.map fun e => V.bl (nameD e)) = (ds.map nameD).map V.bl by rw [List.map_map]; rfl] at hDx
          refine ⟨D, _, rfl, SqL.of hDx, ?_⟩
          have := k Hx sm
          rw [namesD_tup, decide_eq_true (by omega : ds.length ≤ m), Bool.true_and] at this
          rw [List.all_map]
          exact this
      · rw [decide_eq_false hm]
        have := k H Same.refl
        rw [namesD_tup, decide_eq_false (by omega : ¬ ds.length ≤ m), Bool.false_and] at this
        exact iteF this
abbrev N_is_array : List Str := ["value"]
abbrev P_is_array : List Str := ["value"]
theorem sc_is_array : FnScope N_is_array P_is_array (defScope s_is_array) := ⟨rfl, rfl, rfl, by decide +kernel, rfl, by decide +kernel, by decide +kernel⟩
theorem ok_is_array (T : Bt mg) (h : Has K mg "_is_array" s_is_array) (C1 : Ca P w K mg base 2 "_are_names" P_are_names spAreNames) : Ca P w K mg base 3 "_is_array" P_is_array (spJudge pairOkD) := by
  obtain ⟨_, _, c__are_names⟩ := C1
  refine cal_of h sc_is_array (fun _ _ _ _ _ _ us hl => match us, hl with | [_], _ => rfl) (fun vs H Q E h => ?_) (fun f cdv A outer s H vs Q E hr h => ?_)
  · obtain ⟨ex, v, d, rfl, _⟩ := h
    rfl
  · obtain ⟨ex, v, d, rfl, dv, hc, k⟩ := h
    refine ⟨_, (pss_one (ps_ret (pe_and (pe_callB call_isi (by rfl) T.isinstance (by decide +kernel) (pa_cons (pv 0) (pa_cons (pe_bltn (v := .ty "tuple") (by rfl) T.tuple (by decide +kernel) rfl) pa_nil))) (pe_and (pe_cmpR op_eq (pe_callB call_len (by rfl) T.len (by decide +kernel) (pa_cons (pv 0) pa_nil)) pe_int (nomark _)) (pe_one (pe_call c__are_names.1 (hr.mono (by decide)) rfl c__are_names.2.1 c__are_names.2.2.1 c__are_names.2.2.2 .nil pass0 (pa_cons (pv 0) (pa_cons pe_int pa_nil)))))))), ?_⟩
    refine ⟨_, rfl, _, _, _, _, _, rfl, .ty _, dv.ty, kitT d, _, rfl, ?_⟩
    cases e : isTupD d with
    | false =>
      have no : pairOkD d = false := by cases d <;> first | rfl | cases e
      have := k H Same.refl
      rw [no] at this
      exact iteF this
    | true =>
      obtain ⟨ds, rfl⟩ : ∃ ds, d = .tuple ds := by cases d <;> first | exact ⟨_, rfl⟩ | cases e
      obtain ⟨a, xs, rfl, ht, dl⟩ := dv.tupI
      have hl := dl.len
      have at_ : ∀ H', Same H H' → Q (.bl (decide (ds.length = 2) && ds.all nameD)) H' := fun H' sm => by
        have := k H' sm
        rw [pairOkD_eq] at this
        exact this
      refine iteT ⟨_, rfl, _, _, rfl, .inr ⟨_, ht.sq, rfl⟩, rfl, _, rfl, ?_⟩
      by_cases h2 : xs.length = 2
      · rw [decide_eq_true (show V.int (xs.length : Int) = V.int 2 by rw [h2]; rfl)]
        refine iteT ⟨_, rfl, ex, _, _, 2, rfl, dv, hc, fun H2 sm => ?_⟩
        have := at_ H2 sm
        rw [decide_eq_true (by omega : ds.length = 2)] at this
        rw [namesD_tup, decide_eq_true (by omega : ds.length ≤ 2)]
        exact this
      · rw [decide_eq_false (fun q : V.int (xs.length : Int) = V.int 2 => h2 (by injection q with q; omega))]
        have := at_ H Same.refl
        rw [decide_eq_false (by omega : ¬ ds.length = 2)] at this
        exact iteF this
abbrev N_are_arrays : List Str := ["value", "part"]
abbrev P_are_arrays : List Str := ["value"]
theorem sc_are_arrays : FnScope N_are_arrays P_are_arrays (defScope s_are_arrays) := ⟨rfl, rfl, rfl, by decide +kernel, rfl, by decide +kernel, by decide +kernel⟩
theorem ok_are_arrays (T : Bt mg) (C : Co mg) (h : Has K mg "_are_arrays" s_are_arrays) (C1 : Ca P w K mg base 3 "_is_array" P_is_array (spJudge pairOkD)) : Ca P w K mg base 4 "_are_arrays" P_are_arrays (spJudge arrsD) := by
  obtain ⟨_, gM⟩ := C.MAX_ARRAYS
  obtain ⟨_, _, c__is_array⟩ := C1
  refine cal_of h sc_are_arrays (fun _ _ _ _ _ _ us hl => match us, hl with | [_], _ => rfl) (fun vs H Q E h => ?_) (fun f cdv A outer s H vs Q E hr h => ?_)
  · obtain ⟨ex, v, d, rfl, _⟩ := h
    rfl
  · obtain ⟨ex, v, d, rfl, dv, hc, k⟩ := h
    refine ⟨_, (pss_one (ps_ret (pe_and (pe_callB call_isi (by rfl) T.isinstance (by decide +kernel) (pa_cons (pv 0) (pa_cons (pe_bltn (v := .ty "tuple") (by rfl) T.tuple (by decide +kernel) rfl) pa_nil))) (pe_and (pe_cmpR op_le (pe_callB call_len (by rfl) T.len (by decide +kernel) (pa_cons (pv 0) pa_nil)) (pe_glob (v := .int 12) rfl gM ⟨_, rfl⟩) (nomark _)) (pe_one (pe_callB (cr_all rfl) (by rfl) T.all (by decide +kernel) (pa_cons (pe_lc (own := [("part", 1)]) (g := (gName 1)) (tt := tYes) (by rfl) sc_are_arrays.nd (pi_tup (pv 0)) (blkOk_by (own := [("part", 1)]) (N := ["value", "part"]) (sc := defScope s_are_arrays) (by decide +kernel)) (fun _ _ _ _ _ => pg_name (i := 1) sc_are_arrays.nd rfl (Or.inl rfl)) (fun _ _ _ _ _ => pts_nil) (fun _ _ _ _ _ => (pe_call c__is_array.1 (hr.mono (by decide)) rfl c__is_array.2.1 c__is_array.2.2.1 c__is_array.2.2.2 .nil pass0 (pa_cons (pv 1) pa_nil)))) pa_nil))))))), ?_⟩
    refine ⟨_, rfl, _, _, _, _, _, rfl, .ty _, dv.ty, kitT d, _, rfl, ?_⟩
    cases e : isTupD d with
    | false =>
      have no : arrsD d = false := by cases d <;> first | rfl | cases e
      have := k H Same.refl
      rw [no] at this
      exact iteF this
    | true =>
      obtain ⟨ds, rfl⟩ : ∃ ds, d = .tuple ds := by cases d <;> first | exact ⟨_, rfl⟩ | cases e
      obtain ⟨a, xs, rfl, ht, dl⟩ := dv.tupI
      have hl := dl.len
      simp only [cost] at hc
      have hl2 := costL_len ds
      have eq : arrsD (.tuple ds) = (decide (ds.length ≤ 12) && ds.all pairOkD) := rfl
      refine iteT ⟨_, rfl, _, _, rfl, .inr ⟨_, ht.sq, rfl⟩, _, _, rfl, rfl, _, rfl, ?_⟩
      by_cases hm : (xs.length : Int) ≤ 12
      · rw [decide_eq_true hm]
        refine iteT ⟨_, rfl, a, rfl, ⟨_, ht.sq⟩, fun D hD => lc_o (walk_tup (K := K) (a := a) (xs := xs)) (fun i => ds[i]?.map fun e => V.bl (pairOkD e)) (by rw [sizeLine_eq]; omega) hD (fun Hx sm => ((Kp.same (ex := ex) sm).tup ht).sq) ?_ ?_⟩
        · rintro i x Hx H' Nx hi sm hDx ⟨rfl, hx⟩ hno hyes
          obtain ⟨e, he, dve⟩ := dl.get hx
          refine ⟨rfl, yes ⟨_, rfl, ex, x, e, rfl, dve.kp (Kp.same sm), ?_, fun H2 sm2 => ?_⟩⟩
          · have := cost_mem (List.mem_of_getElem? he)
            omega
          · exact hyes _ (by rw [he]; rfl) _ sm2
        · intro Hx sm hDx
          rw [hl, range_list, show (ds.map fun e => V.bl (pairOkD e)) = (ds.map pairOkD).map V.bl by rw [List.map_map]; rfl] at hDx
          refine ⟨D, _, rfl, SqL.of hDx, ?_⟩
          have := k Hx sm
          rw [eq, decide_eq_true (by omega : ds.length ≤ 12), Bool.true_and] at this
          rw [List.all_map]
          exact this
      · rw [decide_eq_false hm]
        have := k H Same.refl
        rw [eq, decide_eq_false (by omega : ¬ ds.length ≤ 12), Bool.false_and] at this
        exact iteF this
end
end Kx
namespace Kx
open PySem PySem.Spec PyProof.Rows L2
/-! ### dicts by texts -/
def dictV (l : List (Str × V)) : List (Key × V) := mergeK [] (l.map fun q => (Sum.inr q.1, q.2))
theorem dictV_snoc (l : List (Str × V)) (q : Str × V) : dictV (l ++ [q]) = putK (dictV l) (.inr q.1) q.2 := by
  unfold dictV mergeK
  rw [List.map_append, List.foldl_append]
  rfl
theorem dictV_take (l : List (Str × V)) (i : Nat) (h : i < l.length) : dictV (l.take (i + 1)) = putK (dictV (l.take i)) (.inr l[i].1) l[i].2 := by
  rw [List.take_succ, List.getElem?_eq_getElem h]
  exact dictV_snoc _ _
theorem putK_in {kvs : List (Key × V)} {k : Key} (v : V) (h : k ∈ kvs.map (·.1)) : (putK kvs k v).map (·.1) = kvs.map (·.1) := by
  have h2 : (kvs.any fun kv => decide (kv.1 = k)) = true := by
    obtain ⟨q, hq, e⟩ := List.mem_map.mp h
    exact List.any_eq_true.mpr ⟨q, hq, decide_eq_true e⟩
  unfold putK
  rw [if_pos h2, List.map_map]
  refine List.map_congr_left fun q _ => ?_
  show (if q.1 = k then (q.1, v) else q).1 = q.1
  split <;> rfl
theorem putK_out {kvs : List (Key × V)} {k : Key} (v : V) (h : ¬ k ∈ kvs.map (·.1)) : (putK kvs k v).map (·.1) = kvs.map (·.1) ++ [k] := by
  have h2 : ¬ (kvs.any fun kv => decide (kv.1 = k)) = true := fun z => h (by
    obtain ⟨q, hq, e⟩ := List.any_eq_true.mp z
    exact List.mem_map.mpr ⟨q, hq, of_decide_eq_true e⟩)
  unfold putK
  rw [if_neg h2, List.map_append]
  rfl
theorem putK_len (kvs : List (Key × V)) (k : Key) (v : V) : (putK kvs k v).length ≤ kvs.length + 1 := by
  unfold putK
  split
  · rw [List.length_map]; omega
  · rw [List.length_append]; exact Nat.le_refl _
theorem uniq_snoc (l : List Str) (x : Str) : uniq (l ++ [x]) = uniqF (uniq l) x := by
  unfold uniq
  rw [List.foldl_append]
  rfl
theorem snoc_ind {α : Type} {p : List α → Prop} (h0 : p []) (hs : ∀ l a, p l → p (l ++ [a])) : ∀ l, p l := fun l => by
  have : ∀ r : List α, p r.reverse := fun r => by
    induction r with
    | nil => exact h0
    | cons a r ih => rw [List.reverse_cons]; exact hs _ _ ih
  have := this l.reverse
  rw [List.reverse_reverse] at this
  exact this
theorem dictV_keys (l : List (Str × V)) : (dictV l).map (·.1) = (uniq (l.map (·.1))).map Sum.inr := by
  refine snoc_ind (p := fun l => (dictV l).map (·.1) = (uniq (l.map (·.1))).map Sum.inr) rfl (fun l q ih => ?_) l
  rw [dictV_snoc, List.map_append]
  show _ = (uniq (l.map (·.1) ++ [q.1])).map Sum.inr
  rw [uniq_snoc, uniqF]
  by_cases h : q.1 ∈ uniq (l.map (·.1))
  · rw [if_pos h, putK_in _ (by rw [ih]; exact List.mem_map.mpr ⟨_, h, rfl⟩)]
    exact ih
  · rw [if_neg h, putK_out _ (fun z => h (by
      rw [ih] at z
      obtain ⟨a, ha, e⟩ := List.mem_map.mp z
      cases e
      exact ha)), List.map_append, ih]
    rfl
theorem dictV_len (l : List (Str × V)) : (dictV l).length = (uniq (l.map (·.1))).length := by
  have := congrArg List.length (dictV_keys l)
  rw [List.length_map, List.length_map] at this
  exact this
theorem dictV_le (l : List (Str × V)) : (dictV l).length ≤ l.length := by
  rw [dictV_len]
  have := uniq_len (l.map (·.1))
  rw [List.length_map] at this
  exact this
/-- where all entries of a name agree -/
theorem dictV_val (g : Str → V) (l : List (Str × V)) : (∀ q ∈ l, q.2 = g q.1) → ∀ z, valV (dictV l) (.inr z) = if z ∈ l.map (·.1) then some (g z) else none := by
  refine snoc_ind (p := fun l => (∀ q ∈ l, q.2 = g q.1) → ∀ z, valV (dictV l) (.inr z) = if z ∈ l.map (·.1) then some (g z) else none) (fun _ z => by simp [dictV, mergeK, valV]) (fun l q ih h z => ?_) l
  rw [dictV_snoc, valV_put, ih (fun q hq => h q (List.mem_append.mpr (.inl hq))) z]
  simp only [List.map_append, List.mem_append]
  by_cases e : z = q.1
  · subst e
    rw [if_pos rfl, if_pos (.inr (List.mem_singleton.mpr rfl)), h q (List.mem_append.mpr (.inr (List.mem_singleton.mpr rfl)))]
  · rw [if_neg (fun w => e (Sum.inr.inj w))]
    have : (z ∈ l.map (·.1) ∨ z ∈ [q].map (·.1)) ↔ z ∈ l.map (·.1) := ⟨fun w => w.elim id fun w => absurd (List.mem_singleton.mp w) e, .inl⟩
    simp only [this]
theorem uniq_full (l : List Str) : l.length ≤ (uniq l).length → l.Nodup := by
  refine snoc_ind (p := fun l => l.length ≤ (uniq l).length → l.Nodup) (fun _ => List.nodup_nil) (fun l x ih h => ?_) l
  rw [uniq_snoc, List.length_append] at h
  have h1 := uniqF_len (uniq l) x
  have h2 := uniq_len l
  have hx : ¬ x ∈ uniq l := fun hx => by
    rw [uniqF, if_pos hx] at h
    simp only [List.length_cons, List.length_nil] at h
    omega
  simp only [List.length_cons, List.length_nil] at h
  have hl := ih (by omega)
  exact List.nodup_append.mpr ⟨hl, List.nodup_cons.mpr ⟨List.not_mem_nil, List.nodup_nil⟩, fun a ha b hb e => hx ((uniq_mem l x).mpr (by rw [List.mem_singleton.mp hb] at e; exact e ▸ ha))⟩
/-! ### the names of a frame -/
abbrev allN (ps : List (Str × Str)) (ns vs : List Str) : List Str := ps.map (·.1) ++ (uniq (ps.map (·.2)) ++ (ns ++ vs))
def kl (ps : List (Str × Str)) (ns vs : List Str) : List (Str × V) :=
  ps.flatMap (fun q => [(q.1, V.str "array"), (q.2, V.str "length")]) ++ (ns.map (fun z => (z, V.str "position")) ++ vs.map fun z => (z, V.str "value"))
theorem kl_mem (ps : List (Str × Str)) (ns vs : List Str) (z : Str) : z ∈ (kl ps ns vs).map (·.1) ↔ z ∈ allN ps ns vs := by
  unfold kl allN
  simp only [List.map_append, List.mem_append, List.map_map, List.mem_map, List.mem_flatMap, uniq_mem, List.mem_cons, Function.comp]
  constructor
  · rintro (⟨a, ⟨q, hq, h | h | h⟩, rfl⟩ | ⟨a, ha, rfl⟩ | ⟨a, ha, rfl⟩)
    · subst h; exact .inl ⟨q, hq, rfl⟩
    · subst h; exact .inr (.inl ⟨q, hq, rfl⟩)
    · cases h
    · exact .inr (.inr (.inl ha))
    · exact .inr (.inr (.inr ha))
  · rintro (⟨q, hq, rfl⟩ | ⟨q, hq, rfl⟩ | h | h)
    · exact .inl ⟨_, ⟨q, hq, .inl rfl⟩, rfl⟩
    · exact .inl ⟨_, ⟨q, hq, .inr (.inl rfl)⟩, rfl⟩
    · exact .inr (.inl ⟨z, h, rfl⟩)
    · exact .inr (.inr ⟨z, h, rfl⟩)
theorem kinds_count (ps : List (Str × Str)) (ns vs : List Str) : (dictV (kl ps ns vs)).length ≤ (allN ps ns vs).length ∧ ((allN ps ns vs).length ≤ (dictV (kl ps ns vs)).length ↔ (allN ps ns vs).Nodup) := by
  rw [dictV_len]
  have e1 : (uniq ((kl ps ns vs).map (·.1))).length ≤ (uniq (allN ps ns vs)).length := nodup_le _ _ (uniq_nd _) fun x hx => (uniq_mem _ _).mpr ((kl_mem _ _ _ _).mp ((uniq_mem _ _).mp hx))
  have e2 : (uniq (allN ps ns vs)).length ≤ (uniq ((kl ps ns vs).map (·.1))).length := nodup_le _ _ (uniq_nd _) fun x hx => (uniq_mem _ _).mpr ((kl_mem _ _ _ _).mpr ((uniq_mem _ _).mp hx))
  have e3 := uniq_len (allN ps ns vs)
  refine ⟨by omega, fun h => uniq_full _ (by omega), fun h => ?_⟩
  have := nodup_le _ (uniq (allN ps ns vs)) h fun x hx => (uniq_mem _ _).mpr hx
  omega
section
variable {P : Program} {w : World} {K : PySem.W.Frag} {mg : Str → Option Value} {base : Heap}
abbrev N_kinds_of : List Str := ["arrays", "positions", "values", "kinds", "array", "length", "name"]
abbrev P_kinds_of : List Str := ["arrays", "positions", "values"]
theorem sc_kinds_of : FnScope N_kinds_of P_kinds_of (defScope s_kinds_of) := ⟨rfl, rfl, rfl, by decide +kernel, rfl, by decide +kernel, by decide +kernel⟩
def spKinds : Sp := fun vs H Q _ => ∃ (ex : Addr → Prop) (x y z : V) (ps : List (Str × Str)) (ns us : List Str), vs = [x, y, z] ∧ Dv ex H x (.tuple (ps.map pairD)) ∧ Dv ex H y (.tuple (ns.map .str)) ∧ Dv ex H z (.tuple (us.map .str)) ∧ ps.length ≤ 100 ∧ ns.length ≤ 100 ∧ us.length ≤ 100 ∧
  ∀ (D : Addr) (H' : Hp), H D = none → Same H H' → H' D = some (.dK (dictV (kl ps ns us))) → Q (.ref D) H'
theorem flatMap_take (ps : List (Str × Str)) (i : Nat) (h : i < ps.length) : ((ps.take (i + 1)).flatMap fun q => [(q.1, V.str "array"), (q.2, V.str "length")]) = (((ps.take i).flatMap fun q => [(q.1, V.str "array"), (q.2, V.str "length")]) ++ [(ps[i].1, V.str "array")]) ++ [(ps[i].2, V.str "length")] := by
  rw [List.take_succ, List.getElem?_eq_getElem h, List.flatMap_append, List.append_assoc]
  rfl
theorem flat_len (ps : List (Str × Str)) : (ps.flatMap fun q => [(q.1, V.str "array"), (q.2, V.str "length")]).length = 2 * ps.length := by
  induction ps with
  | nil => rfl
  | cons q r ih => rw [List.flatMap_cons, List.length_append, ih]; simp; omega
theorem ok_kinds (T : Bt mg) (h : Has K mg "_kinds_of" s_kinds_of) : Ca P w K mg base 1 "_kinds_of" P_kinds_of spKinds := by
  refine cal_of h sc_kinds_of (fun _ _ _ _ _ _ us hl => match us, hl with | [_, _, _], _ => rfl) (fun vs H Q E h => ?_) (fun f cdv A outer s H vs Q E hr h => ?_)
  · obtain ⟨ex, x, y, z, ps, ns, us, rfl, _⟩ := h
    rfl
  · obtain ⟨ex, x, y, z, ps, ns, us, rfl, dx, dy, dz, l1, l2, l3, k⟩ := h
    obtain ⟨a1, x1, rfl, t1, d1⟩ := dx.tupI
    obtain ⟨a2, x2, rfl, t2, d2⟩ := dy.tupI
    obtain ⟨a3, x3, rfl, t3, d3⟩ := dz.tupI
    have n1 := d1.len
    have n2 := d2.len
    have n3 := d3.len
    rw [List.length_map] at n1 n2 n3
    refine ⟨_, (pss_cons (ps_set (i := 3) sc_kinds_of.nd rfl (.inl rfl) pe_dnewK)
      (pss_cons (ps_for PassesOwn.never rfl (pi_tup (pv 0)) (pg_tup (by rfl) (pgs_cons (pg_name (i := 4) sc_kinds_of.nd rfl (.inl rfl)) (pgs_cons (pg_name (i := 5) sc_kinds_of.nd rfl (.inl rfl)) pgs_nil)))
        (pss_cons (ps_dput (hu_of hr) (pv 3) (pv 4) pe_str rfl)
        (pss_one (ps_dput (hu_of hr) (pv 3) (pv 5) pe_str rfl))))
      (pss_cons (ps_for PassesOwn.never rfl (pi_tup (pv 1)) (pg_name (i := 6) sc_kinds_of.nd rfl (.inl rfl))
        (pss_one (ps_dput (hu_of hr) (pv 3) (pv 6) pe_str rfl)))
      (pss_cons (ps_for PassesOwn.never rfl (pi_tup (pv 2)) (pg_name (i := 6) sc_kinds_of.nd rfl (.inl rfl))
        (pss_one (ps_dput (hu_of hr) (pv 3) (pv 6) pe_str rfl)))
      (pss_one (ps_ret (pv 3))))))), ?_⟩
    refine fun D hD => ?_
    have kt : ∀ {Hx : Hp} {a : Addr} {xs : List V}, Same H Hx → TupF H a xs → SqT K Hx a xs := fun sm t => ((Kp.same (ex := ex) sm).tup t).sq
    have up : ∀ {Hx : Hp} {o : HO}, Same H Hx → Same H (upd Hx D o) := fun {Hx o} sm b u e => by
      rw [upd_ne (ne_of_none e hD)]
      exact sm b u e
    have room : ∀ n : Nat, n ≤ 400 → n < sizeLine := fun n h => by rw [sizeLine_eq]; omega
    refine ⟨_, rfl, a1, rfl, ⟨_, kt (Same.upd hD) t1⟩, for_it (walk_tup (K := K) (a := a1) (xs := x1)) (fun i σ Hx => ∃ (v4 v5 : Option V), σ = [some (.ref a1), some (.ref a2), some (.ref a3), some (.ref D), v4, v5, none] ∧ Same H Hx ∧ Hx D = some (.dK (dictV ((ps.take i).flatMap fun q => [(q.1, V.str "array"), (q.2, V.str "length")]))))
      ⟨none, none, rfl, Same.upd hD, upd_same⟩ (fun i σ Hx _ ⟨_, _, _, sm, _⟩ => kt sm t1) ?_ ?_⟩
    · rintro i x σ Hx H' hi ⟨v4, v5, rfl, sm, hDx⟩ ⟨rfl, hx⟩
      obtain ⟨e, he, dve⟩ := d1.get hx
      have hi' : i < ps.length := by omega
      rw [List.getElem?_map, List.getElem?_eq_getElem hi'] at he
      cases he
      obtain ⟨b, rfl, hb⟩ := dve.pairI
      have z1 := dictV_le ((ps.take i).flatMap fun q => [(q.1, V.str "array"), (q.2, V.str "length")])
      rw [flat_len, List.length_take] at z1
      refine ⟨b, _, rfl, kt sm hb, rfl, _, _, rfl, _, _, rfl, rfl, ?_⟩
      refine ⟨_, rfl, _, rfl, D, _, rfl, DPut.k (k := Sum.inr _) hDx (room _ (by omega)), ?_⟩
      have z2 := putK_len (dictV ((ps.take i).flatMap fun q => [(q.1, V.str "array"), (q.2, V.str "length")])) (Sum.inr ps[i].1) (V.str "array")
      refine ⟨_, rfl, _, rfl, D, _, rfl, DPut.k (k := Sum.inr _) upd_same (room _ (by omega)), ?_⟩
      refine ⟨_, _, rfl, up (up sm), ?_⟩
      rw [upd_same, flatMap_take ps i hi', dictV_snoc, dictV_snoc]
    · rintro σ Hx ⟨v4, v5, rfl, sm, hDx⟩
      rw [n1, List.take_length] at hDx
      refine ⟨_, rfl, a2, rfl, ⟨_, kt sm t2⟩, for_it (walk_tup (K := K) (a := a2) (xs := x2)) (fun i σ Hx => ∃ (v6 : Option V), σ = [some (.ref a1), some (.ref a2), some (.ref a3), some (.ref D), v4, v5, v6] ∧ Same H Hx ∧
        Hx D = some (.dK (dictV ((ps.flatMap fun q => [(q.1, V.str "array"), (q.2, V.str "length")]) ++ (ns.map fun z => (z, V.str "position")).take i))))
        ⟨none, rfl, sm, by rw [hDx, List.take_zero, List.append_nil]⟩ (fun i σ Hx _ ⟨_, _, sm, _⟩ => kt sm t2) ?_ ?_⟩
      · rintro i x σ Hx H' hi ⟨v6, rfl, sm, hDx⟩ ⟨rfl, hx⟩
        obtain ⟨e, he, dve⟩ := d2.get hx
        have hi' : i < ns.length := by omega
        rw [List.getElem?_map, List.getElem?_eq_getElem hi'] at he
        cases he
        cases dve.strI
        have z1 := dictV_le ((ps.flatMap fun q => [(q.1, V.str "array"), (q.2, V.str "length")]) ++ (ns.map fun z => (z, V.str "position")).take i)
        rw [List.length_append, flat_len, List.length_take, List.length_map] at z1
        refine ⟨_, rfl, _, rfl, D, _, rfl, DPut.k (k := Sum.inr _) hDx (room _ (by omega)), _, rfl, up sm, ?_⟩
        rw [upd_same, List.take_succ, List.getElem?_map, List.getElem?_eq_getElem hi']
        show _ = some (HO.dK (dictV (_ ++ (_ ++ [(ns[i], V.str "position")]))))
        rw [← List.append_assoc, dictV_snoc]
      · rintro σ Hx ⟨v6, rfl, sm, hDx⟩
        rw [n2, List.take_of_length_le (by rw [List.length_map]; omega)] at hDx
        refine ⟨_, rfl, a3, rfl, ⟨_, kt sm t3⟩, for_it (walk_tup (K := K) (a := a3) (xs := x3)) (fun i σ Hx => ∃ (v6 : Option V), σ = [some (.ref a1), some (.ref a2), some (.ref a3), some (.ref D), v4, v5, v6] ∧ Same H Hx ∧
          Hx D = some (.dK (dictV ((ps.flatMap fun q => [(q.1, V.str "array"), (q.2, V.str "length")]) ++ (ns.map (fun z => (z, V.str "position")) ++ (us.map fun z => (z, V.str "value")).take i)))))
          ⟨v6, rfl, sm, by rw [hDx, List.take_zero, List.append_nil]⟩ (fun i σ Hx _ ⟨_, _, sm, _⟩ => kt sm t3) ?_ ?_⟩
        · rintro i x σ Hx H' hi ⟨v6, rfl, sm, hDx⟩ ⟨rfl, hx⟩
          obtain ⟨e, he, dve⟩ := d3.get hx
          have hi' : i < us.length := by omega
          rw [List.getElem?_map, List.getElem?_eq_getElem hi'] at he
          cases he
          cases dve.strI
          have z1 := dictV_le ((ps.flatMap fun q => [(q.1, V.str "array"), (q.2, V.str "length")]) ++ (ns.map (fun z => (z, V.str "position")) ++ (us.map fun z => (z, V.str "value")).take i))
          rw [List.length_append, flat_len, List.length_append, List.length_take, List.length_map, List.length_map] at z1
          refine ⟨_, rfl, _, rfl, D, _, rfl, DPut.k (k := Sum.inr _) hDx (room _ (by omega)), _, rfl, up sm, ?_⟩
          rw [upd_same, List.take_succ, List.getElem?_map, List.getElem?_eq_getElem hi']
          have := dictV_snoc ((ps.flatMap fun q => [(q.1, V.str "array"), (q.2, V.str "length")]) ++ (ns.map (fun z => (z, V.str "position")) ++ (us.map fun z => (z, V.str "value")).take i)) (us[i], V.str "value")
          rw [List.append_assoc, List.append_assoc] at this
          exact congrArg (fun d => some (HO.dK d)) this.symm
        · rintro σ Hx ⟨v6, rfl, sm, hDx⟩
          rw [n3, List.take_of_length_le (by rw [List.length_map]; omega)] at hDx
          exact ⟨_, rfl, k D Hx hD sm hDx⟩
end
end Kx
namespace Kx
open PySem PySem.Spec PyProof.Rows L2
section
variable {P : Program} {w : World} {K : PySem.W.Frag} {mg : Str → Option Value} {base : Heap}
/-! ### words with blanks -/
def blanks (zs : List Str) : Str := if zs.isEmpty = true then "-" else Txt.join " " zs
theorem joinL_le (S : List Nat) : ∀ ps : List (List Nat), (TL.joinL S ps).length ≤ (ps.map (·.length)).sum + ps.length * S.length
  | [] => Nat.zero_le _
  | [p] => by simp [TL.joinL]
  | p :: q :: r => by
    have := joinL_le S (q :: r)
    show (p ++ (S ++ TL.joinL S (q :: r))).length ≤ _
    rw [List.length_append, List.length_append, List.map_cons, List.sum_cons, List.length_cons, Nat.succ_mul]
    omega
theorem joinL_ge (S : List Nat) (p : List Nat) : ∀ r : List (List Nat), p.length ≤ (TL.joinL S (p :: r)).length
  | [] => Nat.le_refl _
  | q :: r => by
    show p.length ≤ (p ++ (S ++ TL.joinL S (q :: r))).length
    rw [List.length_append]; omega
theorem tl_len (y : Str) : (TL.tl y).length = y.length := by
  show y.cps.toList.length = _
  rw [Array.length_toList]; rfl
theorem join_bound (zs : List Str) : (Txt.join " " zs).length ≤ (zs.map (·.length)).sum + zs.length := by
  rw [TL.join_eq, ← tl_len, TL.tl_join]
  have := joinL_le (TL.tl " ") (zs.map TL.tl)
  rw [List.map_map, List.length_map] at this
  have e : (zs.map ((fun x : List Nat => x.length) ∘ TL.tl)) = zs.map (·.length) := List.map_congr_left fun z _ => tl_len z
  rw [e, tl_len, show (" " : Str).length = 1 from by decide +kernel] at this
  omega
theorem join_pos {z : Str} (r : List Str) (h : 1 ≤ z.length) : 1 ≤ (Txt.join " " (z :: r)).length := by
  rw [TL.join_eq, ← tl_len, TL.tl_join, List.map_cons]
  have := joinL_ge (TL.tl " ") (TL.tl z) (r.map TL.tl)
  rw [tl_len] at this
  omega
theorem sum_le (zs : List Str) (n : Nat) (h : ∀ z ∈ zs, z.length ≤ n) : (zs.map (·.length)).sum ≤ zs.length * n := by
  induction zs with
  | nil => exact Nat.zero_le _
  | cons z r ih =>
    have a := h z List.mem_cons_self
    have b := ih fun y hy => h y (List.mem_cons_of_mem _ hy)
    rw [List.map_cons, List.sum_cons, List.length_cons, Nat.succ_mul]
    omega
abbrev N_with_blanks : List Str := ["words"]
abbrev P_with_blanks : List Str := ["words"]
theorem sc_with_blanks : FnScope N_with_blanks P_with_blanks (defScope s_with_blanks) := ⟨rfl, rfl, rfl, by decide +kernel, rfl, by decide +kernel, by decide +kernel⟩
def spBlanks (K : PySem.W.Frag) : Sp := fun vs H Q _ => ∃ (a : Addr) (zs : List Str), vs = [.ref a] ∧ (SqL K H a (zs.map V.str) ∨ SqT K H a (zs.map V.str)) ∧ zs.length ≤ 1000 ∧ (∀ z ∈ zs, 1 ≤ z.length ∧ z.length ≤ 1000) ∧ Q (.str (blanks zs)) H
theorem ok_blanks (T : Bt mg) (h : Has K mg "_with_blanks" s_with_blanks) : Ca P w K mg base 1 "_with_blanks" P_with_blanks (spBlanks K) := by
  refine cal_of h sc_with_blanks (fun _ _ _ _ _ _ us hl => match us, hl with | [_], _ => rfl) (fun vs H Q E h => ?_) (fun f cdv A outer s H vs Q E hr h => ?_)
  · obtain ⟨a, zs, rfl, _⟩ := h
    rfl
  · obtain ⟨a, zs, rfl, hq, hl, hz, k⟩ := h
    refine ⟨_, (pss_one (ps_ret (pe_orT (pe_join pe_str (pv 0)) (pe_one pe_str)))), ?_⟩
    have b1 := sum_le zs 1000 fun z hz' => (hz z hz').2
    have b2 := join_bound zs
    have b3 : zs.length * 1000 ≤ 1000 * 1000 := Nat.mul_le_mul_right _ hl
    refine ⟨⟨_, rfl⟩, _, rfl, _, a, zs, rfl, rfl, hq, ?_, _, ⟨by rw [sizeLine_eq]; omega, rfl⟩, ?_⟩
    · show (zs.map (·.length)).sum + zs.length * (" " : Str).length ≤ 16777216
      rw [show (" " : Str).length = 1 from by decide +kernel]
      omega
    · cases zs with
      | nil =>
        have e : (((Txt.join " " ([] : List Str)).length : Int) != 0) = false := by
          have : (Txt.join " " ([] : List Str)).length = 0 := by
            have := join_bound []
            simp at this
            exact this
          rw [this]; rfl
        rw [e]
        exact iteF k
      | cons z r =>
        have := join_pos r (hz z List.mem_cons_self).1
        have e : (((Txt.join " " (z :: r)).length : Int) != 0) = true := by
          rw [bne_iff_ne]; omega
        rw [e]
        exact iteT k
/-! ### frames -/
structure Fx (K : PySem.W.Frag) (mg : Str → Option Value) (C : Addr) : Prop where
  cl : Cls K C
  n1 : NoAttr K C "_arrays"
  n2 : NoAttr K C "_positions"
  n3 : NoAttr K C "_amounts"
  n4 : NoAttr K C "_length_by_array"
  n5 : NoAttr K C "_lengths"
  n6 : NoAttr K C "_kinds"
  mgC : mg "Frame" = some (.ref C)
structure Ex (K : PySem.W.Frag) (mg : Str → Option Value) (I : Addr) : Prop where
  gP : mg "InvalidFrame" = some (.ref I)
  xP : PySem.W.excIn K I [.type "ValueError", .type "Exception", .type "BaseException", .type "object"] "ValueError.__new__" = true
  kP : PySem.W.keepIn K (.ref I) = true
  bP : PySem.W.subIn K (.ref I) (.type "BaseException") = some true
  tP : PySem.W.typeIn K (.ref I) = some (.type "type")
def flds (va vp vv : V) (LB LT KD : Addr) : List (Str × V) := [("_arrays", va), ("_positions", vp), ("_amounts", vv), ("_length_by_array", .ref LB), ("_lengths", .ref LT), ("_kinds", .ref KD)]
theorem putF_new {k : Str} {v : V} : ∀ {fs : List (Str × V)}, (∀ q ∈ fs, ¬ q.1 = k) → putF k v fs = fs ++ [(k, v)]
  | [], _ => rfl
  | q :: r, h => by
    have h1 := h q List.mem_cons_self
    have h2 := putF_new (v := v) (fs := r) fun z hz => h z (List.mem_cons_of_mem _ hz)
    show (if q.1 = k then _ else _) = _
    rw [if_neg h1, h2]
    rfl
/-- a frame stands at x -/
structure FrameAt (C : Addr) (H : Hp) (x : Addr) (va vp vv : V) (ps : List (Str × Str)) (ns us : List Str) : Prop where
  ob : ∃ dx LB LT KD, H x = some (.ins C dx (flds va vp vv LB LT KD)) ∧ H LB = some (.dK (dictV (ps.map fun q => (q.1, V.str q.2)))) ∧ H LT = some (.tup ((uniq (ps.map (·.2))).map V.str)) ∧ H KD = some (.dK (dictV (kl ps ns us)))
  da : Dv (fun _ => True) H va (.tuple (ps.map pairD))
  dp : Dv (fun _ => True) H vp (.tuple (ns.map .str))
  dv : Dv (fun _ => True) H vv (.tuple (us.map .str))
  nd : (allN ps ns us).Nodup
  l1 : ps.length ≤ 12
  l2 : ns.length ≤ 6
  l3 : us.length ≤ 6
  ok : ∀ z ∈ ps.map (·.1) ++ (ps.map (·.2) ++ (ns ++ us)), NameS z
end
end Kx
namespace Kx
open PySem PySem.Spec PyProof.Rows L2
section
variable {ex : Addr → Prop} {H H' : Hp}
mutual
theorem Dv.offG {n : Addr} (h1 : ∀ xs, H n ≠ some (.lst xs)) (h2 : ∀ kvs, H n ≠ some (.dK kvs)) : ∀ {v : V} {d : PyData}, Dv ex H v d → Dv (fun a => ex a ∨ a = n) H v d
  | _, _, .non => .non
  | _, _, .bl b => .bl b
  | _, _, .int i => .int i
  | _, _, .str x => .str x
  | _, _, .lst m e l => .lst (fun z => z.elim m (fun q => h1 _ (q ▸ e))) e (DvL.offG h1 h2 l)
  | _, _, .tup d e l => .tup d e (DvL.offG h1 h2 l)
  | _, _, .dic m e l => .dic (fun z => z.elim m (fun q => h2 _ (q ▸ e))) e (DvK.offG h1 h2 l)
theorem DvL.offG {n : Addr} (h1 : ∀ xs, H n ≠ some (.lst xs)) (h2 : ∀ kvs, H n ≠ some (.dK kvs)) : ∀ {v : List V} {d : List PyData}, DvL ex H v d → DvL (fun a => ex a ∨ a = n) H v d
  | _, _, .nil => .nil
  | _, _, .cons a b => .cons (Dv.offG h1 h2 a) (DvL.offG h1 h2 b)
theorem DvK.offG {n : Addr} (h1 : ∀ xs, H n ≠ some (.lst xs)) (h2 : ∀ kvs, H n ≠ some (.dK kvs)) : ∀ {v : List (Key × V)} {d : List (PyData × PyData)}, DvK ex H v d → DvK (fun a => ex a ∨ a = n) H v d
  | _, _, .nil => .nil
  | _, _, .cons a b => .cons (Dv.offG h1 h2 a) (DvK.offG h1 h2 b)
end
theorem Kp.ins {p C dx : Addr} {fs : List (Str × V)} {o : HO} (h : ex p) (hi : H p = some (.ins C dx fs)) : Kp ex H (upd H p o) := fun a u e n => by
  have : a ≠ p := fun z => by
    subst z
    obtain ⟨ob, w, rfl⟩ := n h
    rw [hi] at e
    cases e
  rw [upd_ne this]; exact e
theorem Dv.ins {n C dx : Addr} {fs : List (Str × V)} (hi : H n = some (.ins C dx fs)) {v : V} {d : PyData} (h : Dv ex H v d) : Dv (fun a => ex a ∨ a = n) H v d :=
  h.offG (fun xs e => by rw [hi] at e; cases e) (fun kvs e => by rw [hi] at e; cases e)
theorem DvL.strAny {ey : Addr → Prop} : ∀ {vs : List V} {ns : List Str}, DvL ex H vs (ns.map .str) → DvL ey H vs (ns.map .str)
  | _, [], .nil => .nil
  | _, z :: r, .cons a b => .cons (by cases a; exact .str z) (DvL.strAny b)
theorem Dv.strsAny {ey : Addr → Prop} {v : V} {ns : List Str} (h : Dv ex H v (.tuple (ns.map .str))) : Dv ey H v (.tuple (ns.map .str)) := by
  obtain ⟨a, xs, rfl, t, l⟩ := h.tupI
  exact Dv.tupM t l.strAny
theorem DvL.pairAny {ey : Addr → Prop} : ∀ {vs : List V} {ps : List (Str × Str)}, DvL ex H vs (ps.map pairD) → DvL ey H vs (ps.map pairD)
  | _, [], .nil => .nil
  | _, q :: r, .cons a b => .cons (by
      obtain ⟨c, rfl, t⟩ := Dv.pairI a
      exact Dv.tupM t (.cons (.str _) (.cons (.str _) .nil))) (DvL.pairAny b)
theorem Dv.pairsAny {ey : Addr → Prop} {v : V} {ps : List (Str × Str)} (h : Dv ex H v (.tuple (ps.map pairD))) : Dv ey H v (.tuple (ps.map pairD)) := by
  obtain ⟨a, xs, rfl, t, l⟩ := h.tupI
  exact Dv.tupM t l.pairAny
end
theorem DvL.paired {K : PySem.W.Frag} {ex : Addr → Prop} {H : Hp} : ∀ {vs : List V} {ps : List (Str × Str)}, DvL ex H vs (ps.map pairD) → ∃ as : List Addr, vs = as.map V.ref ∧ ∀ {ey : Addr → Prop} (G : Hp), Kp ey H G → Paired (fun p kv => SqT K G p [kV kv.1, kv.2]) as (ps.map fun q => ((Sum.inr q.1 : Key), V.str q.2))
  | _, [], .nil => ⟨[], rfl, fun _ _ => .nil⟩
  | _, q :: r, .cons a b => by
    obtain ⟨as, rfl, h⟩ := DvL.paired (K := K) b
    obtain ⟨c, rfl, t⟩ := Dv.pairI a
    exact ⟨c :: as, rfl, fun G k => .cons (k.tup t).sq (h G k)⟩
/-! ### which parts are right -/
def pairOf : PyData → Option (Str × Str)
  | .tuple [.str a, .str b] => some (a, b)
  | _ => none
def strOf : PyData → Option Str
  | .str a => some a
  | _ => none
def psOf : PyData → List (Str × Str)
  | .tuple xs => xs.filterMap pairOf
  | _ => []
def nsOf : PyData → List Str
  | .tuple xs => xs.filterMap strOf
  | _ => []
def frameD (da dp dv : PyData) : Bool := (arrsD da && (namesD 6 dp && namesD 6 dv)) && decide (allN (psOf da) (nsOf dp) (nsOf dv)).Nodup
theorem nameD_str {d : PyData} (h : nameD d = true) : ∃ z, d = .str z ∧ NameS z := by
  cases d with
  | str z => exact ⟨z, rfl, of_decide_eq_true h⟩
  | _ => cases h
theorem strs_all : ∀ {xs : List PyData}, xs.all nameD = true → xs = (xs.filterMap strOf).map .str ∧ ∀ z ∈ xs.filterMap strOf, NameS z
  | [], _ => ⟨rfl, fun z hz => nomatch hz⟩
  | x :: r, h => by
    rw [List.all_cons, Bool.and_eq_true] at h
    obtain ⟨z, rfl, hz⟩ := nameD_str h.1
    obtain ⟨e, h2⟩ := strs_all h.2
    have e1 : (PyData.str z :: r).filterMap strOf = z :: r.filterMap strOf := rfl
    rw [e1]
    refine ⟨by rw [List.map_cons, ← e], fun y hy => ?_⟩
    rcases List.mem_cons.mp hy with rfl | hy
    · exact hz
    · exact h2 y hy
theorem names_true {m : Nat} {d : PyData} (h : namesD m d = true) : d = .tuple ((nsOf d).map .str) ∧ (nsOf d).length ≤ m ∧ ∀ z ∈ nsOf d, NameS z := by
  cases d with
  | tuple xs =>
    have h' : (decide (xs.length ≤ m) && xs.all nameD) = true := h
    rw [Bool.and_eq_true] at h'
    obtain ⟨e, h2⟩ := strs_all h'.2
    refine ⟨congrArg PyData.tuple e, ?_, h2⟩
    have := of_decide_eq_true h'.1
    have l := congrArg List.length e
    rw [List.length_map] at l
    show (xs.filterMap strOf).length ≤ m
    omega
  | _ => cases h
theorem pair_true {d : PyData} (h : pairOkD d = true) : ∃ q : Str × Str, d = pairD q ∧ NameS q.1 ∧ NameS q.2 := by
  cases d with
  | tuple xs =>
    rw [pairOkD_eq, Bool.and_eq_true] at h
    match xs, h with
    | [a, b], h =>
      have h2 := h.2
      rw [List.all_cons, List.all_cons, Bool.and_eq_true, Bool.and_eq_true] at h2
      obtain ⟨y, rfl, hy⟩ := nameD_str h2.1
      obtain ⟨z, rfl, hz⟩ := nameD_str h2.2.1
      exact ⟨(y, z), rfl, hy, hz⟩
    | [], h => exact absurd h.1 (by decide)
    | [a], h => exact absurd h.1 (by simp)
    | a :: b :: c :: r, h => exact absurd h.1 (by simp)
  | _ => cases h
theorem pairs_all : ∀ {xs : List PyData}, xs.all pairOkD = true → xs = (xs.filterMap pairOf).map pairD ∧ ∀ q ∈ xs.filterMap pairOf, NameS q.1 ∧ NameS q.2
  | [], _ => ⟨rfl, fun z hz => nomatch hz⟩
  | x :: r, h => by
    rw [List.all_cons, Bool.and_eq_true] at h
    obtain ⟨q, rfl, hq⟩ := pair_true h.1
    obtain ⟨e, h2⟩ := pairs_all h.2
    have e1 : (pairD q :: r).filterMap pairOf = q :: r.filterMap pairOf := rfl
    rw [e1]
    refine ⟨by rw [List.map_cons, ← e], fun y hy => ?_⟩
    rcases List.mem_cons.mp hy with rfl | hy
    · exact hq
    · exact h2 y hy
theorem arrs_true {d : PyData} (h : arrsD d = true) : d = .tuple ((psOf d).map pairD) ∧ (psOf d).length ≤ 12 ∧ ∀ q ∈ psOf d, NameS q.1 ∧ NameS q.2 := by
  cases d with
  | tuple xs =>
    have h' : (decide (xs.length ≤ 12) && xs.all pairOkD) = true := h
    rw [Bool.and_eq_true] at h'
    obtain ⟨e, h2⟩ := pairs_all h'.2
    refine ⟨congrArg PyData.tuple e, ?_, h2⟩
    have := of_decide_eq_true h'.1
    have l := congrArg List.length e
    rw [List.length_map] at l
    show (xs.filterMap pairOf).length ≤ 12
    omega
  | _ => cases h
section
variable {P : Program} {w : World} {K : PySem.W.Frag} {mg : Str → Option Value} {base : Heap}
abbrev N_Frame_init : List Str := ["self", "arrays", "positions", "values", "_", "length"]
abbrev P_Frame_init : List Str := ["self", "arrays", "positions", "values"]
theorem sc_Frame_init : FnScope N_Frame_init P_Frame_init (defScope s_Frame_init) := ⟨rfl, rfl, rfl, by decide +kernel, rfl, by decide +kernel, by decide +kernel⟩
abbrev KpX (x : Addr) (H H' : Hp) : Prop := Kp (fun a => a = x) H H'
theorem pf1 {a : V} : putF "_arrays" a [] = ([("_arrays", a)] : List (Str × V)) := putF_new (fs := ([] : List (Str × V))) (fun q hq => by cases hq)
theorem pf2 {a b : V} : putF "_positions" b [("_arrays", a)] = ([("_arrays", a), ("_positions", b)] : List (Str × V)) := putF_new (fs := ([("_arrays", a)] : List (Str × V))) (fun q hq => by simp only [List.mem_cons, List.not_mem_nil, or_false] at hq; rcases hq with rfl <;> (dsimp only; decide +kernel))
theorem pf3 {a b c : V} : putF "_amounts" c [("_arrays", a), ("_positions", b)] = ([("_arrays", a), ("_positions", b), ("_amounts", c)] : List (Str × V)) := putF_new (fs := ([("_arrays", a), ("_positions", b)] : List (Str × V))) (fun q hq => by simp only [List.mem_cons, List.not_mem_nil, or_false] at hq; rcases hq with rfl | rfl <;> (dsimp only; decide +kernel))
theorem pf4 {a b c d : V} : putF "_length_by_array" d [("_arrays", a), ("_positions", b), ("_amounts", c)] = ([("_arrays", a), ("_positions", b), ("_amounts", c), ("_length_by_array", d)] : List (Str × V)) := putF_new (fs := ([("_arrays", a), ("_positions", b), ("_amounts", c)] : List (Str × V))) (fun q hq => by simp only [List.mem_cons, List.not_mem_nil, or_false] at hq; rcases hq with rfl | rfl | rfl <;> (dsimp only; decide +kernel))
theorem pf5 {a b c d e : V} : putF "_lengths" e [("_arrays", a), ("_positions", b), ("_amounts", c), ("_length_by_array", d)] = ([("_arrays", a), ("_positions", b), ("_amounts", c), ("_length_by_array", d), ("_lengths", e)] : List (Str × V)) := putF_new (fs := ([("_arrays", a), ("_positions", b), ("_amounts", c), ("_length_by_array", d)] : List (Str × V))) (fun q hq => by simp only [List.mem_cons, List.not_mem_nil, or_false] at hq; rcases hq with rfl | rfl | rfl | rfl <;> (dsimp only; decide +kernel))
theorem pf6 {a b c d e f : V} : putF "_kinds" f [("_arrays", a), ("_positions", b), ("_amounts", c), ("_length_by_array", d), ("_lengths", e)] = ([("_arrays", a), ("_positions", b), ("_amounts", c), ("_length_by_array", d), ("_lengths", e), ("_kinds", f)] : List (Str × V)) := putF_new (fs := ([("_arrays", a), ("_positions", b), ("_amounts", c), ("_length_by_array", d), ("_lengths", e)] : List (Str × V))) (fun q hq => by simp only [List.mem_cons, List.not_mem_nil, or_false] at hq; rcases hq with rfl | rfl | rfl | rfl | rfl <;> (dsimp only; decide +kernel))
def spInit (C I : Addr) : Sp := fun vs H Q E => ∃ (x dx : Addr) (va vp vv : V) (da dp dv : PyData) (ex : Addr → Prop), vs = [.ref x, va, vp, vv] ∧ H x = some (.ins C dx []) ∧ Dv ex H va da ∧ Dv ex H vp dp ∧ Dv ex H vv dv ∧ cost da ≤ 8000000 ∧ cost dp ≤ 8000000 ∧ cost dv ≤ 8000000 ∧
  (frameD da dp dv = true → ∀ H', FrameAt C H' x va vp vv (psOf da) (nsOf dp) (nsOf dv) → KpX x H H' → Q .non H') ∧
  (frameD da dp dv = false → ∀ H', KpX x H H' → E (.ref I) none H')
theorem ok_init (T : Bt mg) (Co_ : Co mg) {C I f : Addr} {fd : FuncData} (F : FunD K "__init__" "Frame.__init__" (defArgs s_Frame_init) (defBody s_Frame_init) (defScope s_Frame_init) [] [] f fd) (X : Fx K mg C) (XI : Ex K mg I)
    (C1 : Ca P w K mg base 4 "_are_arrays" P_are_arrays (spJudge arrsD)) (C2 : Ca P w K mg base 2 "_are_names" P_are_names spAreNames) (C3 : Ca P w K mg base 1 "_kinds_of" P_kinds_of spKinds) : FnOk P w K mg base (L2.CX P w) 5 f fd P_Frame_init (spInit C I) := by
  obtain ⟨_, gP_⟩ := Co_.MAX_POSITIONS
  obtain ⟨_, gV_⟩ := Co_.MAX_VALUES
  obtain ⟨_, _, c__are_arrays⟩ := C1
  obtain ⟨_, _, c__are_names⟩ := C2
  obtain ⟨_, _, c__kinds_of⟩ := C3
  obtain ⟨gP, xP, kP, bP, tP⟩ := XI
  refine F.ok sc_Frame_init (fun vs H Q E h => ?_) (fun cdv A outer s H vs Q E hr h => ?_)
  · obtain ⟨x, dx, va, vp, vv, da, dp, dv, ex, rfl, _⟩ := h
    rfl
  · obtain ⟨x, dx, va, vp, vv, da, dp, dv, ex, rfl, hx, ha, hp, hv, c1, c2, c3, kg, kb⟩ := h
    refine ⟨_, (pss_cons (ps_if (PW.pt (pw_or (pt_not (pt_val (pe_call c__are_arrays.1 (hr.mono (by decide)) rfl c__are_arrays.2.1 c__are_arrays.2.2.1 c__are_arrays.2.2.2 .nil pass0 (pa_cons (pv 1) pa_nil)))) (pw_or (pt_not (pt_val (pe_call c__are_names.1 (hr.mono (by decide)) rfl c__are_names.2.1 c__are_names.2.2.1 c__are_names.2.2.2 .nil pass0 (pa_cons (pv 2) (pa_cons (pe_glob (v := .int 6) rfl gP_ ⟨_, rfl⟩) pa_nil))))) (pw_or1 (pt_not (pt_val (pe_call c__are_names.1 (hr.mono (by decide)) rfl c__are_names.2.1 c__are_names.2.2.1 c__are_names.2.2.2 .nil pass0 (pa_cons (pv 3) (pa_cons (pe_glob (v := .int 6) rfl gV_ ⟨_, rfl⟩) pa_nil))))))))) (pss_one (ps_raise rfl (takes_of rfl rfl rfl rfl) (pmk_own PySem.F.excBase_ValueError xP gP kP (raises_own bP tP) rfl))) pss_nil)
      (pss_cons (ps_fld (pv 0) (pv 1) rfl)
      (pss_cons (ps_fld (pv 0) (pv 2) rfl)
      (pss_cons (ps_fld (pv 0) (pv 3) rfl)
      (pss_cons (ps_fld (pv 0) (pe_callTy (call_dictT rfl) (by rfl) T.dict (by decide +kernel) (pa_cons (pv 1) pa_nil)) rfl)
      (pss_cons (ps_fld (pv 0) (pe_callTy (call_tupleD rfl) (by rfl) T.tuple (by decide +kernel) (pa_cons (pe_dc (own := [("_", 4), ("length", 5)]) (g := (gTup K 2 (gCons (gName 4) (gCons (gName 5) gNil)))) (tt := tYes) (by rfl) sc_Frame_init.nd (pi_tup (pv 1)) (blkOk_by (own := [("_", 4), ("length", 5)]) (N := ["self", "arrays", "positions", "values", "_", "length"]) (sc := defScope s_Frame_init) (by decide +kernel)) (fun _ _ _ _ _ => pg_tup (by rfl) (pgs_cons (pg_name (i := 4) sc_Frame_init.nd rfl (Or.inl rfl)) (pgs_cons (pg_name (i := 5) sc_Frame_init.nd rfl (Or.inl rfl)) pgs_nil))) (fun _ _ _ _ _ => pts_nil) (fun _ _ _ _ _ => (pv 5)) (fun _ _ _ _ _ => pe_bl)) pa_nil)) rfl)
      (pss_cons (ps_fld (pv 0) (pe_call c__kinds_of.1 (hr.mono (by decide)) rfl c__kinds_of.2.1 c__kinds_of.2.2.1 c__kinds_of.2.2.2 .nil pass0 (pa_cons (pv 1) (pa_cons (pv 2) (pa_cons (pv 3) pa_nil)))) rfl)
      (pss_one (ps_if (pt_cmpR op_lt (pe_callB call_lenD (by rfl) T.len (by decide +kernel) (pa_cons (pe_fld (pv 0) rfl) pa_nil)) (pe_op op_add (pe_op op_add (pe_op op_add (pe_callB call_len (by rfl) T.len (by decide +kernel) (pa_cons (pv 1) pa_nil)) (pe_callB call_len (by rfl) T.len (by decide +kernel) (pa_cons (pe_fld (pv 0) rfl) pa_nil))) (pe_callB call_len (by rfl) T.len (by decide +kernel) (pa_cons (pv 2) pa_nil))) (pe_callB call_len (by rfl) T.len (by decide +kernel) (pa_cons (pv 3) pa_nil))) (nomark _)) (pss_one (ps_raise rfl (takes_of rfl rfl rfl rfl) (pmk_own PySem.F.excBase_ValueError xP gP kP (raises_own bP tP) rfl))) pss_nil))))))))), ?_⟩
    have s1 : ∀ {H1}, Same H H1 → H1 x = some (.ins C dx []) := fun sm => sm _ _ hx
    -- the three tests
    have bad : ∀ {H1 : Hp}, Same H H1 → frameD da dp dv = false → E (.ref I) none H1 := fun sm z => kb z _ (Kp.same sm)
    refine ⟨_, rfl, ex, va, da, rfl, ha, c1, fun H1 m1 => ?_⟩
    cases e1 : arrsD da with
    | false => exact ⟨_, rfl, iteT (iteT (bad m1 (by unfold frameD; rw [e1]; rfl)))⟩
    | true =>
      refine ⟨_, rfl, iteF ⟨_, rfl, ex, _, dp, 6, rfl, hp.kp (Kp.same m1), c2, fun H2 m2 => ?_⟩⟩
      cases e2 : namesD 6 dp with
      | false => exact ⟨_, rfl, iteT (iteT (bad (m1.trans m2) (by unfold frameD; rw [e1, e2]; rfl)))⟩
      | true =>
        refine ⟨_, rfl, iteF ⟨_, rfl, ex, _, dv, 6, rfl, hv.kp (Kp.same (m1.trans m2)), c3, fun H3 m3 => ?_⟩⟩
        cases e3 : namesD 6 dv with
        | false => exact ⟨_, rfl, iteT (bad ((m1.trans m2).trans m3) (by unfold frameD; rw [e1, e2, e3]; rfl))⟩
        | true =>
          refine ⟨_, rfl, iteF ?_⟩
          have m := (m1.trans m2).trans m3
          obtain ⟨ea, la, oa⟩ := arrs_true e1
          obtain ⟨ep, lp, op_⟩ := names_true e2
          obtain ⟨ev, lv, ov⟩ := names_true e3
          have fD : frameD da dp dv = decide (allN (psOf da) (nsOf dp) (nsOf dv)).Nodup := by unfold frameD; rw [e1, e2, e3]; rfl
          rw [fD] at kg kb
          rw [ea] at ha
          rw [ep] at hp
          rw [ev] at hv
          clear fD e1 e2 e3 bad ea ep ev
          generalize psOf da = ps at *
          generalize nsOf dp = ns at *
          generalize nsOf dv = us at *
          have hx3 := m _ _ hx
          have kp3 : KpX x H H3 := Kp.same m
          have stepX : ∀ {G : Hp} {fs fs2 : List (Str × V)}, KpX x H G → G x = some (.ins C dx fs) → KpX x H (upd G x (.ins C dx fs2)) := fun {G fs fs2} k e => k.trans (Kp.ins rfl e)
          refine ⟨_, rfl, _, rfl, x, C, dx, [], rfl, hx3, X.cl, X.n1, by simp, ?_⟩
          rw [pf1]
          have kp4 := stepX (fs2 := [("_arrays", va)]) kp3 hx3
          generalize hH4 : upd H3 x (.ins C dx ([("_arrays", va)])) = H4 at kp4 ⊢
          have hx4 : H4 x = some (.ins C dx [("_arrays", va)]) := by rw [← hH4]; exact upd_same
          refine ⟨_, rfl, _, rfl, x, C, dx, _, rfl, hx4, X.cl, X.n2, by simp, ?_⟩
          rw [pf2]
          have kp5 := stepX (fs2 := [("_arrays", va), ("_positions", vp)]) kp4 hx4
          generalize hH5 : upd H4 x (.ins C dx [("_arrays", va), ("_positions", vp)]) = H5 at kp5 ⊢
          have hx5 : H5 x = some (.ins C dx [("_arrays", va), ("_positions", vp)]) := by rw [← hH5]; exact upd_same
          refine ⟨_, rfl, _, rfl, x, C, dx, _, rfl, hx5, X.cl, X.n3, by simp, ?_⟩
          rw [pf3]
          have kp6 := stepX (fs2 := [("_arrays", va), ("_positions", vp), ("_amounts", vv)]) kp5 hx5
          generalize hH6 : upd H5 x (.ins C dx [("_arrays", va), ("_positions", vp), ("_amounts", vv)]) = H6 at kp6 ⊢
          have hx6 : H6 x = some (.ins C dx [("_arrays", va), ("_positions", vp), ("_amounts", vv)]) := by rw [← hH6]; exact upd_same
          have in6 : ∀ {G : Hp} {v : V} {d : PyData}, KpX x H G → Dv ex H v d → Dv (fun a => ex a ∨ a = x) G v d := fun k h => (h.ins hx).kp (k.weak fun b z => .inr z)
          obtain ⟨aA, xA, rfl, tA, dA⟩ := ha.tupI
          obtain ⟨aP, xP', rfl, tP', dP⟩ := hp.tupI
          obtain ⟨aV, xV, rfl, tV, dV⟩ := hv.tupI
          obtain ⟨as, rfl, pr⟩ := dA.paired (K := K)
          have prG : ∀ {G : Hp}, KpX x H G → Paired (fun p kv => SqT K G p [kV kv.1, kv.2]) as (ps.map fun q => (Sum.inr q.1, V.str q.2)) := fun k => pr _ k
          refine ⟨_, rfl, aA, as, _, rfl, kp6.tup tA, prG kp6, fun LB hLB => ?_⟩
          refine ⟨_, rfl, x, C, dx, _, rfl, (upd_ne (ne_of_none hx6 hLB)).trans hx6, X.cl, X.n4, by simp, ?_⟩
          rw [pf4]
          have kp7 := stepX (fs2 := [("_arrays", .ref aA), ("_positions", .ref aP), ("_amounts", .ref aV), ("_length_by_array", .ref LB)]) (kp6.trans (Kp.new (o := .dK (mergeK [] (ps.map fun q => (Sum.inr q.1, V.str q.2)))) hLB)) ((upd_ne (ne_of_none hx6 hLB)).trans hx6)
          have xLB := ne_of_none hx6 hLB
          generalize hH7 : upd (upd H6 LB (.dK (mergeK [] (ps.map fun q => (Sum.inr q.1, V.str q.2))))) x (.ins C dx [("_arrays", .ref aA), ("_positions", .ref aP), ("_amounts", .ref aV), ("_length_by_array", .ref LB)]) = H7 at kp7 ⊢
          have hx7 : H7 x = some (.ins C dx [("_arrays", .ref aA), ("_positions", .ref aP), ("_amounts", .ref aV), ("_length_by_array", .ref LB)]) := by rw [← hH7]; exact upd_same
          have lb7 : H7 LB = some (.dK (dictV (ps.map fun q => (q.1, V.str q.2)))) := by
            rw [← hH7, upd_ne (Ne.symm xLB), upd_same]
            unfold dictV
            rw [List.map_map]
            rfl
          -- the lengths
          refine ⟨_, rfl, aA, rfl, ⟨_, (kp7.tup tA).sq⟩, fun D hD => ?_⟩
          have lAn := dA.len
          rw [List.length_map, List.length_map] at lAn
          refine dc_tup (K := K) (a := aA) (xs := as.map V.ref) (fun i G => Same H7 G ∧ G D = some (.dK (dictV ((ps.take i).map fun q => (q.2, V.bl true))))) ⟨Same.upd hD, upd_same⟩ (fun i G _ h => ((kp7.trans (Kp.same h.1)).tup tA).sq) ?_ ?_
          · rintro i y G hi ⟨sm, hDx⟩
            obtain ⟨e, he, dve⟩ := dA.get hi
            have hi' : i < ps.length := by
              have := (List.getElem?_eq_some_iff.mp hi).1
              rw [List.length_map] at this
              omega
            rw [List.getElem?_map, List.getElem?_eq_getElem hi'] at he
            cases he
            obtain ⟨b, rfl, hb⟩ := dve.pairI
            refine ⟨b, _, rfl, ((kp7.trans (Kp.same sm)).tup hb).sq, rfl, _, _, rfl, _, _, rfl, rfl, ?_⟩
            have z1 := dictV_le ((ps.take i).map fun q => (q.2, V.bl true))
            rw [List.length_map, List.length_take] at z1
            refine ⟨rfl, yes (⟨_, rfl, _, .inr ps[i].2, rfl, hDx, by rw [sizeLine_eq]; omega, ?_, ?_⟩)⟩
            · intro b u e
              rw [upd_ne (ne_of_none e hD)]
              exact sm b u e
            · rw [upd_same, List.take_succ, List.getElem?_eq_getElem hi']
              show _ = some (HO.dK (dictV (((ps.take i) ++ [ps[i]]).map fun q => (q.2, V.bl true))))
              rw [List.map_append]
              have := dictV_snoc ((ps.take i).map fun q => (q.2, V.bl true)) (ps[i].2, V.bl true)
              exact congrArg (fun d => some (HO.dK d)) this.symm
          · rintro G ⟨sm, hDx⟩
            rw [List.length_map, lAn, List.take_length] at hDx
            have kp8 := kp7.trans (Kp.same sm)
            have hx8 := sm _ _ hx7
            have lb8 := sm _ _ lb7
            refine ⟨D, _, rfl, .inl hDx, fun LT hLT => ?_⟩
            have xLT := ne_of_none hx8 hLT
            refine ⟨_, rfl, x, C, dx, _, rfl, (upd_ne xLT).trans hx8, X.cl, X.n5, by simp, ?_⟩
            rw [pf5]
            have kp9 := stepX (fs2 := [("_arrays", .ref aA), ("_positions", .ref aP), ("_amounts", .ref aV), ("_length_by_array", .ref LB), ("_lengths", .ref LT)]) (kp8.trans (Kp.new (o := .tup ((dictV (ps.map fun q => (q.2, V.bl true))).map fun kv => kV kv.1)) hLT)) ((upd_ne xLT).trans hx8)
            generalize hH9 : upd (upd G LT (.tup ((dictV (ps.map fun q => (q.2, V.bl true))).map fun kv => kV kv.1))) x (.ins C dx [("_arrays", .ref aA), ("_positions", .ref aP), ("_amounts", .ref aV), ("_length_by_array", .ref LB), ("_lengths", .ref LT)]) = H9 at kp9 ⊢
            have hx9 : H9 x = some (.ins C dx [("_arrays", .ref aA), ("_positions", .ref aP), ("_amounts", .ref aV), ("_length_by_array", .ref LB), ("_lengths", .ref LT)]) := by rw [← hH9]; exact upd_same
            have lb9 : H9 LB = some (.dK (dictV (ps.map fun q => (q.1, V.str q.2)))) := by
              rw [← hH9, upd_ne (Ne.symm xLB), upd_ne (ne_of_none lb8 hLT)]
              exact lb8
            have lt9 : H9 LT = some (.tup ((uniq (ps.map (·.2))).map V.str)) := by
              rw [← hH9, upd_ne (Ne.symm xLT), upd_same]
              have := congrArg (List.map kV) (dictV_keys (ps.map fun q => (q.2, V.bl true)))
              rw [List.map_map, List.map_map, List.map_map] at this
              exact congrArg (fun z => some (HO.tup z)) this
            refine ⟨_, rfl, _, rfl, _, rfl, _, _, _, _, ps, ns, us, rfl, in6 kp9 ha, in6 kp9 hp, in6 kp9 hv, by omega, by omega, by omega, fun KD Hk hKD m10 hKk => ?_⟩
            have hx10 := m10 _ _ hx9
            have kp10 := kp9.trans (Kp.same m10)
            refine ⟨_, rfl, x, C, dx, _, rfl, hx10, X.cl, X.n6, by simp, ?_⟩
            rw [pf6]
            have xKD := ne_of_none hx9 hKD
            have kp11 := stepX (fs2 := [("_arrays", .ref aA), ("_positions", .ref aP), ("_amounts", .ref aV), ("_length_by_array", .ref LB), ("_lengths", .ref LT), ("_kinds", .ref KD)]) kp10 hx10
            generalize hH11 : upd Hk x (.ins C dx [("_arrays", .ref aA), ("_positions", .ref aP), ("_amounts", .ref aV), ("_length_by_array", .ref LB), ("_lengths", .ref LT), ("_kinds", .ref KD)]) = H11 at kp11 ⊢
            have hlb : H11 LB = some (.dK (dictV (ps.map fun q => (q.1, V.str q.2)))) := by
              rw [← hH11, upd_ne (Ne.symm xLB)]; exact m10 _ _ lb9
            have hlt : H11 LT = some (.tup ((uniq (ps.map (·.2))).map V.str)) := by
              rw [← hH11, upd_ne (Ne.symm xLT)]; exact m10 _ _ lt9
            have hkd : H11 KD = some (.dK (dictV (kl ps ns us))) := by
              rw [← hH11, upd_ne (Ne.symm xKD)]; exact hKk
            have hxx : H11 x = some (.ins C dx (flds (.ref aA) (.ref aP) (.ref aV) LB LT KD)) := by rw [← hH11]; exact upd_same
            refine ⟨_, rfl, x, C, dx, _, _, rfl, hxx, X.cl, X.n6, rfl, KD, _, rfl, hkd, ?_⟩
            refine ⟨_, rfl, _, _, rfl, .inr ⟨_, (kp11.tup tA).sq, rfl⟩, _, rfl, x, C, dx, _, _, rfl, hxx, X.cl, X.n5, rfl, _, _, rfl, .inr ⟨_, .inl (Rd.of hlt), rfl⟩, _, _, rfl, rfl, ?_⟩
            refine ⟨_, rfl, _, _, rfl, .inr ⟨_, (kp11.tup tP').sq, rfl⟩, _, _, rfl, rfl, ?_⟩
            refine ⟨_, rfl, _, _, rfl, .inr ⟨_, (kp11.tup tV).sq, rfl⟩, _, _, rfl, rfl, ?_⟩
            have hk := kinds_count ps ns us
            have lP := dP.len
            have lV := dV.len
            rw [List.length_map] at lP lV
            have lN : (allN ps ns us).length = ps.length + (uniq (ps.map (·.2))).length + ns.length + us.length := by
              unfold allN
              simp only [List.length_append, List.length_map]
              omega
            refine ⟨_, _, rfl, rfl, _, rfl, ?_⟩
            rw [List.length_map, List.length_map, lAn, lP, lV]
            by_cases nd : (allN ps ns us).Nodup
            · have := hk.2.mpr nd
              rw [decide_eq_false (by omega)]
              refine iteF (kg (decide_eq_true nd) _ ⟨⟨dx, LB, LT, KD, hxx, hlb, hlt, hkd⟩, (in6 kp11 ha).pairsAny, (in6 kp11 hp).strsAny, (in6 kp11 hv).strsAny, nd, la, lp, lv, fun z hz => ?_⟩ kp11)
              rcases List.mem_append.mp hz with hz | hz
              · obtain ⟨q, hq, rfl⟩ := List.mem_map.mp hz
                exact (oa q hq).1
              · rcases List.mem_append.mp hz with hz | hz
                · obtain ⟨q, hq, rfl⟩ := List.mem_map.mp hz
                  exact (oa q hq).2
                · rcases List.mem_append.mp hz with hz | hz
                  · exact op_ z hz
                  · exact ov z hz
            · have : ¬ (allN ps ns us).length ≤ (dictV (kl ps ns us)).length := fun z => nd (hk.2.mp z)
              rw [decide_eq_true (by omega)]
              exact iteT (kb (decide_eq_false nd) H11 kp11)
end
end Kx
namespace Kx
open PySem PySem.Spec PyProof.Rows L2
def pairT (q : Str × Str) : Str := q.1 ++ (":" : Str) ++ q.2
theorem DvL.strE {ex : Addr → Prop} {H : Hp} : ∀ {vs : List V} {ns : List Str}, DvL ex H vs (ns.map .str) → vs = ns.map V.str
  | _, [], .nil => rfl
  | _, z :: r, .cons a b => by rw [a.strI, DvL.strE b]; rfl
theorem pairT_len (q : Str × Str) : (pairT q).length = q.1.length + 1 + q.2.length := by
  unfold pairT
  rw [strLen_append, strLen_append, show (":" : Str).length = 1 by decide +kernel]
theorem str_emp (z : Str) : Str.empty ++ z = z := by
  show (⟨#[] ++ z.cps⟩ : Str) = z
  rw [Array.empty_append]
theorem blanks_le (zs : List Str) (n : Nat) (h : ∀ z ∈ zs, z.length ≤ n) : (blanks zs).length ≤ zs.length * n + zs.length + 1 := by
  unfold blanks
  have e1 : ("-" : Str).length = 1 := by decide +kernel
  split
  · omega
  · have := join_bound zs
    have := sum_le zs n h
    omega
theorem ps_never {X : Cx} {s : Stmt} : PS X s (fun _ _ _ => False) := ⟨fun _ _ _ _ _ _ h => h.elim⟩
theorem FrameAt.same {C x : Addr} {H H' : Hp} {va vp vv : V} {ps : List (Str × Str)} {ns us : List Str} (h : FrameAt C H x va vp vv ps ns us) (k : Same H H') : FrameAt C H' x va vp vv ps ns us := by
  obtain ⟨⟨dx, LB, LT, KD, h1, h2, h3, h4⟩, da, dp, dv, r1, r2, r3, r4, r5⟩ := h
  exact ⟨⟨dx, LB, LT, KD, k _ _ h1, k _ _ h2, k _ _ h3, k _ _ h4⟩, da.kp (Kp.same k), dp.kp (Kp.same k), dv.kp (Kp.same k), r1, r2, r3, r4, r5⟩
theorem FrameAt.nm {C x : Addr} {H : Hp} {va vp vv : V} {ps : List (Str × Str)} {ns us : List Str} (h : FrameAt C H x va vp vv ps ns us) {z : Str} (hz : z ∈ allN ps ns us) : NameS z := by
  refine h.ok z ?_
  rcases List.mem_append.mp hz with q | q
  · exact List.mem_append.mpr (.inl q)
  · rcases List.mem_append.mp q with q | q
    · exact List.mem_append.mpr (.inr (List.mem_append.mpr (.inl ((uniq_mem _ _).mp q))))
    · exact List.mem_append.mpr (.inr (List.mem_append.mpr (.inr q)))
/-! ### kinds -/
def kindF (ps : List (Str × Str)) (ns : List Str) (z : Str) : Str := if z ∈ ps.map (·.1) then "array" else if z ∈ ps.map (·.2) then "length" else if z ∈ ns then "position" else "value"
theorem nd4 {a b c d : List Str} (h : (a ++ (b ++ (c ++ d))).Nodup) : a.Nodup ∧ (∀ z ∈ b, z ∉ a) ∧ (∀ z ∈ c, z ∉ a ∧ z ∉ b) ∧ ∀ z ∈ d, z ∉ a ∧ z ∉ b ∧ z ∉ c := by
  obtain ⟨h1, h2, h3⟩ := List.nodup_append.mp h
  obtain ⟨h4, h5, h6⟩ := List.nodup_append.mp h2
  obtain ⟨h7, h8, h9⟩ := List.nodup_append.mp h5
  refine ⟨h1, fun z hz q => h3 z q z (List.mem_append.mpr (.inl hz)) rfl, fun z hz => ⟨fun q => h3 z q z (List.mem_append.mpr (.inr (List.mem_append.mpr (.inl hz)))) rfl, fun q => h6 z q z (List.mem_append.mpr (.inl hz)) rfl⟩,
    fun z hz => ⟨fun q => h3 z q z (List.mem_append.mpr (.inr (List.mem_append.mpr (.inr hz)))) rfl, fun q => h6 z q z (List.mem_append.mpr (.inr hz)) rfl, fun q => h9 z q z hz rfl⟩⟩
theorem kind_array {ps : List (Str × Str)} {ns us : List Str} (nd : (allN ps ns us).Nodup) : ∀ z ∈ ps.map (·.1), kindF ps ns z = "array" := fun z hz => if_pos hz
theorem kind_length {ps : List (Str × Str)} {ns us : List Str} (nd : (allN ps ns us).Nodup) : ∀ z ∈ ps.map (·.2), kindF ps ns z = "length" := fun z hz => by
  unfold kindF
  rw [if_neg ((nd4 nd).2.1 z ((uniq_mem _ _).mpr hz)), if_pos hz]
theorem kind_position {ps : List (Str × Str)} {ns us : List Str} (nd : (allN ps ns us).Nodup) : ∀ z ∈ ns, kindF ps ns z = "position" := fun z hz => by
  have := (nd4 nd).2.2.1 z hz
  unfold kindF
  rw [if_neg this.1, if_neg (fun q => this.2 ((uniq_mem _ _).mpr q)), if_pos hz]
theorem kind_value {ps : List (Str × Str)} {ns us : List Str} (nd : (allN ps ns us).Nodup) : ∀ z ∈ us, kindF ps ns z = "value" := fun z hz => by
  have := (nd4 nd).2.2.2 z hz
  unfold kindF
  rw [if_neg this.1, if_neg (fun q => this.2.1 ((uniq_mem _ _).mpr q)), if_neg this.2.2]
theorem kl_val {ps : List (Str × Str)} {ns us : List Str} (nd : (allN ps ns us).Nodup) {z : Str} (hz : z ∈ allN ps ns us) : valV (dictV (kl ps ns us)) (.inr z) = some (.str (kindF ps ns z)) := by
  rw [dictV_val (fun z => V.str (kindF ps ns z)) (kl ps ns us) ?_ z, if_pos ((kl_mem _ _ _ _).mpr hz)]
  intro q hq
  unfold kl at hq
  rcases List.mem_append.mp hq with hq | hq
  · obtain ⟨p, hp, hq⟩ := List.mem_flatMap.mp hq
    rcases List.mem_cons.mp hq with rfl | hq
    · exact congrArg V.str (kind_array nd p.1 (List.mem_map.mpr ⟨p, hp, rfl⟩)).symm
    · rcases List.mem_cons.mp hq with rfl | hq
      · exact congrArg V.str (kind_length nd p.2 (List.mem_map.mpr ⟨p, hp, rfl⟩)).symm
      · cases hq
  · rcases List.mem_append.mp hq with hq | hq
    · obtain ⟨y, hy, rfl⟩ := List.mem_map.mp hq
      exact congrArg V.str (kind_position nd y hy).symm
    · obtain ⟨y, hy, rfl⟩ := List.mem_map.mp hq
      exact congrArg V.str (kind_value nd y hy).symm
theorem find_of {q : Str × Str} : ∀ {ps : List (Str × Str)}, (ps.map (·.1)).Nodup → q ∈ ps → ps.find? (fun p => decide (p.1 = q.1)) = some q
  | p :: r, nd, h => by
    rw [List.map_cons, List.nodup_cons] at nd
    by_cases e : p.1 = q.1
    · rcases List.mem_cons.mp h with rfl | h
      · exact List.find?_cons_of_pos (decide_eq_true rfl)
      · exact absurd (List.mem_map.mpr ⟨q, h, e.symm⟩) nd.1
    · rw [List.find?_cons_of_neg (by rw [decide_eq_false e]; exact Bool.false_ne_true)]
      rcases List.mem_cons.mp h with rfl | h
      · exact absurd rfl e
      · exact find_of nd.2 h
theorem lb_val {ps : List (Str × Str)} (nd : (ps.map (·.1)).Nodup) {q : Str × Str} (hq : q ∈ ps) : valV (dictV (ps.map fun q => (q.1, V.str q.2))) (.inr q.1) = some (.str q.2) := by
  rw [dictV_val (fun z => match ps.find? (fun p => decide (p.1 = z)) with | some p => V.str p.2 | none => V.non) (ps.map fun q => (q.1, V.str q.2)) ?_ q.1, if_pos (by rw [List.map_map]; exact List.mem_map.mpr ⟨q, hq, rfl⟩)]
  · show some (match ps.find? (fun p => decide (p.1 = q.1)) with | some p => V.str p.2 | none => V.non) = _
    rw [find_of nd hq]
  · intro y hy
    obtain ⟨p, hp, rfl⟩ := List.mem_map.mp hy
    show V.str p.2 = match ps.find? (fun z => decide (z.1 = p.1)) with | some p => V.str p.2 | none => V.non
    rw [find_of nd hp]
/-! ### methods -/
def HasM (K : PySem.W.Frag) (C : Addr) (m q : Str) (st : Stmt) : Prop := ∃ f fd, FunD K m q (defArgs st) (defBody st) (defScope st) [] [] f fd ∧ Meth K C m f
abbrev Me (P : Program) (w : World) (K : PySem.W.Frag) (mg : Str → Option Value) (base : Heap) (C : Addr) (k : Nat) (m : Str) (ps : List Str) (sp : Sp) : Prop := ∃ f fd, FnOk P w K mg base CX0 k f fd ps sp ∧ Meth K C m f ∧ Binds K fd ps []
section
variable {P : Program} {w : World} {K : PySem.W.Frag} {mg : Str → Option Value} {base : Heap}
theorem met_of {C : Addr} {m q : Str} {st : Stmt} {N ps : List Str} {k : Nat} {sp : Sp} (h : HasM K C m q st) (S : FnScope N ps (defScope st))
    (bd : ∀ (kV doc pm : Value) (an : Option Addr) (cdv ct : Value) (us : List Value), us.length = ps.length → bindArgs (PySem.W.fnOf m q (defArgs st) (defBody st) (defScope st) .none kV doc pm an cdv ct) ⟨us, []⟩ = pure (ps.zip us))
    (len : ∀ vs H Q E, sp vs H Q E → vs.length = ps.length)
    (body : ∀ (f : Addr) (cdv : Value) (A : Around) (outer : List Env) (s : Shared) (H : Hp) (vs : List V) (Q : VK) (E : XK), Room k (A.deeper (envOfC q (defScope st) s.heap.objs.size f cdv)) → sp vs H Q E →
      ∃ t, PSs (cxOf CX0 P w K mg base N q (defScope st) f cdv A outer s H E).nox (defBody st) t ∧ t { nx := fun _ H' => Q .non H', rt := Q } (start N vs) H) : Me P w K mg base C (k + 1) m ps sp := by
  obtain ⟨f, fd, F, g⟩ := h
  exact ⟨f, fd, F.ok S len (fun cdv A outer s H vs Q E hr h => let ⟨t, ht, q⟩ := body f cdv A outer s H vs Q E hr h; ⟨t, PSs.nox ht, q⟩), g, F.bindsN bd⟩
abbrev N_Frame_is_of_kind : List Str := ["self", "value", "kind"]
abbrev P_Frame_is_of_kind : List Str := ["self", "value", "kind"]
theorem sc_Frame_is_of_kind : FnScope N_Frame_is_of_kind P_Frame_is_of_kind (defScope s_Frame_is_of_kind) := ⟨rfl, rfl, rfl, by decide +kernel, rfl, by decide +kernel, by decide +kernel⟩
def spKind (C : Addr) : Sp := fun vs H Q _ => ∃ (x : Addr) (va vp vv : V) (ps : List (Str × Str)) (ns us : List Str) (z k : Str), vs = [.ref x, .str z, .str k] ∧ FrameAt C H x va vp vv ps ns us ∧ z ∈ allN ps ns us ∧ Q (.bl (decide (kindF ps ns z = k))) H
theorem ok_kind (T : Bt mg) {C : Addr} (X : Fx K mg C) (h : HasM K C "_is_of_kind" "Frame._is_of_kind" s_Frame_is_of_kind) : Me P w K mg base C 1 "_is_of_kind" P_Frame_is_of_kind (spKind C) := by
  refine met_of h sc_Frame_is_of_kind (fun _ _ _ _ _ _ us hl => match us, hl with | [_, _, _], _ => rfl) (fun vs H Q E h => ?_) (fun f cdv A outer s H vs Q E hr h => ?_)
  · obtain ⟨x, va, vp, vv, ps, ns, us, z, k, rfl, _⟩ := h
    rfl
  · obtain ⟨x, va, vp, vv, ps, ns, us, z, k, rfl, fr, hz, q⟩ := h
    refine ⟨_, (pss_one (ps_ret (pe_and (pe_callB call_isi (by rfl) T.isinstance (by decide +kernel) (pa_cons (pv 1) (pa_cons (pe_bltn (v := .ty "str") (by rfl) T.str (by decide +kernel) rfl) pa_nil))) (pe_one (pe_cmpR op_eq (pe_dget1 (hu_of hr) (pe_fld (pv 0) rfl) (pv 1) ⟨rfl, rfl, rfl, rfl⟩) (pv 2) (nomark _)))))), ?_⟩
    obtain ⟨⟨dx, LB, LT, KD, hx, hlb, hlt, hkd⟩, da, dp, dv, nd, _⟩ := fr
    refine ⟨_, rfl, _, _, _, _, _, rfl, .ty _, (Dv.str (ex := fun _ => True) (H := H) z).ty, kitS (.str z), _, rfl, iteT ?_⟩
    refine ⟨_, rfl, x, C, dx, _, _, rfl, hx, X.cl, X.n6, rfl, KD, rfl, .inl ⟨_, .inl hkd⟩, _, rfl, _, DGet.k (k := .inr z) hkd, ?_⟩
    rw [kl_val nd hz]
    refine ⟨_, rfl, rfl, ?_⟩
    rw [show decide ((some (V.str (kindF ps ns z))).getD V.non = V.str k) = decide (kindF ps ns z = k) from decide_eq_decide.mpr ⟨fun e => by injection e, fun e => congrArg V.str e⟩]
    exact q
abbrev N_Frame_contains : List Str := ["self", "value"]
abbrev P_Frame_contains : List Str := ["self", "value"]
theorem sc_Frame_contains : FnScope N_Frame_contains P_Frame_contains (defScope s_Frame_contains) := ⟨rfl, rfl, rfl, by decide +kernel, rfl, by decide +kernel, by decide +kernel⟩
def spHas (C : Addr) : Sp := fun vs H Q _ => ∃ (x : Addr) (va vp vv : V) (ps : List (Str × Str)) (ns us : List Str) (z : Str), vs = [.ref x, .str z] ∧ FrameAt C H x va vp vv ps ns us ∧ z ∈ allN ps ns us ∧ Q (.bl true) H
theorem ok_contains (T : Bt mg) {C : Addr} (X : Fx K mg C) (h : HasM K C "__contains__" "Frame.__contains__" s_Frame_contains) : Me P w K mg base C 1 "__contains__" P_Frame_contains (spHas C) := by
  refine met_of h sc_Frame_contains (fun _ _ _ _ _ _ us hl => match us, hl with | [_, _], _ => rfl) (fun vs H Q E h => ?_) (fun f cdv A outer s H vs Q E hr h => ?_)
  · obtain ⟨x, va, vp, vv, ps, ns, us, z, rfl, _⟩ := h
    rfl
  · obtain ⟨x, va, vp, vv, ps, ns, us, z, rfl, fr, hz, q⟩ := h
    refine ⟨_, (pss_one (ps_ret (pe_and (pe_callB call_isi (by rfl) T.isinstance (by decide +kernel) (pa_cons (pv 1) (pa_cons (pe_bltn (v := .ty "str") (by rfl) T.str (by decide +kernel) rfl) pa_nil))) (pe_one (pe_cmp (pc_din (hu_of hr) (pv 1) (pe_fld (pv 0) rfl)) rfl))))), ?_⟩
    obtain ⟨⟨dx, LB, LT, KD, hx, hlb, hlt, hkd⟩, da, dp, dv, nd, _⟩ := fr
    refine ⟨_, rfl, _, _, _, _, _, rfl, .ty _, (Dv.str (ex := fun _ => True) (H := H) z).ty, kitS (.str z), _, rfl, iteT ?_⟩
    refine ⟨_, rfl, _, rfl, x, C, dx, _, _, rfl, hx, X.cl, X.n6, rfl, KD, _, rfl, DGet.k (k := .inr z) hkd, ?_⟩
    rw [kl_val nd hz]
    exact q
abbrev N_Frame_is_fresh : List Str := ["self", "value"]
abbrev P_Frame_is_fresh : List Str := ["self", "value"]
theorem sc_Frame_is_fresh : FnScope N_Frame_is_fresh P_Frame_is_fresh (defScope s_Frame_is_fresh) := ⟨rfl, rfl, rfl, by decide +kernel, rfl, by decide +kernel, by decide +kernel⟩
def spFresh (C : Addr) : Sp := fun vs H Q _ => ∃ (x : Addr) (va vp vv : V) (ps : List (Str × Str)) (ns us : List Str) (z : Str), vs = [.ref x, .str z] ∧ FrameAt C H x va vp vv ps ns us ∧ z ∈ allN ps ns us ∧ ∀ H', Same H H' → Q (.bl false) H'
theorem ok_fresh (T : Bt mg) {C : Addr} (X : Fx K mg C) (h : HasM K C "is_fresh" "Frame.is_fresh" s_Frame_is_fresh) (C1 : Ca P w K mg base 1 "is_name" P_is_name (spJudge nameD)) : Me P w K mg base C 2 "is_fresh" P_Frame_is_fresh (spFresh C) := by
  obtain ⟨_, _, c_is_name⟩ := C1
  refine met_of h sc_Frame_is_fresh (fun _ _ _ _ _ _ us hl => match us, hl with | [_, _], _ => rfl) (fun vs H Q E h => ?_) (fun f cdv A outer s H vs Q E hr h => ?_)
  · obtain ⟨x, va, vp, vv, ps, ns, us, z, rfl, _⟩ := h
    rfl
  · obtain ⟨x, va, vp, vv, ps, ns, us, z, rfl, fr, hz, q⟩ := h
    refine ⟨_, (pss_one (ps_ret (pe_and (pe_call c_is_name.1 (hr.mono (by decide)) rfl c_is_name.2.1 c_is_name.2.2.1 c_is_name.2.2.2 .nil pass0 (pa_cons (pv 1) pa_nil)) (pe_one (pe_cmp (pc_dnotin (hu_of hr) (pv 1) (pe_fld (pv 0) rfl)) rfl))))), ?_⟩
    obtain ⟨dx, LB, LT, KD, hx, hlb, hlt, hkd⟩ := fr.ob
    have nz := fr.nm hz
    refine ⟨_, rfl, fun _ => True, _, .str z, rfl, .str z, ?_, fun H2 sm => ?_⟩
    · simp only [cost]
      have := nz.2.1
      omega
    · rw [show nameD (.str z) = true from decide_eq_true nz]
      refine ⟨_, rfl, iteT ?_⟩
      refine ⟨_, rfl, _, rfl, x, C, dx, _, _, rfl, sm _ _ hx, X.cl, X.n6, rfl, KD, _, rfl, DGet.k (k := .inr z) (sm _ _ hkd), ?_⟩
      rw [kl_val fr.nd hz]
      exact q _ sm
abbrev N_Frame_kind_of : List Str := ["self", "name"]
abbrev P_Frame_kind_of : List Str := ["self", "name"]
theorem sc_Frame_kind_of : FnScope N_Frame_kind_of P_Frame_kind_of (defScope s_Frame_kind_of) := ⟨rfl, rfl, rfl, by decide +kernel, rfl, by decide +kernel, by decide +kernel⟩
def spKindOf (C : Addr) : Sp := fun vs H Q _ => ∃ (x : Addr) (va vp vv : V) (ps : List (Str × Str)) (ns us : List Str) (z : Str), vs = [.ref x, .str z] ∧ FrameAt C H x va vp vv ps ns us ∧ z ∈ allN ps ns us ∧ Q (.str (kindF ps ns z)) H
theorem ok_kind_of (T : Bt mg) {C : Addr} (X : Fx K mg C) (h : HasM K C "kind_of" "Frame.kind_of" s_Frame_kind_of) (C1 : Me P w K mg base C 1 "__contains__" P_Frame_contains (spHas C)) : Me P w K mg base C 2 "kind_of" P_Frame_kind_of (spKindOf C) := by
  obtain ⟨_, _, c_contains⟩ := C1
  refine met_of h sc_Frame_kind_of (fun _ _ _ _ _ _ us hl => match us, hl with | [_, _], _ => rfl) (fun vs H Q E h => ?_) (fun f cdv A outer s H vs Q E hr h => ?_)
  · obtain ⟨x, va, vp, vv, ps, ns, us, z, rfl, _⟩ := h
    rfl
  · obtain ⟨x, va, vp, vv, ps, ns, us, z, rfl, fr, hz, q⟩ := h
    refine ⟨_, (pss_cons (ps_if (pt_cmpR (op_notInO X.cl c_contains.2.1.at_ c_contains.2.1.fn c_contains.1 (hr.mono (by decide)) c_contains.2.2 pass0) (pv 1) (pv 0) rfl) (pss_one ps_never) pss_nil)
      (pss_one (ps_ret (pe_dget (hu_of hr) (pe_fld (pv 0) rfl) (pv 1) (fun _ _ => rfl))))), ?_⟩
    obtain ⟨dx, LB, LT, KD, hx, hlb, hlt, hkd⟩ := fr.ob
    refine ⟨_, rfl, _, rfl, x, dx, _, rfl, hx, x, va, vp, vv, ps, ns, us, z, rfl, fr, hz, _, rfl, _, rfl, iteF ?_⟩
    refine ⟨_, rfl, x, C, dx, _, _, rfl, hx, X.cl, X.n6, rfl, _, rfl, KD, _, rfl, ?_, q⟩
    rw [← kl_val fr.nd hz]
    exact DGet.k (k := .inr z) hkd
abbrev N_Frame_length_of : List Str := ["self", "array"]
abbrev P_Frame_length_of : List Str := ["self", "array"]
theorem sc_Frame_length_of : FnScope N_Frame_length_of P_Frame_length_of (defScope s_Frame_length_of) := ⟨rfl, rfl, rfl, by decide +kernel, rfl, by decide +kernel, by decide +kernel⟩
def spLenOf (C : Addr) : Sp := fun vs H Q _ => ∃ (x : Addr) (va vp vv : V) (ps : List (Str × Str)) (ns us : List Str) (q : Str × Str), vs = [.ref x, .str q.1] ∧ FrameAt C H x va vp vv ps ns us ∧ q ∈ ps ∧ Q (.str q.2) H
theorem ok_length_of (T : Bt mg) {C : Addr} (X : Fx K mg C) (h : HasM K C "length_of" "Frame.length_of" s_Frame_length_of) (C1 : Me P w K mg base C 1 "_is_of_kind" P_Frame_is_of_kind (spKind C)) : Me P w K mg base C 2 "length_of" P_Frame_length_of (spLenOf C) := by
  obtain ⟨_, _, c_is_of_kind⟩ := C1
  refine met_of h sc_Frame_length_of (fun _ _ _ _ _ _ us hl => match us, hl with | [_, _], _ => rfl) (fun vs H Q E h => ?_) (fun f cdv A outer s H vs Q E hr h => ?_)
  · obtain ⟨x, va, vp, vv, ps, ns, us, z, rfl, _⟩ := h
    rfl
  · obtain ⟨x, va, vp, vv, ps, ns, us, p, rfl, fr, hz, q⟩ := h
    refine ⟨_, (pss_cons (ps_if (pt_not (pt_val (pe_meth (pv 0) X.cl c_is_of_kind.2.1 c_is_of_kind.1 (hr.mono (by decide)) c_is_of_kind.2.2 .nil pass0 (pa_cons (pv 1) (pa_cons pe_str pa_nil))))) (pss_one ps_never) pss_nil)
      (pss_one (ps_ret (pe_dget (hu_of hr) (pe_fld (pv 0) rfl) (pv 1) (fun _ _ => rfl))))), ?_⟩
    obtain ⟨dx, LB, LT, KD, hx, hlb, hlt, hkd⟩ := fr.ob
    have hm : p.1 ∈ ps.map (·.1) := List.mem_map.mpr ⟨p, hz, rfl⟩
    refine ⟨_, rfl, x, dx, _, rfl, hx, rfl, _, rfl, x, va, vp, vv, ps, ns, us, p.1, _, rfl, fr, List.mem_append.mpr (.inl hm), ?_⟩
    rw [kind_array fr.nd _ hm]
    refine ⟨_, rfl, iteF ?_⟩
    refine ⟨_, rfl, x, C, dx, _, _, rfl, hx, X.cl, X.n4, rfl, _, rfl, LB, _, rfl, ?_, q⟩
    rw [← lb_val (nd4 fr.nd).1 hz]
    exact DGet.k (k := .inr p.1) hlb
abbrev N_Frame_len : List Str := ["self"]
abbrev P_Frame_len : List Str := ["self"]
theorem sc_Frame_len : FnScope N_Frame_len P_Frame_len (defScope s_Frame_len) := ⟨rfl, rfl, rfl, by decide +kernel, rfl, by decide +kernel, by decide +kernel⟩
def spLen (C : Addr) : Sp := fun vs H Q _ => ∃ (x : Addr) (va vp vv : V) (ps : List (Str × Str)) (ns us : List Str), vs = [.ref x] ∧ FrameAt C H x va vp vv ps ns us ∧ Q (.int (allN ps ns us).length) H
theorem ok_len (T : Bt mg) {C : Addr} (X : Fx K mg C) (h : HasM K C "__len__" "Frame.__len__" s_Frame_len) : Me P w K mg base C 1 "__len__" P_Frame_len (spLen C) := by
  refine met_of h sc_Frame_len (fun _ _ _ _ _ _ us hl => match us, hl with | [_], _ => rfl) (fun vs H Q E h => ?_) (fun f cdv A outer s H vs Q E hr h => ?_)
  · obtain ⟨x, va, vp, vv, ps, ns, us, rfl, _⟩ := h
    rfl
  · obtain ⟨x, va, vp, vv, ps, ns, us, rfl, fr, q⟩ := h
    refine ⟨_, (pss_one (ps_ret (pe_callB call_lenD (by rfl) T.len (by decide +kernel) (pa_cons (pe_fld (pv 0) rfl) pa_nil)))), ?_⟩
    obtain ⟨⟨dx, LB, LT, KD, hx, hlb, hlt, hkd⟩, da, dp, dv, nd, _⟩ := fr
    refine ⟨_, rfl, x, C, dx, _, _, rfl, hx, X.cl, X.n6, rfl, KD, _, rfl, hkd, ?_⟩
    have := kinds_count ps ns us
    rw [show (dictV (kl ps ns us)).length = (allN ps ns us).length from Nat.le_antisymm this.1 (this.2.mpr nd)]
    exact q
abbrev N_Frame_str : List Str := ["self", "arrays", "array", "length"]
abbrev P_Frame_str : List Str := ["self"]
theorem sc_Frame_str : FnScope N_Frame_str P_Frame_str (defScope s_Frame_str) := ⟨rfl, rfl, rfl, by decide +kernel, rfl, by decide +kernel, by decide +kernel⟩
def rowS (ps : List (Str × Str)) (ns us : List Str) : Str := blanks (ps.map pairT) ++ " | " ++ blanks ns ++ " | " ++ blanks us
def spStr (C : Addr) : Sp := fun vs H Q _ => ∃ (x : Addr) (va vp vv : V) (ps : List (Str × Str)) (ns us : List Str), vs = [.ref x] ∧ FrameAt C H x va vp vv ps ns us ∧ ∀ H', Same H H' → Q (.str (rowS ps ns us)) H'
theorem ok_str (T : Bt mg) {C : Addr} (X : Fx K mg C) (h : HasM K C "__str__" "Frame.__str__" s_Frame_str) (C1 : Ca P w K mg base 1 "_with_blanks" P_with_blanks (spBlanks K)) : Me P w K mg base C 2 "__str__" P_Frame_str (spStr C) := by
  obtain ⟨_, _, c__with_blanks⟩ := C1
  refine met_of h sc_Frame_str (fun _ _ _ _ _ _ us hl => match us, hl with | [_], _ => rfl) (fun vs H Q E h => ?_) (fun f cdv A outer s H vs Q E hr h => ?_)
  · obtain ⟨x, va, vp, vv, ps, ns, us, rfl, _⟩ := h
    rfl
  · obtain ⟨x, va, vp, vv, ps, ns, us, rfl, fr, q⟩ := h
    refine ⟨_, (pss_cons (ps_set (i := 1) sc_Frame_str.nd rfl (.inl rfl) (pe_call c__with_blanks.1 (hr.mono (by decide)) rfl c__with_blanks.2.1 c__with_blanks.2.2.1 c__with_blanks.2.2.2 .nil pass0 (pa_cons (pe_lc (own := [("array", 2), ("length", 3)]) (g := (gTup K 2 (gCons (gName 2) (gCons (gName 3) gNil)))) (tt := tYes) (by rfl) sc_Frame_str.nd (pi_tup (pe_fld (pv 0) rfl)) (blkOk_by (own := [("array", 2), ("length", 3)]) (N := ["self", "arrays", "array", "length"]) (sc := defScope s_Frame_str) (by decide +kernel)) (fun _ _ _ _ _ => pg_tup (by rfl) (pgs_cons (pg_name (i := 2) sc_Frame_str.nd rfl (Or.inl rfl)) (pgs_cons (pg_name (i := 3) sc_Frame_str.nd rfl (Or.inl rfl)) pgs_nil))) (fun _ _ _ _ _ => pts_nil) (fun _ _ _ _ _ => (pe_joined (.cons (pe_fmt (pv 2)) (.cons pe_str (.cons (pe_fmt (pv 3)) .nil)))))) pa_nil)))
      (pss_one (ps_ret (pe_joined (.cons (pe_fmt (pv 1)) (.cons pe_str (.cons (pe_fmt (pe_call c__with_blanks.1 (hr.mono (by decide)) rfl c__with_blanks.2.1 c__with_blanks.2.2.1 c__with_blanks.2.2.2 .nil pass0 (pa_cons (pe_fld (pv 0) rfl) pa_nil))) (.cons pe_str (.cons (pe_fmt (pe_call c__with_blanks.1 (hr.mono (by decide)) rfl c__with_blanks.2.1 c__with_blanks.2.2.1 c__with_blanks.2.2.2 .nil pass0 (pa_cons (pe_fld (pv 0) rfl) pa_nil))) .nil))))))))), ?_⟩
    obtain ⟨dx, LB, LT, KD, hx, hlb, hlt, hkd⟩ := fr.ob
    obtain ⟨aA, xA, rfl, tA, dA⟩ := fr.da.tupI
    refine ⟨_, rfl, x, C, dx, _, _, rfl, hx, X.cl, X.n1, rfl, aA, rfl, ⟨_, tA.sq⟩, fun D hD => ?_⟩
    have okA : ∀ q ∈ ps, q.1.length ≤ 8 ∧ q.2.length ≤ 8 := fun q hq => ⟨(fr.ok q.1 (List.mem_append.mpr (.inl (List.mem_map.mpr ⟨q, hq, rfl⟩)))).2.1, (fr.ok q.2 (List.mem_append.mpr (.inr (List.mem_append.mpr (.inl (List.mem_map.mpr ⟨q, hq, rfl⟩)))))).2.1⟩
    have okN : ∀ z ∈ ns, 1 ≤ z.length ∧ z.length ≤ 8 := fun z hz => let n := fr.ok z (List.mem_append.mpr (.inr (List.mem_append.mpr (.inr (List.mem_append.mpr (.inl hz)))))); ⟨n.1, n.2.1⟩
    have okU : ∀ z ∈ us, 1 ≤ z.length ∧ z.length ≤ 8 := fun z hz => let n := fr.ok z (List.mem_append.mpr (.inr (List.mem_append.mpr (.inr (List.mem_append.mpr (.inr hz)))))); ⟨n.1, n.2.1⟩
    have lA := fr.l1
    have lN := fr.l2
    have lU := fr.l3
    have nA := dA.len
    rw [List.length_map] at nA
    have le0 : (Str.empty : Str).length = 0 := by decide +kernel
    have le1 : (":" : Str).length = 1 := by decide +kernel
    have le3 : (" | " : Str).length = 3 := by decide +kernel
    refine lc_o (walk_tup (K := K) (a := aA) (xs := xA)) (te := fun σ H Q => tJs [tFmt (tVar 2), tC (V.str ":"), tFmt (tVar 3)] Str.empty σ H fun out H1 => Q (V.str out) H1) (fun i => ps[i]?.map fun q => V.str (pairT q)) (by rw [sizeLine_eq]; omega) hD (fun Hx sm => ((Kp.same (ex := fun _ => True) sm).tup tA).sq) ?_ ?_
    · rintro i y Hx H' Nx hi sm hDx ⟨rfl, hy⟩ hno hyes
      obtain ⟨e, he, dve⟩ := dA.get hy
      have hi' : i < ps.length := by omega
      rw [List.getElem?_map, List.getElem?_eq_getElem hi'] at he
      cases he
      obtain ⟨b, rfl, hb⟩ := dve.pairI
      have hq := okA _ (List.getElem_mem hi')
      refine ⟨b, _, rfl, ((Kp.same (ex := fun _ => True) sm).tup hb).sq, rfl, _, _, rfl, _, _, rfl, rfl, ?_⟩
      refine ⟨rfl, yes (⟨_, rfl, .inl ⟨_, rfl, ?_, _, rfl, ?_, _, rfl, ?_, _, rfl, .inl ⟨_, rfl, ?_, _, rfl, ?_, ?_⟩⟩⟩)⟩
      · rw [sizeLine_eq]; omega
      · rw [sizeLine_eq, strLen_append]; omega
      · rw [sizeLine_eq, strLen_append, strLen_append]; omega
      · rw [sizeLine_eq]; omega
      · rw [sizeLine_eq, strLen_append, strLen_append, strLen_append]; omega
      · rw [str_emp]
        exact hyes _ (by rw [List.getElem?_eq_getElem hi']; rfl) _ Same.refl
    · intro Hx sm hDx
      have hDx2 : Hx D = some (.lst ((ps.map pairT).map V.str)) := by
        rw [List.map_map]
        rw [nA, range_list] at hDx
        exact hDx
      obtain ⟨aP, xP, rfl, tP, dP⟩ := fr.dp.tupI
      obtain ⟨aU, xU, rfl, tU, dU⟩ := fr.dv.tupI
      have b1 := blanks_le (ps.map pairT) 17 (fun z hz => by
        obtain ⟨q, hq, rfl⟩ := List.mem_map.mp hz
        have := okA q hq
        rw [pairT_len]; omega)
      have b2 := blanks_le ns 8 fun z hz => (okN z hz).2
      have b3 := blanks_le us 8 fun z hz => (okU z hz).2
      rw [List.length_map] at b1
      have hx2 := sm _ _ hx
      refine ⟨D, _, rfl, .inl (SqL.of hDx2), by rw [List.length_map]; omega, fun z hz => ?_, ?_⟩
      · obtain ⟨q, hq, rfl⟩ := List.mem_map.mp hz
        have := okA q hq
        rw [pairT_len]; omega
      · refine ⟨_, rfl, .inl ⟨_, rfl, by rw [sizeLine_eq]; omega, _, rfl, by rw [sizeLine_eq, strLen_append]; omega, _, rfl, by rw [sizeLine_eq, strLen_append, strLen_append]; omega, ?_⟩⟩
        refine ⟨_, rfl, x, C, dx, _, _, rfl, hx2, X.cl, X.n2, rfl, aP, ns, rfl, .inr ?_, by omega, fun z hz => ⟨(okN z hz).1, by have := (okN z hz).2; omega⟩, ?_⟩
        · exact (((Kp.same (ex := fun _ => True) sm).tup tP).sq (K := K)) |> fun h => by rw [dP.strE] at h; exact h
        refine .inl ⟨_, rfl, by rw [sizeLine_eq]; omega, _, rfl, by rw [sizeLine_eq, strLen_append, strLen_append, strLen_append]; omega, _, rfl, by rw [sizeLine_eq, strLen_append, strLen_append, strLen_append, strLen_append]; omega, ?_⟩
        refine ⟨_, rfl, x, C, dx, _, _, rfl, hx2, X.cl, X.n3, rfl, aU, us, rfl, .inr ?_, by omega, fun z hz => ⟨(okU z hz).1, by have := (okU z hz).2; omega⟩, ?_⟩
        · exact (((Kp.same (ex := fun _ => True) sm).tup tU).sq (K := K)) |> fun h => by rw [dU.strE] at h; exact h
        refine .inl ⟨_, rfl, by rw [sizeLine_eq]; omega, _, rfl, by rw [sizeLine_eq, strLen_append, strLen_append, strLen_append, strLen_append, strLen_append]; omega, ?_⟩
        have := q Hx sm
        unfold rowS at this
        rw [str_emp]
        exact this
end
end Kx
namespace Kx
open PySem PySem.Spec PyProof.Rows L2
/-! ### list == [] whatever the items are -/
section
variable {X : Cx}
def rEqL0 (K : PySem.W.Frag) : R2 := fun x y H Q => ∃ a b xs, x = .ref a ∧ y = .ref b ∧ SqL K H a xs ∧ SqL K H b [] ∧ Q (.bl xs.isEmpty) H
theorem op_eqL0 (hu : X.A.units < cLine) : OpR X (compareOp .Eq) (rEqL0 X.K) := by
  intro pins s σ H x y v u Q I rx ry h
  obtain ⟨a, b, xs, rfl, rfl, h1, h2, q⟩ := h
  cases rx
  cases ry
  obtain ⟨its, r, p1, _⟩ := I.list h1
  obtain ⟨its2, r2, p2, _⟩ := I.list h2
  cases r2
  cases r with
  | nil => exact SeqAt.eq_listAt (e := fun _ => true) p1.isList p2.isList rfl hu (fun j hj _ => absurd hj (by simp)) ⟨.bl true, H, I, rfl, q⟩
  | cons r0 r1 => exact SeqAt.eq_list_lengthsAt p1.isList p2.isList (by simp) hu ⟨.bl false, H, I, rfl, q⟩
end
/-! ### set(list of texts) -/
section
variable {P : Program} {w : World} {A : Around} {E : Value → Shared → Prop} {s : Shared}
abbrev SetS (P : Program) (w : World) (h : Heap) (S : Addr) (xs : List Str) : Prop := h.SetOf (PySem.strKind P w) S (fun k => decide (k ∈ xs)) (uniq xs).length
theorem SetS.at {h h' : Heap} {S : Addr} {xs : List Str} (q : SetS P w h S xs) (k : ∀ o, h.get? S = some o → h'.get? S = some o) : SetS P w h' S xs := by
  obtain ⟨o, es, ep, t, ho, rest⟩ := q
  exact ⟨o, es, ep, t, k o ho, rest⟩
theorem upd_strs {I : Addr} {fp wr : List Addr} {G : Array GenState → Array GenState → Prop} {n : Nat} {Pv : Nat → Value → Prop} {St : Nat → Shared → Prop} {R : Result → Shared → Prop}
    (W : WalksS P w A.in1 I fp wr G n Pv St) (S : Addr) (hSf : S ∉ fp) (xs : List Str) (hn : n = xs.length) (hb : xs.length + 1 < scanBound) (hval : ∀ i v, Pv i v → ∃ y t, xs[i]? = some y ∧ v = .str y t) :
    ∀ (k i : Nat) (s : Shared), n - i = k → i ≤ n → St i s → SetS P w s.heap S (xs.take i) → (∀ s', Moved (S :: wr) G s s' → SetS P w s'.heap S xs → R (.ok (.ret .none)) s') →
      codeAny (model P w) A (.builtin "set.update.loop" ⟨[.ref S, .ref I], []⟩) R s := by
  have noS : S ∉ wr := fun h => hSf (W.sub _ h)
  have more : ∀ b ∈ wr, b ∈ S :: wr := fun b hb => List.mem_cons_of_mem _ hb
  intro k
  induction k with
  | zero =>
    intro i s hk hi st q fin
    obtain rfl : i = n := by omega
    rw [List.take_of_length_le (by omega)] at q
    refine codeAny_builtin PyProof.Rows.F.entry_set_update_loop ?_
    rw [Around.under_plainId PyProof.Rows.F.plain_set_update_loop _]
    refine wpAny_bind (m := pyNext (.ref I)) (W.done s _ _ st fun s' mv => ?_)
    exact wpAny_pure (fin s' (mv.mono more) (q.at fun o e => mv.heap S o noS e))
  | succ k ih =>
    intro i s hk hi st q fin
    have lt : i < n := by omega
    refine codeAny_builtin PyProof.Rows.F.entry_set_update_loop ?_
    rw [Around.under_plainId PyProof.Rows.F.plain_set_update_loop _]
    refine wpAny_bind (m := pyNext (.ref I)) (W.item i s _ _ lt st fun v s' pv st' mv => ?_)
    obtain ⟨y, t, hy, rfl⟩ := hval i v pv
    have q' := q.at fun o e => mv.heap S o noS e
    have lu := uniq_len (xs.take i)
    rw [List.length_take] at lu
    refine wpAny_bind (m := holding [Value.str y t] (setAdd S (.str y t))) (wpAny_holding ?_)
    unfold setAdd
    refine wpAny_holding (wpAny_bind ((PySem.strKind P w).pyHash (k := y) (strKind_is _ _ _ _) ?_))
    refine wpAny_setAddHashed_of (knd := PySem.strKind P w) (s := { s' with toks := s'.toks + 1 }) (strKind_is _ _ _ _) rfl q' (by omega) fun h' same q2 => ?_
    have q3 : SetS P w h' S (xs.take (i + 1)) := by
      have ey : xs.take (i + 1) = xs.take i ++ [y] := by rw [List.take_succ, hy]; rfl
      refine PyProof.Rows.SetOf_congr q2 (fun z => ?_) ?_
      · rw [ey]
        by_cases h1 : z ∈ xs.take i <;> by_cases h2 : z = y <;> simp [h1, h2]
      · rw [ey, uniq_snoc]
        unfold uniqF
        by_cases h1 : y ∈ xs.take i
        · rw [decide_eq_true h1, if_pos rfl, if_pos ((uniq_mem _ _).mpr h1)]
        · rw [decide_eq_false h1, if_neg Bool.false_ne_true, if_neg (fun z => h1 ((uniq_mem _ _).mp z)), List.length_append]
          rfl
    have keep : ∀ b, b ≠ S → ∀ o, s'.heap.get? b = some o → h'.get? b = some o := fun b hb o e => by rw [same.2 b hb]; exact e
    exact wpAny_pure ⟨plainId_quiet PyProof.Rows.F.plain_set_update_loop _, ih (i + 1) _ (by omega) lt (W.frame _ s' _ _ st' (Nat.le_succ _) fun b hb o e => keep b (fun z => hSf (z ▸ hb)) o e) q3 fun s'' mv2 q4 =>
      fin s'' (Moved.trans W.gtrans ((mv.mono more).then_heap (Nat.le_succ _) fun b o hb e => keep b (fun z => hb (by rw [z]; exact List.mem_cons_self)) o e) mv2) q4⟩
theorem call_setS {l : Addr} {items : Array Value} {xs : List Str} {Q : Value → Shared → Prop} (hh : A.handled = none) (hl : s.heap.IsList l items) (hi : StrsAre items.toList xs) (hb : xs.length + 1 < scanBound)
    (h : ∀ (h' : Heap) (tk : Nat), SetS P w h' s.heap.objs.size xs → (∀ b o, s.heap.get? b = some o → h'.get? b = some o) → Q (.ref s.heap.objs.size) { s with heap := h', toks := tk }) :
    wpAny (model P w) A (call (.type "set") [.ref l]) Q E s := by
  obtain ⟨c, tl, hmro⟩ := PySem.F.called_set.mro
  have hmade := PySem.F.called_set.made
  have hsub := PySem.F.called_set.sub
  refine wpAny_call (codeAny_of_tree ?_)
  show wpAny _ _ (callAny (.type "set") _) _ _ _
  refine wpAny_pure ⟨Code.quiet_builtin _ (by decide +kernel), codeAny_builtin PySem.F.entry_type_call ?_⟩
  rw [Around.under_plain (weight_type_call_type "set" [.ref l] []) rfl]
  have h1 := PySem.F.called_set.notType
  have h2 := PySem.F.called_set.canCreate
  have hct := PySem.F.typeCall_set_1 (.ref l)
  repeat (any_goals (first | assumption | wp_step))
  let so : Bool → Obj := fun led => { cls := .type "set", dict := none, data := .set #[] 0 (.fresh 0 0 led) }
  refine codeAny_mono (code_set_new_1 (.ref l) (E := E) (Q₁ := fun obj t => ∃ led : Bool, obj = .ref s.heap.objs.size ∧ t = { s with heap := s.heap.push (so led) }) fun led => ⟨led, rfl, rfl⟩) fun r t hr => ?_
  cases r with
  | error e => exact hr
  | ok fl =>
    cases fl with
    | ret obj =>
      obtain ⟨led, rfl, rfl⟩ := hr
      have hS : (s.heap.push (so led)).get? s.heap.objs.size = some (so led) := Heap.get?_push_size _ rfl
      have hT : Shared.TypeIs { s with heap := s.heap.push (so led) } (.ref s.heap.objs.size) "set" := ⟨_, hS, rfl⟩
      have hli := PySem.F.called_set.init.lookup
      have hbi := PySem.F.called_set.init.bind (.ref s.heap.objs.size)
      repeat (any_goals (first | assumption | wp_step))
      refine codeAny_mono (codeAny_call_builtin (R := wants (fun r t => r = .none ∧ ∃ h' tk, t = { s with heap := h', toks := tk } ∧ SetS P w h' s.heap.objs.size xs ∧ (∀ b o, s.heap.get? b = some o → h'.get? b = some o)) E)
        PySem.F.called_set.init.plain PySem.F.entry_set_init (check_set_init_1 hT ?_)) fun r t hr => ?_
      · obtain ⟨ol, hol, hcl, nl, hdl⟩ := hl
        obtain ⟨ocls, odict, odata, oslots⟩ := ol
        simp only at hcl hdl
        subst hcl; subst hdl
        have hol' : (s.heap.push (so led)).get? l = some { cls := .type "list", dict := odict, data := .seq items nl, slots := oslots } := Heap.get?_push_of_some _ hol
        have hsls := PySem.F.sub_list_set
        have hslf := PySem.F.sub_list_frozenset
        have hne : (Value.type "list" == Value.type "dict") = false := by decide
        have hl1 : (s.heap.push (so led)).IsList l items := ⟨_, hol', rfl, nl, rfl⟩
        have lS : l < s.heap.objs.size := Heap.lt_size hol
        unfold Builtin.«set.__init__» noKeywords Builtin.Frozenset.updateFrom
        generalize hPI : pyIter = PI
        wp_walk
        subst hPI
        refine wpAny_pyIter_list hl1 (wpAny_bind (wpAny_runValue ?_))
        have hh3 : A.in1.in1.in1.handled = none := by simp [hh]
        have neI : l ≠ (s.heap.push (so led)).objs.size := by rw [Heap.size_push]; exact Nat.ne_of_lt (Nat.lt_succ_of_lt lS)
        have hSf : s.heap.objs.size ∉ [(s.heap.push (so led)).objs.size, l] := by
          rw [Heap.size_push]
          simp only [List.mem_cons, List.not_mem_nil, or_false, not_or]
          exact ⟨Nat.ne_of_lt (Nat.lt_succ_self _), Nat.ne_of_gt lS⟩
        have hsz : items.size = xs.length := by rw [← StrsAre.len_eq hi, Array.length_toList]
        refine upd_strs ((Walks.list hh3 _ l neI items).toS) s.heap.objs.size hSf xs hsz hb (fun i v hv => ?_) (items.size - 0) 0 _ (by omega) (Nat.zero_le _) ⟨⟨_, Heap.get?_push_size _ rfl, rfl, rfl⟩, (hl1.push _)⟩ ?_ (fun s' mv q => ?_)
        · have hv' : items.toList[i]? = some v := by rw [Array.getElem?_toList]; exact hv
          have hi' : i < xs.length := by rw [← hsz]; exact (Array.getElem?_eq_some_iff.mp hv).1
          obtain ⟨t, e⟩ := StrsAre.at hi (List.getElem?_eq_getElem hi')
          rw [hv'] at e
          exact ⟨xs[i], t, List.getElem?_eq_getElem hi', Option.some.inj e⟩
        · exact PyProof.Rows.SetOf_congr ((PyProof.Rows.setObjOf_fresh (knd := PySem.strKind P w) led).setOf (Heap.get?_push_of_some _ hS) (by unfold scanBound; omega)) (fun _ => rfl) rfl
        · obtain ⟨h', g', d', tk', os'⟩ := s'
          obtain rfl : g' = s.gens := mv.gens
          obtain rfl : d' = s.drawn := mv.drawn
          obtain rfl : os' = s.os := mv.os
          show wpAny _ _ _ _ _ _
          refine wpAny_pure ?_
          show wpAny _ _ (ret Value.none) _ _ _
          refine wpAny_pure ⟨rfl, h', tk', rfl, q, fun b o e => mv.heap b o ?_ (Heap.get?_push_of_some _ (Heap.get?_push_of_some _ e))⟩
          have := Heap.lt_size e
          rw [Heap.size_push]
          simp only [List.mem_cons, List.not_mem_nil, or_false, not_or]
          exact ⟨Nat.ne_of_lt this, Nat.ne_of_lt (Nat.lt_succ_of_lt this)⟩
      · cases r with
        | error e => exact hr
        | ok fl =>
          cases fl with
          | ret r =>
            obtain ⟨rfl, h', tk, rfl, q, kp⟩ := hr
            repeat (any_goals (first | assumption | wp_step))
            exact h _ _ q kp
          | _ => exact hr.elim
    | _ => exact hr.elim
end
section
variable {X : Cx}
/-- len(set(a list of texts)) -/
def tLenSetS (K : PySem.W.Frag) (ta : TE) : TE := fun σ H Q => ta σ H fun x H1 => ∃ l, ∃ xs : List Str, x = .ref l ∧ SqL K H1 l (xs.map V.str) ∧ xs.length ≤ 1000 ∧ Q (.int (uniq xs).length) H1
theorem pe_lenSetS {a : Expr} {ta : TE} {p p2 q pos : Pos} (hc : X.calm = true) (hg : Gl X "len") (hm : X.mg "len" = none) (hg2 : Gl X "set") (hm2 : X.mg "set" = none) (ha : PE X a ta)
    (na : starEach [a] X.env = (false, eval a X.env) :: starEach [] X.env := by rfl) : PE X (.Call (.Name "len" p) [.Call (.Name "set" p2) [a] [] q] [] pos) (tLenSetS X.K ta) := by
  refine ⟨fun pins s σ H Q I h => ?_⟩
  refine Call_ (ld_blt I hg hm boot_len (PyProof.Rows.callWith_builtin1 (PyProof.Rows.args_cons ?_ rfl) rfl rfl))
  refine Call_ (ld_blt I hg2 hm2 boot_set (PyProof.Rows.callWith_type1 (PyProof.Rows.args_cons (thn (ha.run pins s σ H _ I h) fun v t ⟨x, H1, I1, rx, l, xs, ex, hq, hl, k⟩ => PyProof.Rows.args_nil ?_) na) na rfl))
  subst ex
  cases rx
  obtain ⟨its, r, pl, _⟩ := I1.list hq
  refine call_setS (I1.ok.hd hc) pl.isList (by simpa using strsAre_of r) (by unfold scanBound; omega) fun h' tk hS hk => PyProof.Rows.args_nil ?_
  obtain ⟨o, es, ep, tb, ho, hex, hd, _, _, _, hf, hn⟩ := hS
  have I2 : Inv X pins σ H1 { t with heap := h', toks := tk } := I1.kept hk
  have lu := uniq_len xs
  exact call_len_set ho hex hd hf (by rw [hn]; omega) ⟨.int (uniq xs).length, H1, I2.tok _, ⟨_, by rw [hn]⟩, k⟩
end
end Kx
namespace Kx
open PySem PySem.Spec PyProof.Rows L2
section
variable {P : Program} {w : World} {K : PySem.W.Frag} {mg : Str → Option Value} {base : Heap}
abbrev N_law_is_name : List Str := ["value", "letter"]
abbrev P_law_is_name : List Str := ["value"]
theorem sc_law_is_name : FnScope N_law_is_name P_law_is_name (defScope s_law_is_name) := ⟨rfl, rfl, rfl, by decide +kernel, rfl, by decide +kernel, by decide +kernel⟩
theorem all_filter (p : Nat → Bool) (l : List Nat) : l.all (id ∘ p) = (l.filter fun c => !p c).isEmpty := by
  induction l with
  | nil => rfl
  | cons c r ih =>
    rw [List.all_cons, List.filter_cons, ih]
    show (p c && _) = _
    cases p c <;> rfl
theorem nameD_filter (z : Str) (hh : 1 ≤ z.length ∧ z.length ≤ 8) : nameD (.str z) = (z.cps.toList.filter fun c => !decide (c ∈ ("abcdefghijklmnopqrstuvwxyz" : Str).cps.toList)).isEmpty := by
  rw [nameD_all z hh, List.all_map]
  exact all_filter _ _
theorem inV_sign (c : Nat) (z : Str) : inV (.str ⟨#[c]⟩) (signsV z) = decide (c ∈ z.cps.toList) := by
  have e : signsV z = (z.cps.toList.map fun c => (⟨#[c]⟩ : Str)).map V.str := by rw [List.map_map]; rfl
  rw [e, inV_str]
  refine decide_eq_decide.mpr ⟨fun h => ?_, fun h => List.mem_map.mpr ⟨c, h, rfl⟩⟩
  obtain ⟨d, hd, e⟩ := List.mem_map.mp h
  injection e with e
  have : d = c := by simpa using e
  exact this ▸ hd
theorem ok_law_is_name (T : Bt mg) (h : Has K mg "_law_is_name" s_law_is_name) : Ca P w K mg base 1 "_law_is_name" P_law_is_name (spJudge nameD) := by
  refine cal_of h sc_law_is_name (fun _ _ _ _ _ _ us hl => match us, hl with | [_], _ => rfl) (fun vs H Q E h => ?_) (fun f cdv A outer s H vs Q E hr h => ?_)
  · obtain ⟨ex, v, d, rfl, _⟩ := h
    rfl
  · obtain ⟨ex, v, d, rfl, dv, hc, k⟩ := h
    refine ⟨_, (pss_cons (ps_if (PW.pt (pw_or (pt_not (pt_val (pe_callB call_isi (by rfl) T.isinstance (by decide +kernel) (pa_cons (pv 0) (pa_cons (pe_bltn (v := .ty "str") (by rfl) T.str (by decide +kernel) rfl) pa_nil))))) (pw_or (pt_cmpR op_lt (pe_callB call_len (by rfl) T.len (by decide +kernel) (pa_cons (pv 0) pa_nil)) pe_int (nomark _)) (pw_or1 (pt_cmpR op_gt (pe_callB call_len (by rfl) T.len (by decide +kernel) (pa_cons (pv 0) pa_nil)) pe_int (nomark _)))))) (pss_one (ps_ret pe_bl)) pss_nil)
      (pss_one (ps_ret (pe_cmpR (op_eqL0 hr.units0) (pe_lc (own := [("letter", 1)]) (g := (gName 1)) (by rfl) sc_law_is_name.nd (pi_str (pv 0)) (blkOk_by (own := [("letter", 1)]) (N := ["value", "letter"]) (sc := defScope s_law_is_name) (by decide +kernel)) (fun _ _ _ _ _ => pg_name (i := 1) sc_law_is_name.nd rfl (Or.inl rfl)) (fun _ _ _ _ _ => pts_one (pt_cmpR (show OpR _ (compareOp .NotIn) (rIn K true) from op_notIn_seq) (pv 1) (pe_callTy (call_listS rfl) (by rfl) T.list (by decide +kernel) (pa_cons pe_str pa_nil)) rfl)) (fun _ _ _ _ _ => (pv 1))) (pe_lst pa_nil) (nomark _))))), ?_⟩
    refine ⟨_, rfl, _, _, _, _, _, rfl, .ty _, dv.ty, kitS d, _, rfl, ?_⟩
    have no : isStrD d = false → nameD d = false := fun e => by cases d <;> first | rfl | cases e
    cases e : isStrD d with
    | false =>
      refine iteT ?_
      have := k H Same.refl
      rw [no e] at this
      exact iteT this
    | true =>
      refine iteF ?_
      obtain ⟨z, rfl⟩ : ∃ z, d = .str z := by cases d <;> first | exact ⟨_, rfl⟩ | cases e
      cases dv.strI
      have hz : z.length ≤ sizeLine := by
        simp only [cost] at hc
        rw [sizeLine_eq]; omega
      have bad : ¬ (1 ≤ z.length ∧ z.length ≤ 8) → nameD (.str z) = false := fun n => decide_eq_false fun q => n ⟨q.1, q.2.1⟩
      refine ⟨_, rfl, _, _, rfl, ⟨hz, rfl⟩, _, _, rfl, rfl, _, rfl, ?_⟩
      by_cases h1 : (z.length : Int) < 1
      · rw [decide_eq_true h1]
        have := k H Same.refl
        rw [bad (by omega)] at this
        exact iteT (iteT this)
      · rw [decide_eq_false h1]
        refine iteF ⟨_, rfl, _, _, rfl, ⟨hz, rfl⟩, _, _, rfl, rfl, _, rfl, ?_⟩
        by_cases h2 : 8 < (z.length : Int)
        · rw [decide_eq_true h2]
          have := k H Same.refl
          rw [bad (by omega)] at this
          exact iteT this
        · rw [decide_eq_false h2]
          refine iteF ?_
          refine ⟨_, rfl, _, rfl, fun D hD => lc_o walk_str (fun i => z.cps[i]?.bind fun c => if c ∈ ("abcdefghijklmnopqrstuvwxyz" : Str).cps.toList then none else some (V.str ⟨#[c]⟩)) (by rw [sizeLine_eq]; have : z.cps.size = z.length := rfl; omega) hD (fun _ _ => trivial) ?_ ?_⟩
          · rintro i x Hx H' Nx hi sm hDx ⟨rfl, c, hcc, rfl⟩ hno hyes
            refine ⟨rfl, _, rfl, _, rfl, by decide +kernel, fun p hp => ⟨p, signsV _, rfl, .inl (SqL.of upd_same), rfl, ?_, ?_⟩⟩
            · rw [List.all_eq_true]
              intro v hv
              obtain ⟨c, _, rfl⟩ := List.mem_map.mp hv
              rfl
            · rw [if_pos rfl, inV_sign]
              have sp : Same H' (upd H' p (.lst (signsV "abcdefghijklmnopqrstuvwxyz"))) := Same.upd hp
              by_cases hm : c ∈ ("abcdefghijklmnopqrstuvwxyz" : Str).cps.toList
              · rw [decide_eq_true hm]
                exact ⟨_, rfl, iteF (hno (by rw [hcc]; exact if_pos hm) _ sp)⟩
              · rw [decide_eq_false hm]
                exact ⟨_, rfl, iteT ⟨_, rfl, hyes _ (by rw [hcc]; exact if_neg hm) _ sp⟩⟩
          · intro Hx sm hDx
            have e := range_bind (fun c => if c ∈ ("abcdefghijklmnopqrstuvwxyz" : Str).cps.toList then none else some (V.str ⟨#[c]⟩)) z.cps.toList
            have hDx2 : Hx D = some (.lst (z.cps.toList.filterMap fun c => if c ∈ ("abcdefghijklmnopqrstuvwxyz" : Str).cps.toList then none else some (V.str ⟨#[c]⟩))) := by
              rw [← e, hDx, Array.length_toList]
              refine congrArg (fun g => some (HO.lst (List.filterMap g _))) (funext fun i => ?_)
              rw [Array.getElem?_toList]
            have e2 : (z.cps.toList.filterMap fun c => if c ∈ ("abcdefghijklmnopqrstuvwxyz" : Str).cps.toList then none else some (V.str ⟨#[c]⟩)).isEmpty = nameD (.str z) := by
              rw [nameD_filter z (by omega)]
              generalize z.cps.toList = l
              induction l with
              | nil => rfl
              | cons c r ih =>
                rw [List.filterMap_cons, List.filter_cons]
                by_cases hm : c ∈ ("abcdefghijklmnopqrstuvwxyz" : Str).cps.toList
                · rw [if_pos hm, decide_eq_true hm]; exact ih
                · rw [if_neg hm, decide_eq_false hm]; rfl
            refine ⟨Nat.zero_le _, fun p hp => ⟨D, p, _, rfl, rfl, SqL.of ((Same.upd hp) _ _ hDx2), SqL.of upd_same, ?_⟩⟩
            rw [e2]
            exact k _ (sm.trans (Same.upd hp))
end
end Kx
namespace Kx
open PySem PySem.Spec PyProof.Rows L2
section
variable {P : Program} {w : World} {K : PySem.W.Frag} {mg : Str → Option Value} {base : Heap}
theorem costL_app : ∀ xs ys : List PyData, costL (xs ++ ys) = costL xs + costL ys
  | [], _ => by simp [costL]
  | x :: r, ys => by
    have := costL_app r ys
    simp only [List.cons_append, costL]; omega
theorem zip_filter : ∀ (xs : List V) (ds : List PyData), xs.length = ds.length → ((xs.zip ds).filterMap fun q => if nameD q.2 = true then none else some q.1).isEmpty = ds.all nameD
  | [], [], _ => rfl
  | x :: xs, d :: ds, h => by
    have := zip_filter xs ds (by simpa using h)
    rw [List.zip_cons_cons, List.filterMap_cons, List.all_cons, ← this]
    cases hd : nameD d <;> simp
  | [], _ :: _, h => by simp at h
  | _ :: _, [], h => by simp at h
abbrev N_law_is_frame : List Str := ["arrays", "positions", "values", "pair", "names", "part", "name"]
abbrev P_law_is_frame : List Str := ["arrays", "positions", "values"]
theorem sc_law_is_frame : FnScope N_law_is_frame P_law_is_frame (defScope s_law_is_frame) := ⟨rfl, rfl, rfl, by decide +kernel, rfl, by decide +kernel, by decide +kernel⟩
def spFrame : Sp := fun vs H Q _ => ∃ (ex : Addr → Prop) (va vp vv : V) (da dp dv : PyData), vs = [va, vp, vv] ∧ Dv ex H va da ∧ Dv ex H vp dp ∧ Dv ex H vv dv ∧ cost da ≤ 8000000 ∧ cost dp ≤ 8000000 ∧ cost dv ≤ 8000000 ∧ ∀ H', Same H H' → Q (.bl (frameD da dp dv)) H'
theorem ok_is_frame (T : Bt mg) (h : Has K mg "_law_is_frame" s_law_is_frame) (C1 : Ca P w K mg base 1 "_law_is_name" P_law_is_name (spJudge nameD)) (C2 : Ca P w K mg base 1 "_law_lengths" P_law_lengths spLengths) : Ca P w K mg base 2 "_law_is_frame" P_law_is_frame spFrame := by
  obtain ⟨_, _, c__law_is_name⟩ := C1
  obtain ⟨_, _, c__law_lengths⟩ := C2
  refine cal_of h sc_law_is_frame (fun _ _ _ _ _ _ us hl => match us, hl with | [_, _, _], _ => rfl) (fun vs H Q E h => ?_) (fun f cdv A outer s H vs Q E hr h => ?_)
  · obtain ⟨ex, va, vp, vv, da, dp, dv, rfl, _⟩ := h
    rfl
  · obtain ⟨ex, va, vp, vv, da, dp, dv, rfl, ha, hp, hv, c1, c2, c3, k⟩ := h
    refine ⟨_, (pss_cons (ps_if (pt_cmpR (op_neL0 hr.units0) (pe_lc (own := [("part", 5)]) (g := (gName 5)) (by rfl) sc_law_is_frame.nd (pi_tup (pe_tupF (pa_cons (pv 0) (pa_cons (pv 1) (pa_cons (pv 2) pa_nil))))) (blkOk_by (own := [("part", 5)]) (N := ["arrays", "positions", "values", "pair", "names", "part", "name"]) (sc := defScope s_law_is_frame) (by decide +kernel)) (fun _ _ _ _ _ => pg_name (i := 5) sc_law_is_frame.nd rfl (Or.inl rfl)) (fun _ _ _ _ _ => pts_one (pt_not (pt_val (pe_callB (show CallR _ _ (rIsi K) from call_isi) (by rfl) T.isinstance (by decide +kernel) (pa_cons (pv 5) (pa_cons (pe_bltn (v := .ty "tuple") (by rfl) T.tuple (by decide +kernel) rfl) pa_nil)))))) (fun _ _ _ _ _ => (pv 5))) (pe_lst pa_nil) (nomark _)) (pss_one (ps_ret pe_bl)) pss_nil)
      (pss_cons (ps_if (PW.pt (pw_or (pt_cmpR op_gt (pe_callB call_len (by rfl) T.len (by decide +kernel) (pa_cons (pv 0) pa_nil)) pe_int (nomark _)) (pw_or (pt_cmpR op_gt (pe_callB call_len (by rfl) T.len (by decide +kernel) (pa_cons (pv 1) pa_nil)) pe_int (nomark _)) (pw_or1 (pt_cmpR op_gt (pe_callB call_len (by rfl) T.len (by decide +kernel) (pa_cons (pv 2) pa_nil)) pe_int (nomark _)))))) (pss_one (ps_ret pe_bl)) pss_nil)
      (pss_cons (ps_for PassesOwn.never rfl (pi_tup (pv 0)) (pg_name (i := 3) sc_law_is_frame.nd rfl (.inl rfl))
        (pss_cons (ps_if (PW.pt (pw_or (pt_not (pt_val (pe_callB call_isi (by rfl) T.isinstance (by decide +kernel) (pa_cons (pv 3) (pa_cons (pe_bltn (v := .ty "tuple") (by rfl) T.tuple (by decide +kernel) rfl) pa_nil))))) (pw_or1 (pt_cmpR op_ne (pe_callB call_len (by rfl) T.len (by decide +kernel) (pa_cons (pv 3) pa_nil)) pe_int (nomark _))))) (pss_one (ps_ret pe_bl)) pss_nil)
        (pss_one (ps_if (PW.pt (pw_or (pt_not (pt_val (pe_call c__law_is_name.1 (hr.mono (by decide)) rfl c__law_is_name.2.1 c__law_is_name.2.2.1 c__law_is_name.2.2.2 .nil pass0 (pa_cons (pe_ix ix_tup (pv 3) pe_int (fun _ _ => rfl)) pa_nil)))) (pw_or1 (pt_not (pt_val (pe_call c__law_is_name.1 (hr.mono (by decide)) rfl c__law_is_name.2.1 c__law_is_name.2.2.1 c__law_is_name.2.2.2 .nil pass0 (pa_cons (pe_ix ix_tup (pv 3) pe_int (fun _ _ => rfl)) pa_nil))))))) (pss_one (ps_ret pe_bl)) pss_nil))))
      (pss_cons (ps_if (pt_cmpR (op_neL0 hr.units0) (pe_lc (own := [("name", 6)]) (g := (gName 6)) (by rfl) sc_law_is_frame.nd (pi_tup (pe_op op_catF (pv 1) (pv 2))) (blkOk_by (own := [("name", 6)]) (N := ["arrays", "positions", "values", "pair", "names", "part", "name"]) (sc := defScope s_law_is_frame) (by decide +kernel)) (fun _ _ _ _ _ => pg_name (i := 6) sc_law_is_frame.nd rfl (Or.inl rfl)) (fun _ _ _ _ _ => pts_one (pt_not (pt_val (pe_call c__law_is_name.1 (hr.mono (by decide)) rfl c__law_is_name.2.1 c__law_is_name.2.2.1 c__law_is_name.2.2.2 .nil pass0 (pa_cons (pv 6) pa_nil))))) (fun _ _ _ _ _ => (pv 6))) (pe_lst pa_nil) (nomark _)) (pss_one (ps_ret pe_bl)) pss_nil)
      (pss_cons (ps_set (i := 4) sc_law_is_frame.nd rfl (.inl rfl) (pe_op op_cat (pe_op op_cat (pe_lc (own := [("pair", 3)]) (g := (gName 3)) (tt := tYes) (by rfl) sc_law_is_frame.nd (pi_tup (pv 0)) (blkOk_by (own := [("pair", 3)]) (N := ["arrays", "positions", "values", "pair", "names", "part", "name"]) (sc := defScope s_law_is_frame) (by decide +kernel)) (fun _ _ _ _ _ => pg_name (i := 3) sc_law_is_frame.nd rfl (Or.inl rfl)) (fun _ _ _ _ _ => pts_nil) (fun _ _ _ _ _ => (pe_ix (show IxR _ (rIxT K) from ix_tup) (pv 3) pe_int (fun _ _ => rfl)))) (pe_call c__law_lengths.1 (hr.mono (by decide)) rfl c__law_lengths.2.1 c__law_lengths.2.2.1 c__law_lengths.2.2.2 .nil pass0 (pa_cons (pv 0) pa_nil))) (pe_callTy call_list_of (by rfl) T.list (by decide +kernel) (pa_cons (pe_op op_catF (pv 1) (pv 2)) pa_nil))))
      (pss_one (ps_ret (pe_cmpR op_eq (pe_lenSetS rfl rfl T.len rfl T.set (pv 4)) (pe_callB call_len (by rfl) T.len (by decide +kernel) (pa_cons (pv 4) pa_nil)) (nomark _))))))))), ?_⟩
    have d3 : DvL ex H [va, vp, vv] [da, dp, dv] := .cons ha (.cons hp (.cons hv .nil))
    have no : ∀ {G : Hp}, Same H G → frameD da dp dv = false → Q (.bl false) G := fun sm z => by
      have := k _ sm
      rw [z] at this
      exact this
    refine ⟨_, rfl, _, rfl, _, rfl, (show 3 ≤ sizeLine by decide +kernel), fun tp H1 s1 ht => ⟨tp, rfl, ⟨_, ht.sq⟩, fun D hD => ?_⟩⟩
    refine lc_o (walk_tup (K := K) (a := tp) (xs := [va, vp, vv])) (fun i => [(va, da), (vp, dp), (vv, dv)][i]?.bind fun q => if isTupD q.2 = true then none else some q.1) (show 3 < sizeLine by decide +kernel) hD (fun Hx sm => ((Kp.same (ex := ex) sm).tup ht).sq) ?_ ?_
    · rintro i x Hx H' Nx hi sm hDx ⟨rfl, hx⟩ hno hyes
      obtain ⟨e, he, dve⟩ := d3.get hx
      have dve' := dve.kp (Kp.same (s1.trans sm))
      have hz : [(va, da), (vp, dp), (vv, dv)][i]? = some (x, e) := by
        rcases i with _ | _ | _ | i
        · cases hx; cases he; rfl
        · cases hx; cases he; rfl
        · cases hx; cases he; rfl
        · cases hx
      refine ⟨rfl, _, rfl, _, _, _, _, _, rfl, .ty _, dve'.ty, kitT e, _, rfl, ?_⟩
      cases et : isTupD e with
      | true => exact iteF (hno (by rw [hz]; exact if_pos et) _ Same.refl)
      | false => exact iteT ⟨_, rfl, hyes _ (by rw [hz]; exact if_neg (by rw [et]; exact Bool.false_ne_true)) _ Same.refl⟩
    · intro Hx sm hDx
      have e := range_bind (fun q : V × PyData => if isTupD q.2 = true then none else some q.1) [(va, da), (vp, dp), (vv, dv)]
      have hDx2 := hDx.trans (congrArg (fun l => some (HO.lst l)) e)
      clear hDx e
      have sx := s1.trans sm
      refine ⟨Nat.zero_le _, fun p hp => ⟨D, p, _, rfl, rfl, SqL.of ((Same.upd hp) _ _ hDx2), SqL.of upd_same, _, rfl, ?_⟩⟩
      have sx2 := sx.trans (Same.upd (o := .lst []) hp)
      generalize upd Hx p (.lst []) = G0 at sx2 ⊢
      clear hDx2 hp
      have all3 : (!([(va, da), (vp, dp), (vv, dv)].filterMap fun q : V × PyData => if isTupD q.2 = true then none else some q.1).isEmpty) = !(isTupD da && isTupD dp && isTupD dv) := by
        simp only [List.filterMap_cons, List.filterMap_nil]
        cases isTupD da <;> cases isTupD dp <;> cases isTupD dv <;> rfl
      rw [all3]
      cases et : (isTupD da && isTupD dp && isTupD dv) with
      | false =>
        refine iteT (no sx2 ?_)
        cases h1 : isTupD da with
        | false =>
          have : arrsD da = false := by cases da <;> first | rfl | cases h1
          unfold frameD; rw [this]; rfl
        | true =>
          cases h2 : isTupD dp with
          | false =>
            have : namesD 6 dp = false := by cases dp <;> first | rfl | cases h2
            unfold frameD; rw [this, Bool.false_and, Bool.and_false]; rfl
          | true =>
            cases h3 : isTupD dv with
            | false =>
              have : namesD 6 dv = false := by cases dv <;> first | rfl | cases h3
              unfold frameD; rw [this, Bool.and_false, Bool.and_false]; rfl
            | true => rw [h1, h2, h3] at et; cases et
      | true =>
        refine iteF ?_
        rw [Bool.and_eq_true, Bool.and_eq_true] at et
        obtain ⟨as, rfl⟩ : ∃ as, da = .tuple as := by cases da <;> first | exact ⟨_, rfl⟩ | cases et.1.1
        obtain ⟨bs, rfl⟩ : ∃ as, dp = .tuple as := by cases dp <;> first | exact ⟨_, rfl⟩ | cases et.1.2
        obtain ⟨cs, rfl⟩ : ∃ as, dv = .tuple as := by cases dv <;> first | exact ⟨_, rfl⟩ | cases et.2
        have ha0 := ha.kp (Kp.same sx2)
        have hp0 := hp.kp (Kp.same sx2)
        have hv0 := hv.kp (Kp.same sx2)
        obtain ⟨aA, xA, rfl, tA, dA⟩ := ha0.tupI
        obtain ⟨aP, xP, rfl, tP, dP⟩ := hp0.tupI
        obtain ⟨aV, xV, rfl, tV, dV⟩ := hv0.tupI
        have lA := dA.len
        have lP := dP.len
        have lV := dV.len
        simp only [cost] at c1 c2 c3
        have no0 : ∀ {G : Hp}, Same G0 G → frameD (.tuple as) (.tuple bs) (.tuple cs) = false → Q (.bl false) G := fun sm z => no (sx2.trans sm) z
        have k0 : ∀ {G : Hp}, Same G0 G → Q (.bl (frameD (.tuple as) (.tuple bs) (.tuple cs))) G := fun sm => k _ (sx2.trans sm)
        refine ⟨_, rfl, _, _, rfl, .inr ⟨_, tA.sq, rfl⟩, _, _, rfl, rfl, _, rfl, ?_⟩
        by_cases h1 : 12 < (xA.length : Int)
        · rw [decide_eq_true h1]
          refine iteT (iteT (no0 Same.refl ?_))
          unfold frameD arrsD; dsimp only
          rw [decide_eq_false (by omega)]; rfl
        · rw [decide_eq_false h1]
          refine iteF ⟨_, rfl, _, _, rfl, .inr ⟨_, tP.sq, rfl⟩, _, _, rfl, rfl, _, rfl, ?_⟩
          by_cases h2 : 6 < (xP.length : Int)
          · rw [decide_eq_true h2]
            refine iteT (iteT (no0 Same.refl ?_))
            unfold frameD namesD; dsimp only
            rw [decide_eq_false (show ¬ bs.length ≤ 6 by omega), Bool.false_and, Bool.false_and, Bool.and_false]; rfl
          · rw [decide_eq_false h2]
            refine iteF ⟨_, rfl, _, _, rfl, .inr ⟨_, tV.sq, rfl⟩, _, _, rfl, rfl, _, rfl, ?_⟩
            by_cases h3 : 6 < (xV.length : Int)
            · rw [decide_eq_true h3]
              refine iteT (no0 Same.refl ?_)
              unfold frameD namesD; dsimp only
              rw [decide_eq_false (show ¬ cs.length ≤ 6 by omega), Bool.false_and, Bool.and_false, Bool.and_false]; rfl
            · rw [decide_eq_false h3]
              refine iteF ?_
              have badp : ∀ e ∈ as, pairOkD e = false → frameD (.tuple as) (.tuple bs) (.tuple cs) = false := fun e he z => by
                have : as.all pairOkD = false := List.all_eq_false.mpr ⟨e, he, by rw [z]; exact Bool.false_ne_true⟩
                unfold frameD arrsD; dsimp only
                rw [this, Bool.and_false]; rfl
              refine ⟨_, rfl, aA, rfl, ⟨_, tA.sq⟩, for_it (walk_tup (K := K) (a := aA) (xs := xA)) (fun i σ G => ∃ v3 : Option V, σ = [some (.ref aA), some (.ref aP), some (.ref aV), v3, none, none, none] ∧ Same G0 G ∧ ∀ j, j < i → ∀ e, as[j]? = some e → pairOkD e = true)
                ⟨none, rfl, Same.refl, fun j hj => absurd hj (Nat.not_lt_zero _)⟩ (fun i σ G _ ⟨_, _, sm, _⟩ => ((Kp.same (ex := ex) sm).tup tA).sq) ?_ ?_⟩
              · rintro i x σ G G' hi ⟨v3, rfl, sm, hall⟩ ⟨rfl, hx⟩
                obtain ⟨e, he, dve⟩ := dA.get hx
                have dve' := dve.kp (Kp.same sm)
                have hmem := List.mem_of_getElem? he
                have hce := cost_mem hmem
                refine ⟨_, rfl, _, _, _, _, _, rfl, .ty _, dve'.ty, kitT e, _, rfl, ?_⟩
                cases et : isTupD e with
                | false =>
                  have : pairOkD e = false := by cases e <;> first | rfl | cases et
                  exact iteT (iteT (no0 sm (badp e hmem this)))
                | true =>
                  obtain ⟨es, rfl⟩ : ∃ es, e = .tuple es := by cases e <;> first | exact ⟨_, rfl⟩ | cases et
                  obtain ⟨b, ys, rfl, tb, db⟩ := dve'.tupI
                  have lb := db.len
                  refine iteF ⟨_, rfl, _, _, rfl, .inr ⟨_, tb.sq, rfl⟩, rfl, _, rfl, ?_⟩
                  by_cases h2e : ys.length = 2
                  · rw [decide_eq_true (show V.int (ys.length : Int) = V.int 2 by rw [h2e]; rfl)]
                    refine iteF ?_
                    obtain ⟨x1, x2, rfl⟩ : ∃ x1 x2, es = [x1, x2] := by
                      match es, (show es.length = 2 by omega) with
                      | [x1, x2], _ => exact ⟨x1, x2, rfl⟩
                    cases db with
                    | @cons v1 r1 _ _ d1 q1 => cases q1 with
                    | @cons v2 r2 _ _ d2 q2 => cases q2 with
                    | nil =>
                    simp only [cost, costL] at hce
                    refine ⟨_, rfl, b, _, 0, v1, rfl, rfl, tb.sq, rfl, ex, v1, x1, rfl, d1, by omega, fun H2 m2 => ?_⟩
                    cases n1 : nameD x1 with
                    | false =>
                      refine ⟨_, rfl, iteT (iteT (no0 (sm.trans m2) (badp _ hmem ?_)))⟩
                      show (nameD x1 && nameD x2) = false
                      rw [n1]; rfl
                    | true =>
                      refine ⟨_, rfl, iteF ⟨_, rfl, b, _, 1, v2, rfl, rfl, ((Kp.same (ex := ex) m2).tup tb).sq, rfl, ex, v2, x2, rfl, d2.kp (Kp.same m2), by omega, fun H3 m3 => ?_⟩⟩
                      have sm3 := (sm.trans m2).trans m3
                      cases n2 : nameD x2 with
                      | false =>
                        refine ⟨_, rfl, iteT (no0 sm3 (badp _ hmem ?_))⟩
                        show (nameD x1 && nameD x2) = false
                        rw [n2, Bool.and_false]
                      | true =>
                        refine ⟨_, rfl, iteF ⟨_, rfl, sm3, fun j hj e2 he2 => ?_⟩⟩
                        by_cases hji : j = i
                        · subst hji
                          rw [he] at he2
                          cases he2
                          show (nameD x1 && nameD x2) = true
                          rw [n1, n2]; rfl
                        · exact hall j (by omega) e2 he2
                  · rw [decide_eq_false (fun q : V.int (ys.length : Int) = V.int 2 => h2e (by injection q with q; omega))]
                    refine iteT (no0 sm (badp _ hmem ?_))
                    rw [pairOkD_eq, decide_eq_false (by omega)]; rfl
              · rintro σ G ⟨v3, rfl, sm, hall⟩
                have okA : arrsD (.tuple as) = true := by
                  unfold arrsD; dsimp only
                  rw [decide_eq_true (by omega), Bool.true_and, List.all_eq_true]
                  intro e he
                  obtain ⟨j, hj⟩ := List.getElem?_of_mem he
                  have := (List.getElem?_eq_some_iff.mp hj).1
                  exact hall j (by omega) e hj
                have tP2 := (Kp.same (ex := ex) sm).tup tP
                have tV2 := (Kp.same (ex := ex) sm).tup tV
                have dPV := (dP.kp (Kp.same sm)).app (dV.kp (Kp.same sm))
                have cl := costL_app bs cs
                refine ⟨_, rfl, _, rfl, aP, aV, xP, xV, rfl, rfl, tP2, tV2, by rw [sizeLine_eq]; omega, fun tp G2 m2 ht => ⟨tp, rfl, ⟨_, ht.sq⟩, fun D hD => ?_⟩⟩
                refine lc_o (walk_tup (K := K) (a := tp) (xs := xP ++ xV)) (fun i => ((xP ++ xV).zip (bs ++ cs))[i]?.bind fun q => if nameD q.2 = true then none else some q.1) (by rw [sizeLine_eq, List.length_append]; omega) hD (fun Hx sm => ((Kp.same (ex := ex) sm).tup ht).sq) ?_ ?_
                · rintro i x Hx H' Nx hi smx hDx ⟨rfl, hx⟩ hno hyes
                  obtain ⟨e, he, dve⟩ := dPV.get hx
                  have hz : ((xP ++ xV).zip (bs ++ cs))[i]? = some (x, e) := by rw [List.getElem?_zip_eq_some]; exact ⟨hx, he⟩
                  have hce : cost e ≤ 8000000 := by
                    rcases List.mem_append.mp (List.mem_of_getElem? he) with q | q
                    · have := cost_mem q; omega
                    · have := cost_mem q; omega
                  refine ⟨rfl, _, rfl, ex, x, e, rfl, dve.kp (Kp.same (m2.trans smx)), by omega, fun H3 m3 => ?_⟩
                  cases en : nameD e with
                  | true => exact ⟨_, rfl, iteF (hno (by rw [hz]; exact if_pos en) _ m3)⟩
                  | false => exact ⟨_, rfl, iteT ⟨_, rfl, hyes _ (by rw [hz]; exact if_neg (by rw [en]; exact Bool.false_ne_true)) _ m3⟩⟩
                · intro Hx smx hDx
                  have zl : ((xP ++ xV).zip (bs ++ cs)).length = (xP ++ xV).length := by rw [List.length_zip, List.length_append, List.length_append]; omega
                  rw [← zl, range_bind] at hDx
                  refine ⟨Nat.zero_le _, fun p hp => ⟨D, p, _, rfl, rfl, SqL.of ((Same.upd hp) _ _ hDx), SqL.of upd_same, _, rfl, ?_⟩⟩
                  rw [zip_filter _ _ (by rw [List.length_append, List.length_append]; omega)]
                  have sm5 := ((sm.trans m2).trans smx).trans (Same.upd (o := .lst []) hp)
                  generalize upd Hx p (.lst []) = G5 at sm5 ⊢
                  clear hDx hp smx hD ht m2
                  cases en : (bs ++ cs).all nameD with
                  | false =>
                    refine iteT (no0 sm5 ?_)
                    rw [List.all_append] at en
                    unfold frameD namesD; dsimp only
                    cases e1 : bs.all nameD with
                    | false => rw [Bool.and_false, Bool.false_and, Bool.and_false]; rfl
                    | true =>
                      rw [e1, Bool.true_and] at en
                      rw [en, Bool.and_false, Bool.and_false, Bool.and_false]; rfl
                  | true =>
                    refine iteF ?_
                    rw [List.all_append, Bool.and_eq_true] at en
                    have okP : namesD 6 (.tuple bs) = true := by
                      unfold namesD; dsimp only
                      rw [decide_eq_true (by omega), en.1]; rfl
                    have okV : namesD 6 (.tuple cs) = true := by
                      unfold namesD; dsimp only
                      rw [decide_eq_true (by omega), en.2]; rfl
                    have fD : frameD (.tuple as) (.tuple bs) (.tuple cs) = decide (allN (psOf (.tuple as)) (nsOf (.tuple bs)) (nsOf (.tuple cs))).Nodup := by unfold frameD; rw [okA, okP, okV]; rfl
                    rw [fD] at k0
                    obtain ⟨ea, la, _⟩ := arrs_true okA
                    obtain ⟨ep, lp, _⟩ := names_true okP
                    obtain ⟨ev, lv, _⟩ := names_true okV
                    injection ea with ea
                    injection ep with ep
                    injection ev with ev
                    clear fD badp no0 no k okA okP okV en hall
                    rw [ea] at dA ha0
                    rw [ep] at dP
                    rw [ev] at dV
                    generalize psOf (.tuple as) = ps at *
                    generalize nsOf (.tuple bs) = ns at *
                    generalize nsOf (.tuple cs) = us at *
                    have lA2 := dA.len
                    rw [List.length_map] at lA2
                    have kp5 : Kp ex G0 G5 := Kp.same sm5
                    refine ⟨_, rfl, aA, rfl, ⟨_, (kp5.tup tA).sq⟩, fun D hD => ?_⟩
                    refine lc_o (walk_tup (K := K) (a := aA) (xs := xA)) (fun i => ps[i]?.map fun q => V.str q.1) (by rw [sizeLine_eq]; omega) hD (fun Hx sm => ((kp5.trans (Kp.same sm)).tup tA).sq) ?_ ?_
                    · rintro i x Hx H' Nx hi smx hDx ⟨rfl, hx⟩ hno hyes
                      obtain ⟨e, he, dve⟩ := dA.get hx
                      have hi' : i < ps.length := by omega
                      rw [List.getElem?_map, List.getElem?_eq_getElem hi'] at he
                      cases he
                      obtain ⟨b, rfl, hb⟩ := dve.pairI
                      refine ⟨rfl, yes (⟨_, rfl, b, _, 0, _, rfl, rfl, ((kp5.trans (Kp.same smx)).tup hb).sq, rfl, ?_⟩)⟩
                      exact hyes _ (by rw [List.getElem?_eq_getElem hi']; rfl) _ Same.refl
                    · intro Hx smx hDx
                      rw [lA2, range_list] at hDx
                      have hDx2 : Hx D = some (.lst ((ps.map (·.1)).map V.str)) := by rw [List.map_map]; exact hDx
                      have lu := uniq_len (ps.map (·.2))
                      rw [List.length_map] at lu
                      refine ⟨_, rfl, ex, _, ps, rfl, ha0.kp (kp5.trans (Kp.same smx)), by omega, fun D2 H2 hD2 m7 hD2v => ⟨D, D2, _, _, rfl, rfl, m7 _ _ hDx2, hD2v, by rw [List.length_map, List.length_map, List.length_map, sizeLine_eq]; omega, fun p1 hp1 => ?_⟩⟩
                      have m8 : Same G0 (upd H2 p1 (.lst ((ps.map (·.1)).map V.str ++ (uniq (ps.map (·.2))).map V.str))) := ((sm5.trans smx).trans m7).trans (Same.upd hp1)
                      have hp1v : (upd H2 p1 (.lst ((ps.map (·.1)).map V.str ++ (uniq (ps.map (·.2))).map V.str))) p1 = some (.lst ((ps.map (·.1)).map V.str ++ (uniq (ps.map (·.2))).map V.str)) := upd_same
                      generalize upd H2 p1 (.lst ((ps.map (·.1)).map V.str ++ (uniq (ps.map (·.2))).map V.str)) = H3 at m8 hp1v ⊢
                      refine ⟨_, rfl, _, rfl, aP, aV, xP, xV, rfl, rfl, (Kp.same (ex := ex) m8).tup tP, (Kp.same (ex := ex) m8).tup tV, by rw [sizeLine_eq]; omega, fun tp2 H4 m9 ht2 => ⟨tp2, _, rfl, .inr ht2.sq, fun l hl => ?_⟩⟩
                      refine ⟨p1, l, _, _, rfl, rfl, (Same.upd hl) _ _ (m9 _ _ hp1v), upd_same, ?_, fun p2 hp2 => ?_⟩
                      · rw [List.length_append, List.length_append, List.length_map, List.length_map, List.length_map, sizeLine_eq]; omega
                      · have m10 : Same G0 (upd (upd H4 l (.lst (xP ++ xV))) p2 (.lst ((ps.map (·.1)).map V.str ++ (uniq (ps.map (·.2))).map V.str ++ (xP ++ xV)))) := ((m8.trans m9).trans (Same.upd hl)).trans (Same.upd hp2)
                        have hall : (upd (upd H4 l (.lst (xP ++ xV))) p2 (.lst ((ps.map (·.1)).map V.str ++ (uniq (ps.map (·.2))).map V.str ++ (xP ++ xV)))) p2 = some (.lst ((allN ps ns us).map V.str)) := by
                          rw [upd_same, dP.strE, dV.strE]
                          unfold allN
                          rw [List.map_append, List.map_append, List.map_append, List.append_assoc]
                        generalize upd (upd H4 l (.lst (xP ++ xV))) p2 (.lst ((ps.map (·.1)).map V.str ++ (uniq (ps.map (·.2))).map V.str ++ (xP ++ xV))) = H5 at m10 hall
                        have lN : (allN ps ns us).length ≤ 1000 := by
                          have l1 := dP.len
                          have l2 := dV.len
                          rw [List.length_map] at l1 l2
                          unfold allN
                          simp only [List.length_append, List.length_map]
                          omega
                        refine ⟨_, rfl, p2, allN ps ns us, rfl, SqL.of hall, lN, _, rfl, _, _, rfl, .inl ⟨_, SqL.of hall, rfl⟩, rfl, ?_⟩
                        rw [List.length_map]
                        have key : decide (V.int ((uniq (allN ps ns us)).length : Int) = V.int ((allN ps ns us).length : Int)) = decide (allN ps ns us).Nodup := decide_eq_decide.mpr ⟨fun e => uniq_full _ (by injection e with e; omega), fun nd => by
                          have a1 := uniq_len (allN ps ns us)
                          have a2 := nodup_le _ (uniq (allN ps ns us)) nd fun x hx => (uniq_mem _ _).mpr hx
                          exact congrArg V.int (by omega)⟩
                        rw [key]
                        exact k0 m10
end
end Kx
namespace Kx
open PySem PySem.Spec PyProof.Rows L2
/-! ### texts that can be shown -/
theorem okS_app {a b : Str} (ha : okS a) (hb : okS b) : okS (a ++ b) := fun c hc => by
  have hc' : c ∈ (a.cps ++ b.cps).toList := hc
  rw [Array.toList_append] at hc'
  rcases List.mem_append.mp hc' with q | q
  · exact ha c q
  · exact hb c q
theorem cutS_le (a : Str) (lo hi : Option Int) : (cutS a lo hi).length ≤ a.length := by
  show (cutS a lo hi).cps.size ≤ a.cps.size
  unfold cutS
  rw [List.size_toArray, List.length_take, List.length_drop, Array.length_toList]
  omega
theorem okS_cut {a : Str} (ha : okS a) (lo hi : Option Int) : okS (cutS a lo hi) := fun c hc => by
  unfold cutS at hc
  exact ha c (List.mem_of_mem_drop (List.mem_of_mem_take (by simpa using hc)))
theorem okS_name {z : Str} (h : NameS z) : okS z := fun c hc => Nat.lt_of_le_of_lt (h.2.2 c hc).2 (by decide)
theorem upper_abc : ∀ c, 97 ≤ c → c ≤ 122 → ∀ d ∈ Unicode.upperOf c, d < 16 ^ 8 := by
  have key : ((List.range 26).all fun i => (Unicode.upperOf (i + 97)).all fun d => decide (d < 16 ^ 8)) = true := by decide +kernel
  intro c h1 h2 d hd
  have := List.all_eq_true.mp key (c - 97) (List.mem_range.mpr (by omega))
  rw [show c - 97 + 97 = c by omega] at this
  exact of_decide_eq_true (List.all_eq_true.mp this d hd)
theorem okS_upper {z : Str} (h : NameS z) : okS (Txt.upper z) := fun c hc => by
  have hc' : c ∈ ((z.cps.mapIdx fun _ c => (Unicode.upperOf c).toArray).flatten).toList := hc
  rw [Array.mem_toList_iff, Array.mem_flatten] at hc'
  obtain ⟨l, hl, hcl⟩ := hc'
  obtain ⟨i, hi, rfl⟩ := Array.mem_mapIdx.mp hl
  have hz := h.2.2 (z.cps[i]) (by rw [Array.mem_toList_iff]; exact Array.getElem_mem hi)
  exact upper_abc _ hz.1 hz.2 c (by simpa using hcl)
/-- v shows a small datum -/
def Sm (ex : Addr → Prop) (H : Hp) (n : Nat) (v : V) : Prop := ∃ d, Dv ex H v d ∧ cost d ≤ n ∧ okD d ∧ 4000 * d.depth ≤ n
theorem Sm.str {ex : Addr → Prop} {H : Hp} {n : Nat} {z : Str} (h : okS z) (hl : 10 * z.length + 2 ≤ n) : Sm ex H n (.str z) := ⟨_, .str z, by simp only [cost]; exact hl, by simp only [okD]; exact h, by simp only [PyData.depth]; omega⟩
theorem Sm.kp {ex : Addr → Prop} {H H' : Hp} {n : Nat} {v : V} (h : Sm ex H n v) (k : Kp ex H H') : Sm ex H' n v := let ⟨d, a, b⟩ := h; ⟨d, a.kp k, b⟩
theorem fresh_old {p : Addr} {H G : Hp} {n : Nat} {a : Addr} (k : KpP p H G) (hp : PotAt G p n) (ha : G a = none) : ¬ H a ≠ none := fun z => by
  cases e : H a with
  | none => exact z e
  | some o =>
    have := k a o e fun q => absurd q (hp.ne ha)
    rw [ha] at this
    cases this
theorem Same.upd2 {H : Hp} {p : Addr} {o o2 : HO} (h : H p = none) : Same H (L2.upd (L2.upd H p o) p o2) := fun a u e => by
  rw [upd_ne (ne_of_none e h), upd_ne (ne_of_none e h)]; exact e
theorem PotAt.old {H : Hp} {p : Addr} {n : Nat} (h : PotAt H p n) : H p ≠ none := by
  obtain ⟨a, b, c, e, _⟩ := h
  rw [e]; exact fun z => by cases z
theorem KpP.old {p : Addr} {n : Nat} {H G G' : Hp} (h : PotAt H p n) (k : KpP p G G') : Kp (fun a => H a ≠ none) G G' := k.weak fun b e => by rw [e]; exact h.old
section
variable {P : Program} {w : World} {K : PySem.W.Frag} {mg : Str → Option Value} {base : Heap}
abbrev N_law_odd_name : List Str := ["pot", "word", "at", "char", "some"]
abbrev P_law_odd_name : List Str := ["pot", "word"]
theorem sc_law_odd_name : FnScope N_law_odd_name P_law_odd_name (defScope s_law_odd_name) := ⟨rfl, rfl, rfl, by decide +kernel, rfl, by decide +kernel, by decide +kernel⟩
abbrev Old (H : Hp) : Addr → Prop := fun a => H a ≠ none
def spOdd : Sp := fun vs H Q _ => ∃ (p : Addr) (n : Nat) (z : Str), vs = [.ref p, .str z] ∧ PotAt H p n ∧ n ≤ 900000 ∧ NameS z ∧ ∀ (v : V) (H' : Hp), Sm (Old H) H' 100000 v → PotAt H' p (n + 3) → KpP p H H' → Q v H'
theorem ok_odd (T : Bt mg) (h : Has K mg "_law_odd_name" s_law_odd_name) (C1 : Ca P w K mg base 1 "_law_dip" P_law_dip spDip) (C2 : Ca P w K mg base 2 "_law_choose" P_law_choose spChoose) : Ca P w K mg base 3 "_law_odd_name" P_law_odd_name spOdd := by
  obtain ⟨_, _, c__law_dip⟩ := C1
  obtain ⟨_, _, c__law_choose⟩ := C2
  refine cal_of h sc_law_odd_name (fun _ _ _ _ _ _ us hl => match us, hl with | [_, _], _ => rfl) (fun vs H Q E h => ?_) (fun f cdv A outer s H vs Q E hr h => ?_)
  · obtain ⟨p, n, z, rfl, _⟩ := h
    rfl
  · obtain ⟨p, n, z, rfl, hp, hn, hz, k⟩ := h
    refine ⟨_, (pss_cons (ps_par (i := 2) (j := 3) (by rfl) sc_law_odd_name.nd rfl rfl (by decide) rfl rfl (pa_cons (pe_call c__law_dip.1 (hr.mono (by decide)) rfl c__law_dip.2.1 c__law_dip.2.2.1 c__law_dip.2.2.2 .nil pass0 (pa_cons (pv 0) (pa_cons (pe_op op_add (pe_callB call_len (by rfl) T.len (by decide +kernel) (pa_cons (pv 1) pa_nil)) pe_int) pa_nil))) (pa_cons (pe_call c__law_choose.1 (hr.mono (by decide)) rfl c__law_choose.2.1 c__law_choose.2.2.1 c__law_choose.2.2.2 .nil pass0 (pa_cons (pv 0) (pa_cons (pe_lst (pa_cons pe_str (pa_cons pe_str (pa_cons pe_str (pa_cons pe_str (pa_cons pe_str (pa_cons pe_str (pa_cons pe_str (pa_cons pe_str (pa_cons pe_str (pa_cons pe_str (pa_cons pe_str pa_nil)))))))))))) pa_nil))) pa_nil)) (by rfl))
      (pss_cons (ps_set (i := 4) sc_law_odd_name.nd rfl (.inl rfl) (pe_lst (pa_cons (pe_op op_add_str (pe_op op_add_str (pe_slice sl_str (pv 1) po_none (po_some (pv 2))) (pv 3)) (pe_slice sl_str (pv 1) (po_some (pv 2)) po_none)) (pa_cons (pe_op op_add_str (pe_slice sl_str (pv 1) po_none (po_some (pv 2))) (pe_slice sl_str (pv 1) (po_some (pe_op op_add (pv 2) pe_int)) po_none)) (pa_cons (pe_op op_mulS (pv 1) pe_int) (pa_cons (pe_upper (pv 1)) (pa_cons pe_str (pa_cons pe_str (pa_cons pe_str pa_nil)))))))))
      (pss_cons (ps_set (i := 4) sc_law_odd_name.nd rfl (.inl rfl) (pe_op op_cat (pv 4) (pe_lst (pa_cons pe_str (pa_cons pe_non (pa_cons pe_int (pa_cons pe_bl (pa_cons (pe_tupF pa_nil) (pa_cons (pe_lst pa_nil) (pa_cons pe_dnewK (pa_cons (pe_tupF (pa_cons (pv 1) pa_nil)) (pa_cons (pe_lst (pa_cons (pv 1) pa_nil)) (pa_cons (pe_disp (pps_cons (pv 1) pe_int pps_nil) rfl rfl (by simp) (by decide)) (pa_cons (pe_op op_mulS pe_str pe_int) (pa_cons (pe_op op_pow pe_int pe_int) pa_nil)))))))))))))))
      (pss_one (ps_ret (pe_call c__law_choose.1 (hr.mono (by decide)) rfl c__law_choose.2.1 c__law_choose.2.2.1 c__law_choose.2.2.2 .nil pass0 (pa_cons (pv 0) (pa_cons (pe_op op_cat (pv 4) (pe_lst (pa_cons (pv 1) (pa_cons (pv 1) pa_nil)))) pa_nil)))))))), ?_⟩
    have hzl := hz.2.1
    have hzl1 := hz.1
    have room : ∀ m : Nat, m ≤ 10000 → m ≤ sizeLine := fun m h => by rw [sizeLine_eq]; omega
    refine ⟨_, rfl, _, rfl, _, _, rfl, ⟨room _ (by omega), rfl⟩, _, _, rfl, rfl, p, n, _, rfl, hp, by omega, by omega, by omega, fun d H1 hd1 hd2 hp1 hk1 => ?_⟩
    refine ⟨_, rfl, room 11 (by decide), fun l2 hl2 => ⟨p, n + 1, _, _, rfl, hp1.same (Same.upd hl2), by omega, .inl ⟨l2, rfl, hp1.ne hl2, upd_same⟩, by show 1 ≤ 11; decide, by show 11 ≤ 1000; decide, fun i v H2 hv hp2 hk2 => ?_⟩⟩
    have hk2 : KpP p H H2 := hk1.trans ((Kp.new hl2).trans hk2)
    obtain ⟨ch, rfl, hch, hcl⟩ : ∃ ch : Str, v = .str ch ∧ okS ch ∧ ch.length ≤ 1 := by
      have all : ∀ v ∈ ([.str "a", .str "z", .str "A", .str " ", .str "0", .str "*", .str "{", .str "\n", .str "-", .str "", .str "e"] : List V), ∃ ch : Str, v = .str ch ∧ okS ch ∧ ch.length ≤ 1 := (by repeat (first | exact List.forall_mem_nil _ | refine List.forall_mem_cons.mpr ⟨⟨_, rfl, by unfold okS; decide +kernel, by decide +kernel⟩, ?_⟩))
      exact all v (List.mem_of_getElem? hv)
    clear hv
    have c1 := cutS_le z none (some d)
    have c2 := cutS_le z (some d) none
    have c3 := cutS_le z (some (d + 1)) none
    have oz := okS_name hz
    have ln9 := repS_len z (9 : Int).toNat
    rw [show (9 : Int).toNat = 9 from rfl] at ln9
    have lnu : (Txt.upper z).length ≤ 3 * z.length := PyProof.Rows.len_upper z
    refine ⟨_, _, rfl, ?_⟩
    refine ⟨_, rfl, _, rfl, _, rfl, _, rfl, room _ (by omega), _, rfl, _, _, rfl, rfl, room _ (by omega), _, rfl, _, rfl, _, rfl, _, rfl, room _ (by omega), _, _, rfl, rfl, room _ (by rw [strLen_append]; omega), ?_⟩
    refine ⟨_, rfl, _, rfl, _, rfl, _, rfl, room _ (by omega), _, rfl, _, rfl, _, _, rfl, rfl, _, rfl, _, rfl, room _ (by omega), _, _, rfl, rfl, room _ (by omega), ?_⟩
    refine ⟨_, rfl, _, _, rfl, rfl, by decide, by decide, by omega, by omega, ?_⟩
    refine ⟨_, rfl, ⟨_, rfl⟩, _, rfl, rfl, by omega, room 7 (by decide), fun l3 hl3 => ?_⟩
    have s3 : Same H2 (upd H2 l3 (.lst [.str (cutS z none (some d) ++ ch ++ cutS z (some d) none), .str (cutS z none (some d) ++ cutS z (some (d + 1)) none), .str (repS z (9 : Int).toNat), .str (Txt.upper z), .str "", .str "*1", .str "abcdefgh"])) := Same.upd hl3
    have e3 : (upd H2 l3 (.lst [.str (cutS z none (some d) ++ ch ++ cutS z (some d) none), .str (cutS z none (some d) ++ cutS z (some (d + 1)) none), .str (repS z (9 : Int).toNat), .str (Txt.upper z), .str "", .str "*1", .str "abcdefgh"])) l3 = some (.lst [.str (cutS z none (some d) ++ ch ++ cutS z (some d) none), .str (cutS z none (some d) ++ cutS z (some (d + 1)) none), .str (repS z (9 : Int).toNat), .str (Txt.upper z), .str "", .str "*1", .str "abcdefgh"]) := upd_same
    generalize upd H2 l3 (.lst [.str (cutS z none (some d) ++ ch ++ cutS z (some d) none), .str (cutS z none (some d) ++ cutS z (some (d + 1)) none), .str (repS z (9 : Int).toNat), .str (Txt.upper z), .str "", .str "*1", .str "abcdefgh"]) = H3 at s3 e3 ⊢
    have okW1 : ∀ {G : Hp}, ∀ v ∈ ([.str (cutS z none (some d) ++ ch ++ cutS z (some d) none), .str (cutS z none (some d) ++ cutS z (some (d + 1)) none), .str (repS z (9 : Int).toNat), .str (Txt.upper z), .str "", .str "*1", .str "abcdefgh"] : List V), Sm (Old H) G 100000 v := fun {G} => by
      have x1 := okS_cut oz none (some d)
      have x2 := okS_cut oz (some d) none
      have x3 := okS_cut oz (some (d + 1)) none
      refine List.forall_mem_cons.mpr ⟨.str (okS_app (okS_app x1 hch) x2) (by rw [strLen_append, strLen_append]; omega), ?_⟩
      refine List.forall_mem_cons.mpr ⟨.str (okS_app x1 x3) (by rw [strLen_append]; omega), ?_⟩
      refine List.forall_mem_cons.mpr ⟨.str (repS_ok oz) (by rw [show (9 : Int).toNat = 9 from rfl, ln9]; omega), ?_⟩
      refine List.forall_mem_cons.mpr ⟨.str (okS_upper hz) (by omega), ?_⟩
      refine List.forall_mem_cons.mpr ⟨.str (by unfold okS; decide +kernel) (by decide +kernel), ?_⟩
      refine List.forall_mem_cons.mpr ⟨.str (by unfold okS; decide +kernel) (by decide +kernel), ?_⟩
      exact List.forall_mem_cons.mpr ⟨.str (by unfold okS; decide +kernel) (by decide +kernel), List.forall_mem_nil _⟩
    have lW1 : ([.str (cutS z none (some d) ++ ch ++ cutS z (some d) none), .str (cutS z none (some d) ++ cutS z (some (d + 1)) none), .str (repS z (9 : Int).toNat), .str (Txt.upper z), .str "", .str "*1", .str "abcdefgh"] : List V).length = 7 := rfl
    generalize ([.str (cutS z none (some d) ++ ch ++ cutS z (some d) none), .str (cutS z none (some d) ++ cutS z (some (d + 1)) none), .str (repS z (9 : Int).toNat), .str (Txt.upper z), .str "", .str "*1", .str "abcdefgh"] : List V) = W1 at e3 okW1 lW1
    refine ⟨_, rfl, room 0 (by decide), fun tp Ha sa ht => ⟨room 0 (by decide), fun le hle => fun dd hdd => ⟨_, rfl, room 1 (by decide), fun tw Hb sb htw => ⟨_, rfl, room 1 (by decide), fun lw hlw => fun dw hdw => ⟨_, rfl, upd_same, [(.inr z, .int 1)], rfl, (show 1 ≤ 15 by decide), ?_⟩⟩⟩⟩⟩
    refine ⟨_, _, rfl, rfl, by decide, by decide, by decide +kernel, by decide +kernel, _, _, rfl, rfl, ⟨by decide, by decide, by decide⟩, room 12 (by decide), fun l4 hl4 => ?_⟩
    have hp2' := hp2
    have k3 := hk2.trans (Kp.same s3)
    have hp3 := hp2.same s3
    have ka := k3.trans (Kp.same sa)
    have hpa := hp3.same sa
    have fle := fresh_old ka hpa hle
    have s4 : Same Ha (upd Ha le (.lst [])) := Same.upd hle
    have kb := ka.trans (Kp.same s4)
    have hpb := hpa.same s4
    have fdd := fresh_old kb hpb hdd
    have s5 : Same (upd Ha le (.lst [])) (upd (upd Ha le (.lst [])) dd (.dK [])) := Same.upd hdd
    have kc := (kb.trans (Kp.same s5)).trans (Kp.same sb)
    have hpc := (hpb.same s5).same sb
    have flw := fresh_old kc hpc hlw
    have s6 : Same Hb (upd Hb lw (.lst [.str z])) := Same.upd hlw
    have kd := kc.trans (Kp.same s6)
    have hpd := hpc.same s6
    have fdw := fresh_old kd hpd hdw
    have s7 : Same (upd Hb lw (.lst [.str z])) (upd (upd (upd Hb lw (.lst [.str z])) dw (.dK [])) dw (.dK (mergeK [] [(.inr z, .int 1)]))) := Same.upd2 hdw
    have ke := kd.trans (Kp.same s7)
    have hpe := hpd.same s7
    have ele : (upd (upd (upd Hb lw (.lst [.str z])) dw (.dK [])) dw (.dK (mergeK [] [(.inr z, .int 1)]))) le = some (.lst []) := s7 _ _ (s6 _ _ (sb _ _ (s5 _ _ upd_same)))
    have edd : (upd (upd (upd Hb lw (.lst [.str z])) dw (.dK [])) dw (.dK (mergeK [] [(.inr z, .int 1)]))) dd = some (.dK []) := s7 _ _ (s6 _ _ (sb _ _ upd_same))
    have elw : (upd (upd (upd Hb lw (.lst [.str z])) dw (.dK [])) dw (.dK (mergeK [] [(.inr z, .int 1)]))) lw = some (.lst [.str z]) := s7 _ _ upd_same
    have edw : (upd (upd (upd Hb lw (.lst [.str z])) dw (.dK [])) dw (.dK (mergeK [] [(.inr z, .int 1)]))) dw = some (.dK [(.inr z, .int 1)]) := upd_same
    have sae : Same Ha (upd (upd (upd Hb lw (.lst [.str z])) dw (.dK [])) dw (.dK (mergeK [] [(.inr z, .int 1)]))) := (((s4.trans s5).trans sb).trans s6).trans s7
    have sbe : Same Hb (upd (upd (upd Hb lw (.lst [.str z])) dw (.dK [])) dw (.dK (mergeK [] [(.inr z, .int 1)]))) := s6.trans s7
    have e3e := sae _ _ (sa _ _ e3)
    generalize upd (upd (upd Hb lw (.lst [.str z])) dw (.dK [])) dw (.dK (mergeK [] [(.inr z, .int 1)])) = He at *
    have hte := (Kp.same (ex := Old H) sae).tup ht
    have htwe := (Kp.same (ex := Old H) sbe).tup htw
    have dz : Dv (Old H) He (.str z) (.str z) := .str z
    have cz : cost (.str z) ≤ 100 := by simp only [cost]; omega
    have okz : okD (.str z) := by simp only [okD]; exact oz
    simp only [cost] at cz
    have okW2 : ∀ v ∈ ([.str "abcdefghi", .non, .int 0, .bl true, .ref tp, .ref le, .ref dd, .ref tw, .ref lw, .ref dw, .str (repS "a" (9000 : Int).toNat), .int (10 ^ (60 : Int).toNat)] : List V), Sm (Old H) He 100000 v := by
      refine List.forall_mem_cons.mpr ⟨.str (by unfold okS; decide +kernel) (by decide +kernel), ?_⟩
      refine List.forall_mem_cons.mpr ⟨⟨_, .non, by decide +kernel, by simp only [okD], by simp only [PyData.depth]; omega⟩, ?_⟩
      refine List.forall_mem_cons.mpr ⟨⟨_, .int 0, by simp only [cost]; omega, by simp only [okD]; decide, by simp only [PyData.depth]; omega⟩, ?_⟩
      refine List.forall_mem_cons.mpr ⟨⟨_, .bl true, by simp only [cost]; omega, by simp only [okD], by simp only [PyData.depth]; omega⟩, ?_⟩
      refine List.forall_mem_cons.mpr ⟨⟨_, Dv.tupM hte .nil, by simp only [cost, costL]; omega, by simp only [okD, okL], by simp only [PyData.depth, PyData.depthAll]; omega⟩, ?_⟩
      refine List.forall_mem_cons.mpr ⟨⟨_, Dv.lst fle ele .nil, by simp only [cost, costL]; omega, by simp only [okD, okL], by simp only [PyData.depth, PyData.depthAll]; omega⟩, ?_⟩
      refine List.forall_mem_cons.mpr ⟨⟨_, Dv.dic fdd edd .nil, by simp only [cost, costK]; omega, by simp only [okD, okK], by simp only [PyData.depth, PyData.depthKv]; omega⟩, ?_⟩
      refine List.forall_mem_cons.mpr ⟨⟨_, Dv.tupM htwe (.cons dz .nil), by simp only [cost, costL]; omega, by simp only [okD, okL]; exact ⟨oz, trivial⟩, by simp [PyData.depth, PyData.depthAll]⟩, ?_⟩
      refine List.forall_mem_cons.mpr ⟨⟨_, Dv.lst flw elw (.cons dz .nil), by simp only [cost, costL]; omega, by simp only [okD, okL]; exact ⟨oz, trivial⟩, by simp [PyData.depth, PyData.depthAll]⟩, ?_⟩
      refine List.forall_mem_cons.mpr ⟨⟨_, Dv.dic fdw edw (.cons (.int 1) .nil), by simp only [cost, costK, keyD]; omega, by simp only [okD, okK, keyD]; exact ⟨oz, by decide, trivial⟩, by simp [PyData.depth, PyData.depthKv, keyD]⟩, ?_⟩
      refine List.forall_mem_cons.mpr ⟨.str (repS_ok (by unfold okS; decide +kernel)) ?_, ?_⟩
      · rw [repS_len, show ("a" : Str).length = 1 by decide +kernel]
        decide
      exact List.forall_mem_cons.mpr ⟨⟨_, .int _, by simp only [cost]; omega, by simp only [okD]; decide +kernel, by simp only [PyData.depth]; omega⟩, List.forall_mem_nil _⟩
    have lW2 : ([.str "abcdefghi", .non, .int 0, .bl true, .ref tp, .ref le, .ref dd, .ref tw, .ref lw, .ref dw, .str (repS "a" (9000 : Int).toNat), .int (10 ^ (60 : Int).toNat)] : List V).length = 12 := rfl
    refine ⟨l3, l4, _, _, rfl, rfl, (Same.upd hl4) _ _ e3e, upd_same, room _ (by rw [lW1]; show 7 + 12 ≤ 10000; decide), fun l5 hl5 => ?_⟩
    have s8 : Same He (upd (upd He l4 (.lst [.str "abcdefghi", .non, .int 0, .bl true, .ref tp, .ref le, .ref dd, .ref tw, .ref lw, .ref dw, .str (repS "a" (9000 : Int).toNat), .int (10 ^ (60 : Int).toNat)])) l5 (.lst (W1 ++ [.str "abcdefghi", .non, .int 0, .bl true, .ref tp, .ref le, .ref dd, .ref tw, .ref lw, .ref dw, .str (repS "a" (9000 : Int).toNat), .int (10 ^ (60 : Int).toNat)]))) := (Same.upd hl4).trans (Same.upd hl5)
    refine ⟨_, rfl, _, rfl, _, rfl, _, rfl, room 2 (by decide), fun l6 hl6 => ⟨l5, l6, _, _, rfl, rfl, (Same.upd hl6) _ _ upd_same, upd_same, room _ (by rw [List.length_append, lW1]; show 7 + 12 + 2 ≤ 10000; decide), fun l7 hl7 => ?_⟩⟩
    have s9 := (s8.trans (Same.upd (o := .lst [.str z, .str z]) hl6)).trans (Same.upd (o := .lst ((W1 ++ [.str "abcdefghi", .non, .int 0, .bl true, .ref tp, .ref le, .ref dd, .ref tw, .ref lw, .ref dw, .str (repS "a" (9000 : Int).toNat), .int (10 ^ (60 : Int).toNat)]) ++ [.str z, .str z])) hl7)
    refine ⟨p, n + 2, _, _, rfl, hpe.same s9, by omega, .inl ⟨l7, rfl, ((hpe.same s8).same (Same.upd hl6)).ne hl7, upd_same⟩, ?_, ?_, fun i v H8 hv hp8 hk8 => k v H8 ?_ hp8 ((ke.trans (Kp.same s9)).trans hk8)⟩
    · rw [List.length_append, List.length_append, lW1]; show 1 ≤ 7 + 12 + 2; decide
    · rw [List.length_append, List.length_append, lW1]; show 7 + 12 + 2 ≤ 1000; decide
    · refine Sm.kp (Sm.kp (H := He) ?_ (Kp.same s9)) (KpP.old hp hk8)
      rcases List.mem_append.mp (List.mem_of_getElem? hv) with q | q
      · rcases List.mem_append.mp q with q | q
        · exact okW1 v q
        · exact okW2 v q
      · have : v = .str z := by
          rcases List.mem_cons.mp q with q | q
          · exact q
          · exact List.mem_singleton.mp q
        rw [this]
        exact .str oz (by omega)
end
end Kx
namespace Kx
open PySem PySem.Spec PyProof.Rows L2
/-- vs show data, small together -/
def Sms (ex : Addr → Prop) (H : Hp) (n : Nat) (vs : List V) : Prop := ∃ ds, DvL ex H vs ds ∧ costL ds ≤ n ∧ okL ds ∧ 4000 * PyData.depthAll ds ≤ n
theorem okL_app : ∀ {xs ys : List PyData}, okL xs → okL ys → okL (xs ++ ys)
  | [], _, _, h => h
  | x :: r, ys, a, b => by
    have a' : okD x ∧ okL r := by simpa only [okL] using a
    have : okD x ∧ okL (r ++ ys) := ⟨a'.1, okL_app a'.2 b⟩
    simpa only [List.cons_append, okL] using this
theorem okL_mem : ∀ {xs : List PyData}, okL xs ↔ ∀ x ∈ xs, okD x
  | [] => by simp [okL]
  | x :: r => by
    have := okL_mem (xs := r)
    simp only [okL, List.mem_cons, forall_eq_or_imp, this]
section
variable {ex ey : Addr → Prop} {H H' : Hp} {n m : Nat}
theorem dAll_app : ∀ xs ys : List PyData, PyData.depthAll (xs ++ ys) = max (PyData.depthAll xs) (PyData.depthAll ys)
  | [], ys => by simp [PyData.depthAll]
  | x :: r, ys => by
    have := dAll_app r ys
    simp only [List.cons_append, PyData.depthAll]; omega
theorem dAll_mem : ∀ {xs : List PyData} {x : PyData}, x ∈ xs → x.depth ≤ PyData.depthAll xs
  | y :: r, x, h => by
    rcases List.mem_cons.mp h with rfl | h
    · simp only [PyData.depthAll]; omega
    · have := dAll_mem h
      simp only [PyData.depthAll]; omega
theorem Sms.nil : Sms ex H n [] := ⟨[], .nil, by simp [costL], by simp only [okL], by simp [PyData.depthAll]⟩
theorem Sms.cons {v : V} {vs : List V} (a : Sm ex H n v) (b : Sms ex H m vs) : Sms ex H (n + 2 + m) (v :: vs) := by
  obtain ⟨d, h1, h2, h3, h4⟩ := a
  obtain ⟨ds, g1, g2, g3, g4⟩ := b
  exact ⟨d :: ds, .cons h1 g1, by simp only [costL]; omega, by simp only [okL]; exact ⟨h3, g3⟩, by simp only [PyData.depthAll]; omega⟩
theorem Sms.app {v w : List V} (a : Sms ex H n v) (b : Sms ex H m w) : Sms ex H (n + m) (v ++ w) := by
  obtain ⟨ds, h1, h2, h3, h4⟩ := a
  obtain ⟨es, g1, g2, g3, g4⟩ := b
  exact ⟨ds ++ es, h1.app g1, by rw [costL_app]; omega, okL_app h3 g3, by rw [dAll_app]; omega⟩
theorem costL_take (k : Nat) (xs : List PyData) : costL (xs.take k) ≤ costL xs := by
  have := costL_app (xs.take k) (xs.drop k)
  rw [List.take_append_drop] at this
  omega
theorem costL_drop (k : Nat) (xs : List PyData) : costL (xs.drop k) ≤ costL xs := by
  have := costL_app (xs.take k) (xs.drop k)
  rw [List.take_append_drop] at this
  omega
theorem costL_rev : ∀ xs : List PyData, costL xs.reverse = costL xs
  | [] => rfl
  | x :: r => by
    rw [List.reverse_cons, costL_app, costL_rev r]
    simp only [costL]; omega
theorem dAll_rev : ∀ xs : List PyData, PyData.depthAll xs.reverse = PyData.depthAll xs
  | [] => rfl
  | x :: r => by
    rw [List.reverse_cons, dAll_app, dAll_rev r]
    simp only [PyData.depthAll]; omega
theorem Sms.take {v : List V} (k : Nat) (a : Sms ex H n v) : Sms ex H n (v.take k) := by
  obtain ⟨ds, h1, h2, h3, h4⟩ := a
  have := dAll_app (ds.take k) (ds.drop k)
  rw [List.take_append_drop] at this
  exact ⟨ds.take k, h1.take k, Nat.le_trans (costL_take k ds) h2, okL_mem.mpr fun x hx => okL_mem.mp h3 x (List.mem_of_mem_take hx), by omega⟩
theorem Sms.drop {v : List V} (k : Nat) (a : Sms ex H n v) : Sms ex H n (v.drop k) := by
  obtain ⟨ds, h1, h2, h3, h4⟩ := a
  have := dAll_app (ds.take k) (ds.drop k)
  rw [List.take_append_drop] at this
  exact ⟨ds.drop k, h1.drop k, Nat.le_trans (costL_drop k ds) h2, okL_mem.mpr fun x hx => okL_mem.mp h3 x (List.mem_of_mem_drop hx), by omega⟩
theorem Sms.rev {v : List V} (a : Sms ex H n v) : Sms ex H n v.reverse := by
  obtain ⟨ds, h1, h2, h3, h4⟩ := a
  exact ⟨ds.reverse, h1.rev, by rw [costL_rev]; exact h2, okL_mem.mpr fun x hx => okL_mem.mp h3 x (List.mem_reverse.mp hx), by rw [dAll_rev]; exact h4⟩
theorem Sms.tup {a : Addr} {v : List V} (h : Sms ex H n v) (t : TupF H a v) : Sm ex H (n + 4000) (.ref a) := by
  obtain ⟨ds, h1, h2, h3, h4⟩ := h
  exact ⟨_, Dv.tupM t h1, by simp only [cost]; omega, by simp only [okD]; exact h3, by simp only [PyData.depth]; omega⟩
theorem Sms.lst {a : Addr} {v : List V} (h : Sms ex H n v) (na : ¬ ex a) (t : H a = some (.lst v)) : Sm ex H (n + 4000) (.ref a) := by
  obtain ⟨ds, h1, h2, h3, h4⟩ := h
  exact ⟨_, Dv.lst na t h1, by simp only [cost]; omega, by simp only [okD]; exact h3, by simp only [PyData.depth]; omega⟩
theorem Sms.kp {v : List V} (h : Sms ex H n v) (k : Kp ex H H') : Sms ex H' n v := let ⟨d, a, b⟩ := h; ⟨d, a.kp k, b⟩
theorem Sms.le {v : List V} (h : Sms ex H n v) (k : n ≤ m) : Sms ex H m v := let ⟨d, a, b, c, e⟩ := h; ⟨d, a, Nat.le_trans b k, c, Nat.le_trans e k⟩
theorem Sm.le {v : V} (h : Sm ex H n v) (k : n ≤ m) : Sm ex H m v := let ⟨d, a, b, c, e⟩ := h; ⟨d, a, Nat.le_trans b k, c, Nat.le_trans e k⟩
theorem Sms.mem {vs : List V} {i : Nat} {v : V} (h : Sms ex H n vs) (hv : vs[i]? = some v) : Sm ex H n v := by
  obtain ⟨ds, h1, h2, h3, h4⟩ := h
  obtain ⟨e, he, de⟩ := h1.get hv
  have := cost_mem (List.mem_of_getElem? he)
  have := dAll_mem (List.mem_of_getElem? he)
  exact ⟨e, de, by omega, okL_mem.mp h3 e (List.mem_of_getElem? he), by omega⟩
theorem sms_strs {zs : List Str} (h : ∀ z ∈ zs, NameS z) : Sms ex H (84 * zs.length) (zs.map V.str) := by
  induction zs with
  | nil => exact .nil
  | cons z r ih =>
    have hz := h z List.mem_cons_self
    have := Sms.cons (ex := ex) (H := H) (Sm.str (n := 82) (okS_name hz) (by have := hz.2.1; omega)) (ih fun y hy => h y (List.mem_cons_of_mem _ hy))
    exact this.le (by rw [List.length_cons]; omega)
theorem sms_pairs {ps : List (Str × Str)} {vs : List V} (h : DvL ex H vs (ps.map pairD)) (hq : ∀ q ∈ ps, NameS q.1 ∧ NameS q.2) : Sms ex H (max (173 * ps.length) 4000) vs := by
  refine ⟨_, h, ?_, ?_, ?_⟩
  · clear h
    have : costL (ps.map pairD) ≤ 173 * ps.length := by
      induction ps with
      | nil => simp [costL]
      | cons q r ih =>
        have h1 := hq q List.mem_cons_self
        have l1 := h1.1.2.1
        have l2 := h1.2.2.1
        have := ih fun y hy => hq y (List.mem_cons_of_mem _ hy)
        simp only [List.map_cons, costL, pairD, cost, List.length_cons]; omega
    omega
  · refine okL_mem.mpr fun x hx => ?_
    obtain ⟨q, hq', rfl⟩ := List.mem_map.mp hx
    have h1 := hq q hq'
    simp only [pairD, okD, okL]
    exact ⟨okS_name h1.1, okS_name h1.2, trivial⟩
  · have : PyData.depthAll (ps.map pairD) ≤ 1 := by
      clear h hq
      induction ps with
      | nil => simp [PyData.depthAll]
      | cons q r ih => simp only [List.map_cons, PyData.depthAll, pairD, PyData.depth]; omega
    omega
end
abbrev All : Addr → Prop := fun _ => True
theorem Sms.any {ex : Addr → Prop} {H : Hp} {n : Nat} {vs : List V} (h : Sms All H n vs) : Sms ex H n vs := let ⟨d, a, b⟩ := h; ⟨d, a.mono Kp.refl fun _ _ => trivial, b⟩
theorem Sm.any {ex : Addr → Prop} {H : Hp} {n : Nat} {v : V} (h : Sm All H n v) : Sm ex H n v := let ⟨d, a, b⟩ := h; ⟨d, a.mono Kp.refl fun _ _ => trivial, b⟩
theorem Kp.all {ex : Addr → Prop} {H H' : Hp} (k : Kp ex H H') : Kp All H H' := k.weak fun _ _ => trivial
/-- a row of the three parts -/
def Row (H : Hp) (k : Int) (v : V) : Prop := ∃ a vs, v = .ref a ∧ TupF H a vs ∧ vs.length ≤ 12 ∧ Sms All H 4000 vs ∧
  (k = 0 → ∃ ps : List (Str × Str), DvL All H vs (ps.map pairD) ∧ ∀ q ∈ ps, NameS q.1 ∧ NameS q.2) ∧ (k ≠ 0 → ∃ zs : List Str, vs = zs.map V.str ∧ ∀ z ∈ zs, NameS z)
theorem Row.kp {H H' : Hp} {k : Int} {v : V} {ex : Addr → Prop} (h : Row H k v) (kk : Kp ex H H') : Row H' k v := by
  obtain ⟨a, vs, rfl, t, l, s, p1, p2⟩ := h
  exact ⟨a, vs, rfl, kk.tup t, l, s.kp kk.all, fun z => let ⟨ps, d, h⟩ := p1 z; ⟨ps, d.kp kk.all, h⟩, p2⟩
theorem row_pairs {H : Hp} {v : V} {ps : List (Str × Str)} (h : Dv All H v (.tuple (ps.map pairD))) (hl : ps.length ≤ 12) (hn : ∀ q ∈ ps, NameS q.1 ∧ NameS q.2) : Row H 0 v := by
  obtain ⟨a, vs, rfl, t, l⟩ := h.tupI
  have ll := l.len
  rw [List.length_map] at ll
  exact ⟨a, vs, rfl, t, by omega, (sms_pairs l hn).le (by omega), fun _ => ⟨ps, l, hn⟩, fun z => absurd rfl z⟩
theorem row_strs {H : Hp} {v : V} {zs : List Str} {k : Int} (hk : k ≠ 0) (h : Dv All H v (.tuple (zs.map .str))) (hl : zs.length ≤ 12) (hn : ∀ z ∈ zs, NameS z) : Row H k v := by
  obtain ⟨a, vs, rfl, t, l⟩ := h.tupI
  have e := l.strE
  subst e
  exact ⟨a, _, rfl, t, by rw [List.length_map]; exact hl, (sms_strs hn).le (by omega), fun z => absurd z hk, fun _ => ⟨zs, rfl, hn⟩⟩
section
variable {P : Program} {w : World} {K : PySem.W.Frag} {mg : Str → Option Value} {base : Heap}
theorem dupH {S : Hp → Prop} {T : Hp → Prop} {goal : Prop} (main : (∀ G, S G → T G) → goal) (body : ∀ G, S G → T G) : goal := main body
abbrev N_law_near : List Str := ["pot", "parts", "kind", "row", "other", "at", "way", "fresh", "some", "more", "name", "length", "odd"]
abbrev P_law_near : List Str := ["pot", "parts", "kind"]
theorem sc_law_near : FnScope N_law_near P_law_near (defScope s_law_near) := ⟨rfl, rfl, rfl, by decide +kernel, rfl, by decide +kernel, by decide +kernel⟩
def spNear : Sp := fun vs H Q _ => ∃ (p l : Addr) (n : Nat) (k : Nat) (v0 v1 v2 : V), vs = [.ref p, .ref l, .int k] ∧ PotAt H p n ∧ n ≤ 700000 ∧ k < 3 ∧ H l = some (.lst [v0, v1, v2]) ∧ l ≠ p ∧ Row H 0 v0 ∧ Row H 1 v1 ∧ Row H 2 v2 ∧
  ∀ (v : V) (H' : Hp), Sm (Old H) H' 200000 v → PotAt H' p (n + 500) → KpP p H H' → Q v H'
theorem ok_near (T : Bt mg) (h : Has K mg "_law_near" s_law_near) (C1 : Ca P w K mg base 1 "_law_dip" P_law_dip spDip) (C2 : Ca P w K mg base 2 "_law_choose" P_law_choose spChoose) (C3 : Ca P w K mg base 3 "_law_name" P_law_name spName) (C4 : Ca P w K mg base 4 "_law_names" P_law_names spNames) (C5 : Ca P w K mg base 3 "_law_odd_name" P_law_odd_name spOdd) : Ca P w K mg base 5 "_law_near" P_law_near spNear := by
  obtain ⟨_, _, c__law_dip⟩ := C1
  obtain ⟨_, _, c__law_choose⟩ := C2
  obtain ⟨_, _, c__law_name⟩ := C3
  obtain ⟨_, _, c__law_names⟩ := C4
  obtain ⟨_, _, c__law_odd_name⟩ := C5
  refine cal_of h sc_law_near (fun _ _ _ _ _ _ us hl => match us, hl with | [_, _, _], _ => rfl) (fun vs H Q E h => ?_) (fun f cdv A outer s H vs Q E hr h => ?_)
  · obtain ⟨p, l, n, k, v0, v1, v2, rfl, _⟩ := h
    rfl
  · obtain ⟨p, l, n, k, v0, v1, v2, rfl, hp, hn, hk3, hl, hlp, r0, r1, r2, kq⟩ := h
    refine ⟨_, (pss_cons (ps_par (i := 3) (j := 4) (by rfl) sc_law_near.nd rfl rfl (by decide) rfl rfl (pa_cons (pe_ix ix_list (pv 1) (pv 2) (fun _ _ => rfl)) (pa_cons (pe_ix ix_list (pv 1) (pe_call c__law_dip.1 (hr.mono (by decide)) rfl c__law_dip.2.1 c__law_dip.2.2.1 c__law_dip.2.2.2 .nil pass0 (pa_cons (pv 0) (pa_cons pe_int pa_nil))) (fun _ _ => rfl)) pa_nil)) (by rfl))
      (pss_cons (ps_par (i := 5) (j := 6) (by rfl) sc_law_near.nd rfl rfl (by decide) rfl rfl (pa_cons (pe_call c__law_dip.1 (hr.mono (by decide)) rfl c__law_dip.2.1 c__law_dip.2.2.1 c__law_dip.2.2.2 .nil pass0 (pa_cons (pv 0) (pa_cons (pe_callB (call_max2 rfl) (by rfl) T.max (by decide +kernel) (pa_cons pe_int (pa_cons (pe_callB call_len (by rfl) T.len (by decide +kernel) (pa_cons (pv 3) pa_nil)) pa_nil))) pa_nil))) (pa_cons (pe_call c__law_dip.1 (hr.mono (by decide)) rfl c__law_dip.2.1 c__law_dip.2.2.1 c__law_dip.2.2.2 .nil pass0 (pa_cons (pv 0) (pa_cons pe_int pa_nil))) pa_nil)) (by rfl))
      (pss_cons (ps_set (i := 7) sc_law_near.nd rfl (.inl rfl) (pe_ifExp (pt_cmpR op_eq (pv 2) pe_int (nomark _)) (pe_tupF (pa_cons (pe_call c__law_name.1 (hr.mono (by decide)) rfl c__law_name.2.1 c__law_name.2.2.1 c__law_name.2.2.2 .nil pass0 (pa_cons (pv 0) pa_nil)) (pa_cons (pe_call c__law_name.1 (hr.mono (by decide)) rfl c__law_name.2.1 c__law_name.2.2.1 c__law_name.2.2.2 .nil pass0 (pa_cons (pv 0) pa_nil)) pa_nil))) (pe_call c__law_name.1 (hr.mono (by decide)) rfl c__law_name.2.1 c__law_name.2.2.1 c__law_name.2.2.2 .nil pass0 (pa_cons (pv 0) pa_nil))))
      (pss_cons (ps_if (PW.pt (pw_or (pt_cmpR op_eq (pv 6) pe_int (nomark _)) (pw_or1 (pt_cmpR (op_eqT0 hr.units0) (pv 3) (pe_tupF pa_nil) (nomark _))))) (pss_cons (ps_set (i := 8) sc_law_near.nd rfl (.inl rfl) (pe_lst (pa_cons pe_non (pa_cons pe_int (pa_cons (pe_tupF pa_nil) (pa_cons (pe_lst pa_nil) (pa_cons pe_dnewK (pa_cons (pe_callTy call_list_of (by rfl) T.list (by decide +kernel) (pa_cons (pv 3) pa_nil)) (pa_cons pe_str (pa_cons (pe_tupF (pa_cons (pv 3) pa_nil)) (pa_cons (pe_tupF (pa_cons (pv 7) pa_nil)) (pa_cons (pv 3) (pa_cons (pv 4) (pa_cons (pe_op op_repF (pv 3) pe_int) pa_nil))))))))))))))
        (pss_one (ps_ret (pe_call c__law_choose.1 (hr.mono (by decide)) rfl c__law_choose.2.1 c__law_choose.2.2.1 c__law_choose.2.2.2 .nil pass0 (pa_cons (pv 0) (pa_cons (pe_op op_cat (pv 8) (pe_lst (pa_cons (pe_op op_catF (pv 3) (pv 4)) pa_nil))) pa_nil)))))) pss_nil)
      (pss_cons (ps_if (pt_cmpR op_eq (pv 6) pe_int (nomark _)) (pss_one (ps_ret (pe_op op_catF (pe_slice sl_tupF (pv 3) po_none (po_some (pv 5))) (pe_slice sl_tupF (pv 3) (po_some (pe_op op_add (pv 5) pe_int)) po_none)))) pss_nil)
      (pss_cons (ps_if (pt_cmpR op_eq (pv 6) pe_int (nomark _)) (pss_cons (ps_set (i := 9) sc_law_near.nd rfl (.inl rfl) (pe_call c__law_choose.1 (hr.mono (by decide)) rfl c__law_choose.2.1 c__law_choose.2.2.1 c__law_choose.2.2.2 .nil pass0 (pa_cons (pv 0) (pa_cons (pe_lst (pa_cons (pe_tupF (pa_cons (pv 7) pa_nil)) (pa_cons (pe_tupF (pa_cons (pe_ix ix_tup (pv 3) (pv 5) (fun _ _ => rfl)) pa_nil)) (pa_cons (pe_callTy call_tupF (by rfl) T.tuple (by decide +kernel) (pa_cons (pe_call c__law_names.1 (hr.mono (by decide)) rfl c__law_names.2.1 c__law_names.2.2.1 c__law_names.2.2.2 .nil pass0 (pa_cons (pv 0) (pa_cons pe_int pa_nil))) pa_nil)) pa_nil)))) pa_nil))))
        (pss_one (ps_ret (pe_op op_catF (pe_op op_catF (pe_slice sl_tupF (pv 3) po_none (po_some (pv 5))) (pv 9)) (pe_slice sl_tupF (pv 3) (po_some (pv 5)) po_none))))) pss_nil)
      (pss_cons (ps_if (PW.pt (pw_and (pt_cmpR op_lt (pv 6) pe_int (nomark _)) (pw_and1 (pt_cmpR op_eq (pv 2) pe_int (nomark _))))) (pss_cons (ps_asg (pe_ix ix_tup (pv 3) (pv 5) (fun _ _ => rfl)) (pg_tup (by rfl) (pgs_cons (pg_name (i := 10) sc_law_near.nd rfl (.inl rfl)) (pgs_cons (pg_name (i := 11) sc_law_near.nd rfl (.inl rfl)) pgs_nil))))
        (pss_cons (ps_set (i := 12) sc_law_near.nd rfl (.inl rfl) (pe_call c__law_odd_name.1 (hr.mono (by decide)) rfl c__law_odd_name.2.1 c__law_odd_name.2.2.1 c__law_odd_name.2.2.2 .nil pass0 (pa_cons (pv 0) (pa_cons (pv 10) pa_nil))))
        (pss_cons (ps_set (i := 8) sc_law_near.nd rfl (.inl rfl) (pe_lst (pa_cons (pe_tupF (pa_cons (pv 12) (pa_cons (pv 11) pa_nil))) (pa_cons (pe_tupF (pa_cons (pv 10) (pa_cons (pv 12) pa_nil))) (pa_cons (pe_lst (pa_cons (pv 10) (pa_cons (pv 11) pa_nil))) (pa_cons (pe_tupF (pa_cons (pv 10) pa_nil)) (pa_cons (pe_tupF (pa_cons (pv 11) (pa_cons (pv 10) pa_nil))) (pa_cons (pv 10) (pa_cons (pe_tupF (pa_cons (pv 10) (pa_cons (pv 10) pa_nil))) pa_nil)))))))))
        (pss_cons (ps_expr (pe_bm PySem.F.plainAttrs_list PySem.F.slot_list_append PySem.F.type_list_append mt_append (pv 8) (pa_cons (pe_tupF (pa_cons (pv 10) (pa_cons (pv 11) (pa_cons pe_int pa_nil)))) pa_nil)))
        (pss_cons (ps_set (i := 8) sc_law_near.nd rfl (.inl rfl) (pe_op op_cat (pv 8) (pe_lst (pa_cons (pe_tupF (pa_cons (pv 10) (pa_cons (pe_ix ix_tup (pe_ix ix_tup (pv 3) pe_int (fun _ _ => rfl)) pe_int (fun _ _ => rfl)) pa_nil))) (pa_cons (pe_tupF (pa_cons (pe_ix ix_tup (pe_ix ix_tup (pv 3) pe_int (fun _ _ => rfl)) pe_int (fun _ _ => rfl)) (pa_cons (pv 11) pa_nil))) (pa_cons pe_non pa_nil))))))
        (pss_one (ps_ret (pe_op op_catF (pe_op op_catF (pe_slice sl_tupF (pv 3) po_none (po_some (pv 5))) (pe_tupF (pa_cons (pe_call c__law_choose.1 (hr.mono (by decide)) rfl c__law_choose.2.1 c__law_choose.2.2.1 c__law_choose.2.2.2 .nil pass0 (pa_cons (pv 0) (pa_cons (pv 8) pa_nil))) pa_nil))) (pe_slice sl_tupF (pv 3) (po_some (pe_op op_add (pv 5) pe_int)) po_none))))))))) pss_nil)
      (pss_cons (ps_if (pt_cmpR op_lt (pv 6) pe_int (nomark _)) (pss_one (ps_ret (pe_op op_catF (pe_op op_catF (pe_slice sl_tupF (pv 3) po_none (po_some (pv 5))) (pe_tupF (pa_cons (pe_call c__law_odd_name.1 (hr.mono (by decide)) rfl c__law_odd_name.2.1 c__law_odd_name.2.2.1 c__law_odd_name.2.2.2 .nil pass0 (pa_cons (pv 0) (pa_cons (pe_ix ix_tup (pv 3) (pv 5) (fun _ _ => rfl)) pa_nil))) pa_nil))) (pe_slice sl_tupF (pv 3) (po_some (pe_op op_add (pv 5) pe_int)) po_none)))) pss_nil)
      (pss_one (ps_ret (pe_ifExp (pt_cmpR op_eq (pv 6) pe_int (nomark _)) (pe_revT (pv 3)) (pv 3)))))))))))), ?_⟩
    have rows : ∀ i : Nat, i < 3 → ∃ v, [v0, v1, v2][i]? = some v ∧ Row H i v := fun i hi => by
      rcases i with _ | _ | _ | i
      · exact ⟨v0, rfl, r0⟩
      · exact ⟨v1, rfl, r1⟩
      · exact ⟨v2, rfl, r2⟩
      · omega
    obtain ⟨vr, hvr, rr⟩ := rows k hk3
    refine ⟨_, rfl, _, rfl, l, _, k, vr, rfl, rfl, SqL.of hl, atI_nat hvr, _, rfl, _, rfl, p, n, 3, rfl, hp, by omega, by omega, by omega, fun d1 H1 hd1 hd1' hp1 hk1 => ?_⟩
    obtain ⟨d1, rfl⟩ : ∃ j : Nat, d1 = j := ⟨d1.toNat, by omega⟩
    obtain ⟨vo, hvo, ro⟩ := rows d1 (by omega)
    refine ⟨l, _, d1, vo, rfl, rfl, SqL.of (hk1.get hl hlp), atI_nat hvo, ?_⟩
    have rr1 := rr.kp hk1
    have ro1 := ro.kp hk1
    obtain ⟨ar, xr, rfl, tr, lr, sr, pr0, pr1⟩ := rr1
    obtain ⟨ao, xo, rfl, to_, lo, so, _, _⟩ := ro1
    clear rr ro rows hvr hvo
    refine ⟨_, _, rfl, ?_⟩
    refine ⟨_, rfl, _, rfl, _, _, rfl, .inr ⟨_, tr.sq, rfl⟩, ?_⟩
    refine ⟨1, _, rfl, p, n + 1, _, rfl, hp1, by omega, by split <;> omega, by split <;> omega, fun a H2 ha0 ha1 hp2 hk2 => ?_⟩
    have ha2 : a < 12 := by
      have : (if (xr.length : Int) > 1 then (xr.length : Int) else 1) ≤ 12 := by split <;> omega
      omega
    have ha3 : xr ≠ [] → a < (xr.length : Int) := fun z => by
      have : 0 < xr.length := List.length_pos_iff.mpr z
      split at ha1 <;> omega
    obtain ⟨a, rfl⟩ : ∃ j : Nat, a = j := ⟨a.toNat, by omega⟩
    clear ha1
    refine ⟨_, rfl, p, n + 2, 8, rfl, hp2, by omega, by omega, by omega, fun way H3 hw0 hw8 hp3 hk3 => ⟨_, _, rfl, ?_⟩⟩
    have room : ∀ m : Nat, m ≤ 10000 → m ≤ sizeLine := fun m h => by rw [sizeLine_eq]; omega
    -- a fresh name or a fresh pair
    have key : ∀ (σ : L2.St) (CONT : V → Hp → Prop), σ[0]? = some (some (.ref p)) → σ[2]? = some (some (.int k)) → (∀ vf G, Sm All G 5000 vf → PotAt G p (n + 27) → KpP p H3 G → CONT vf G) →
        tIf (tTest (tOp rEq (tVar 2) (tC (V.int 0)))) (tTupF (tCons (tCall spName [] E0 (tCons (tVar 0) tNil)) (tCons (tCall spName [] E0 (tCons (tVar 0) tNil)) tNil))) (tCall spName [] E0 (tCons (tVar 0) tNil)) σ H3 CONT := by
      intro σ CONT s0 s2 rest
      refine ⟨_, s2, rfl, _, rfl, ?_⟩
      by_cases hk0 : (k : Int) = 0
      · rw [decide_eq_true (show V.int (k : Int) = V.int 0 by rw [hk0])]
        refine iteT ⟨_, s0, p, n + 3, rfl, hp3, by omega, fun z1 H4 hz1 hp4 hk4 => ⟨_, s0, p, n + 15, rfl, hp4, by omega, fun z2 H5 hz2 hp5 hk5 => ⟨room 2 (by decide), fun tf H6 s6 htf => ?_⟩⟩⟩
        have two : Sms All H6 168 [.str z1, .str z2] := sms_strs (zs := [z1, z2]) (fun z hz => by
          rcases List.mem_cons.mp hz with rfl | hz
          · exact hz1
          · rcases List.mem_singleton.mp hz with rfl
            exact hz2)
        exact rest _ _ ((two.tup htf).le (by omega)) (hp5.same s6) ((hk4.trans hk5).trans (Kp.same s6))
      · rw [decide_eq_false (fun q : V.int (k : Int) = V.int 0 => hk0 (by injection q))]
        exact iteF ⟨_, s0, p, n + 3, rfl, hp3, by omega, fun z1 H4 hz1 hp4 hk4 => rest _ _ (.str (okS_name hz1) (by have := hz1.2.1; omega)) (hp4.mono (by omega)) hk4⟩
    refine key _ _ rfl rfl fun vf G svf hpG hkG => ?_
    clear key
    have kHG : KpP p H G := ((hk1.trans hk2).trans hk3).trans hkG
    have k1G : KpP p H1 G := (hk2.trans hk3).trans hkG
    have trG := k1G.tup tr
    have toG := k1G.tup to_
    have srG := sr.kp k1G.all
    have soG := so.kp k1G.all
    have pr0G : (k : Int) = 0 → ∃ ps : List (Str × Str), DvL All G xr (ps.map pairD) ∧ ∀ q ∈ ps, NameS q.1 ∧ NameS q.2 := fun z => let ⟨ps, d, h⟩ := pr0 z; ⟨ps, d.kp k1G.all, h⟩
    clear hk1 hk2 hk3 hkG k1G tr to_ sr so pr0 hp1 hp2 hp3
    refine ⟨_, rfl, rfl, _, rfl, ?_⟩
    apply @dupH (fun G1 => Same G G1)
    · intro body
      by_cases hw : way = 0
      · rw [decide_eq_true (show V.int way = V.int 0 by rw [hw])]
        exact iteT (iteT (body G Same.refl))
      · rw [decide_eq_false (fun q : V.int way = V.int 0 => hw (by injection q))]
        refine iteF ⟨_, rfl, room 0 (by decide), fun t0 G1 s1 ht0 => ⟨ar, t0, xr, rfl, rfl, ((Kp.same (ex := All) s1).tup trG).sq, ht0.sq, _, rfl, ?_⟩⟩
        cases he : xr.isEmpty with
        | true => exact iteT (body G1 s1)
        | false =>
          refine iteF ?_
          clear body
          have hne : xr ≠ [] := fun z => by rw [z] at he; cases he
          have ha4 := ha3 hne
          have kk := Kp.same (ex := All) s1
          have kH1 := kHG.trans (Kp.same (ex := fun a => a = p) s1)
          have hpG1 := hpG.same s1
          have tr1 := kk.tup trG
          have sr1 := srG.kp kk
          have sv1 := svf.kp kk
          have pr01 : (k : Int) = 0 → ∃ ps : List (Str × Str), DvL All G1 xr (ps.map pairD) ∧ ∀ q ∈ ps, NameS q.1 ∧ NameS q.2 := fun z => let ⟨ps, d, h⟩ := pr0G z; ⟨ps, d.kp kk, h⟩
          clear kk kHG hpG trG toG srG soG svf pr0G s1 ht0
          have cl := fun (lo hi : Option Int) => cutV_length xr lo hi
          have cS : ∀ {X : Hp} (lo hi : Option Int), Kp All G1 X → Sms All X 4000 (cutV xr lo hi) := fun lo hi k => by
            unfold cutV
            exact ((sr1.kp k).drop _).take _
          obtain ⟨vx, hvx⟩ : ∃ v, xr[a]? = some v := ⟨_, List.getElem?_eq_getElem (by omega)⟩
          refine ⟨_, rfl, rfl, _, rfl, ?_⟩
          by_cases hw1 : way = 1
          · rw [decide_eq_true (show V.int way = V.int 1 by rw [hw1])]
            refine iteT ⟨_, rfl, _, rfl, _, rfl, ar, xr, rfl, tr1, fun t1 X1 m1 ht1 => ⟨_, rfl, _, rfl, _, _, rfl, rfl, _, rfl, ar, xr, rfl, (Kp.same (ex := All) m1).tup tr1, fun t2 X2 m2 ht2 => ⟨t1, t2, _, _, rfl, rfl, (Kp.same (ex := All) m2).tup ht1, ht2, room _ (by have := cl none (some (a : Int)); have := cl (some ((a : Int) + 1)) none; omega), fun t3 X3 m3 ht3 => ?_⟩⟩⟩
            have k3 := Kp.same (ex := All) ((m1.trans m2).trans m3)
            exact kq _ _ ((((cS none (some (a : Int)) k3).app (cS (some ((a : Int) + 1)) none k3)).any.tup ht3).le (by omega)) ((hpG1.same ((m1.trans m2).trans m3)).mono (by omega)) (kH1.trans (Kp.same ((m1.trans m2).trans m3)))
          · rw [decide_eq_false (fun q : V.int way = V.int 1 => hw1 (by injection q))]
            refine iteF ⟨_, rfl, rfl, _, rfl, ?_⟩
            by_cases hw2 : way = 2
            · rw [decide_eq_true (show V.int way = V.int 2 by rw [hw2])]
              refine iteT ⟨_, rfl, _, rfl, room 1 (by decide), fun t1 X1 m1 ht1 => ⟨_, rfl, _, rfl, ar, xr, a, vx, rfl, rfl, ((Kp.same (ex := All) m1).tup tr1).sq, atI_nat hvx, room 1 (by decide), fun t2 X2 m2 ht2 => ⟨_, rfl, p, n + 27, 5, rfl, hpG1.same (m1.trans m2), by omega, by omega, by omega, fun D zs X3 hD hzl hznd hzok hDv hp3 hk3 => ⟨D, _, rfl, SqL.of hDv, fun t3 X4 m4 ht3 => ⟨room 3 (by decide), fun lm hlm => ?_⟩⟩⟩⟩⟩
              have k2 := Kp.same (ex := All) (m1.trans m2)
              have hp4 := hp3.same m4
              refine ⟨p, n + 27 + 12 * 30, _, _, rfl, hp4.same (Same.upd hlm), by omega, .inl ⟨lm, rfl, hp4.ne hlm, upd_same⟩, by show 1 ≤ 3; decide, by show 3 ≤ 1000; decide, fun i vm X5 hvm hp5 hk5 => ?_⟩
              have k15 : KpP p G1 X5 := ((Kp.same (m1.trans m2)).trans hk3).trans ((Kp.same (m4.trans (Same.upd hlm))).trans hk5)
              have k25 : Kp All X2 X5 := (hk3.trans ((Kp.same (m4.trans (Same.upd hlm))).trans hk5)).all
              have k45 : Kp All X4 X5 := ((Kp.same (Same.upd hlm)).trans hk5).all
              obtain ⟨tm, vm', rfl, htm, hml, hms⟩ : ∃ tm vs, vm = .ref tm ∧ TupF X5 tm vs ∧ vs.length ≤ 5 ∧ Sms All X5 8000 vs := by
                rcases i with _ | _ | _ | i
                · cases hvm
                  exact ⟨t1, _, rfl, (((Kp.same (ex := All) m2).trans k25).tup ht1), by show 1 ≤ 5; decide, (Sms.cons (sv1.kp k15.all) (Sms.nil (n := 0))).le (by omega)⟩
                · cases hvm
                  exact ⟨t2, _, rfl, k25.tup ht2, by show 1 ≤ 5; decide, (Sms.cons ((sr1.kp k15.all).mem hvx) (Sms.nil (n := 0))).le (by omega)⟩
                · cases hvm
                  exact ⟨t3, _, rfl, k45.tup ht3, by rw [List.length_map]; omega, (sms_strs hzok).le (by omega)⟩
                · cases hvm
              refine ⟨_, rfl, _, rfl, _, rfl, ar, xr, rfl, k15.tup tr1, fun t4 X6 m6 ht4 => ⟨_, rfl, t4, tm, _, _, rfl, rfl, ht4, (Kp.same (ex := All) m6).tup htm, room _ (by have := cl none (some (a : Int)); omega), fun t5 X7 m7 ht5 => ⟨_, rfl, _, rfl, _, rfl, ar, xr, rfl, (k15.trans (Kp.same (m6.trans m7))).tup tr1, fun t6 X8 m8 ht6 => ⟨t5, t6, _, _, rfl, rfl, (Kp.same (ex := All) m8).tup ht5, ht6, room _ (by rw [List.length_append]; have := cl none (some (a : Int)); have := cl (some (a : Int)) none; omega), fun t7 X9 m9 ht7 => ?_⟩⟩⟩⟩
              have m59 := ((m6.trans m7).trans m8).trans m9
              have k9 := (k15.trans (Kp.same m59)).all
              exact kq _ _ (((((cS none (some (a : Int)) k9).app (hms.kp (Kp.same m59))).app (cS (some (a : Int)) none k9)).any.tup ht7).le (by omega)) ((hp5.same m59).mono (by omega)) ((kH1.trans k15).trans (Kp.same m59))
            · rw [decide_eq_false (fun q : V.int way = V.int 2 => hw2 (by injection q))]
              refine iteF ⟨_, rfl, _, _, rfl, rfl, _, rfl, ?_⟩
              have oldM : ∀ {X : Hp} {m : Nat} {v : V}, Sm (Old G1) X m v → Sm (Old H) X m v := fun h => let ⟨d, a, b⟩ := h; ⟨d, a.mono Kp.refl fun b hb z => fresh_old kH1 hpG1 z hb, b⟩
              by_cases hw5 : way < 5
              · rw [decide_eq_true hw5]
                refine iteT ⟨_, rfl, rfl, _, rfl, ?_⟩
                by_cases hk0 : (k : Int) = 0
                · rw [decide_eq_true (show V.int (k : Int) = V.int 0 by rw [hk0])]
                  obtain ⟨ps, dps, hps⟩ := pr01 hk0
                  have lps := dps.len
                  rw [List.length_map] at lps
                  have pair_at : ∀ {j : Nat} {v : V}, xr[j]? = some v → ∃ (b : Addr) (q : Str × Str), v = .ref b ∧ TupF G1 b [.str q.1, .str q.2] ∧ NameS q.1 ∧ NameS q.2 := fun {j v} hj => by
                    obtain ⟨e, he, de⟩ := dps.get hj
                    rw [List.getElem?_map] at he
                    cases hq : ps[j]? with
                    | none => rw [hq] at he; cases he
                    | some q =>
                      rw [hq] at he
                      cases he
                      obtain ⟨b, rfl, hb⟩ := de.pairI
                      exact ⟨b, q, rfl, hb, hps q (List.mem_of_getElem? hq)⟩
                  obtain ⟨bx, ⟨nm, lg⟩, rfl, hbx, hnm, hlg⟩ := pair_at hvx
                  dsimp only at hnm hlg hbx
                  obtain ⟨v0, hv0⟩ : ∃ v, xr[0]? = some v := ⟨_, List.getElem?_eq_getElem (by omega)⟩
                  obtain ⟨b0, ⟨n0, g0⟩, rfl, hb0, hn0, hg0⟩ := pair_at hv0
                  dsimp only at hn0 hg0 hb0
                  refine iteT ⟨_, rfl, _, rfl, ar, xr, a, _, rfl, rfl, tr1.sq, atI_nat hvx, bx, _, rfl, hbx.sq, rfl, _, _, rfl, _, _, rfl, rfl, ?_⟩
                  refine ⟨_, rfl, _, rfl, p, n + 27, nm, rfl, hpG1, by omega, hnm, fun vo X1 hso hp1 hk1 => ?_⟩
                  refine ⟨_, rfl, _, rfl, room 2 (by decide), fun t1 X2 m2 ht1 => ⟨_, rfl, _, rfl, room 2 (by decide), fun t2 X3 m3 ht2 => ⟨_, rfl, _, rfl, room 2 (by decide), fun l3 hl3 => ⟨_, rfl, room 1 (by decide), fun t4 X4 m4 ht4 => ⟨_, rfl, _, rfl, room 2 (by decide), fun t5 X5 m5 ht5 => ⟨_, rfl, _, rfl, _, rfl, room 2 (by decide), fun t7 X7 m7 ht7 => ⟨room 7 (by decide), fun ls hls => ?_⟩⟩⟩⟩⟩⟩⟩
                  have j3 : Same X1 (upd X3 l3 (.lst [.str nm, .str lg])) := (m2.trans m3).trans (Same.upd hl3)
                  have fl3 := fresh_old (kH1.trans (hk1.trans (Kp.same (m2.trans m3)))) (hp1.same (m2.trans m3)) hl3
                  have j37 : Same (upd X3 l3 (.lst [.str nm, .str lg])) X7 := (m4.trans m5).trans m7
                  have j7 := j3.trans j37
                  have so1 : Sm (Old H) X7 100000 vo := (oldM hso).kp (Kp.same j7)
                  have snm : Sm (Old H) X7 82 (.str nm) := .str (okS_name hnm) (by have := hnm.2.1; omega)
                  have slg : Sm (Old H) X7 82 (.str lg) := .str (okS_name hlg) (by have := hlg.2.1; omega)
                  have sn0 : Sm (Old H) X7 82 (.str n0) := .str (okS_name hn0) (by have := hn0.2.1; omega)
                  have sg0 : Sm (Old H) X7 82 (.str g0) := .str (okS_name hg0) (by have := hg0.2.1; omega)
                  have kpX : ∀ {X Y : Hp}, Same X Y → Kp All X Y := fun h => Kp.same h
                  have z0 : Sms (Old H) X7 0 [] := Sms.nil
                  have okW : ∀ v ∈ ([.ref t1, .ref t2, .ref l3, .ref t4, .ref t5, .str nm, .ref t7] : List V), Sm (Old H) X7 110000 v := by
                    refine List.forall_mem_cons.mpr ⟨((Sms.cons so1 (Sms.cons slg z0)).tup ((kpX ((m3.trans (Same.upd hl3)).trans j37)).tup ht1)).le (by omega), ?_⟩
                    refine List.forall_mem_cons.mpr ⟨((Sms.cons snm (Sms.cons so1 z0)).tup ((kpX ((Same.upd hl3).trans j37)).tup ht2)).le (by omega), ?_⟩
                    refine List.forall_mem_cons.mpr ⟨((Sms.cons snm (Sms.cons slg z0)).lst fl3 (j37 _ _ upd_same)).le (by omega), ?_⟩
                    refine List.forall_mem_cons.mpr ⟨((Sms.cons snm z0).tup ((kpX (m5.trans m7)).tup ht4)).le (by omega), ?_⟩
                    refine List.forall_mem_cons.mpr ⟨((Sms.cons slg (Sms.cons snm z0)).tup ((kpX m7).tup ht5)).le (by omega), ?_⟩
                    refine List.forall_mem_cons.mpr ⟨snm.le (by omega), ?_⟩
                    exact List.forall_mem_cons.mpr ⟨((Sms.cons snm (Sms.cons snm z0)).tup ht7).le (by omega), List.forall_mem_nil _⟩
                  have lW : ([.ref t1, .ref t2, .ref l3, .ref t4, .ref t5, .str nm, .ref t7] : List V).length = 7 := rfl
                  have s78 : Same X7 (upd X7 ls (.lst [.ref t1, .ref t2, .ref l3, .ref t4, .ref t5, .str nm, .ref t7])) := Same.upd hls
                  have e8 : (upd X7 ls (.lst [.ref t1, .ref t2, .ref l3, .ref t4, .ref t5, .str nm, .ref t7])) ls = some (.lst [.ref t1, .ref t2, .ref l3, .ref t4, .ref t5, .str nm, .ref t7]) := upd_same
                  have fls := fresh_old (kH1.trans (hk1.trans (Kp.same j7))) (hp1.same j7) hls
                  have nls : ls ≠ p := (hp1.same j7).ne hls
                  generalize upd X7 ls (.lst [.ref t1, .ref t2, .ref l3, .ref t4, .ref t5, .str nm, .ref t7]) = X8 at s78 e8 ⊢
                  generalize ([.ref t1, .ref t2, .ref l3, .ref t4, .ref t5, .str nm, .ref t7] : List V) = W at okW lW e8
                  refine ⟨_, rfl, .inl ⟨rfl, _, SqL.of e8⟩, _, rfl, _, rfl, room 3 (by decide), fun t8 X9 m9 ht8 => ⟨ls, W, _, rfl, rfl, m9 _ _ e8, by rw [lW, sizeLine_eq]; decide, ?_⟩⟩
                  have okW2 : ∀ v ∈ W, Sm (fun a => Old H a ∨ a = ls) X7 110000 v := fun v hv => let ⟨d, a, b⟩ := okW v hv; ⟨d, a.off hls, b⟩
                  have k79 : Kp (fun a => Old H a ∨ a = ls) X7 (upd X9 ls (.lst (W ++ [V.ref t8]))) := (Kp.same (s78.trans m9)).trans (Kp.at (.inr rfl) (m9 _ _ e8))
                  have kHX9 := kH1.trans (hk1.trans (Kp.same ((j7.trans s78).trans m9)))
                  have kHX : KpP p H (upd X9 ls (.lst (W ++ [V.ref t8]))) := fun b o hb hn => by
                    rw [upd_ne (fun z => fls (by rw [← z, hb]; exact fun z => by cases z))]
                    exact kHX9 b o hb hn
                  have hpX9 := hp1.same ((j7.trans s78).trans m9)
                  have hpX : PotAt (upd X9 ls (.lst (W ++ [V.ref t8]))) p (n + 30) := by
                    obtain ⟨x1, x2, x3, e, r⟩ := hpX9
                    exact ⟨x1, x2, x3, by rw [upd_ne nls.symm]; exact e, r⟩
                  have kAX : Kp All X9 (upd X9 ls (.lst (W ++ [V.ref t8]))) := Kp.at trivial (m9 _ _ e8)
                  have k1X : Kp All G1 (upd X9 ls (.lst (W ++ [V.ref t8]))) := (hk1.trans (Kp.same ((j7.trans s78).trans m9))).all.trans kAX
                  have eX : (upd X9 ls (.lst (W ++ [V.ref t8]))) ls = some (.lst (W ++ [V.ref t8])) := upd_same
                  have okX : ∀ v ∈ W ++ [V.ref t8], Sm (Old H) (upd X9 ls (.lst (W ++ [V.ref t8]))) 110000 v := fun v hv => by
                    rcases List.mem_append.mp hv with q | q
                    · obtain ⟨d, a, b⟩ := (okW2 v q).kp k79
                      exact ⟨d, a.mono Kp.refl fun _ z => .inl z, b⟩
                    · rw [List.mem_singleton.mp q]
                      have sAll : ∀ z : Str, NameS z → Sm All X9 82 (.str z) := fun z hz => .str (okS_name hz) (by have := hz.2.1; omega)
                      have s1 : Sm All X9 120 (.int 1) := ⟨_, .int 1, by simp only [cost]; omega, by simp only [okD]; decide, by simp only [PyData.depth]; omega⟩
                      exact (((Sms.cons (sAll nm hnm) (Sms.cons (sAll lg hlg) (Sms.cons s1 (Sms.nil (n := 0))))).tup ht8).kp kAX).any.le (by omega)
                  have lX : (W ++ [V.ref t8]).length = 8 := by rw [List.length_append, lW]; rfl
                  generalize upd X9 ls (.lst (W ++ [V.ref t8])) = Y at kHX hpX k1X eX okX ⊢
                  generalize (W ++ [V.ref t8]) = W2 at eX okX lX
                  have trY : ∀ {Z : Hp}, Same Y Z → SqT K Z ar xr := fun m => ((k1X.trans (Kp.same m)).tup tr1).sq
                  have tbY : ∀ {Z : Hp}, Same Y Z → SqT K Z b0 [.str n0, .str g0] := fun m => ((k1X.trans (Kp.same m)).tup hb0).sq
                  refine ⟨_, rfl, _, rfl, _, rfl, ar, xr, 0, _, rfl, rfl, trY Same.refl, atI_nat (j := 0) hv0, b0, _, 1, _, rfl, rfl, tbY Same.refl, rfl, room 2 (by decide), fun ta Y1 n1 hta => ⟨_, rfl, ar, xr, 0, _, rfl, rfl, trY n1, atI_nat (j := 0) hv0, b0, _, 0, _, rfl, rfl, tbY n1, rfl, _, rfl, room 2 (by decide), fun tb Y2 n2 htb => ⟨room 3 (by decide), fun lq hlq => ⟨ls, lq, _, _, rfl, rfl, (Same.upd hlq) _ _ (n2 _ _ (n1 _ _ eX)), upd_same, by rw [lX, sizeLine_eq]; show 8 + 3 ≤ 16777216; decide, fun lz hlz => ?_⟩⟩⟩⟩
                  have y2 := n1.trans n2
                  have okZ : ∀ v ∈ W2 ++ [V.ref ta, V.ref tb, V.non], Sm (Old H) Y2 110000 v := fun v hv => by
                    have sAll : ∀ z : Str, NameS z → Sm (Old H) Y2 82 (.str z) := fun z hz => .str (okS_name hz) (by have := hz.2.1; omega)
                    rcases List.mem_append.mp hv with q | q
                    · exact (okX v q).kp (Kp.same y2)
                    · rcases List.mem_cons.mp q with rfl | q
                      · exact ((Sms.cons (sAll nm hnm) (Sms.cons (sAll g0 hg0) (Sms.nil (n := 0)))).tup ((Kp.same (ex := All) n2).tup hta)).le (by omega)
                      · rcases List.mem_cons.mp q with rfl | q
                        · exact ((Sms.cons (sAll n0 hn0) (Sms.cons (sAll lg hlg) (Sms.nil (n := 0)))).tup htb).le (by omega)
                        · rw [List.mem_singleton.mp q]
                          exact ⟨_, .non, by simp only [cost]; omega, by simp only [okD], by simp only [PyData.depth]; omega⟩
                  have y3 : Same Y2 (upd (upd Y2 lq (.lst [.ref ta, .ref tb, .non])) lz (.lst (W2 ++ [V.ref ta, V.ref tb, V.non]))) := (Same.upd hlq).trans (Same.upd hlz)
                  have e3 : (upd (upd Y2 lq (.lst [.ref ta, .ref tb, .non])) lz (.lst (W2 ++ [V.ref ta, V.ref tb, V.non]))) lz = some (.lst (W2 ++ [V.ref ta, V.ref tb, V.non])) := upd_same
                  have nlz : lz ≠ p := ((hpX.same y2).same (Same.upd hlq)).ne hlz
                  have lZ : (W2 ++ [V.ref ta, V.ref tb, V.non]).length = 11 := by rw [List.length_append, lX]; rfl
                  generalize upd (upd Y2 lq (.lst [.ref ta, .ref tb, .non])) lz (.lst (W2 ++ [V.ref ta, V.ref tb, V.non])) = Y4 at y3 e3 ⊢
                  have y4 := y2.trans y3
                  have kHY := kHX.trans (Kp.same y4)
                  have hpY := hpX.same y4
                  have k1Y := k1X.trans (Kp.same y4)
                  refine ⟨_, rfl, _, rfl, _, rfl, ar, xr, rfl, k1Y.tup tr1, fun u1 Z1 q1 hu1 => ⟨_, rfl, _, rfl, p, n + 30, _, _, rfl, hpY.same q1, by omega, .inl ⟨lz, rfl, nlz, q1 _ _ e3⟩, by rw [lZ]; decide, by rw [lZ]; decide, fun i vc Z2 hvc hpZ hkZ => ⟨room 1 (by decide), fun u2 Z3 q3 hu2 => ⟨u1, u2, _, _, rfl, rfl, (hkZ.trans (Kp.same q3)).tup hu1, hu2, room _ (by have := cl none (some (a : Int)); show _ + 1 ≤ 10000; omega), fun u3 Z4 q4 hu3 => ⟨_, rfl, _, rfl, _, _, rfl, rfl, _, rfl, ar, xr, rfl, ((k1Y.trans (Kp.same q1)).trans (hkZ.trans (Kp.same (q3.trans q4))).all).tup tr1, fun u4 Z5 q5 hu4 => ⟨u3, u4, _, _, rfl, rfl, (Kp.same (ex := All) q5).tup hu3, hu4, room _ (by rw [List.length_append]; have := cl none (some (a : Int)); have := cl (some ((a : Int) + 1)) none; show _ + 1 + _ ≤ 10000; omega), fun u5 Z6 q6 hu5 => ?_⟩⟩⟩⟩⟩⟩
                  have q36 := ((q3.trans q4).trans q5).trans q6
                  have kf : KpP p Y4 Z6 := (Kp.same q1).trans (hkZ.trans (Kp.same q36))
                  have k1f : Kp All G1 Z6 := k1Y.trans kf.all
                  have svc : Sm (Old H) Z6 110000 vc := (((okZ vc (List.mem_of_getElem? hvc)).kp (Kp.same y3)).kp (KpP.old hp kf))
                  exact kq _ _ (Sm.le (Sms.tup (((cS none (some (a : Int)) k1f).any.app (Sms.cons svc (Sms.nil (n := 0)))).app (cS (some ((a : Int) + 1)) none k1f).any) hu5) (by omega)) ((hpZ.same q36).mono (by omega)) (kHY.trans kf)
                · rw [decide_eq_false (fun q : V.int (k : Int) = V.int 0 => hk0 (by injection q))]
                  refine iteF ⟨_, rfl, _, _, rfl, rfl, _, rfl, ?_⟩
                  rw [decide_eq_true hw5]
                  obtain ⟨zs, rfl, hzs⟩ := pr1 hk0
                  rw [List.getElem?_map] at hvx
                  cases hz : zs[a]? with
                  | none => rw [hz] at hvx; cases hvx
                  | some z =>
                  rw [hz] at hvx
                  cases hvx
                  have hvx : (zs.map V.str)[a]? = some (.str z) := by rw [List.getElem?_map, hz]; rfl
                  have hzn := hzs z (List.mem_of_getElem? hz)
                  refine iteT ⟨_, rfl, _, rfl, _, rfl, ar, _, rfl, tr1, fun u1 Z1 q1 hu1 => ⟨_, rfl, _, rfl, _, rfl, ar, _, a, _, rfl, rfl, ((Kp.same (ex := All) q1).tup tr1).sq, atI_nat hvx, p, n + 27, z, rfl, hpG1.same q1, by omega, hzn, fun vc Z2 hvc hpZ hkZ => ⟨room 1 (by decide), fun u2 Z3 q3 hu2 => ⟨u1, u2, _, _, rfl, rfl, (hkZ.trans (Kp.same q3)).tup hu1, hu2, room _ (by have := cl none (some (a : Int)); show _ + 1 ≤ 10000; omega), fun u3 Z4 q4 hu3 => ⟨_, rfl, _, rfl, _, _, rfl, rfl, _, rfl, ar, _, rfl, ((Kp.same q1).trans (hkZ.trans (Kp.same (q3.trans q4))).all).tup tr1, fun u4 Z5 q5 hu4 => ⟨u3, u4, _, _, rfl, rfl, (Kp.same (ex := All) q5).tup hu3, hu4, room _ (by rw [List.length_append]; have := cl none (some (a : Int)); have := cl (some ((a : Int) + 1)) none; show _ + 1 + _ ≤ 10000; omega), fun u5 Z6 q6 hu5 => ?_⟩⟩⟩⟩⟩⟩
                  have q36 := ((q3.trans q4).trans q5).trans q6
                  have kf : KpP p G1 Z6 := (Kp.same q1).trans (hkZ.trans (Kp.same q36))
                  have svc : Sm (Old H) Z6 100000 vc := by
                    obtain ⟨d, x, y⟩ := hvc
                    exact Sm.kp ⟨d, x.mono Kp.refl fun b hb z => fresh_old (kH1.trans (Kp.same q1)) (hpG1.same q1) z hb, y⟩ (Kp.same q36)
                  exact kq _ _ (Sm.le (Sms.tup (((cS none (some (a : Int)) kf.all).any.app (Sms.cons svc (Sms.nil (n := 0)))).app (cS (some ((a : Int) + 1)) none kf.all).any) hu5) (by omega)) ((hpZ.same q36).mono (by omega)) (kH1.trans kf)
              · rw [decide_eq_false hw5]
                refine iteF (iteF ⟨_, rfl, _, _, rfl, rfl, _, rfl, ?_⟩)
                rw [decide_eq_false hw5]
                refine iteF ⟨_, rfl, rfl, _, rfl, ?_⟩
                by_cases hw6 : way = 5
                · rw [decide_eq_true (show V.int way = V.int 5 by rw [hw6])]
                  exact iteT ⟨_, rfl, ar, xr, rfl, tr1, fun u1 Z1 q1 hu1 => kq _ _ (Sm.le (Sms.tup (sr1.kp (Kp.same q1)).any.rev hu1) (by omega)) ((hpG1.same q1).mono (by omega)) (kH1.trans (Kp.same q1))⟩
                · rw [decide_eq_false (fun q : V.int way = V.int 5 => hw6 (by injection q))]
                  exact iteF ⟨_, rfl, kq _ _ (Sm.le (Sms.tup sr1.any tr1) (by omega)) (hpG1.mono (by omega)) kH1⟩
    · intro G1 s1
      have adv : ∀ {X : Hp}, Same G1 X → KpP p H X ∧ PotAt X p (n + 27) := fun sm => ⟨kHG.trans (Kp.same (s1.trans sm)), hpG.same (s1.trans sm)⟩
      have tr1 : ∀ {X : Hp}, Same G1 X → TupF X ar xr := fun sm => (Kp.same (ex := All) (s1.trans sm)).tup trG
      have to1 : ∀ {X : Hp}, Same G1 X → TupF X ao xo := fun sm => (Kp.same (ex := All) (s1.trans sm)).tup toG
      refine ⟨room 0 (by decide), fun ta Ga sa hta => ⟨room 0 (by decide), fun lb hlb => fun dc hdc => ⟨_, rfl, ar, xr, rfl, .inr (tr1 ((sa.trans (Same.upd hlb)).trans (Same.upd hdc))).sq, fun ld hld => ?_⟩⟩⟩
      have c1 := sa
      have c2 : Same G1 (upd Ga lb (.lst [])) := c1.trans (Same.upd hlb)
      have c3 : Same G1 (upd (upd Ga lb (.lst [])) dc (.dK [])) := c2.trans (Same.upd hdc)
      have c4 : Same G1 (upd (upd (upd Ga lb (.lst [])) dc (.dK [])) ld (.lst xr)) := c3.trans (Same.upd hld)
      have flb := fresh_old (adv c1).1 (adv c1).2 hlb
      have fdc := fresh_old (adv c2).1 (adv c2).2 hdc
      have fld := fresh_old (adv c3).1 (adv c3).2 hld
      have ta4 : TupF (upd (upd (upd Ga lb (.lst [])) dc (.dK [])) ld (.lst xr)) ta [] := (Kp.same (ex := All) (((Same.upd hlb).trans (Same.upd hdc)).trans (Same.upd hld))).tup hta
      have lb4 : (upd (upd (upd Ga lb (.lst [])) dc (.dK [])) ld (.lst xr)) lb = some (.lst []) := (Same.upd hld) _ _ ((Same.upd hdc) _ _ upd_same)
      have dc4 : (upd (upd (upd Ga lb (.lst [])) dc (.dK [])) ld (.lst xr)) dc = some (.dK []) := (Same.upd hld) _ _ upd_same
      have ld4 : (upd (upd (upd Ga lb (.lst [])) dc (.dK [])) ld (.lst xr)) ld = some (.lst xr) := upd_same
      generalize upd (upd (upd Ga lb (.lst [])) dc (.dK [])) ld (.lst xr) = X4 at *
      refine ⟨_, rfl, room 1 (by decide), fun te X5 s5 hte => ⟨_, rfl, room 1 (by decide), fun tf X6 s6 htf => ⟨_, rfl, _, rfl, _, rfl, ar, 3, xr, rfl, rfl, tr1 ((c4.trans s5).trans s6), by decide, by decide, by omega, fun tg X7 s7 htg => ⟨room 12 (by decide), fun lh hlh => ?_⟩⟩⟩⟩
      have c7 := ((c4.trans s5).trans s6).trans s7
      have t47 := (s5.trans s6).trans s7
      have okW : ∀ v ∈ ([.non, .int 0, .ref ta, .ref lb, .ref dc, .ref ld, .str "ab", .ref te, .ref tf, .ref ar, .ref ao, .ref tg] : List V), Sm (Old H) X7 200000 v := by
        have k7 : Kp All G X7 := Kp.same (s1.trans c7)
        have sr7 : Sms (Old H) X7 4000 xr := (srG.kp k7).any
        have so7 : Sms (Old H) X7 4000 xo := (soG.kp k7).any
        have ra : Sm (Old H) X7 8000 (.ref ar) := sr7.tup (tr1 c7)
        refine List.forall_mem_cons.mpr ⟨⟨_, .non, by decide +kernel, by simp only [okD], by simp only [PyData.depth]; omega⟩, ?_⟩
        refine List.forall_mem_cons.mpr ⟨⟨_, .int 0, by simp only [cost]; omega, by simp only [okD]; decide, by simp only [PyData.depth]; omega⟩, ?_⟩
        refine List.forall_mem_cons.mpr ⟨(Sms.nil.tup ((Kp.same (ex := All) t47).tup ta4) : Sm (Old H) X7 (0 + 4000) _).le (by omega), ?_⟩
        refine List.forall_mem_cons.mpr ⟨(Sms.nil.lst flb (t47 _ _ lb4) : Sm (Old H) X7 (0 + 4000) _).le (by omega), ?_⟩
        refine List.forall_mem_cons.mpr ⟨⟨_, Dv.dic fdc (t47 _ _ dc4) .nil, by simp only [cost, costK]; omega, by simp only [okD, okK], by simp only [PyData.depth, PyData.depthKv]; omega⟩, ?_⟩
        refine List.forall_mem_cons.mpr ⟨(sr7.lst fld (t47 _ _ ld4)).le (by omega), ?_⟩
        refine List.forall_mem_cons.mpr ⟨.str (by unfold okS; decide +kernel) (by decide +kernel), ?_⟩
        refine List.forall_mem_cons.mpr ⟨((Sms.cons ra (Sms.nil (n := 0))).tup ((Kp.same (ex := All) (s6.trans s7)).tup hte)).le (by omega), ?_⟩
        refine List.forall_mem_cons.mpr ⟨((Sms.cons (svf.kp k7).any (Sms.nil (n := 0))).tup ((Kp.same (ex := All) s7).tup htf)).le (by omega), ?_⟩
        refine List.forall_mem_cons.mpr ⟨ra.le (by omega), ?_⟩
        refine List.forall_mem_cons.mpr ⟨(so7.tup (to1 c7)).le (by omega), ?_⟩
        refine List.forall_mem_cons.mpr ⟨?_, List.forall_mem_nil _⟩
        refine (Sms.tup (n := 12000) ?_ htg).le (by omega)
        have := (sr7.app (sr7.app (sr7.app (Sms.nil (n := 0)))))
        rw [List.append_nil] at this
        have e : (List.replicate (3 : Int).toNat xr).flatten = xr ++ (xr ++ xr) := by
          show (List.replicate 3 xr).flatten = _
          simp [List.replicate]
        rw [e]
        exact this.le (by omega)
      have lW : ([.non, .int 0, .ref ta, .ref lb, .ref dc, .ref ld, .str "ab", .ref te, .ref tf, .ref ar, .ref ao, .ref tg] : List V).length = 12 := rfl
      have c8 : Same G1 (upd X7 lh (.lst [.non, .int 0, .ref ta, .ref lb, .ref dc, .ref ld, .str "ab", .ref te, .ref tf, .ref ar, .ref ao, .ref tg])) := c7.trans (Same.upd hlh)
      have e8 : (upd X7 lh (.lst [.non, .int 0, .ref ta, .ref lb, .ref dc, .ref ld, .str "ab", .ref te, .ref tf, .ref ar, .ref ao, .ref tg])) lh = some (.lst [.non, .int 0, .ref ta, .ref lb, .ref dc, .ref ld, .str "ab", .ref te, .ref tf, .ref ar, .ref ao, .ref tg]) := upd_same
      have s78 : Same X7 (upd X7 lh (.lst [.non, .int 0, .ref ta, .ref lb, .ref dc, .ref ld, .str "ab", .ref te, .ref tf, .ref ar, .ref ao, .ref tg])) := Same.upd hlh
      generalize upd X7 lh (.lst [.non, .int 0, .ref ta, .ref lb, .ref dc, .ref ld, .str "ab", .ref te, .ref tf, .ref ar, .ref ao, .ref tg]) = X8 at c8 e8 s78 ⊢
      generalize ([.non, .int 0, .ref ta, .ref lb, .ref dc, .ref ld, .str "ab", .ref te, .ref tf, .ref ar, .ref ao, .ref tg] : List V) = W at okW lW e8
      refine ⟨_, rfl, _, rfl, _, rfl, _, rfl, ar, ao, xr, xo, rfl, rfl, tr1 c8, to1 c8, room _ (by omega), fun tk X9 s9 htk => ⟨room 1 (by decide), fun lm hlm => ⟨lh, lm, _, _, rfl, rfl, (Same.upd hlm) _ _ (s9 _ _ e8), upd_same, room _ (by rw [lW]; show 12 + 1 ≤ 10000; decide), fun ln hln => ?_⟩⟩⟩
      have c10 : Same X9 (upd (upd X9 lm (.lst [.ref tk])) ln (.lst (W ++ [.ref tk]))) := (Same.upd hlm).trans (Same.upd hln)
      have c11 := (c8.trans s9).trans c10
      have a11 := adv c11
      refine ⟨p, n + 27, _, _, rfl, a11.2, by omega, .inl ⟨ln, rfl, (adv ((c8.trans s9).trans (Same.upd hlm))).2.ne hln, upd_same⟩, by rw [List.length_append, lW]; show 1 ≤ 12 + 1; decide, by rw [List.length_append, lW]; show 12 + 1 ≤ 1000; decide, fun i v H' hv hp' hk' => kq v H' ?_ (hp'.mono (by omega)) (a11.1.trans hk')⟩
      refine Sm.kp (H := upd (upd X9 lm (.lst [.ref tk])) ln (.lst (W ++ [.ref tk]))) ?_ (KpP.old hp hk')
      rcases List.mem_append.mp (List.mem_of_getElem? hv) with q | q
      · exact (okW v q).kp (Kp.same ((s78.trans s9).trans c10))
      · rw [List.mem_singleton.mp q]
        have k9 : Kp All G X9 := Kp.same (s1.trans (c8.trans s9))
        exact ((((srG.kp k9).any.app (soG.kp k9).any).tup htk).le (by omega)).kp (Kp.same c10)
end
end Kx
namespace Kx
open PySem PySem.Spec PyProof.Rows L2
theorem takesF {X : Cx} : Takes X (fun _ _ _ _ => False) := fun _ _ ⟨_, _, _, _, _, _, _, _, _, _, _, _, _, _, _, _, w⟩ => w.elim
section
variable {P : Program} {w : World} {K : PySem.W.Frag} {mg : Str → Option Value} {base : Heap}
abbrev N_law_met : List Str := ["parts"]
abbrev P_law_met : List Str := ["parts"]
theorem sc_law_met : FnScope N_law_met P_law_met (defScope s_law_met) := ⟨rfl, rfl, rfl, by decide +kernel, rfl, by decide +kernel, by decide +kernel⟩
def spMet (C : Addr) : Sp := fun vs H Q _ => ∃ (l : Addr) (ex : Addr → Prop) (va vp vv : V) (da dp dv : PyData), vs = [.ref l] ∧ (H l = some (.lst [va, vp, vv]) ∨ TupF H l [va, vp, vv]) ∧ Dv ex H va da ∧ Dv ex H vp dp ∧ Dv ex H vv dv ∧ cost da ≤ 8000000 ∧ cost dp ≤ 8000000 ∧ cost dv ≤ 8000000 ∧
  (frameD da dp dv = true → ∀ x H', FrameAt C H' x va vp vv (psOf da) (nsOf dp) (nsOf dv) → Same H H' → Q (.ref x) H') ∧ (frameD da dp dv = false → ∀ H', Same H H' → Q .non H')
theorem ok_met (T : Bt mg) {C I f0 : Addr} {fd0 : FuncData} (h : Has K mg "_law_met" s_law_met) (X : Fx K mg C) (XI : Ex K mg I) (hI : PySem.W.exmOne K (.ref I) (.ref I) = some true) (M : Mk K C f0) (F : FnOk P w K mg base (L2.CX P w) 5 f0 fd0 P_Frame_init (spInit C I)) (b0 : Binds K fd0 P_Frame_init []) :
    Ca P w K mg base 7 "_law_met" P_law_met (spMet C) := by
  refine cal_of h sc_law_met (fun _ _ _ _ _ _ us hl => match us, hl with | [_], _ => rfl) (fun vs H Q E h => ?_) (fun f cdv A outer s H vs Q E hr h => ?_)
  · obtain ⟨l, ex, va, vp, vv, da, dp, dv, rfl, _⟩ := h
    rfl
  · obtain ⟨l, ex, va, vp, vv, da, dp, dv, rfl, hl, ha, hp, hv, c1, c2, c3, kg, kb⟩ := h
    refine ⟨_, pss_one (ps_try_only (Wout := fun _ _ _ _ => False) rfl rfl ⟨rfl, by decide, Or.inl XI.gP⟩ takesF
      (fun W pn xe tk _ => pss_one (ps_ret (pe_make (E := fun cls d H => ∀ σ, W cls d σ H) M F (hr.mono (by decide)) rfl X.mgC b0 .nil (passes_call tk (fun cls d σ H h => h σ)) (pa_cons (pe_ix (show IxR _ (rIx K) from ix_seq) (pv 0) pe_int (fun _ _ => rfl)) (pa_cons (pe_ix (show IxR _ (rIx K) from ix_seq) (pv 0) pe_int (fun _ _ => rfl)) (pa_cons (pe_ix (show IxR _ (rIx K) from ix_seq) (pv 0) pe_int (fun _ _ => rfl)) pa_nil))))))
      (fun a oe cls d pn hz hf => pss_one (ps_ret pe_non))), ?_⟩
    have fin : ∀ x dx, H x = none → H dx = none → dx ≠ x → spInit C I [.ref x, va, vp, vv] (upd (upd H dx (.own x)) x (.ins C dx [])) (fun v H2 => v = .non ∧ Q (.ref x) H2) (fun cls d H => ∀ σ, wOnly K (.ref I) (fun _ _ _ D _ H => D.rt .non H) (fun _ _ _ _ => False) { nx := fun _ H' => Q .non H', rt := Q } cls d σ H) := by
      intro x dx hx hdx hne
      have s1 : Same H (upd (upd H dx (.own x)) x (.ins C dx [])) := (Same.upd hdx).trans (Same.upd (by rw [upd_ne (Ne.symm hne)]; exact hx))
      have sx : ∀ {H'}, KpX x (upd (upd H dx (.own x)) x (.ins C dx [])) H' → Same H H' := fun k b o e => k b o (s1 b o e) fun z => absurd z (ne_of_none e hx)
      have kk : Kp ex H (upd (upd H dx (.own x)) x (.ins C dx [])) := Kp.same s1
      exact ⟨x, dx, va, vp, vv, da, dp, dv, ex, rfl, upd_same, ha.kp kk, hp.kp kk, hv.kp kk, c1, c2, c3, fun hf H' fa k => ⟨rfl, kg hf x H' fa (sx k)⟩, fun hf H' k σ => ⟨true, hI, fun _ a ha => kb hf H' (sx k), fun z => by cases z⟩⟩
    rcases hl with hl | hl
    · exact ⟨_, rfl, .inl ⟨l, _, 0, va, rfl, rfl, SqL.of hl, rfl, _, rfl, .inl ⟨l, _, 1, vp, rfl, rfl, SqL.of hl, rfl, _, rfl, .inl ⟨l, _, 2, vv, rfl, rfl, SqL.of hl, rfl, fin⟩⟩⟩⟩
    · exact ⟨_, rfl, .inr (.inl ⟨l, _, 0, va, rfl, rfl, hl.sq, rfl, _, rfl, .inr (.inl ⟨l, _, 1, vp, rfl, rfl, hl.sq, rfl, _, rfl, .inr (.inl ⟨l, _, 2, vv, rfl, rfl, hl.sq, rfl, fin⟩)⟩)⟩)⟩
end
end Kx
namespace Kx
open PySem PySem.Spec PyProof.Rows L2
section
variable {X : Cx}
def rRepr2 : List V → Hp → VK → Prop := fun xs H Q => ∃ a d, xs = [.ref a] ∧ Dv (fun _ => False) H (.ref a) d ∧ okD d ∧ d.depth ≤ 60 ∧ cost d ≤ sizeLine ∧ Q (.str d.shown) H
theorem call_repr2 {om : Obj} (hK : X.K.lookup sysModules = some om) (hg : X.A.guards = some []) (hu : X.A.units + 64 < cLine) : CallR X (.builtin "repr") rRepr2 := by
  intro pins s σ H xs us Q I r h
  obtain ⟨a, d, rfl, dv, ok, hd, hc, q⟩ := h
  have hsm : H sysModules = none := (I.bs _ _ (I.ok.mod.kin _ _ hK)).2
  obtain ⟨u, rfl, rx⟩ := vals1 r
  obtain ⟨as, hr, hs⟩ := Dv.reads I hsm d _ _ dv rx
  cases rx
  refine repr_of_reads' hr (okD_showable d ok) (fun _ => hs) hg (by omega) (fun _ _ e => e) (fun h' u tk hk => ?_) (Nat.le_trans (shown_le d ok) hc)
  exact ⟨.str d.shown, H, I.kept hk, ⟨u, rfl⟩, q⟩
def tJoinK (K : PySem.W.Frag) (to te : TE) : TE := tM1 (fun x xs H Q => ∃ a p, ∃ ys : List Str, x = .str a ∧ xs = [.ref p] ∧ (SqL K H p (ys.map V.str) ∨ SqT K H p (ys.map V.str)) ∧ (ys.map (·.length)).sum + ys.length * a.length ≤ 16777216 ∧ Q (.str (Txt.join a ys)) H) to te
theorem pe_joinK {o e : Expr} {to te : TE} {apos pos : Pos} (ho : PE X o to) (he : PE X e te) (hs : starEach [e] X.env = [(false, eval e X.env)] := by rfl) (hbase : attributeBase o "join" X.env (eval o X.env) = eval o X.env := by rfl) (hline : (apos.endLine == pos.line) = true := by rfl) :
    PE X (.Call (.Attribute o "join" apos) [e] [] pos) (tJoinK X.K to te) := pe_join ho he hs hbase hline
/-- over a list or a tuple -/
def iSeq (K : PySem.W.Frag) (tl : TE) : TI := fun σ H R => tl σ H fun x H1 => ∃ a, x = .ref a ∧ (((∃ xs, SqL K H1 a xs) ∧ R (Itl K a) H1) ∨ ((∃ xs, SqT K H1 a xs) ∧ R (Itt K a) H1))
theorem pi_seq {tg l : Expr} {tl : TE} (hl : PE X l tl) : PI X tg l (iSeq X.K tl) := by
  refine ⟨fun pins s σ H R I h => thn (hl.run pins s σ H _ I h) fun v t ⟨x, H1, I1, r1, a, ex, q⟩ => ?_⟩
  subst ex
  cases r1
  have fp : ∀ b ∈ [t.heap.objs.size], FpOk X pins H1 b := fun b hb => by
    rw [List.mem_singleton.mp hb]
    exact I1.fpOk (Nat.le_refl _) (I1.hok.fresh (Nat.le_refl _))
  rcases q with ⟨⟨xs, hq⟩, q⟩ | ⟨⟨xs, hq⟩, q⟩
  · obtain ⟨its, rv, p, hz⟩ := I1.list hq
    exact wpAny_pyIter_list p.isList ⟨t.heap.objs.size, [t.heap.objs.size], _, _, H1, rfl, I1.kept (t' := t.toks) fun b o e => Heap.get?_push_of_some _ e, turn_list a _, ⟨_, Heap.get?_push_size _ rfl, rfl, rfl⟩, fp, q⟩
  · obtain ⟨its, rv, p, hz⟩ := I1.tuple hq
    exact wpAny_pyIter_tuple (show t.heap.IsTuple a its.toArray from p) ⟨t.heap.objs.size, [t.heap.objs.size], _, _, H1, rfl, I1.kept (t' := t.toks) fun b o e => Heap.get?_push_of_some _ e, turn_tuple a _, ⟨_, Heap.get?_push_size _ rfl, rfl, rfl⟩, fp, q⟩
end
theorem sqL_same {K : PySem.W.Frag} {H H' : Hp} {a : Addr} {xs : List V} (h : SqL K H a xs) (e : Same H H') : SqL K H' a xs := h.elim (fun h => .inl (h.elim (fun h => .inl (e _ _ h)) fun ⟨o, h⟩ => .inr ⟨o, e _ _ h⟩)) fun h => .inr h
theorem sqT_same {K : PySem.W.Frag} {H H' : Hp} {a : Addr} {xs : List V} (h : SqT K H a xs) (e : Same H H') : SqT K H' a xs := h.elim (fun h => .inl (h.elim (fun h => .inl (e _ _ h)) fun ⟨o, h⟩ => .inr ⟨o, e _ _ h⟩)) fun h => .inr h
def three (ps : List (Str × Str)) (ns us : List Str) : PyData := .list [.tuple (ps.map pairD), .tuple (ns.map .str), .tuple (us.map .str)]
theorem strs_cost {zs : List Str} (h : ∀ z ∈ zs, NameS z) : costL (zs.map .str) ≤ 84 * zs.length := by
  induction zs with
  | nil => simp [costL]
  | cons z r ih =>
    have := (h z List.mem_cons_self).2.1
    have := ih fun y hy => h y (List.mem_cons_of_mem _ hy)
    simp only [List.map_cons, costL, cost, List.length_cons]; omega
theorem strs_ok {zs : List Str} (h : ∀ z ∈ zs, NameS z) : okL (zs.map .str) := okL_mem.mpr fun x hx => by
  obtain ⟨z, hz, rfl⟩ := List.mem_map.mp hx
  simp only [okD]; exact okS_name (h z hz)
theorem strs_dep (zs : List Str) : PyData.depthAll (zs.map .str) = 0 := by
  induction zs with
  | nil => rfl
  | cons z r ih => simp only [List.map_cons, PyData.depthAll, PyData.depth, ih]; rfl
theorem strs_lay {zs : List Str} (h : ∀ z ∈ zs, NameS z) : PyData.canLayAll0 (zs.map .str) = true := by
  induction zs with
  | nil => simp [PyData.canLayAll0]
  | cons z r ih =>
    have hz : PyData.strOk z = true := by
      unfold PyData.strOk
      rw [Array.all_eq_true]
      intro i hi
      have := (h z List.mem_cons_self).2.2 z.cps[i] (by rw [Array.mem_toList_iff]; exact Array.getElem_mem hi)
      exact decide_eq_true (by omega)
    simp only [List.map_cons, PyData.canLayAll0, PyData.canLay0, ih fun y hy => h y (List.mem_cons_of_mem _ hy), hz, Bool.and_self]
theorem FrameAt.nP {C x : Addr} {H : Hp} {va vp vv : V} {ps : List (Str × Str)} {ns us : List Str} (h : FrameAt C H x va vp vv ps ns us) : (∀ q ∈ ps, NameS q.1 ∧ NameS q.2) ∧ (∀ z ∈ ns, NameS z) ∧ ∀ z ∈ us, NameS z :=
  ⟨fun q hq => ⟨h.ok q.1 (List.mem_append.mpr (.inl (List.mem_map.mpr ⟨q, hq, rfl⟩))), h.ok q.2 (List.mem_append.mpr (.inr (List.mem_append.mpr (.inl (List.mem_map.mpr ⟨q, hq, rfl⟩)))))⟩,
   fun z hz => h.ok z (List.mem_append.mpr (.inr (List.mem_append.mpr (.inr (List.mem_append.mpr (.inl hz)))))), fun z hz => h.ok z (List.mem_append.mpr (.inr (List.mem_append.mpr (.inr (List.mem_append.mpr (.inr hz))))))⟩
theorem three_ok {ps : List (Str × Str)} {ns us : List Str} (l1 : ps.length ≤ 12) (l2 : ns.length ≤ 6) (l3 : us.length ≤ 6) (h : (∀ q ∈ ps, NameS q.1 ∧ NameS q.2) ∧ (∀ z ∈ ns, NameS z) ∧ ∀ z ∈ us, NameS z) :
    okD (three ps ns us) ∧ (three ps ns us).depth ≤ 60 ∧ cost (three ps ns us) ≤ sizeLine := by
  obtain ⟨h1, h2, h3⟩ := h
  have c2 := strs_cost h2
  have c3 := strs_cost h3
  have c1 : costL (ps.map pairD) ≤ 173 * ps.length := by
    clear l1 l2 l3 c2 c3
    induction ps with
    | nil => simp [costL]
    | cons q r ih =>
      have a := h1 q List.mem_cons_self
      have := a.1.2.1
      have := a.2.2.1
      have := ih fun y hy => h1 y (List.mem_cons_of_mem _ hy)
      simp only [List.map_cons, costL, pairD, cost, List.length_cons]; omega
  have d1 : PyData.depthAll (ps.map pairD) ≤ 1 := by
    clear l1 l2 l3 c1 c2 c3 h1
    induction ps with
    | nil => simp [PyData.depthAll]
    | cons q r ih => simp only [List.map_cons, PyData.depthAll, pairD, PyData.depth]; omega
  refine ⟨?_, ?_, ?_⟩
  · unfold three
    simp only [okD, okL]
    refine ⟨okL_mem.mpr fun x hx => ?_, strs_ok h2, strs_ok h3, trivial⟩
    obtain ⟨q, hq, rfl⟩ := List.mem_map.mp hx
    simp only [pairD, okD, okL]
    exact ⟨okS_name (h1 q hq).1, okS_name (h1 q hq).2, trivial⟩
  · unfold three
    simp only [PyData.depth, PyData.depthAll, strs_dep]; omega
  · unfold three
    rw [sizeLine_eq]
    simp only [cost, costL]; omega
theorem join3 (s a b c : Str) : Txt.join s [a, b, c] = a ++ s ++ b ++ s ++ c := by
  have e : TL.tl (Txt.join s [a, b, c]) = TL.tl (a ++ s ++ b ++ s ++ c) := by
    rw [TL.join_eq, TL.tl_join]
    show (a.cps.toList ++ (s.cps.toList ++ (b.cps.toList ++ (s.cps.toList ++ c.cps.toList)))) = (a.cps ++ s.cps ++ b.cps ++ s.cps ++ c.cps).toList
    simp only [Array.toList_append, List.append_assoc]
  exact Str.ext' (Array.toList_inj.mp e)
abbrev Pr (P : Program) (w : World) (K : PySem.W.Frag) (mg : Str → Option Value) (base : Heap) (C : Addr) (f a : Str) : Prop := ∃ p g fd, PropOf K C f p g ∧ FnOk P w K mg base CX0 1 g fd ["self"] (getSp C a) ∧ Binds K fd ["self"] []
abbrev CaG (P : Program) (w : World) (K : PySem.W.Frag) (mg : Str → Option Value) (base : Heap) (k : Nat) (x : Str) (ps : List Str) (sp : Sp) : Prop := ∃ f fd, FnOkG P w K mg base CX0 k f fd ps sp ∧ mg x = some (.ref f) ∧ PySem.W.keepIn K (.ref f) = true ∧ Binds K fd ps []
section
variable {P : Program} {w : World} {K : PySem.W.Frag} {mg : Str → Option Value} {base : Heap}
theorem calG_of {x : Str} {st : Stmt} {N ps : List Str} {k : Nat} {sp : Sp} (h : Has K mg x st) (S : FnScope N ps (defScope st))
    (bd : ∀ (kV doc pm : Value) (an : Option Addr) (cdv ct : Value) (us : List Value), us.length = ps.length → bindArgs (PySem.W.fnOf x x (defArgs st) (defBody st) (defScope st) .none kV doc pm an cdv ct) ⟨us, []⟩ = pure (ps.zip us))
    (len : ∀ vs H Q E, sp vs H Q E → vs.length = ps.length)
    (body : ∀ (f : Addr) (cdv : Value) (A : Around) (outer : List Env) (s : Shared) (H : Hp) (vs : List V) (Q : VK) (E : XK), (A.deeper (envOfC x (defScope st) s.heap.objs.size f cdv)).guards = some [] → Room k (A.deeper (envOfC x (defScope st) s.heap.objs.size f cdv)) → sp vs H Q E →
      ∃ t, PSs (cxOf CX0 P w K mg base N x (defScope st) f cdv A outer s H E).nox (defBody st) t ∧ t { nx := fun _ H' => Q .non H', rt := Q } (start N vs) H) : CaG P w K mg base (k + 1) x ps sp := by
  obtain ⟨f, fd, F, g⟩ := h
  exact ⟨f, fd, okG F S len (fun cdv A outer s H vs Q E hgd hr h => let ⟨t, ht, q⟩ := body f cdv A outer s H vs Q E hgd hr h; ⟨t, PSs.nox ht, q⟩), g, F.kp, F.bindsN bd⟩
abbrev N_law_is_told : List Str := ["frame", "parts", "lengths", "kinds", "kind", "names", "name", "rows", "text", "pair", "length", "row"]
abbrev P_law_is_told : List Str := ["frame", "parts"]
theorem sc_law_is_told : FnScope N_law_is_told P_law_is_told (defScope s_law_is_told) := ⟨rfl, rfl, rfl, by decide +kernel, rfl, by decide +kernel, by decide +kernel⟩
def spTold (C : Addr) : Sp := fun vs H Q _ => ∃ (x l : Addr) (va vp vv : V) (ps : List (Str × Str)) (ns us : List Str), vs = [.ref x, .ref l] ∧ H l = some (.lst [va, vp, vv]) ∧ FrameAt C H x va vp vv ps ns us ∧ ∀ H', Same H H' → Q (.bl true) H'
theorem ok_told {om : Obj} (hK : K.lookup sysModules = some om) (T : Bt mg) {C : Addr} (X : Fx K mg C) (h : Has K mg "_law_is_told" s_law_is_told) (C1 : Ca P w K mg base 1 "_law_lengths" P_law_lengths spLengths)
    (A1 : Pr P w K mg base C "arrays" "_arrays") (A2 : Pr P w K mg base C "positions" "_positions") (A3 : Pr P w K mg base C "amounts" "_amounts") (A4 : Pr P w K mg base C "lengths" "_lengths")
    (M1 : Me P w K mg base C 2 "kind_of" P_Frame_kind_of (spKindOf C)) (M2 : Me P w K mg base C 1 "__contains__" P_Frame_contains (spHas C)) (M3 : Me P w K mg base C 2 "is_fresh" P_Frame_is_fresh (spFresh C)) (M4 : Me P w K mg base C 2 "length_of" P_Frame_length_of (spLenOf C))
    (M5 : Me P w K mg base C 2 "__str__" P_Frame_str (spStr C)) (M6 : Me P w K mg base C 1 "__len__" P_Frame_len (spLen C)) : CaG P w K mg base 5 "_law_is_told" P_law_is_told (spTold C) := by
  obtain ⟨_, _, c__law_lengths⟩ := C1
  obtain ⟨_, _, _, p_arrays⟩ := A1
  obtain ⟨_, _, _, p_positions⟩ := A2
  obtain ⟨_, _, _, p_amounts⟩ := A3
  obtain ⟨_, _, _, p_lengths⟩ := A4
  obtain ⟨_, _, c_kind_of⟩ := M1
  obtain ⟨_, _, c_contains⟩ := M2
  obtain ⟨_, _, c_is_fresh⟩ := M3
  obtain ⟨_, _, c_length_of⟩ := M4
  obtain ⟨_, _, c_str⟩ := M5
  obtain ⟨_, _, c_len⟩ := M6
  refine calG_of h sc_law_is_told (fun _ _ _ _ _ _ us hl => match us, hl with | [_, _], _ => rfl) (fun vs H Q E h => ?_) (fun f cdv A outer s H vs Q E hgd hr h => ?_)
  · obtain ⟨x, l, va, vp, vv, ps, ns, us, rfl, _⟩ := h
    rfl
  · obtain ⟨x, l, va, vp, vv, ps, ns, us, rfl, hl, fr, kq⟩ := h
    refine ⟨_, (pss_cons (ps_set (i := 2) sc_law_is_told.nd rfl (.inl rfl) (pe_call c__law_lengths.1 (hr.mono (by decide)) rfl c__law_lengths.2.1 c__law_lengths.2.2.1 c__law_lengths.2.2.2 .nil pass0 (pa_cons (pe_ix ix_list (pv 1) pe_int (fun _ _ => rfl)) pa_nil)))
      (pss_cons (ps_if (pt_cmpR op_ne (pe_callB (call_repr2 hK hgd hr.units) (by rfl) T.repr (by decide +kernel) (pa_cons (pe_lst (pa_cons (pe_prop (pv 0) X.cl p_arrays.1 p_arrays.2.1 (hr.mono (by decide)) p_arrays.2.2 .nil pass0 rfl) (pa_cons (pe_prop (pv 0) X.cl p_positions.1 p_positions.2.1 (hr.mono (by decide)) p_positions.2.2 .nil pass0 rfl) (pa_cons (pe_prop (pv 0) X.cl p_amounts.1 p_amounts.2.1 (hr.mono (by decide)) p_amounts.2.2 .nil pass0 rfl) pa_nil)))) pa_nil)) (pe_callB (call_repr2 hK hgd hr.units) (by rfl) T.repr (by decide +kernel) (pa_cons (pv 1) pa_nil)) (nomark _)) (pss_one (ps_ret pe_bl)) pss_nil)
      (pss_cons (ps_if (pt_cmpR (op_neD hr.units) (pe_prop (pv 0) X.cl p_lengths.1 p_lengths.2.1 (hr.mono (by decide)) p_lengths.2.2 .nil pass0 rfl) (pe_callTy call_tupF (by rfl) T.tuple (by decide +kernel) (pa_cons (pv 2) pa_nil)) (nomark _)) (pss_one (ps_ret pe_bl)) pss_nil)
      (pss_cons (ps_set (i := 3) sc_law_is_told.nd rfl (.inl rfl) (pe_lst (pa_cons (pe_tupF (pa_cons pe_str (pa_cons (pe_lc (own := [("pair", 9)]) (g := (gName 9)) (tt := tYes) (by rfl) sc_law_is_told.nd (pi_tup (pe_ix ix_list (pv 1) pe_int (fun _ _ => rfl))) (blkOk_by (own := [("pair", 9)]) (N := ["frame", "parts", "lengths", "kinds", "kind", "names", "name", "rows", "text", "pair", "length", "row"]) (sc := defScope s_law_is_told) (by decide +kernel)) (fun _ _ _ _ _ => pg_name (i := 9) sc_law_is_told.nd rfl (Or.inl rfl)) (fun _ _ _ _ _ => pts_nil) (fun _ _ _ _ _ => (pe_ix (show IxR _ (rIxT K) from ix_tup) (pv 9) pe_int (fun _ _ => rfl)))) pa_nil))) (pa_cons (pe_tupF (pa_cons pe_str (pa_cons (pv 2) pa_nil))) pa_nil))))
      (pss_cons (ps_set (i := 3) sc_law_is_told.nd rfl (.inl rfl) (pe_op op_cat (pv 3) (pe_lst (pa_cons (pe_tupF (pa_cons pe_str (pa_cons (pe_ix ix_list (pv 1) pe_int (fun _ _ => rfl)) pa_nil))) (pa_cons (pe_tupF (pa_cons pe_str (pa_cons (pe_ix ix_list (pv 1) pe_int (fun _ _ => rfl)) pa_nil))) pa_nil)))))
      (pss_cons (ps_for PassesOwn.never rfl (pi_list (pv 3)) (pg_tup (by rfl) (pgs_cons (pg_name (i := 4) sc_law_is_told.nd rfl (.inl rfl)) (pgs_cons (pg_name (i := 5) sc_law_is_told.nd rfl (.inl rfl)) pgs_nil)))
        (pss_one (ps_for PassesOwn.never rfl (pi_seq (pv 5)) (pg_name (i := 6) sc_law_is_told.nd rfl (.inl rfl))
          (pss_cons (ps_if (PW.pt (pw_or (pt_cmpR op_ne (pe_meth (pv 0) X.cl c_kind_of.2.1 c_kind_of.1 (hr.mono (by decide)) c_kind_of.2.2 .nil pass0 (pa_cons (pv 6) pa_nil)) (pv 4) (nomark _)) (pw_or1 (pt_cmpR (op_notInO X.cl c_contains.2.1.at_ c_contains.2.1.fn c_contains.1 (hr.mono (by decide)) c_contains.2.2 pass0) (pv 6) (pv 0) rfl)))) (pss_one (ps_ret pe_bl)) pss_nil)
          (pss_one (ps_if (pt_cmpR op_notBl (pe_meth (pv 0) X.cl c_is_fresh.2.1 c_is_fresh.1 (hr.mono (by decide)) c_is_fresh.2.2 .nil pass0 (pa_cons (pv 6) pa_nil)) pe_bl (nomark _)) (pss_one (ps_ret pe_bl)) pss_nil))))))
      (pss_cons (ps_if (pt_cmpR (op_neL0 hr.units0) (pe_lc (own := [("pair", 9)]) (g := (gName 9)) (by rfl) sc_law_is_told.nd (pi_tup (pe_ix ix_list (pv 1) pe_int (fun _ _ => rfl))) (blkOk_by (own := [("pair", 9)]) (N := ["frame", "parts", "lengths", "kinds", "kind", "names", "name", "rows", "text", "pair", "length", "row"]) (sc := defScope s_law_is_told) (by decide +kernel)) (fun _ _ _ _ _ => pg_name (i := 9) sc_law_is_told.nd rfl (Or.inl rfl)) (fun _ _ _ _ _ => pts_one (pt_cmpR op_ne (pe_meth (pv 0) X.cl c_length_of.2.1 c_length_of.1 (hr.mono (by decide)) c_length_of.2.2 .nil pass0 (pa_cons (pe_ix (show IxR _ (rIxT K) from ix_tup) (pv 9) pe_int (fun _ _ => rfl)) pa_nil)) (pe_ix (show IxR _ (rIxT K) from ix_tup) (pv 9) pe_int (fun _ _ => rfl)) (nomark _))) (fun _ _ _ _ _ => (pv 9))) (pe_lst pa_nil) (nomark _)) (pss_one (ps_ret pe_bl)) pss_nil)
      (pss_cons (ps_set (i := 7) sc_law_is_told.nd rfl (.inl rfl) (pe_lst (pa_cons (pe_lc (own := [("name", 6), ("length", 10)]) (g := (gTup K 2 (gCons (gName 6) (gCons (gName 10) gNil)))) (tt := tYes) (by rfl) sc_law_is_told.nd (pi_tup (pe_ix ix_list (pv 1) pe_int (fun _ _ => rfl))) (blkOk_by (own := [("name", 6), ("length", 10)]) (N := ["frame", "parts", "lengths", "kinds", "kind", "names", "name", "rows", "text", "pair", "length", "row"]) (sc := defScope s_law_is_told) (by decide +kernel)) (fun _ _ _ _ _ => pg_tup (by rfl) (pgs_cons (pg_name (i := 6) sc_law_is_told.nd rfl (Or.inl rfl)) (pgs_cons (pg_name (i := 10) sc_law_is_told.nd rfl (Or.inl rfl)) pgs_nil))) (fun _ _ _ _ _ => pts_nil) (fun _ _ _ _ _ => (pe_op op_add_str (pe_op op_add_str (pv 6) pe_str) (pv 10)))) (pa_cons (pe_callTy call_list_of (by rfl) T.list (by decide +kernel) (pa_cons (pe_ix ix_list (pv 1) pe_int (fun _ _ => rfl)) pa_nil)) (pa_cons (pe_callTy call_list_of (by rfl) T.list (by decide +kernel) (pa_cons (pe_ix ix_list (pv 1) pe_int (fun _ _ => rfl)) pa_nil)) pa_nil)))))
      (pss_cons (ps_set (i := 8) sc_law_is_told.nd rfl (.inl rfl) (pe_join pe_str (pe_lc (own := [("row", 11)]) (g := (gName 11)) (tt := tYes) (by rfl) sc_law_is_told.nd (pi_list (pv 7)) (blkOk_by (own := [("row", 11)]) (N := ["frame", "parts", "lengths", "kinds", "kind", "names", "name", "rows", "text", "pair", "length", "row"]) (sc := defScope s_law_is_told) (by decide +kernel)) (fun _ _ _ _ _ => pg_name (i := 11) sc_law_is_told.nd rfl (Or.inl rfl)) (fun _ _ _ _ _ => pts_nil) (fun _ _ _ _ _ => (pe_ifExp (pt_cmpR (show OpR _ (compareOp .NotEq) (rNeL0 K) from op_neL0 hr.units0) (pv 11) (pe_lst pa_nil) (nomark _)) (show PE _ _ (tJoinK K (tC (V.str " ")) (tVar 11)) from pe_joinK pe_str (pv 11)) pe_str)))))
      (pss_one (ps_ret (pe_and (pe_cmpR op_eq (pe_callTy (call_strO c_str.2.1.at_ c_str.2.1.fn c_str.1 (hr.mono (by decide)) c_str.2.2 pass0) (by rfl) T.str (by decide +kernel) (pa_cons (pv 0) pa_nil)) (pv 8) (nomark _)) (pe_one (pe_cmpR op_eq (pe_callB (call_lenO c_len.2.1.at_ c_len.2.1.fn c_len.1 (hr.mono (by decide)) c_len.2.2 pass0) (by rfl) T.len (by decide +kernel) (pa_cons (pv 0) pa_nil)) (pe_callB (cr_sum rfl) (by rfl) T.sum (by decide +kernel) (pa_cons (pe_lc (own := [("kind", 4), ("names", 5)]) (g := (gTup K 2 (gCons (gName 4) (gCons (gName 5) gNil)))) (tt := tYes) (by rfl) sc_law_is_told.nd (pi_list (pv 3)) (blkOk_by (own := [("kind", 4), ("names", 5)]) (N := ["frame", "parts", "lengths", "kinds", "kind", "names", "name", "rows", "text", "pair", "length", "row"]) (sc := defScope s_law_is_told) (by decide +kernel)) (fun _ _ _ _ _ => pg_tup (by rfl) (pgs_cons (pg_name (i := 4) sc_law_is_told.nd rfl (Or.inl rfl)) (pgs_cons (pg_name (i := 5) sc_law_is_told.nd rfl (Or.inl rfl)) pgs_nil))) (fun _ _ _ _ _ => pts_nil) (fun _ _ _ _ _ => (pe_callB (show CallR _ _ (rLen K) from call_len) (by rfl) T.len (by decide +kernel) (pa_cons (pv 5) pa_nil)))) pa_nil)) (nomark _))))))))))))))), ?_⟩
    have lp := fr.l1
    have ln := fr.l2
    have lu := fr.l3
    have nm3 := fr.nP
    have un := uniq_len (ps.map (·.2))
    rw [List.length_map] at un
    refine ⟨_, rfl, l, _, 0, va, rfl, rfl, SqL.of hl, rfl, _, va, ps, rfl, fr.da, by omega, fun DL H1 hDL s1 eDL => ?_⟩
    have fr1 := fr.same s1
    have hl1 := s1 _ _ hl
    obtain ⟨dx, LB, LT, KD, hx, hlb, hlt, hkd⟩ := fr1.ob
    obtain ⟨tk1, tk2, tk3⟩ := three_ok lp ln lu nm3
    have dv3 : ∀ {G : Hp}, Same H1 G → DvL (fun _ => False) G [va, vp, vv] [.tuple (ps.map pairD), .tuple (ns.map .str), .tuple (us.map .str)] := fun sm =>
      let k := Kp.same (ex := fun _ => True) sm
      .cons ((fr1.da.kp k).mono Kp.refl fun _ z => z.elim) (.cons ((fr1.dp.kp k).mono Kp.refl fun _ z => z.elim) (.cons ((fr1.dv.kp k).mono Kp.refl fun _ z => z.elim) .nil))
    refine ⟨_, rfl, x, dx, _, rfl, hx, x, dx, _, va, rfl, hx, rfl, _, rfl, x, dx, _, rfl, hx, x, dx, _, vp, rfl, hx, rfl, _, rfl, x, dx, _, rfl, hx, x, dx, _, vv, rfl, hx, rfl, (show 3 ≤ sizeLine by decide +kernel), fun l1 hl1' => ⟨l1, three ps ns us, rfl, ?_, tk1, tk2, tk3, ?_⟩⟩
    · exact Dv.lst id upd_same (dv3 (Same.upd hl1'))
    have s2 : Same H1 (upd H1 l1 (.lst [va, vp, vv])) := Same.upd hl1'
    refine ⟨_, rfl, l, three ps ns us, rfl, Dv.lst id (s2 _ _ hl1) (dv3 s2), tk1, tk2, tk3, rfl, _, rfl, ?_⟩
    rw [show (!decide (V.str (three ps ns us).shown = V.str (three ps ns us).shown)) = false by rw [decide_eq_true rfl]; rfl]
    refine iteF ⟨_, rfl, x, dx, _, rfl, s2 _ _ hx, x, dx, _, .ref LT, rfl, s2 _ _ hx, rfl, _, rfl, DL, _, rfl, SqL.of (s2 _ _ eDL), fun t2 H3 s3 ht2 => ?_⟩
    have nml : ∀ z ∈ uniq (ps.map (·.2)), NameS z := fun z hz => by
      obtain ⟨q, hq, rfl⟩ := List.mem_map.mp ((uniq_mem _ _).mp hz)
      exact (nm3.1 q hq).2
    have dpS : ∀ zs : List Str, DpAll K H3 (zs.map V.str) (zs.map .str) := fun zs => by
      induction zs with
      | nil => exact .nil
      | cons z r ih => exact .cons (.str z) ih
    have sh : SeqAt.shaped (.tuple ((uniq (ps.map (·.2))).map .str)) = true := by
      unfold SeqAt.shaped
      simp only [PyData.canLay0, PyData.depth, strs_dep, strs_lay nml]
      rfl
    have dpL : DpAll K H3 ((uniq (ps.map (·.2))).map V.str) ((uniq (ps.map (·.2))).map .str) := dpS _
    have dp1 : Dp K H3 (.ref LT) (.tuple ((uniq (ps.map (·.2))).map .str)) := .tup (.inl (Rd.of (s3 _ _ (s2 _ _ hlt)))) dpL
    have dp2 : Dp K H3 (.ref t2) (.tuple ((uniq (ps.map (·.2))).map .str)) := .tup ht2.sq dpL
    refine ⟨_, _, dp1, dp2, sh, sh, _, rfl, ?_⟩
    rw [SeqAt.eqv_refl _ (SeqAt.canLay_of_shaped sh)]
    refine iteF ?_
    obtain ⟨aA, xA, rfl, tA, dA⟩ := fr1.da.tupI
    obtain ⟨aP, xP, rfl, tP, dP⟩ := fr1.dp.tupI
    obtain ⟨aU, xU, rfl, tU, dU⟩ := fr1.dv.tupI
    have s13 := s2.trans s3
    have hl3 := s13 _ _ hl1
    have any : ∀ {X Y : Hp}, Same X Y → Kp All X Y := fun h => Kp.same h
    have nA := dA.len
    rw [List.length_map] at nA
    refine ⟨_, rfl, l, _, 0, _, rfl, rfl, SqL.of hl3, rfl, aA, rfl, ⟨_, ((any s13).tup tA).sq⟩, fun D hD => ?_⟩
    refine lc_o (walk_tup (K := K) (a := aA) (xs := xA)) (fun i => ps[i]?.map fun q => V.str q.1) (by rw [sizeLine_eq]; omega) hD (fun Hx sm => ((any (s13.trans sm)).tup tA).sq) ?_ ?_
    · rintro i v Hx H' Nx hi smx hDx ⟨rfl, hv⟩ hno hyes
      obtain ⟨e, he, dve⟩ := dA.get hv
      have hi' : i < ps.length := by omega
      rw [List.getElem?_map, List.getElem?_eq_getElem hi'] at he
      cases he
      obtain ⟨b, rfl, hb⟩ := dve.pairI
      refine ⟨rfl, yes (⟨_, rfl, b, _, 0, _, rfl, rfl, ((any (s13.trans smx)).tup hb).sq, rfl, ?_⟩)⟩
      exact hyes _ (by rw [List.getElem?_eq_getElem hi']; rfl) _ Same.refl
    · intro Hx sx hDx
      rw [nA, range_list] at hDx
      have hDx2 : Hx D = some (.lst ((ps.map (·.1)).map V.str)) := by rw [List.map_map]; exact hDx
      clear hDx
      have room : ∀ m : Nat, m ≤ 10000 → m ≤ sizeLine := fun m h => by rw [sizeLine_eq]; omega
      have s1x := s13.trans sx
      refine ⟨room 2 (by decide), fun ka K1 q1 hka => ⟨_, rfl, room 2 (by decide), fun kb K2 q2 hkb => ⟨room 2 (by decide), fun lk1 hlk1 => ?_⟩⟩⟩
      have q12 := (q1.trans q2).trans (Same.upd (o := .lst [.ref ka, .ref kb]) hlk1)
      have h12 := s1x.trans q12
      refine ⟨_, rfl, _, rfl, l, _, 1, _, rfl, rfl, SqL.of (h12 _ _ hl1), rfl, room 2 (by decide), fun kc K3 q3 hkc => ⟨_, rfl, l, _, 2, _, rfl, rfl, SqL.of ((h12.trans q3) _ _ hl1), rfl, room 2 (by decide), fun kd K4 q4 hkd => ⟨room 2 (by decide), fun lk2 hlk2 => ⟨lk1, lk2, _, _, rfl, rfl, (Same.upd hlk2) _ _ (q4 _ _ (q3 _ _ upd_same)), upd_same, room 4 (by decide), fun lk hlk => ?_⟩⟩⟩⟩
      have q56 : Same K4 (upd (upd K4 lk2 (.lst [.ref kc, .ref kd])) lk (.lst ([.ref ka, .ref kb] ++ [.ref kc, .ref kd]))) := (Same.upd hlk2).trans (Same.upd hlk)
      have q16 : Same K1 (upd (upd K4 lk2 (.lst [.ref kc, .ref kd])) lk (.lst ([.ref ka, .ref kb] ++ [.ref kc, .ref kd]))) := (((q2.trans (Same.upd hlk1)).trans q3).trans q4).trans q56
      have eK : (upd (upd K4 lk2 (.lst [.ref kc, .ref kd])) lk (.lst ([.ref ka, .ref kb] ++ [.ref kc, .ref kd]))) lk = some (.lst [.ref ka, .ref kb, .ref kc, .ref kd]) := upd_same
      generalize upd (upd K4 lk2 (.lst [.ref kc, .ref kd])) lk (.lst ([.ref ka, .ref kb] ++ [.ref kc, .ref kd])) = KK at q56 q16 eK ⊢
      have q26 : Same K2 KK := (((Same.upd hlk1).trans q3).trans q4).trans q56
      have hKK : Same H1 KK := (s1x.trans q1).trans q16
      have frK := fr1.same hKK
      have hxK := hKK _ _ hx
      have kinds : ∀ v ∈ ([.ref ka, .ref kb, .ref kc, .ref kd] : List V), ∃ (b an : Addr) (kn : Str) (zs : List Str), v = .ref b ∧ TupF KK b [.str kn, .ref an] ∧ (SqL K KK an (zs.map V.str) ∨ SqT K KK an (zs.map V.str)) ∧ ∀ z ∈ zs, z ∈ allN ps ns us ∧ kindF ps ns z = kn := by
        refine List.forall_mem_cons.mpr ⟨⟨ka, D, "array", ps.map (·.1), rfl, (any q16).tup hka, .inl (SqL.of (q16 _ _ (q1 _ _ hDx2))), fun z hz => ⟨List.mem_append.mpr (.inl hz), kind_array fr.nd z hz⟩⟩, ?_⟩
        refine List.forall_mem_cons.mpr ⟨⟨kb, DL, "length", uniq (ps.map (·.2)), rfl, (any q26).tup hkb, .inl (SqL.of (hKK _ _ eDL)), fun z hz => ⟨List.mem_append.mpr (.inr (List.mem_append.mpr (.inl hz))), kind_length fr.nd z ((uniq_mem _ _).mp hz)⟩⟩, ?_⟩
        refine List.forall_mem_cons.mpr ⟨⟨kc, aP, "position", ns, rfl, (any (q4.trans q56)).tup hkc, .inr ?_, fun z hz => ⟨List.mem_append.mpr (.inr (List.mem_append.mpr (.inr (List.mem_append.mpr (.inl hz))))), kind_position fr.nd z hz⟩⟩, ?_⟩
        · have := ((any hKK).tup tP).sq (K := K)
          rw [dP.strE] at this
          exact this
        refine List.forall_mem_cons.mpr ⟨⟨kd, aU, "value", us, rfl, (any q56).tup hkd, .inr ?_, fun z hz => ⟨List.mem_append.mpr (.inr (List.mem_append.mpr (.inr (List.mem_append.mpr (.inr hz))))), kind_value fr.nd z hz⟩⟩, List.forall_mem_nil _⟩
        · have := ((any hKK).tup tU).sq (K := K)
          rw [dU.strE] at this
          exact this
      have kindsL : ∀ (i : Nat) (v : V), ([V.ref ka, V.ref kb, V.ref kc, V.ref kd] : List V)[i]? = some v → ∃ (b an : Addr) (kn : Str) (zs : List Str), v = .ref b ∧ TupF KK b [.str kn, .ref an] ∧ (SqL K KK an (zs.map V.str) ∨ SqT K KK an (zs.map V.str)) ∧ [ps.map (·.1), uniq (ps.map (·.2)), ns, us][i]? = some zs := fun i v hv => by
        rcases i with _ | _ | _ | _ | i
        · cases hv
          exact ⟨ka, D, "array", ps.map (·.1), rfl, (any q16).tup hka, .inl (SqL.of (q16 _ _ (q1 _ _ hDx2))), rfl⟩
        · cases hv
          exact ⟨kb, DL, "length", uniq (ps.map (·.2)), rfl, (any q26).tup hkb, .inl (SqL.of (hKK _ _ eDL)), rfl⟩
        · cases hv
          have := ((any hKK).tup tP).sq (K := K)
          rw [dP.strE] at this
          exact ⟨kc, aP, "position", ns, rfl, (any (q4.trans q56)).tup hkc, .inr this, rfl⟩
        · cases hv
          have := ((any hKK).tup tU).sq (K := K)
          rw [dU.strE] at this
          exact ⟨kd, aU, "value", us, rfl, (any q56).tup hkd, .inr this, rfl⟩
        · cases hv
      refine ⟨_, rfl, lk, rfl, ⟨_, SqL.of eK⟩, for_it (walk_list (K := K) (a := lk) (xs := [.ref ka, .ref kb, .ref kc, .ref kd])) (fun i σ G => ∃ v4 v5 v6 : Option V, σ = [some (.ref x), some (.ref l), some (.ref DL), some (.ref lk), v4, v5, v6, none, none, none, none, none] ∧ Same KK G)
        ⟨none, none, none, rfl, Same.refl⟩ (fun i σ G _ ⟨_, _, _, _, sm⟩ => SqL.of (sm _ _ eK)) ?_ ?_⟩
      · rintro i v σ G G' hi ⟨v4, v5, v6, rfl, sm⟩ ⟨rfl, hv⟩
        obtain ⟨b, an, kn, zs, rfl, hb, hn, hzs⟩ := kinds v (List.mem_of_getElem? hv)
        refine ⟨b, _, rfl, ((any sm).tup hb).sq, rfl, _, _, rfl, _, _, rfl, rfl, ?_⟩
        refine ⟨_, rfl, an, rfl, ?_⟩
        rcases hn with hn | hn
        · refine .inl ⟨⟨_, sqL_same hn sm⟩, for_it (walk_list (K := K) (a := an) (xs := zs.map V.str)) (fun i σ G => ∃ v6 : Option V, σ = [some (.ref x), some (.ref l), some (.ref DL), some (.ref lk), some (.str kn), some (.ref an), v6, none, none, none, none, none] ∧ Same KK G)
            ⟨v6, rfl, sm⟩ (fun i σ G _ ⟨_, _, sm⟩ => sqL_same hn sm) ?_ ?_⟩
          · rintro i v σ G G' hi ⟨v6, rfl, smG⟩ ⟨rfl, hv⟩
            rw [List.getElem?_map] at hv
            cases hzi : zs[i]? with
            | none => rw [hzi] at hv; cases hv
            | some z =>
            rw [hzi] at hv
            cases hv
            obtain ⟨hzN, hzK⟩ := hzs z (List.mem_of_getElem? hzi)
            have frG := (frK.same smG)
            have hxG := smG _ _ hxK
            refine ⟨_, rfl, x, dx, _, rfl, hxG, rfl, _, rfl, x, _, _, _, ps, ns, us, z, rfl, frG, hzN, _, rfl, rfl, _, rfl, ?_⟩
            rw [hzK, show (!decide (V.str kn = V.str kn)) = false by rw [decide_eq_true rfl]; rfl]
            refine iteF ⟨_, rfl, _, rfl, x, dx, _, rfl, hxG, x, _, _, _, ps, ns, us, z, rfl, frG, hzN, _, rfl, _, rfl, iteF ?_⟩
            exact ⟨_, rfl, x, dx, _, rfl, hxG, rfl, _, rfl, x, _, _, _, ps, ns, us, z, rfl, frG, hzN, fun G2 sm2 => ⟨false, false, rfl, rfl, _, rfl, iteF ⟨_, rfl, smG.trans sm2⟩⟩⟩
          · rintro σ G ⟨v6, rfl, smG⟩
            exact ⟨_, _, _, rfl, smG⟩
        · refine .inr ⟨⟨_, sqT_same hn sm⟩, for_it (walk_tup (K := K) (a := an) (xs := zs.map V.str)) (fun i σ G => ∃ v6 : Option V, σ = [some (.ref x), some (.ref l), some (.ref DL), some (.ref lk), some (.str kn), some (.ref an), v6, none, none, none, none, none] ∧ Same KK G)
            ⟨v6, rfl, sm⟩ (fun i σ G _ ⟨_, _, sm⟩ => sqT_same hn sm) ?_ ?_⟩
          · rintro i v σ G G' hi ⟨v6, rfl, smG⟩ ⟨rfl, hv⟩
            rw [List.getElem?_map] at hv
            cases hzi : zs[i]? with
            | none => rw [hzi] at hv; cases hv
            | some z =>
            rw [hzi] at hv
            cases hv
            obtain ⟨hzN, hzK⟩ := hzs z (List.mem_of_getElem? hzi)
            have frG := (frK.same smG)
            have hxG := smG _ _ hxK
            refine ⟨_, rfl, x, dx, _, rfl, hxG, rfl, _, rfl, x, _, _, _, ps, ns, us, z, rfl, frG, hzN, _, rfl, rfl, _, rfl, ?_⟩
            rw [hzK, show (!decide (V.str kn = V.str kn)) = false by rw [decide_eq_true rfl]; rfl]
            refine iteF ⟨_, rfl, _, rfl, x, dx, _, rfl, hxG, x, _, _, _, ps, ns, us, z, rfl, frG, hzN, _, rfl, _, rfl, iteF ?_⟩
            exact ⟨_, rfl, x, dx, _, rfl, hxG, rfl, _, rfl, x, _, _, _, ps, ns, us, z, rfl, frG, hzN, fun G2 sm2 => ⟨false, false, rfl, rfl, _, rfl, iteF ⟨_, rfl, smG.trans sm2⟩⟩⟩
          · rintro σ G ⟨v6, rfl, smG⟩
            exact ⟨_, _, _, rfl, smG⟩
      · rintro σ G ⟨v4, v5, v6, rfl, sm⟩
        have hG := hKK.trans sm
        have frG := frK.same sm
        have lG := hG _ _ hl1
        have tAG : ∀ {Y : Hp}, Same G Y → SqT K Y aA xA := fun m => ((any (hG.trans m)).tup tA).sq
        have tbG : ∀ {Y : Hp} {b : Addr} {ys : List V}, Same G Y → TupF H1 b ys → SqT K Y b ys := fun m t => ((any (hG.trans m)).tup t).sq
        have okA : ∀ i, (hi : i < ps.length) → ps[i].1.length ≤ 8 ∧ ps[i].2.length ≤ 8 := fun i hi => let h := nm3.1 _ (List.getElem_mem hi); ⟨h.1.2.1, h.2.2.1⟩
        have pairI : ∀ {i : Nat} {v : V}, xA[i]? = some v → ∃ (hi : i < ps.length) (b : Addr), v = .ref b ∧ TupF H1 b [.str ps[i].1, .str ps[i].2] := fun {i v} hv => by
          obtain ⟨e, he, dve⟩ := dA.get hv
          have hi' : i < ps.length := by
            have := (List.getElem?_eq_some_iff.mp hv).1
            omega
          rw [List.getElem?_map, List.getElem?_eq_getElem hi'] at he
          cases he
          obtain ⟨b, rfl, hb⟩ := dve.pairI
          exact ⟨hi', b, rfl, hb⟩
        refine ⟨_, rfl, l, _, 0, _, rfl, rfl, SqL.of lG, rfl, aA, rfl, ⟨_, tAG Same.refl⟩, fun D2 hD2 => ?_⟩
        refine lc_o (walk_tup (K := K) (a := aA) (xs := xA)) (fun i => none) (by rw [sizeLine_eq]; omega) hD2 (fun Hx sm => tAG sm) ?_ ?_
        · rintro i v Hx H' Nx hi smx hDx ⟨rfl, hv⟩ hno hyes
          obtain ⟨hi', b, rfl, hb⟩ := pairI hv
          have frX := frG.same smx
          refine ⟨rfl, _, rfl, x, dx, _, rfl, (hG.trans smx) _ _ hx, rfl, _, rfl, b, _, 0, _, rfl, rfl, tbG smx hb, rfl, x, _, _, _, ps, ns, us, ps[i], rfl, frX, List.getElem_mem hi', _, rfl, b, _, 1, _, rfl, rfl, tbG smx hb, rfl, rfl, _, rfl, ?_⟩
          rw [show (!decide (V.str ps[i].2 = V.str ps[i].2)) = false by rw [decide_eq_true rfl]; rfl]
          exact iteF (hno rfl _ Same.refl)
        · intro Hx smx hDx
          have hDx0 : Hx D2 = some (.lst []) := by rw [hDx]; simp
          refine ⟨Nat.zero_le _, fun p hp => ⟨D2, p, [], rfl, rfl, SqL.of ((Same.upd hp) _ _ hDx0), SqL.of upd_same, _, rfl, iteF ?_⟩⟩
          have g1 := smx.trans (Same.upd (o := .lst []) hp)
          generalize upd Hx p (.lst []) = G1 at g1 ⊢
          clear hDx hDx0 hp smx
          -- rows
          refine ⟨_, rfl, l, _, 0, _, rfl, rfl, SqL.of (g1 _ _ lG), rfl, aA, rfl, ⟨_, tAG g1⟩, fun D3 hD3 => ?_⟩
          refine lc_o (walk_tup (K := K) (a := aA) (xs := xA)) (fun i => ps[i]?.map fun q => V.str (pairT q)) (by rw [sizeLine_eq]; omega) hD3 (fun Hx sm => tAG (g1.trans sm)) ?_ ?_
          · rintro i v Hx H' Nx hi smx hDx ⟨rfl, hv⟩ hno hyes
            obtain ⟨hi', b, rfl, hb⟩ := pairI hv
            have hq := okA i hi'
            have le1 : (":" : Str).length = 1 := by decide +kernel
            refine ⟨b, _, rfl, tbG (g1.trans smx) hb, rfl, _, _, rfl, _, _, rfl, rfl, ?_⟩
            refine ⟨rfl, yes (⟨_, rfl, _, _, rfl, rfl, room _ (by omega), _, rfl, _, _, rfl, rfl, room _ (by rw [strLen_append]; omega), ?_⟩)⟩
            exact hyes _ (by rw [List.getElem?_eq_getElem hi']; rfl) _ Same.refl
          · intro Hx smx hDx
            rw [nA, range_list] at hDx
            have hDx2 : Hx D3 = some (.lst ((ps.map pairT).map V.str)) := by rw [List.map_map]; exact hDx
            clear hDx
            have g2 := g1.trans smx
            have tPs : ∀ {Y : Hp}, Same G Y → SqT K Y aP (ns.map V.str) := fun m => by
              have := ((any (hG.trans m)).tup tP).sq (K := K)
              rw [dP.strE] at this
              exact this
            have tUs : ∀ {Y : Hp}, Same G Y → SqT K Y aU (us.map V.str) := fun m => by
              have := ((any (hG.trans m)).tup tU).sq (K := K)
              rw [dU.strE] at this
              exact this
            refine ⟨_, rfl, l, _, 1, _, rfl, rfl, SqL.of (g2 _ _ lG), rfl, aP, _, rfl, .inr (tPs g2), fun l5 hl5 => ⟨_, rfl, l, _, 2, _, rfl, rfl, SqL.of ((g2.trans (Same.upd hl5)) _ _ lG), rfl, aU, _, rfl, .inr (tUs (g2.trans (Same.upd hl5))), fun l6 hl6 => ⟨room 3 (by decide), fun lr hlr => ?_⟩⟩⟩
            have g3 : Same Hx (upd (upd (upd Hx l5 (.lst (ns.map V.str))) l6 (.lst (us.map V.str))) lr (.lst [.ref D3, .ref l5, .ref l6])) := ((Same.upd hl5).trans (Same.upd hl6)).trans (Same.upd hlr)
            have e5 : (upd (upd (upd Hx l5 (.lst (ns.map V.str))) l6 (.lst (us.map V.str))) lr (.lst [.ref D3, .ref l5, .ref l6])) l5 = some (.lst (ns.map V.str)) := (Same.upd hlr) _ _ ((Same.upd hl6) _ _ upd_same)
            have e6 : (upd (upd (upd Hx l5 (.lst (ns.map V.str))) l6 (.lst (us.map V.str))) lr (.lst [.ref D3, .ref l5, .ref l6])) l6 = some (.lst (us.map V.str)) := (Same.upd hlr) _ _ upd_same
            have er : (upd (upd (upd Hx l5 (.lst (ns.map V.str))) l6 (.lst (us.map V.str))) lr (.lst [.ref D3, .ref l5, .ref l6])) lr = some (.lst [.ref D3, .ref l5, .ref l6]) := upd_same
            have e3 := g3 _ _ hDx2
            generalize upd (upd (upd Hx l5 (.lst (ns.map V.str))) l6 (.lst (us.map V.str))) lr (.lst [.ref D3, .ref l5, .ref l6]) = Y at g3 e5 e6 er e3 ⊢
            have gY := g2.trans g3
            have rowsL : ∀ (i : Nat) (v : V), ([V.ref D3, V.ref l5, V.ref l6] : List V)[i]? = some v → ∃ (r : Addr) (zs : List Str), v = .ref r ∧ Y r = some (.lst (zs.map V.str)) ∧ [ps.map pairT, ns, us][i]? = some zs ∧ zs.length ≤ 12 ∧ ∀ z ∈ zs, z.length ≤ 17 ∧ 1 ≤ z.length := fun i v hv => by
              rcases i with _ | _ | _ | i
              · cases hv
                refine ⟨D3, _, rfl, e3, rfl, by rw [List.length_map]; exact lp, fun z hz => ?_⟩
                obtain ⟨q, hq, rfl⟩ := List.mem_map.mp hz
                have := (nm3.1 q hq).1.2.1
                have := (nm3.1 q hq).2.2.1
                rw [pairT_len]; omega
              · cases hv
                refine ⟨l5, _, rfl, e5, rfl, by omega, fun z hz => ?_⟩
                have := nm3.2.1 z hz
                exact ⟨by have := this.2.1; omega, this.1⟩
              · cases hv
                refine ⟨l6, _, rfl, e6, rfl, by omega, fun z hz => ?_⟩
                have := nm3.2.2 z hz
                exact ⟨by have := this.2.1; omega, this.1⟩
              · cases hv
            have lsp : (" " : Str).length = 1 := by decide +kernel
            have lda : ("-" : Str).length = 1 := by decide +kernel
            have lba : (" | " : Str).length = 3 := by decide +kernel
            have lbl : ∀ zs ∈ [ps.map pairT, ns, us], (blanks zs).length ≤ 300 := fun zs hz => by
              obtain ⟨i, hi⟩ := List.getElem?_of_mem hz
              have hi3 : i < 3 := (List.getElem?_eq_some_iff.mp hi).1
              obtain ⟨v, hv⟩ : ∃ v, ([V.ref D3, V.ref l5, V.ref l6] : List V)[i]? = some v := ⟨_, List.getElem?_eq_getElem hi3⟩
              obtain ⟨r, zs', _, _, hz', h1, h2⟩ := rowsL i v hv
              rw [hi] at hz'
              cases hz'
              have := blanks_le zs 17 fun z hz => (h2 z hz).1
              have : zs.length * 17 ≤ 12 * 17 := Nat.mul_le_mul_right _ h1
              omega
            refine ⟨⟨_, rfl⟩, _, rfl, lr, rfl, ⟨_, SqL.of er⟩, fun D7 hD7 => ?_⟩
            refine lc_o (walk_list (K := K) (a := lr) (xs := [V.ref D3, V.ref l5, V.ref l6])) (te := tIf (tTest (tOp (rNeL0 K) (tVar 11) (tLst tNil))) (tJoinK K (tC (V.str " ")) (tVar 11)) (tC (V.str "-"))) (fun i => [ps.map pairT, ns, us][i]?.map fun zs => V.str (blanks zs)) (show 3 < sizeLine by decide +kernel) hD7 (fun Hx sm => SqL.of (sm _ _ er)) ?_ ?_
            · rintro i v Hx2 H' Nx hi smx hDx ⟨rfl, hv⟩ hno hyes
              obtain ⟨r, zs, rfl, er, hz, h1, h2⟩ := rowsL i v hv
              refine ⟨rfl, yes (⟨_, rfl, Nat.zero_le _, fun p hp => ⟨r, p, _, rfl, rfl, SqL.of ((Same.upd hp) _ _ (smx _ _ er)), SqL.of upd_same, _, rfl, ?_⟩⟩)⟩
              have sp : Same H' (upd H' p (.lst [])) := Same.upd hp
              have b2 := join_bound zs
              have b1 := sum_le zs 17 fun z hz => (h2 z hz).1
              have b3 : zs.length * 17 ≤ 12 * 17 := Nat.mul_le_mul_right _ h1
              have he : (zs.map V.str).isEmpty = zs.isEmpty := by cases zs <;> rfl
              rw [he]
              have bl : blanks zs = if zs.isEmpty = true then ("-" : Str) else Txt.join " " zs := rfl
              cases hem : zs.isEmpty with
              | true =>
                rw [hem, if_pos rfl] at bl
                refine iteF ?_
                exact hyes _ (by rw [hz, Option.map_some, bl]) _ sp
              | false =>
                rw [hem, if_neg Bool.false_ne_true] at bl
                refine iteT ⟨⟨_, rfl⟩, _, rfl, _, r, zs, rfl, rfl, .inl (SqL.of (sp _ _ (smx _ _ er))), ?_, ?_⟩
                · rw [lsp]; omega
                · exact hyes _ (by rw [hz, Option.map_some, bl]) _ sp
            · intro Hz smz hDz
              have e := range_list [ps.map pairT, ns, us] (fun zs => V.str (blanks zs))
              have hDz2 : Hz D7 = some (.lst ([blanks (ps.map pairT), blanks ns, blanks us].map V.str)) := hDz.trans (congrArg (fun l => some (HO.lst l)) e)
              clear hDz e
              have x1 := lbl (ps.map pairT) List.mem_cons_self
              have x2 := lbl ns (List.mem_cons_of_mem _ List.mem_cons_self)
              have x3 := lbl us (List.mem_cons_of_mem _ (List.mem_cons_of_mem _ List.mem_cons_self))
              have gz := gY.trans smz
              have hxz := hG.trans gz
              have frz := frG.same gz
              refine ⟨_, D7, [blanks (ps.map pairT), blanks ns, blanks us], rfl, rfl, .inl (SqL.of hDz2), ?_, ?_⟩
              · rw [lba]
                simp only [List.map_cons, List.map_nil, List.sum_cons, List.sum_nil, List.length_cons, List.length_nil]
                omega
              · rw [join3 " | " (blanks (ps.map pairT)) (blanks ns) (blanks us)]
                refine ⟨_, rfl, x, dx, _, rfl, hxz _ _ hx, x, _, _, _, ps, ns, us, rfl, frz, fun G2 m2 => ⟨_, rfl, _, rfl, rfl, _, rfl, ?_⟩⟩
                rw [show decide (V.str (rowS ps ns us) = V.str (blanks (ps.map pairT) ++ " | " ++ blanks ns ++ " | " ++ blanks us)) = true from decide_eq_true rfl]
                have g9 := (sm.trans gz).trans m2
                have lN : (allN ps ns us).length = ps.length + (uniq (ps.map (·.2))).length + ns.length + us.length := by
                  unfold allN
                  simp only [List.length_append, List.length_map]
                  omega
                refine iteT ⟨_, rfl, x, dx, _, rfl, (hxz.trans m2) _ _ hx, x, _, _, _, ps, ns, us, rfl, frz.same m2, _, rfl, by omega, by omega, ?_⟩
                refine ⟨_, rfl, lk, rfl, ⟨_, SqL.of (g9 _ _ eK)⟩, fun D9 hD9 => ?_⟩
                refine lc_o (walk_list (K := K) (a := lk) (xs := [V.ref ka, V.ref kb, V.ref kc, V.ref kd])) (fun i => [ps.map (·.1), uniq (ps.map (·.2)), ns, us][i]?.map fun zs => V.int (zs.length : Nat)) (show 4 < sizeLine by decide +kernel) hD9 (fun Hx sm => SqL.of (sm _ _ (g9 _ _ eK))) ?_ ?_
                · rintro i v Hx2 H' Nx hi smx hDx ⟨rfl, hv⟩ hno hyes
                  obtain ⟨b, an, kn, zs, rfl, hb, hn, hz⟩ := kindsL i v hv
                  have gx := g9.trans smx
                  refine ⟨b, _, rfl, ((any gx).tup hb).sq, rfl, _, _, rfl, _, _, rfl, rfl, ?_⟩
                  refine ⟨rfl, yes (⟨_, rfl, _, zs.length, rfl, ?_, ?_⟩)⟩
                  · exact hn.elim (fun h => .inl ⟨_, sqL_same h gx, by rw [List.length_map]⟩) fun h => .inr ⟨_, sqT_same h gx, by rw [List.length_map]⟩
                  · exact hyes _ (by rw [hz]; rfl) _ Same.refl
                · intro H9 sm9 hD9v
                  have e := range_list [ps.map (·.1), uniq (ps.map (·.2)), ns, us] (fun zs => V.int (zs.length : Nat))
                  have hD9w : H9 D9 = some (.lst (([ps.map (·.1), uniq (ps.map (·.2)), ns, us].map fun zs => ((zs.length : Nat) : Int)).map V.int)) := by rw [List.map_map]; exact hD9v.trans (congrArg (fun l => some (HO.lst l)) e)
                  refine ⟨D9, _, rfl, SqL.of hD9w, rfl, ?_⟩
                  have key : decide (V.int ((allN ps ns us).length : Nat) = V.int ([ps.map (·.1), uniq (ps.map (·.2)), ns, us].map fun zs => ((zs.length : Nat) : Int)).sum) = true := by
                    refine decide_eq_true (congrArg V.int ?_)
                    simp only [List.map_cons, List.map_nil, List.sum_cons, List.sum_nil, List.length_map]
                    omega
                  rw [key]
                  exact kq _ (s1.trans ((hxz.trans m2).trans sm9))
end
end Kx
namespace Kx
open PySem PySem.Spec PyProof.Rows L2
theorem ps_map (ps : List (Str × Str)) : psOf (.tuple (ps.map pairD)) = ps := by
  show (ps.map pairD).filterMap pairOf = ps
  induction ps with
  | nil => rfl
  | cons q r ih => rw [List.map_cons, List.filterMap_cons]; show q :: _ = _; rw [ih]
theorem ns_map (ns : List Str) : nsOf (.tuple (ns.map .str)) = ns := by
  show (ns.map PyData.str).filterMap strOf = ns
  induction ns with
  | nil => rfl
  | cons q r ih => rw [List.map_cons, List.filterMap_cons]; show q :: _ = _; rw [ih]
theorem frameD_good {ps : List (Str × Str)} {ns us : List Str} (h : Good ps ns us) : frameD (.tuple (ps.map pairD)) (.tuple (ns.map .str)) (.tuple (us.map .str)) = true := by
  obtain ⟨l1, l2, l3, ok, nd⟩ := h
  have strsN : ∀ zs : List Str, (∀ z ∈ zs, NameS z) → (zs.map PyData.str).all nameD = true := fun zs hz => by
    rw [List.all_eq_true]
    intro d hd
    obtain ⟨z, h1, rfl⟩ := List.mem_map.mp hd
    exact decide_eq_true (hz z h1)
  have n1 : namesD 6 (.tuple (ns.map .str)) = true := by
    unfold namesD; dsimp only
    rw [strsN ns fun z hz => ok z (List.mem_append.mpr (.inr (List.mem_append.mpr (.inr (List.mem_append.mpr (.inl hz)))))), decide_eq_true (by rw [List.length_map]; exact l2)]; rfl
  have n2 : namesD 6 (.tuple (us.map .str)) = true := by
    unfold namesD; dsimp only
    rw [strsN us fun z hz => ok z (List.mem_append.mpr (.inr (List.mem_append.mpr (.inr (List.mem_append.mpr (.inr hz)))))), decide_eq_true (by rw [List.length_map]; exact l3)]; rfl
  have n3 : arrsD (.tuple (ps.map pairD)) = true := by
    have : (ps.map pairD).all pairOkD = true := by
      rw [List.all_eq_true]
      intro d hd
      obtain ⟨q, h1, rfl⟩ := List.mem_map.mp hd
      show (nameD (.str q.1) && nameD (.str q.2)) = true
      rw [show nameD (.str q.1) = true from decide_eq_true (ok q.1 (List.mem_append.mpr (.inl (List.mem_map.mpr ⟨q, h1, rfl⟩)))), show nameD (.str q.2) = true from decide_eq_true (ok q.2 (List.mem_append.mpr (.inr (List.mem_append.mpr (.inl (List.mem_map.mpr ⟨q, h1, rfl⟩))))))]; rfl
    unfold arrsD; dsimp only
    rw [this, decide_eq_true (by rw [List.length_map]; exact l1)]; rfl
  unfold frameD
  rw [n1, n2, n3, ps_map, ns_map, ns_map, decide_eq_true nd]; rfl
theorem pairs_cost {ps : List (Str × Str)} (h : ∀ q ∈ ps, NameS q.1 ∧ NameS q.2) : costL (ps.map pairD) ≤ 173 * ps.length := by
  induction ps with
  | nil => simp [costL]
  | cons q r ih =>
    have a := h q List.mem_cons_self
    have := a.1.2.1
    have := a.2.2.1
    have := ih fun y hy => h y (List.mem_cons_of_mem _ hy)
    simp only [List.map_cons, costL, pairD, cost, List.length_cons]; omega
section
variable {P : Program} {w : World} {K : PySem.W.Frag} {mg : Str → Option Value} {base : Heap}
abbrev N_law_right : List Str := ["pot", "parts", "turn", "near", "kind", "text", "due", "again", "found"]
abbrev P_law_right : List Str := ["pot"]
theorem sc_law_right : FnScope N_law_right P_law_right (defScope s_law_right) := ⟨rfl, rfl, rfl, by decide +kernel, rfl, by decide +kernel, by decide +kernel⟩
def spRight : Sp := fun vs H Q _ => ∃ (p : Addr) (n : Nat), vs = [.ref p] ∧ PotAt H p n ∧ n ≤ 600000 ∧ ∀ (H' : Hp), PotAt H' p (n + 20000) → KpP p H H' → Q (.bl true) H'
theorem ok_right {om : Obj} (hK : K.lookup sysModules = some om) (T : Bt mg) {C : Addr} (h : Has K mg "_law_right" s_law_right) (C1 : Ca P w K mg base 1 "_law_dip" P_law_dip spDip) (C2 : Ca P w K mg base 2 "_law_choose" P_law_choose spChoose)
    (C3 : Ca P w K mg base 5 "_law_parts" P_law_parts spParts) (C4 : Ca P w K mg base 5 "_law_near" P_law_near spNear) (C5 : Ca P w K mg base 2 "_law_is_frame" P_law_is_frame spFrame) (C6 : Ca P w K mg base 7 "_law_met" P_law_met (spMet C)) (C7 : CaG P w K mg base 5 "_law_is_told" P_law_is_told (spTold C)) :
    CaG P w K mg base 8 "_law_right" P_law_right spRight := by
  obtain ⟨_, _, c__law_dip⟩ := C1
  obtain ⟨_, _, c__law_choose⟩ := C2
  obtain ⟨_, _, c__law_parts⟩ := C3
  obtain ⟨_, _, c__law_near⟩ := C4
  obtain ⟨_, _, c__law_is_frame⟩ := C5
  obtain ⟨_, _, c__law_met⟩ := C6
  obtain ⟨_, _, c__law_is_told⟩ := C7
  refine calG_of h sc_law_right (fun _ _ _ _ _ _ us hl => match us, hl with | [_], _ => rfl) (fun vs H Q E h => ?_) (fun f cdv A outer s H vs Q E hgd hr h => ?_)
  · obtain ⟨p, n, rfl, _⟩ := h
    rfl
  · obtain ⟨p, n, rfl, hp, hn, kq⟩ := h
    refine ⟨_, (pss_cons (ps_set (i := 1) sc_law_right.nd rfl (.inl rfl) (pe_call c__law_parts.1 (hr.mono (by decide)) rfl c__law_parts.2.1 c__law_parts.2.2.1 c__law_parts.2.2.2 .nil pass0 (pa_cons (pv 0) (pa_cons (pe_call c__law_choose.1 (hr.mono (by decide)) rfl c__law_choose.2.1 c__law_choose.2.2.1 c__law_choose.2.2.2 .nil pass0 (pa_cons (pv 0) (pa_cons (pe_lst (pa_cons pe_int (pa_cons pe_int (pa_cons pe_int pa_nil)))) pa_nil))) (pa_cons (pe_call c__law_choose.1 (hr.mono (by decide)) rfl c__law_choose.2.1 c__law_choose.2.2.1 c__law_choose.2.2.2 .nil pass0 (pa_cons (pv 0) (pa_cons (pe_lst (pa_cons pe_int (pa_cons pe_int pa_nil))) pa_nil))) pa_nil)))))
      (pss_cons (ps_for PassesOwn.never rfl (pi_range1 rfl T.range (pa_cons pe_int pa_nil)) (pg_name (i := 2) sc_law_right.nd rfl (.inl rfl))
        (pss_cons (ps_set (i := 3) sc_law_right.nd rfl (.inl rfl) (pe_callTy call_list_of (by rfl) T.list (by decide +kernel) (pa_cons (pv 1) pa_nil)))
        (pss_cons (ps_for PassesOwn.never rfl (pi_range1 rfl T.range (pa_cons pe_int pa_nil)) (pg_name (i := 4) sc_law_right.nd rfl (.inl rfl))
          (pss_one (ps_if (PW.pt (pw_and (pt_cmpR op_gt (pv 2) pe_int (nomark _)) (pw_and1 (pt_cmpR op_eq (pe_call c__law_dip.1 (hr.mono (by decide)) rfl c__law_dip.2.1 c__law_dip.2.2.1 c__law_dip.2.2.2 .nil pass0 (pa_cons (pv 0) (pa_cons pe_int pa_nil))) pe_int (nomark _))))) (pss_one (ps_asg (pe_call c__law_near.1 (hr.mono (by decide)) rfl c__law_near.2.1 c__law_near.2.2.1 c__law_near.2.2.2 .nil pass0 (pa_cons (pv 0) (pa_cons (pv 1) (pa_cons (pv 4) pa_nil)))) (pg_sub (pv 3) (pv 4) set_list))) pss_nil)))
        (pss_cons (ps_par (i := 5) (j := 6) (by rfl) sc_law_right.nd rfl rfl (by decide) rfl rfl (pa_cons (pe_callB (call_repr2 hK hgd hr.units) (by rfl) T.repr (by decide +kernel) (pa_cons (pv 3) pa_nil)) (pa_cons (pe_call c__law_is_frame.1 (hr.mono (by decide)) rfl c__law_is_frame.2.1 c__law_is_frame.2.2.1 c__law_is_frame.2.2.2 .nil pass0 (pa_cons (pe_ix ix_list (pv 3) pe_int (fun _ _ => rfl)) (pa_cons (pe_ix ix_list (pv 3) pe_int (fun _ _ => rfl)) (pa_cons (pe_ix ix_list (pv 3) pe_int (fun _ _ => rfl)) pa_nil)))) pa_nil)) (by rfl))
        (pss_one (ps_for PassesOwn.never rfl (pi_range1 rfl T.range (pa_cons pe_int pa_nil)) (pg_name (i := 7) sc_law_right.nd rfl (.inl rfl))
          (pss_cons (ps_set (i := 8) sc_law_right.nd rfl (.inl rfl) (pe_call c__law_met.1 (hr.mono (by decide)) rfl c__law_met.2.1 c__law_met.2.2.1 c__law_met.2.2.2 .nil pass0 (pa_cons (pv 3) pa_nil)))
          (pss_cons (ps_if (PW.pt (pw_or (pt_cmpR op_ne (pe_cmpR op_notN (pv 8) pe_non (nomark _)) (pv 6) (nomark _)) (pw_or1 (pt_cmpR op_ne (pe_callB (call_repr2 hK hgd hr.units) (by rfl) T.repr (by decide +kernel) (pa_cons (pv 3) pa_nil)) (pv 5) (nomark _))))) (pss_one (ps_ret pe_bl)) pss_nil)
          (pss_one (ps_if (PW.pt (pw_and (pt_val (pv 6)) (pw_and1 (pt_not (pt_val (pe_callG c__law_is_told.1 hgd (hr.mono (by decide)) rfl c__law_is_told.2.1 c__law_is_told.2.2.1 c__law_is_told.2.2.2 pass0 (pa_cons (pv 8) (pa_cons (pv 3) pa_nil)))))))) (pss_one (ps_ret pe_bl)) pss_nil))))))))))
      (pss_one (ps_ret (pe_call c__law_is_frame.1 (hr.mono (by decide)) rfl c__law_is_frame.2.1 c__law_is_frame.2.2.1 c__law_is_frame.2.2.2 .nil pass0 (pa_cons (pe_ix ix_list (pv 1) pe_int (fun _ _ => rfl)) (pa_cons (pe_ix ix_list (pv 1) pe_int (fun _ _ => rfl)) (pa_cons (pe_ix ix_list (pv 1) pe_int (fun _ _ => rfl)) pa_nil)))))))), ?_⟩
    have room : ∀ m : Nat, m ≤ 10000 → m ≤ sizeLine := fun m h => by rw [sizeLine_eq]; omega
    refine ⟨_, rfl, _, rfl, room 3 (by decide), fun l1 hl1 => ⟨p, n, _, _, rfl, hp.same (Same.upd hl1), by omega, .inl ⟨l1, rfl, hp.ne hl1, upd_same⟩, by show 1 ≤ 3; decide, by show 3 ≤ 1000; decide, fun i v H1 hv hp1 hk1 => ?_⟩⟩
    obtain ⟨t, rfl, ht0, ht1⟩ : ∃ t : Int, v = .int t ∧ 0 ≤ t ∧ t ≤ 12 := by
      have all : ∀ v ∈ ([.int 2, .int 4, .int 12] : List V), ∃ m : Int, v = .int m ∧ 0 ≤ m ∧ m ≤ 12 := (by repeat (first | exact List.forall_mem_nil _ | refine List.forall_mem_cons.mpr ⟨⟨_, rfl, by decide, by decide⟩, ?_⟩))
      exact all v (List.mem_of_getElem? hv)
    clear hv
    have hk1 : KpP p H H1 := (Kp.new hl1).trans hk1
    refine ⟨_, rfl, room 2 (by decide), fun l2 hl2 => ⟨p, n + 1, _, _, rfl, hp1.same (Same.upd hl2), by omega, .inl ⟨l2, rfl, hp1.ne hl2, upd_same⟩, by show 1 ≤ 2; decide, by show 2 ≤ 1000; decide, fun i v H2 hv hp2 hk2 => ?_⟩⟩
    obtain ⟨m, rfl, hm0, hm1⟩ : ∃ t : Int, v = .int t ∧ 0 ≤ t ∧ t ≤ 6 := by
      have all : ∀ v ∈ ([.int 2, .int 6] : List V), ∃ m : Int, v = .int m ∧ 0 ≤ m ∧ m ≤ 6 := (by repeat (first | exact List.forall_mem_nil _ | refine List.forall_mem_cons.mpr ⟨⟨_, rfl, by decide, by decide⟩, ?_⟩))
      exact all v (List.mem_of_getElem? hv)
    clear hv
    have hk2 : KpP p H H2 := hk1.trans ((Kp.new hl2).trans hk2)
    refine ⟨p, n + 2, t, m, rfl, hp2, by omega, ht0, ht1, hm0, hm1, fun R x y z ps ns us H3 hR eR good dx dy dz hp3 hk3 => ?_⟩
    have hk3 : KpP p H H3 := hk2.trans hk3
    have nRp : R ≠ p := hp2.ne hR
    obtain ⟨g1, g2, g3, gok, gnd⟩ := id good
    have r0 : Row H3 0 x := row_pairs (dx _) g1 fun q hq => ⟨gok q.1 (List.mem_append.mpr (.inl (List.mem_map.mpr ⟨q, hq, rfl⟩))), gok q.2 (List.mem_append.mpr (.inr (List.mem_append.mpr (.inl (List.mem_map.mpr ⟨q, hq, rfl⟩)))))⟩
    have r1 : Row H3 1 y := row_strs (by decide) (dy _) (by omega) fun z hz => gok z (List.mem_append.mpr (.inr (List.mem_append.mpr (.inr (List.mem_append.mpr (.inl hz))))))
    have r2 : Row H3 2 z := row_strs (by decide) (dz _) (by omega) fun z hz => gok z (List.mem_append.mpr (.inr (List.mem_append.mpr (.inr (List.mem_append.mpr (.inr hz))))))
    have rowSm : ∀ {G : Hp} {k : Int} {v : V} {ex : Addr → Prop}, Row G k v → Sm ex G 200000 v := fun h => by
      obtain ⟨a, vs, rfl, t, _, s, _⟩ := h
      exact (s.any.tup t).le (by omega)
    refine ⟨9, rfl, by decide, by decide, for_it (walk_range (lo := 0) (n := 9)) (fun i σ G => ∃ v2 v3 v4 v5 v6 v7 v8 : Option V, σ = [some (.ref p), some (.ref R), v2, v3, v4, v5, v6, v7, v8] ∧ PotAt G p (n + 402 + 1510 * i) ∧ KpP p H3 G)
      ⟨none, none, none, none, none, none, none, rfl, hp3.mono (by omega), Kp.refl⟩ (fun _ _ _ _ _ => trivial) ?_ ?_⟩
    · rintro i v σ G G' hi ⟨v2, v3, v4, v5, v6, v7, v8, rfl, hpG, kG⟩ ⟨rfl, rfl⟩
      have eRG := kG.get eR nRp
      refine ⟨_, rfl, R, _, rfl, .inl (SqL.of eRG), fun NR hNR => ?_⟩
      have nNp : NR ≠ p := hpG.ne hNR
      have oN : H3 NR = none := by
        cases e : H3 NR with
        | none => rfl
        | some o => exact absurd (by rw [e]; exact fun z => by cases z) (fresh_old kG hpG hNR)
      have kN : KpP p H3 (upd G' NR (.lst [x, y, z])) := kG.trans (Kp.new hNR)
      refine ⟨3, rfl, by decide, by decide, for_it (walk_range (lo := 0) (n := 3)) (fun j σ G => ∃ (v4 : Option V) (u0 u1 u2 : V), σ = [some (.ref p), some (.ref R), some (.int (0 + (i : Int))), some (.ref NR), v4, v5, v6, v7, v8] ∧ PotAt G p (n + 402 + 1510 * i + 502 * j) ∧ KpP p H3 G ∧ G NR = some (.lst [u0, u1, u2]) ∧
        Sm (fun a => a = p ∨ a = NR) G 200000 u0 ∧ Sm (fun a => a = p ∨ a = NR) G 200000 u1 ∧ Sm (fun a => a = p ∨ a = NR) G 200000 u2)
        ⟨v4, x, y, z, rfl, (hpG.same (Same.upd hNR)).mono (by omega), kN, upd_same, rowSm (r0.kp kN), rowSm (r1.kp kN), rowSm (r2.kp kN)⟩ (fun _ _ _ _ _ => trivial) ?_ ?_⟩
      · rintro j v σ G2 G2' hj ⟨v4', u0, u1, u2, rfl, hp2, k2, eN, s0, s1, s2⟩ ⟨rfl, hv⟩
        have hv' : v = V.int (j : Int) := hv.trans (congrArg V.int (Int.zero_add _))
        subst hv'
        clear hv
        refine ⟨_, rfl, _, _, rfl, rfl, _, rfl, ?_⟩
        by_cases hi0 : (0 : Int) < 0 + (i : Int)
        · rw [decide_eq_true hi0]
          refine iteT ⟨_, rfl, p, _, 3, rfl, hp2, by omega, by decide, by decide, fun d G3 hd0 hd1 hp3' hk3' => ⟨rfl, _, rfl, ?_⟩⟩
          have w3 : Kp (fun a => a = p ∨ a = NR) G2' G3 := hk3'.weak fun b z => .inl z
          have eN3 := hk3'.get eN nNp
          have k3 := k2.trans hk3'
          by_cases hd : d = 0
          · rw [decide_eq_true (show V.int d = V.int 0 by rw [hd])]
            refine iteT ⟨_, rfl, _, rfl, _, rfl, p, R, _, j, x, y, z, rfl, hp3', by omega, hj, k3.get eR nRp, nRp, r0.kp k3, r1.kp k3, r2.kp k3, fun vn G4 hsn hp4 hk4 => ?_⟩
            have w4 := w3.trans (hk4.weak fun b z => .inl z)
            have eN4 := hk4.get eN3 nNp
            have oldN : G3 NR ≠ none := fun q => by rw [eN3] at q; cases q
            have hsn' : Sm (fun a => a = p ∨ a = NR) G4 200000 vn := by
              obtain ⟨d, a, b⟩ := hsn
              refine ⟨d, a.mono Kp.refl (fun b hb => ?_), b⟩
              rcases hb with z | z
              · rw [z]; exact hp3'.old
              · rw [z]; exact oldN
            refine ⟨_, rfl, _, rfl, NR, _, _, j, rfl, rfl, eN4, ?_, ?_⟩
            · unfold ixN
              rcases j with _ | _ | _ | j
              · rfl
              · rfl
              · rfl
              · omega
            · have kU : ∀ {o : HO}, KpP p H3 (upd G4 NR o) := fun {o} b ob hb hn => by
                rw [upd_ne (fun z => by rw [z, oN] at hb; cases hb)]
                exact (k3.trans hk4) b ob hb hn
              have pU : ∀ {o : HO}, PotAt (upd G4 NR o) p (n + 402 + 1510 * i + 502 * (j + 1)) := fun {o} => by
                obtain ⟨x1, x2, x3, e, r⟩ := hp4
                exact PotAt.mono ⟨x1, x2, x3, by rw [upd_ne nNp.symm]; exact e, r⟩ (by omega)
              have wU : ∀ {o : HO}, Kp (fun a => a = p ∨ a = NR) G4 (upd G4 NR o) := Kp.at (.inr rfl) eN4
              have t0 := s0.kp w4
              have t1 := s1.kp w4
              have t2 := s2.kp w4
              rcases j with _ | _ | _ | j
              · exact ⟨_, vn, u1, u2, rfl, pU, kU, upd_same, hsn'.kp wU, t1.kp wU, t2.kp wU⟩
              · exact ⟨_, u0, vn, u2, rfl, pU, kU, upd_same, t0.kp wU, hsn'.kp wU, t2.kp wU⟩
              · exact ⟨_, u0, u1, vn, rfl, pU, kU, upd_same, t0.kp wU, t1.kp wU, hsn'.kp wU⟩
              · omega
          · rw [decide_eq_false (fun q : V.int d = V.int 0 => hd (by injection q))]
            exact iteF ⟨_, u0, u1, u2, rfl, hp3'.mono (by omega), k3, eN3, s0.kp w3, s1.kp w3, s2.kp w3⟩
        · rw [decide_eq_false hi0]
          exact iteF ⟨_, u0, u1, u2, rfl, hp2.mono (by omega), k2, eN, s0, s1, s2⟩
      · rintro σ G2 ⟨v4', u0, u1, u2, rfl, hp2, k2, eN, ⟨d0, a0, c0, o0, e0⟩, ⟨d1, a1, c1, o1, e1⟩, ⟨d2, a2, c2, o2, e2⟩⟩
        have okD3 : okD (.list [d0, d1, d2]) := by simp only [okD, okL]; exact ⟨o0, o1, o2, trivial⟩
        have dep3 : (PyData.list [d0, d1, d2]).depth ≤ 60 := by simp only [PyData.depth, PyData.depthAll]; omega
        have cost3 : cost (.list [d0, d1, d2]) ≤ sizeLine := by rw [sizeLine_eq]; simp only [cost, costL]; omega
        have dvN : ∀ {Y : Hp}, Same G2 Y → Dv (fun _ => False) Y (.ref NR) (.list [d0, d1, d2]) := fun m =>
          let k := Kp.same (ex := fun a => a = p ∨ a = NR) m
          Dv.lst id (m _ _ eN) (.cons ((a0.kp k).mono Kp.refl fun _ z => z.elim) (.cons ((a1.kp k).mono Kp.refl fun _ z => z.elim) (.cons ((a2.kp k).mono Kp.refl fun _ z => z.elim) .nil)))
        refine ⟨_, rfl, NR, _, rfl, dvN Same.refl, okD3, dep3, cost3, _, rfl, NR, _, 0, u0, rfl, rfl, SqL.of eN, rfl, _, rfl, NR, _, 1, u1, rfl, rfl, SqL.of eN, rfl, _, rfl, NR, _, 2, u2, rfl, rfl, SqL.of eN, rfl, _, u0, u1, u2, d0, d1, d2, rfl, a0, a1, a2, by omega, by omega, by omega, fun G4 m4 => ⟨_, _, rfl, ?_⟩⟩
        refine ⟨2, rfl, by decide, by decide, for_it (walk_range (lo := 0) (n := 2)) (fun j σ G => ∃ v7 v8 : Option V, σ = [some (.ref p), some (.ref R), some (.int (0 + (i : Int))), some (.ref NR), v4', some (.str (PyData.list [d0, d1, d2]).shown), some (.bl (frameD d0 d1 d2)), v7, v8] ∧ Same G2 G)
          ⟨v7, v8, rfl, m4⟩ (fun _ _ _ _ _ => trivial) ?_ ?_⟩
        · rintro j v σ G5 G5' hj ⟨v7', v8', rfl, m5⟩ ⟨rfl, rfl⟩
          have kk := Kp.same (ex := fun a => a = p ∨ a = NR) m5
          have same_text : (!decide (V.str (PyData.list [d0, d1, d2]).shown = V.str (PyData.list [d0, d1, d2]).shown)) = false := by rw [decide_eq_true rfl]; rfl
          refine ⟨_, rfl, NR, _, u0, u1, u2, d0, d1, d2, rfl, .inl (m5 _ _ eN), a0.kp kk, a1.kp kk, a2.kp kk, by omega, by omega, by omega, fun hf fx G6 fa m6 => ?_, fun hf G6 m6 => ?_⟩
          · refine ⟨_, rfl, rfl, _, rfl, rfl, _, rfl, ?_⟩
            rw [hf, show (!decide (V.bl (!decide (V.ref fx = V.non)) = V.bl true)) = false by rw [decide_eq_false (fun q : V.ref fx = V.non => by cases q)]; rfl]
            refine iteF ⟨_, rfl, NR, _, rfl, dvN (m5.trans m6), okD3, dep3, cost3, _, rfl, rfl, _, rfl, ?_⟩
            rw [same_text]
            refine iteF ⟨_, rfl, _, rfl, iteT ⟨_, rfl, _, rfl, fx, NR, u0, u1, u2, _, _, _, rfl, (m5.trans m6) _ _ eN, fa, fun G7 m7 => ⟨_, rfl, iteF ⟨_, _, rfl, (m5.trans m6).trans m7⟩⟩⟩⟩
          · refine ⟨_, rfl, rfl, _, rfl, rfl, _, rfl, ?_⟩
            rw [hf, show (!decide (V.bl (!decide (V.non = V.non)) = V.bl false)) = false by decide]
            refine iteF ⟨_, rfl, NR, _, rfl, dvN (m5.trans m6), okD3, dep3, cost3, _, rfl, rfl, _, rfl, ?_⟩
            rw [same_text]
            exact iteF ⟨_, rfl, _, rfl, iteF ⟨_, _, rfl, m5.trans m6⟩⟩
        · rintro σ G5 ⟨v7', v8', rfl, m5⟩
          exact ⟨_, _, _, _, _, _, _, rfl, (hp2.same m5).mono (by omega), k2.trans (Kp.same m5)⟩
    · rintro σ G ⟨v2, v3, v4, v5, v6, v7, v8, rfl, hpG, kG⟩
      have eRG := kG.get eR nRp
      refine ⟨_, rfl, R, _, 0, _, rfl, rfl, SqL.of eRG, rfl, _, rfl, R, _, 1, _, rfl, rfl, SqL.of eRG, rfl, _, rfl, R, _, 2, _, rfl, rfl, SqL.of eRG, rfl, All, x, y, z, _, _, _, rfl, (dx All).kp kG.all, (dy All).kp kG.all, (dz All).kp kG.all, ?_, ?_, ?_, fun H' sm => ?_⟩
      · have := pairs_cost (ps := ps) fun q hq => ⟨gok q.1 (List.mem_append.mpr (.inl (List.mem_map.mpr ⟨q, hq, rfl⟩))), gok q.2 (List.mem_append.mpr (.inr (List.mem_append.mpr (.inl (List.mem_map.mpr ⟨q, hq, rfl⟩)))))⟩
        simp only [cost]; omega
      · have := strs_cost (zs := ns) fun z hz => gok z (List.mem_append.mpr (.inr (List.mem_append.mpr (.inr (List.mem_append.mpr (.inl hz))))))
        simp only [cost]; omega
      · have := strs_cost (zs := us) fun z hz => gok z (List.mem_append.mpr (.inr (List.mem_append.mpr (.inr (List.mem_append.mpr (.inr hz))))))
        simp only [cost]; omega
      · rw [frameD_good good]
        exact kq H' ((hpG.same sm).mono (by omega)) ((hk3.trans kG).trans (Kp.same sm))
end
end Kx
namespace Kx
open PySem PySem.Spec PyProof.Rows L2
section
variable {X : Cx}
/-- tuple(text) -/
theorem call_tupS (hcalm : X.calm = true) : CallR X (.type "tuple") (fun xs H Q => ∃ z : Str, xs = [.str z] ∧ z.length ≤ 1000 ∧ kT (signsV z) H Q) := by
  intro pins s σ H xs us Q I r h
  obtain ⟨z, rfl, hz, q⟩ := h
  obtain ⟨u, rfl, rx⟩ := vals1 r
  obtain ⟨t, rfl⟩ := rx
  have hz' : z.length ≤ sizeLine := by rw [sizeLine_eq]; omega
  have made : codeAny (model X.prog X.w) X.A.in1 (.call (.builtin "tuple.__new__") ⟨[.type "tuple", .str z t], []⟩) (wants (fun obj s₁ => s₁.TypeIs obj "tuple" ∧ EP X pins σ Q obj s₁) X.xe) s := by
    refine codeAny_of_tree ?_
    show wpAny _ X.A.in1.in1 (checkBuiltinCall "tuple.__new__" ⟨[.type "tuple", .str z t], []⟩ >>= fun _ => again (.builtin "tuple.__new__" ⟨[.type "tuple", .str z t], []⟩)) _ _ s
    refine wpAny_bind (wpAny_of_eq (PySem.F.newCall_tuple_1 _) (wpAny_pure ⟨plainId_quiet PySem.F.plain_tuple_new _, codeAny_builtin PySem.F.entry_tuple_new ?_⟩))
    rw [Around.under_plainId PySem.F.plain_tuple_new _]
    have g1 := sub_tuple_self
    have g2 := init_tuple_lookup
    have g3 := madeHere_tuple
    have g4 : s.TypeIs (.str z t) "str" := typeIs_str _ _ _
    have gh : X.A.in1.in1.handled = none := I.ok.hd hcalm
    unfold Builtin.«tuple.__new__»
    generalize hPI : collect = PI
    wp_walk using wpAny_typeOf g4
    subst hPI
    refine wpAny_collect_str gh z t (fun s' acc hk eg ed eo hacc => ?_) hz'
    have hl : acc.toList.length = (signsV z).length := by
      unfold signsV
      rw [List.length_map, Array.length_toList, Array.length_toList]; exact hacc.1
    have hv : Vals (signsV z) acc.toList := vals_at hl fun j v e => by
      obtain ⟨c, w, e1, e2⟩ := hacc.2 j v (by rw [← Array.getElem?_toList]; exact e)
      refine ⟨.str ⟨#[c]⟩, ?_, w, e2⟩
      unfold signsV
      rw [List.getElem?_map, Array.getElem?_toList, e1]
      rfl
    have hs : (signsV z).length ≤ sizeLine := by
      unfold signsV
      rw [List.length_map, Array.length_toList]; exact hz'
    obtain ⟨h', g', d', tk, os'⟩ := s'
    obtain rfl : g' = s.gens := eg
    obtain rfl : d' = s.drawn := ed
    obtain rfl : os' = s.os := eo
    show wpAny _ _ (Builtin.Tuple.tupleExact acc.toList.toArray >>= fun v => ret v) _ _ _
    unfold Builtin.Tuple.tupleExact
    refine wpAny_bind (wpAny_newObj_type ?_ (show acc.toList.toArray.size ≤ sizeLine by rw [List.size_toArray, hl]; exact hs))
    have I1 : Inv X pins σ H { s with heap := h', toks := tk } := I.kept (t' := tk) hk
    exact wpAny_pure ⟨⟨_, Heap.get?_push_size _ rfl, rfl⟩, laidT (t' := tk) I1 hv hs (fun b ob e => Heap.get?_push_of_some _ e) (Nat.le_refl _) (Heap.get?_push_size _ rfl) q⟩
  refine callType_codes PySem.F.called_tuple (PySem.F.typeCall_tuple_1 _) PySem.F.entry_object_init made fun obj s₁ h₁ => ?_
  exact ⟨h₁.1, PySem.F.args_object_init_2 obj _, object_init_meets PySem.F.called_tuple.init.lookup PySem.F.called_tuple.made (by decide) X.prog X.w X.A.in1 _ s₁ ⟨h₁.1, rfl, h₁.2⟩⟩
end
end Kx
namespace Kx
open PySem PySem.Spec PyProof.Rows L2
def prD (c : Nat) : PyData := pairD (⟨#[c]⟩, "n")
def d12 : List PyData := ("abcdefghijkl" : Str).cps.toList.map prD
theorem sign_dv {ex : Addr → Prop} {H : Hp} {a : Addr} {z : Str} (h : TupF H a (signsV z)) : Dv ex H (.ref a) (.tuple ((z.cps.toList.map fun c => (⟨#[c]⟩ : Str)).map .str)) := by
  refine Dv.tupM h ?_
  have := DvL.strs (ex := ex) (H := H) (z.cps.toList.map fun c => (⟨#[c]⟩ : Str))
  rw [List.map_map] at this
  exact this
theorem f1 : frameD (.tuple d12) (.tuple []) (.tuple []) = true := by decide +kernel
theorem f2 : frameD (.tuple (d12 ++ [pairD ("z", "n")])) (.tuple []) (.tuple []) = false := by decide +kernel
theorem f3 : frameD (.tuple [pairD ("a", "a")]) (.tuple []) (.tuple []) = false := by decide +kernel
theorem f4 : frameD (.tuple []) (.tuple ((("abcdef" : Str).cps.toList.map fun c => (⟨#[c]⟩ : Str)).map .str)) (.tuple ((("ghijkl" : Str).cps.toList.map fun c => (⟨#[c]⟩ : Str)).map .str)) = true := by decide +kernel
theorem f5 : frameD (.tuple []) (.tuple ((("abcdefg" : Str).cps.toList.map fun c => (⟨#[c]⟩ : Str)).map .str)) (.tuple []) = false := by decide +kernel
theorem f6 : frameD (.tuple []) (.tuple []) (.tuple []) = true := by decide +kernel
section
variable {P : Program} {w : World} {K : PySem.W.Frag} {mg : Str → Option Value} {base : Heap}
theorem calG_at {x : Str} {st : Stmt} {N ps : List Str} {k : Nat} {sp : Sp} {f : Addr} {fd : FuncData} (F : FunD K x x (defArgs st) (defBody st) (defScope st) [] [] f fd) (S : FnScope N ps (defScope st)) (len : ∀ vs H Q E, sp vs H Q E → vs.length = ps.length)
    (body : ∀ (f : Addr) (cdv : Value) (A : Around) (outer : List Env) (s : Shared) (H : Hp) (vs : List V) (Q : VK) (E : XK), (A.deeper (envOfC x (defScope st) s.heap.objs.size f cdv)).guards = some [] → Room k (A.deeper (envOfC x (defScope st) s.heap.objs.size f cdv)) → sp vs H Q E →
      ∃ t, PSs (cxOf CX0 P w K mg base N x (defScope st) f cdv A outer s H E).nox (defBody st) t ∧ t { nx := fun _ H' => Q .non H', rt := Q } (start N vs) H) : FnOkG P w K mg base CX0 (k + 1) f fd ps sp :=
  okG F S len (fun cdv A outer s H vs Q E hgd hr h => let ⟨t, ht, q⟩ := body f cdv A outer s H vs Q E hgd hr h; ⟨t, PSs.nox ht, q⟩)
abbrev N_law : List Str := ["script", "at", "pot", "turn", "value", "twelve", "told", "name", "one"]
abbrev P_law : List Str := ["script"]
theorem sc_law : FnScope N_law P_law (defScope s_law) := ⟨rfl, rfl, rfl, by decide +kernel, rfl, by decide +kernel, by decide +kernel⟩
def spLaw (K : PySem.W.Frag) : Sp := fun vs H Q _ => ∃ (a : Addr) (ns : List Int), vs = [.ref a] ∧ SqL K H a (ns.map V.int) ∧ ns.length ≤ 63 ∧ ∀ H', Q (.bl true) H'
theorem ok_law {om : Obj} (hK : K.lookup sysModules = some om) (T : Bt mg) {C f0 : Addr} {fd0 : FuncData} (F0 : FunD K "law" "law" (defArgs s_law) (defBody s_law) (defScope s_law) [] [] f0 fd0) (C1 : Ca P w K mg base 1 "_law_filled" P_law_filled (spFilled K)) (C2 : Ca P w K mg base 3 "_law_name" P_law_name spName) (C3 : Ca P w K mg base 3 "_law_odd_name" P_law_odd_name spOdd)
    (C4 : Ca P w K mg base 1 "is_name" P_is_name (spJudge nameD)) (C5 : Ca P w K mg base 1 "_law_is_name" P_law_is_name (spJudge nameD)) (C6 : Ca P w K mg base 7 "_law_met" P_law_met (spMet C)) (C7 : CaG P w K mg base 8 "_law_right" P_law_right spRight) :
    FnOkG P w K mg base CX0 9 f0 fd0 P_law (spLaw K) := by
  obtain ⟨_, _, c__law_filled⟩ := C1
  obtain ⟨_, _, c__law_name⟩ := C2
  obtain ⟨_, _, c__law_odd_name⟩ := C3
  obtain ⟨_, _, c_is_name⟩ := C4
  obtain ⟨_, _, c__law_is_name⟩ := C5
  obtain ⟨_, _, c__law_met⟩ := C6
  obtain ⟨_, _, c__law_right⟩ := C7
  refine calG_at F0 sc_law (fun vs H Q E h => ?_) (fun f cdv A outer s H vs Q E hgd hr h => ?_)
  · obtain ⟨a, ns, rfl, _⟩ := h
    rfl
  · obtain ⟨a, ns, rfl, hS, hl, kq⟩ := h
    refine ⟨_, (pss_cons (ps_for PassesOwn.never rfl (pi_range1 rfl T.range (pa_cons (pe_callB (call_max2 rfl) (by rfl) T.max (by decide +kernel) (pa_cons pe_int (pa_cons (pe_callB (call_min2 rfl) (by rfl) T.min (by decide +kernel) (pa_cons pe_int (pa_cons (pe_callB call_len (by rfl) T.len (by decide +kernel) (pa_cons (pv 0) pa_nil)) pa_nil))) pa_nil))) pa_nil)) (pg_name (i := 1) sc_law.nd rfl (.inl rfl))
        (pss_cons (ps_set (i := 2) sc_law.nd rfl (.inl rfl) (pe_call c__law_filled.1 (hr.mono (by decide)) rfl c__law_filled.2.1 c__law_filled.2.2.1 c__law_filled.2.2.2 .nil pass0 (pa_cons (pv 0) (pa_cons (pv 1) pa_nil))))
        (pss_cons (ps_for PassesOwn.never rfl (pi_range1 rfl T.range (pa_cons pe_int pa_nil)) (pg_name (i := 3) sc_law.nd rfl (.inl rfl))
          (pss_cons (ps_set (i := 4) sc_law.nd rfl (.inl rfl) (pe_call c__law_odd_name.1 (hr.mono (by decide)) rfl c__law_odd_name.2.1 c__law_odd_name.2.2.1 c__law_odd_name.2.2.2 .nil pass0 (pa_cons (pv 2) (pa_cons (pe_call c__law_name.1 (hr.mono (by decide)) rfl c__law_name.2.1 c__law_name.2.2.1 c__law_name.2.2.2 .nil pass0 (pa_cons (pv 2) pa_nil)) pa_nil))))
          (pss_one (ps_if (pt_cmpR op_ne (pe_callB (call_repr2 hK hgd hr.units) (by rfl) T.repr (by decide +kernel) (pa_cons (pe_lst (pa_cons (pe_call c_is_name.1 (hr.mono (by decide)) rfl c_is_name.2.1 c_is_name.2.2.1 c_is_name.2.2.2 .nil pass0 (pa_cons (pv 4) pa_nil)) (pa_cons (pe_call c_is_name.1 (hr.mono (by decide)) rfl c_is_name.2.1 c_is_name.2.2.1 c_is_name.2.2.2 .nil pass0 (pa_cons (pv 4) pa_nil)) pa_nil))) pa_nil)) (pe_callB (call_repr2 hK hgd hr.units) (by rfl) T.repr (by decide +kernel) (pa_cons (pe_op op_rep (pe_lst (pa_cons (pe_call c__law_is_name.1 (hr.mono (by decide)) rfl c__law_is_name.2.1 c__law_is_name.2.2.1 c__law_is_name.2.2.2 .nil pass0 (pa_cons (pv 4) pa_nil)) pa_nil)) pe_int) pa_nil)) (nomark _)) (pss_one (ps_ret pe_bl)) pss_nil))))
        (pss_one (ps_if (pt_not (pt_val (pe_callG c__law_right.1 hgd (hr.mono (by decide)) rfl c__law_right.2.1 c__law_right.2.2.1 c__law_right.2.2.2 pass0 (pa_cons (pv 2) pa_nil)))) (pss_one (ps_ret pe_bl)) pss_nil)))))
      (pss_cons (ps_set (i := 5) sc_law.nd rfl (.inl rfl) (pe_callTy call_tupF (by rfl) T.tuple (by decide +kernel) (pa_cons (pe_lc (own := [("name", 7)]) (g := (gName 7)) (tt := tYes) (by rfl) sc_law.nd (pi_str pe_str) (blkOk_by (own := [("name", 7)]) (N := ["script", "at", "pot", "turn", "value", "twelve", "told", "name", "one"]) (sc := defScope s_law) (by decide +kernel)) (fun _ _ _ _ _ => pg_name (i := 7) sc_law.nd rfl (Or.inl rfl)) (fun _ _ _ _ _ => pts_nil) (fun _ _ _ _ _ => (pe_tupF (pa_cons (pv 7) (pa_cons pe_str pa_nil))))) pa_nil)))
      (pss_cons (ps_set (i := 6) sc_law.nd rfl (.inl rfl) (pe_lst (pa_cons (pe_call c__law_met.1 (hr.mono (by decide)) rfl c__law_met.2.1 c__law_met.2.2.1 c__law_met.2.2.2 .nil pass0 (pa_cons (pe_tupF (pa_cons (pv 5) (pa_cons (pe_tupF pa_nil) (pa_cons (pe_tupF pa_nil) pa_nil)))) pa_nil)) (pa_cons (pe_call c__law_met.1 (hr.mono (by decide)) rfl c__law_met.2.1 c__law_met.2.2.1 c__law_met.2.2.2 .nil pass0 (pa_cons (pe_tupF (pa_cons (pe_op op_catF (pv 5) (pe_tupF (pa_cons (pe_tupF (pa_cons pe_str (pa_cons pe_str pa_nil))) pa_nil))) (pa_cons (pe_tupF pa_nil) (pa_cons (pe_tupF pa_nil) pa_nil)))) pa_nil)) (pa_cons (pe_call c__law_met.1 (hr.mono (by decide)) rfl c__law_met.2.1 c__law_met.2.2.1 c__law_met.2.2.2 .nil pass0 (pa_cons (pe_tupF (pa_cons (pe_tupF (pa_cons (pe_tupF (pa_cons pe_str (pa_cons pe_str pa_nil))) pa_nil)) (pa_cons (pe_tupF pa_nil) (pa_cons (pe_tupF pa_nil) pa_nil)))) pa_nil)) pa_nil)))))
      (pss_cons (ps_set (i := 6) sc_law.nd rfl (.inl rfl) (pe_op op_cat (pv 6) (pe_lst (pa_cons (pe_call c__law_met.1 (hr.mono (by decide)) rfl c__law_met.2.1 c__law_met.2.2.1 c__law_met.2.2.2 .nil pass0 (pa_cons (pe_tupF (pa_cons (pe_tupF pa_nil) (pa_cons (pe_callTy (call_tupS rfl) (by rfl) T.tuple (by decide +kernel) (pa_cons pe_str pa_nil)) (pa_cons (pe_callTy (call_tupS rfl) (by rfl) T.tuple (by decide +kernel) (pa_cons pe_str pa_nil)) pa_nil)))) pa_nil)) (pa_cons (pe_call c__law_met.1 (hr.mono (by decide)) rfl c__law_met.2.1 c__law_met.2.2.1 c__law_met.2.2.2 .nil pass0 (pa_cons (pe_tupF (pa_cons (pe_tupF pa_nil) (pa_cons (pe_callTy (call_tupS rfl) (by rfl) T.tuple (by decide +kernel) (pa_cons pe_str pa_nil)) (pa_cons (pe_tupF pa_nil) pa_nil)))) pa_nil)) pa_nil)))))
      (pss_cons (ps_expr (pe_bm PySem.F.plainAttrs_list PySem.F.slot_list_append PySem.F.type_list_append mt_append (pv 6) (pa_cons (pe_call c__law_met.1 (hr.mono (by decide)) rfl c__law_met.2.1 c__law_met.2.2.1 c__law_met.2.2.2 .nil pass0 (pa_cons (pe_tupF (pa_cons (pe_tupF pa_nil) (pa_cons (pe_tupF pa_nil) (pa_cons (pe_tupF pa_nil) pa_nil)))) pa_nil)) pa_nil)))
      (pss_one (ps_ret (pe_cmpR (op_eqV hr.units) (pe_lc (own := [("one", 8)]) (g := (gName 8)) (tt := tYes) (by rfl) sc_law.nd (pi_list (pv 6)) (blkOk_by (own := [("one", 8)]) (N := ["script", "at", "pot", "turn", "value", "twelve", "told", "name", "one"]) (sc := defScope s_law) (by decide +kernel)) (fun _ _ _ _ _ => pg_name (i := 8) sc_law.nd rfl (Or.inl rfl)) (fun _ _ _ _ _ => pts_nil) (fun _ _ _ _ _ => (pe_cmpR op_isN (pv 8) pe_non (nomark _)))) (pe_lst (pa_cons pe_bl (pa_cons pe_bl (pa_cons pe_bl (pa_cons pe_bl (pa_cons pe_bl (pa_cons pe_bl pa_nil))))))) (nomark _))))))))), ?_⟩
    have room : ∀ m : Nat, m ≤ 10000 → m ≤ sizeLine := fun m h => by rw [sizeLine_eq]; omega
    have two_ok : ∀ b : Bool, okD (.list [.bool b, .bool b]) ∧ (PyData.list [.bool b, .bool b]).depth ≤ 60 ∧ cost (.list [.bool b, .bool b]) ≤ sizeLine := fun b => ⟨by simp only [okD, okL]; exact ⟨trivial, trivial, trivial⟩, by simp [PyData.depth, PyData.depthAll], by rw [sizeLine_eq]; simp only [cost, costL]; omega⟩
    refine ⟨_, rfl, _, _, rfl, .inl ⟨_, hS, rfl⟩, 6, _, rfl, 1, _, rfl, ?_⟩
    rw [List.length_map]
    generalize hM : (if (if (ns.length : Int) < 6 then (ns.length : Int) else 6) > 1 then (if (ns.length : Int) < 6 then (ns.length : Int) else 6) else 1) = M
    have hM0 : 1 ≤ M ∧ M ≤ 6 := by
      rw [← hM]
      split <;> (try split) <;> (constructor <;> (try split) <;> omega)
    clear hM
    refine ⟨M, rfl, by omega, by omega, for_it (walk_range (lo := 0) (n := M.toNat)) (fun i σ G => ∃ v1 v2 v3 v4 : Option V, σ = [some (.ref a), v1, v2, v3, v4, none, none, none, none] ∧ Same H G)
      ⟨none, none, none, none, rfl, Same.refl⟩ (fun _ _ _ _ _ => trivial) ?_ ?_⟩
    · rintro i v σ G G' hi ⟨v1, v2, v3, v4, rfl, sm⟩ ⟨rfl, rfl⟩
      refine ⟨_, rfl, _, rfl, a, ns, _, rfl, sqL_same hS sm, hl, by omega, by omega, fun p H1 hpn s1 hp1 => ?_⟩
      have back : ∀ {Y : Hp}, KpP p H1 Y → Same H Y := fun k b o e => k b o (s1 b o (sm b o e)) fun z => absurd z (ne_of_none (sm b o e) hpn)
      refine ⟨8, rfl, by decide, by decide, for_it (walk_range (lo := 0) (n := 8)) (fun j σ G => ∃ v3 v4 : Option V, σ = [some (.ref a), some (.int (0 + (i : Int))), some (.ref p), v3, v4, none, none, none, none] ∧ PotAt G p (15 * j) ∧ KpP p H1 G)
        ⟨v3, v4, rfl, hp1, Kp.refl⟩ (fun _ _ _ _ _ => trivial) ?_ ?_⟩
      · rintro j v σ G G2 hj ⟨v3', v4', rfl, hpG, kG⟩ ⟨rfl, rfl⟩
        refine ⟨_, rfl, _, rfl, p, _, rfl, hpG, by omega, fun z G3 hz hp3 hk3 => ⟨p, _, z, rfl, hp3, by omega, hz, fun vv G4 hsv hp4 hk4 => ?_⟩⟩
        obtain ⟨d, dv, c1, o1, _⟩ := hsv
        have k4 := (kG.trans hk3).trans hk4
        have dvS : ∀ {Y : Hp}, Same G4 Y → Dv (Old G3) Y vv d := fun m => dv.kp (Kp.same m)
        refine ⟨_, rfl, _, vv, d, rfl, dv, by omega, fun G5 m5 => ⟨_, rfl, _, vv, d, rfl, dvS m5, by omega, fun G6 m6 => ⟨room 2 (by decide), fun l hl => ⟨l, .list [.bool (nameD d), .bool (nameD d)], rfl, Dv.lst id upd_same (.cons (.bl _) (.cons (.bl _) .nil)), (two_ok _).1, (two_ok _).2.1, (two_ok _).2.2, ?_⟩⟩⟩⟩
        have m7 := (m5.trans m6).trans (Same.upd (o := .lst [.bl (nameD d), .bl (nameD d)]) hl)
        refine ⟨_, rfl, _, vv, d, rfl, dvS m7, by omega, fun G8 m8 => ⟨room 1 (by decide), fun l2 hl2 => ⟨l2, 2, _, rfl, rfl, upd_same, by decide, by decide, by show 1 * 2 ≤ sizeLine; decide +kernel, fun l3 hl3 => ⟨l3, .list [.bool (nameD d), .bool (nameD d)], rfl, Dv.lst id upd_same (.cons (.bl _) (.cons (.bl _) .nil)), (two_ok _).1, (two_ok _).2.1, (two_ok _).2.2, rfl, _, rfl, ?_⟩⟩⟩⟩
        rw [show (!decide (V.str (PyData.list [.bool (nameD d), .bool (nameD d)]).shown = V.str (PyData.list [.bool (nameD d), .bool (nameD d)]).shown)) = false by rw [decide_eq_true rfl]; rfl]
        exact iteF ⟨_, _, rfl, (hp4.same ((m7.trans m8).trans ((Same.upd hl2).trans (Same.upd hl3)))).mono (by omega), k4.trans (Kp.same ((m7.trans m8).trans ((Same.upd hl2).trans (Same.upd hl3))))⟩
      · rintro σ G ⟨v3', v4', rfl, hpG, kG⟩
        exact ⟨_, rfl, p, _, rfl, hpG, by omega, fun H' hp' hk' => ⟨_, rfl, iteF ⟨_, _, _, _, rfl, back (kG.trans hk')⟩⟩⟩
    · rintro σ G ⟨v1, v2, v3, v4, rfl, sm⟩
      have any : ∀ {X Y : Hp}, Same X Y → Kp All X Y := fun h => Kp.same h
      refine ⟨_, rfl, fun D hD => ?_⟩
      refine lc_it walk_str (fun i Hx => ∃ acc : List V, Hx D = some (.lst acc) ∧ Same G Hx ∧ DvL All Hx acc ((("abcdefghijkl" : Str).cps.toList.take i).map prD)) ⟨[], upd_same, Same.upd hD, .nil⟩ (fun _ _ _ _ => trivial) ?_ ?_
      · rintro i x Hx H' hi ⟨acc, eD, sx, dl⟩ ⟨rfl, c, hcc, rfl⟩
        have la := dl.len
        rw [List.length_map, List.length_take] at la
        have l12 : ("abcdefghijkl" : Str).cps.toList.length = 12 := by decide +kernel
        refine ⟨rfl, yes (⟨_, rfl, room 2 (by decide), fun t K1 m1 ht => ⟨acc, m1 _ _ eD, by rw [sizeLine_eq]; omega, acc ++ [.ref t], upd_same, fun b o e => ?_, ?_⟩⟩)⟩
        · rw [upd_ne (ne_of_none e hD)]
          exact m1 b o (sx b o e)
        · have kA : Kp All H' (upd K1 D (.lst (acc ++ [.ref t]))) := (any m1).trans (Kp.at trivial (m1 _ _ eD))
          have kB : Kp All K1 (upd K1 D (.lst (acc ++ [.ref t]))) := Kp.at trivial (m1 _ _ eD)
          rw [List.take_succ, Array.getElem?_toList, hcc, List.map_append]
          exact (dl.kp kA).app (.cons (Dv.tupM (kB.tup ht) (.cons (.str _) (.cons (.str _) .nil))) .nil)
      · rintro Hx ⟨acc, eD, sx, dl⟩
        have l12 : ("abcdefghijkl" : Str).cps.size = 12 := by decide +kernel
        rw [List.take_of_length_le (by rw [Array.length_toList]; exact Nat.le_refl _)] at dl
        have la : acc.length = 12 := by rw [dl.len]; decide +kernel
        refine ⟨D, acc, rfl, SqL.of eD, fun tw K0 m0 htw => ?_⟩
        have dl0 : DvL All K0 acc d12 := dl.kp (any m0)
        -- twelve arrays
        refine ⟨_, rfl, room 0 (by decide), fun e1 K1 q1 h1 => ⟨room 0 (by decide), fun e2 K2 q2 h2 => ⟨room 3 (by decide), fun t1 K3 q3 h3 => ?_⟩⟩⟩
        have z13 := (q1.trans q2).trans q3
        refine ⟨t1, All, _, _, _, .tuple d12, .tuple [], .tuple [], rfl, .inr h3, Dv.tupM ((any z13).tup htw) (dl0.kp (any z13)), Dv.tupM ((any (q2.trans q3)).tup h1) .nil, Dv.tupM ((any q3).tup h2) .nil, by decide +kernel, by decide +kernel, by decide +kernel, fun _ x1 K4 fa1 q4 => ?_, fun z => by rw [f1] at z; cases z⟩
        have z4 := z13.trans q4
        -- thirteen
        refine ⟨_, rfl, room 2 (by decide), fun tz K5 q5 h5 => ⟨room 1 (by decide), fun tzz K6 q6 h6 => ⟨tw, tzz, acc, _, rfl, rfl, (any ((z4.trans q5).trans q6)).tup htw, h6, by rw [la, sizeLine_eq]; show 12 + 1 ≤ 16777216; decide, fun t13 K7 q7 h7 => ⟨room 0 (by decide), fun e3 K8 q8 h8 => ⟨room 0 (by decide), fun e4 K9 q9 h9 => ⟨room 3 (by decide), fun t2 L1 q10 h10 => ?_⟩⟩⟩⟩⟩⟩
        have z79 := (q8.trans q9).trans q10
        have z10 := ((z4.trans q5).trans q6).trans (q7.trans z79)
        refine ⟨t2, All, _, _, _, .tuple (d12 ++ [pairD ("z", "n")]), .tuple [], .tuple [], rfl, .inr h10, Dv.tupM ((any z79).tup h7) ((dl0.kp (any z10)).app (.cons (Dv.tupM ((any ((q6.trans q7).trans z79)).tup h5) (.cons (.str _) (.cons (.str _) .nil))) .nil)), Dv.tupM ((any (q9.trans q10)).tup h8) .nil, Dv.tupM ((any q10).tup h9) .nil, by decide +kernel, by decide +kernel, by decide +kernel, (fun z => by rw [f2] at z; cases z), fun _ L2 q11 => ?_⟩
        -- one name twice
        refine ⟨room 2 (by decide), fun ta L3 p1 g1 => ⟨room 1 (by decide), fun tb L4 p2 g2 => ⟨room 0 (by decide), fun e5 L5 p3 g3 => ⟨room 0 (by decide), fun e6 L6 p4 g4 => ⟨room 3 (by decide), fun t3 L7 p5 g5 => ?_⟩⟩⟩⟩⟩
        refine ⟨t3, All, _, _, _, .tuple [pairD ("a", "a")], .tuple [], .tuple [], rfl, .inr g5, Dv.tupM ((any ((p3.trans p4).trans p5)).tup g2) (.cons (Dv.tupM ((any (((p2.trans p3).trans p4).trans p5)).tup g1) (.cons (.str _) (.cons (.str _) .nil))) .nil), Dv.tupM ((any (p4.trans p5)).tup g3) .nil, Dv.tupM ((any p5).tup g4) .nil, by decide +kernel, by decide +kernel, by decide +kernel, (fun z => by rw [f3] at z; cases z), fun _ L8 p6 => ⟨room 3 (by decide), fun lt hlt => ?_⟩⟩
        have eT : (upd L8 lt (.lst [.ref x1, .non, .non])) lt = some (.lst [.ref x1, .non, .non]) := upd_same
        generalize upd L8 lt (.lst [.ref x1, .non, .non]) = M0 at eT ⊢
        -- positions and values
        refine ⟨_, rfl, room 0 (by decide), fun e7 M1 p7 g7 => ⟨_, rfl, by decide +kernel, fun t6 M2 p8 g8 => ⟨_, rfl, by decide +kernel, fun t7 M3 p9 g9 => ⟨room 3 (by decide), fun t8 M4 p10 g10 => ?_⟩⟩⟩⟩
        refine ⟨t8, All, _, _, _, .tuple [], _, _, rfl, .inr g10, Dv.tupM ((any ((p8.trans p9).trans p10)).tup g7) .nil, sign_dv ((any (p9.trans p10)).tup g8), sign_dv ((any p10).tup g9), by decide +kernel, by decide +kernel, by decide +kernel, fun _ x4 M5 fa4 p11 => ?_, fun z => by rw [f4] at z; cases z⟩
        refine ⟨room 0 (by decide), fun e8 M6 p12 g12 => ⟨_, rfl, by decide +kernel, fun t9 M7 p13 g13 => ⟨room 0 (by decide), fun e9 M8 p14 g14 => ⟨room 3 (by decide), fun t10 M9 p15 g15 => ?_⟩⟩⟩⟩
        refine ⟨t10, All, _, _, _, .tuple [], _, .tuple [], rfl, .inr g15, Dv.tupM ((any ((p13.trans p14).trans p15)).tup g12) .nil, sign_dv ((any (p14.trans p15)).tup g13), Dv.tupM ((any p15).tup g14) .nil, by decide +kernel, by decide +kernel, by decide +kernel, (fun z => by rw [f5] at z; cases z), fun _ N1 p16 => ⟨room 2 (by decide), fun lt2 hlt2 => ?_⟩⟩
        have eT2 := (((((((((p7.trans p8).trans p9).trans p10).trans p11).trans p12).trans p13).trans p14).trans p15).trans p16) _ _ eT
        refine ⟨lt, lt2, _, _, rfl, rfl, (Same.upd hlt2) _ _ eT2, upd_same, room 5 (by decide), fun lt3 hlt3 => ?_⟩
        have eT3 : (upd (upd N1 lt2 (.lst [.ref x4, .non])) lt3 (.lst ([.ref x1, .non, .non] ++ [.ref x4, .non]))) lt3 = some (.lst [.ref x1, .non, .non, .ref x4, .non]) := upd_same
        generalize upd (upd N1 lt2 (.lst [.ref x4, .non])) lt3 (.lst ([.ref x1, .non, .non] ++ [.ref x4, .non])) = N2 at eT3 ⊢
        -- nothing at all
        refine ⟨_, rfl, .inl ⟨rfl, _, SqL.of eT3⟩, room 0 (by decide), fun e10 N3 r1 i1 => ⟨room 0 (by decide), fun e11 N4 r2 i2 => ⟨room 0 (by decide), fun e12 N5 r3 i3 => ⟨room 3 (by decide), fun t11 N6 r4 i4 => ?_⟩⟩⟩⟩
        refine ⟨t11, All, _, _, _, .tuple [], .tuple [], .tuple [], rfl, .inr i4, Dv.tupM ((any ((r2.trans r3).trans r4)).tup i1) .nil, Dv.tupM ((any (r3.trans r4)).tup i2) .nil, Dv.tupM ((any r4).tup i3) .nil, by decide +kernel, by decide +kernel, by decide +kernel, fun _ x6 N7 fa6 r5 => ?_, fun z => by rw [f6] at z; cases z⟩
        have eT4 := ((((r1.trans r2).trans r3).trans r4).trans r5) _ _ eT3
        refine ⟨lt3, _, _, rfl, rfl, eT4, (show 5 < sizeLine by decide +kernel), ?_⟩
        have eT5 : (upd N7 lt3 (.lst ([.ref x1, .non, .non, .ref x4, .non] ++ [.ref x6]))) lt3 = some (.lst [.ref x1, .non, .non, .ref x4, .non, .ref x6]) := upd_same
        generalize upd N7 lt3 (.lst ([.ref x1, .non, .non, .ref x4, .non] ++ [.ref x6])) = N8 at eT5 ⊢
        refine ⟨_, rfl, lt3, rfl, ⟨_, SqL.of eT5⟩, fun DD hDD => ?_⟩
        refine lc_o (walk_list (K := K) (a := lt3) (xs := [V.ref x1, V.non, V.non, V.ref x4, V.non, V.ref x6])) (fun i => [V.ref x1, V.non, V.non, V.ref x4, V.non, V.ref x6][i]?.map fun v => V.bl (decide (v = V.non))) (show 6 < sizeLine by decide +kernel) hDD (fun Hx sm => SqL.of (sm _ _ eT5)) ?_ ?_
        · rintro i v Hx H' Nx hi smx hDx ⟨rfl, hv⟩ hno hyes
          exact ⟨rfl, yes (⟨_, rfl, rfl, hyes _ (by rw [hv]; rfl) _ Same.refl⟩)⟩
        · intro Hx smx hDx
          have e := range_list [V.ref x1, V.non, V.non, V.ref x4, V.non, V.ref x6] (fun v => V.bl (decide (v = V.non)))
          have hDx2 : Hx DD = some (.lst [.bl false, .bl true, .bl true, .bl false, .bl true, .bl false]) := by
            refine hDx.trans ((congrArg (fun l => some (HO.lst l)) e).trans ?_)
            rfl
          refine ⟨room 6 (by decide), fun lf hlf => ⟨1, by decide, .inl ⟨DD, lf, _, _, rfl, rfl, SqL.of ((Same.upd hlf) _ _ hDx2), SqL.of upd_same, ?_⟩, kq _⟩⟩
          exact .cons (.inl ⟨rfl, rfl⟩) (.cons (.inl ⟨rfl, rfl⟩) (.cons (.inl ⟨rfl, rfl⟩) (.cons (.inl ⟨rfl, rfl⟩) (.cons (.inl ⟨rfl, rfl⟩) (.cons (.inl ⟨rfl, rfl⟩) .nil)))))
end
end Kx
namespace Kx
open PySem PySem.Spec PyProof.Rows L2
def dd (x : Str) (st : Stmt) : He.DefD := ⟨(x, none), x, x, defArgs st, defBody st, defScope st, [], []⟩
def dm (m q : Str) (st : Stmt) : He.DefD := ⟨("Frame", some m), m, q, defArgs st, defBody st, defScope st, [], []⟩
def fn : List He.DefD := [dd "is_name" s_is_name, dd "_are_names" s_are_names, dd "_is_array" s_is_array, dd "_are_arrays" s_are_arrays, dd "_kinds_of" s_kinds_of, dd "_with_blanks" s_with_blanks, dd "_law_filled" s_law_filled, dd "_law_dip" s_law_dip, dd "_law_choose" s_law_choose, dd "_law_name" s_law_name, dd "_law_names" s_law_names, dd "_law_parts" s_law_parts, dd "_law_lengths" s_law_lengths, dd "_law_is_name" s_law_is_name, dd "_law_is_frame" s_law_is_frame, dd "_law_odd_name" s_law_odd_name, dd "_law_near" s_law_near, dd "_law_met" s_law_met, dd "_law_is_told" s_law_is_told, dd "_law_right" s_law_right, dd "law" s_law, dm "__init__" "Frame.__init__" s_Frame_init, dm "length_of" "Frame.length_of" s_Frame_length_of, dm "kind_of" "Frame.kind_of" s_Frame_kind_of, dm "is_fresh" "Frame.is_fresh" s_Frame_is_fresh, dm "_is_of_kind" "Frame._is_of_kind" s_Frame_is_of_kind, dm "__contains__" "Frame.__contains__" s_Frame_contains, dm "__len__" "Frame.__len__" s_Frame_len, dm "__str__" "Frame.__str__" s_Frame_str]
def fa : List He.Fa := [.glo "is_name", .glo "_are_names", .glo "_is_array", .glo "_are_arrays", .glo "_kinds_of", .glo "_with_blanks", .glo "_law_filled", .glo "_law_dip", .glo "_law_choose", .glo "_law_name", .glo "_law_names", .glo "_law_parts", .glo "_law_lengths", .glo "_law_is_name", .glo "_law_is_frame", .glo "_law_odd_name", .glo "_law_near", .glo "_law_met", .glo "_law_is_told", .glo "_law_right", .glo "law", .glo "InvalidFrame", .glo "Frame", .free "KeyError", .free "ValueError", .free "abs", .free "all", .free "dict", .free "enumerate", .free "int", .free "isinstance", .free "len", .free "list", .free "max", .free "min", .free "property", .free "range", .free "repr", .free "set", .free "str", .free "sum", .free "tuple", .int "LONGEST_NAME" 8, .int "MAX_ARRAYS" 12, .int "MAX_POSITIONS" 6, .int "MAX_VALUES" 6, .cls "Frame", .noat "Frame" "_arrays", .noat "Frame" "_positions", .noat "Frame" "_amounts", .noat "Frame" "_length_by_array", .noat "Frame" "_lengths", .noat "Frame" "_kinds", .meth "Frame" "length_of", .meth "Frame" "kind_of", .meth "Frame" "is_fresh", .meth "Frame" "_is_of_kind", .meth "Frame" "__contains__", .meth "Frame" "__len__", .meth "Frame" "__str__", .mkr "Frame", .exc "InvalidFrame", .exm "InvalidFrame" "InvalidFrame" true]
def names1 : List Str := ["_wall", "copied", "is_name", "_are_names", "_is_array", "_are_arrays", "_kinds_of", "_with_blanks", "_law_filled", "_law_dip", "_law_choose", "_law_shuffled", "_law_name", "_law_names", "_law_parts", "_law_lengths", "_law_is_name", "_law_is_frame", "_law_odd_name", "_law_near"]
def names2 : List Str := ["_law_met", "_law_is_told", "_law_right", "ClaimError", "InvalidFrame", "UnknownName", "Frame", "LONGEST_NAME", "MAX_ARRAYS", "MAX_POSITIONS", "MAX_VALUES"]
/-! ### the properties -/
def pAt (K : PySem.W.Frag) (f : Str) : Addr := match PySem.W.findIn K (.ref (He.ga K "Frame")) f with
  | some (some (.ref p)) => p
  | _ => 0
def gAt (K : PySem.W.Frag) (f : Str) : Addr := match PySem.W.recIn K (pAt K f) "property" with
  | some (.ref g :: _) => g
  | _ => 0
def prB (K : PySem.W.Frag) (f q : Str) : Bool :=
  He.eqO (PySem.W.findIn K (.ref (He.ga K "Frame")) f) (some (some (.ref (pAt K f)))) && (He.eqO (PySem.W.specialIn K (.ref (pAt K f)) "__get__") (some (some (.builtin "property.__get__"))) && (decide (PySem.W.takesIn K (.ref (pAt K f)) = some true) &&
    ((match PySem.W.recIn K (pAt K f) "property" with
      | some (.ref _ :: _) => true
      | _ => false) && (match K.lookup (gAt K f) with
      | some ⟨_, _, .func fd, _⟩ => PySem.W.codeIn K fd.code q
      | _ => false))))
def prV (K : PySem.W.Frag) (f : Str) : He.FnV := match K.lookup (gAt K f) with
  | some ⟨_, _, .func fd, _⟩ => some (fd.name, fd.qualname, fd.params, fd.body, fd.scope, fd.globals, fd.closure, fd.defaults, fd.builtins)
  | _ => none
def pd : List (Str × Str × Stmt) := [("arrays", "Frame.arrays", s_Frame_arrays), ("positions", "Frame.positions", s_Frame_positions), ("amounts", "Frame.amounts", s_Frame_amounts), ("lengths", "Frame.lengths", s_Frame_lengths)]
def prW (d : Str × Str × Stmt) : He.FnV := some (d.1, d.2.1, defArgs d.2.2, .stmts (defBody d.2.2), defScope d.2.2, mainGlobals, [], .none, builtinsNs)
abbrev AlX : Type := He.AlD × (Bool × List He.FnV)
def obsX (K : PySem.W.Frag) : AlX := (He.obsD fa fn K, ((K.lookup sysModules).isSome && pd.all fun d => prB K d.1 d.2.1, pd.map fun d => prV K d.1))
def valX : AlX := (He.valD fn, (true, pd.map prW))
def obsXG (g : Addr → Option Obj) : AlX := obsX (He.frG g (sysModules :: He.asD g 6))
def hkX : PySem.W.Hook where
  α := AlX
  obs := fun s => obsXG s.heap.get?
  val := fun _ => valX
  says := fun _ h => ∃ K : PySem.W.Frag, K.In h ∧ obsX K = valX
  of := fun _ _ e => ⟨_, He.frG_in, e⟩
  keeps := fun _ _ _ ⟨K, hK, c⟩ k => ⟨K, PySem.W.Frag.In.keeps hK k, c⟩
abbrev RR : PySem.W.OpenRow := PySem.W.OpenLaw.row PySem.Challenge.rw_cellsenough_k00_names_and_frames_judged
def obX (s : PySem.W.SharedT) : AlX := obsXG (HandSHeadRun.getT s)
theorem obX_eq (s : PySem.W.SharedT) : obX s = hkX.obs s.abs := by
  have e : HandSHeadRun.getT s = s.abs.heap.get? := funext (HandSHeadRun.getT_eq s)
  show obsXG (HandSHeadRun.getT s) = obsXG s.abs.heap.get?
  rw [e]
theorem runX (w : World) : HandSHeadRun.RunEq RR (PySem.W.view RR.prog [34]) hkX obX 3000 (names1 ++ names2) w := by
  intro os
  kernel_rfl
theorem pr_of {P : Program} {w : World} {K : PySem.W.Frag} {mg : Str → Option Value} {base : Heap} (c : obsX K = valX) (i : Nat) {d : Str × Str × Stmt} (h : pd[i]? = some d) {a : Str} {p1 p2 p3 : Pos} (S : FnScope ["self"] ["self"] (defScope d.2.2))
    (bd : ∀ (kV doc pm : Value) (an : Option Addr) (cdv ct : Value) (us : List Value), us.length = 1 → bindArgs (PySem.W.fnOf d.1 d.2.1 (defArgs d.2.2) (defBody d.2.2) (defScope d.2.2) .none kV doc pm an cdv ct) ⟨us, []⟩ = pure ((["self"] : List Str).zip us))
    (hb : defBody d.2.2 = [.Return (some (.Attribute (.Name "self" p1) a p2)) p3]) (cl : Cls K (He.ga K "Frame")) (n : NoAttr K (He.ga K "Frame") a) : Pr P w K mg base (He.ga K "Frame") d.1 a := by
  have c2 : ((K.lookup sysModules).isSome && pd.all fun d => prB K d.1 d.2.1, pd.map fun d => prV K d.1) = (true, pd.map prW) := congrArg (fun z : AlX => z.2) c
  have c3 := congrArg Prod.fst c2
  have c4 := congrArg Prod.snd c2
  have e := congrArg (fun l => l[i]?) c4
  rw [List.getElem?_map, List.getElem?_map, h] at e
  have e2 : prV K d.1 = prW d := Option.some.inj e
  have c5 := List.all_eq_true.mp (He.ba c3).2 d (List.mem_of_getElem? h)
  obtain ⟨b1, c5⟩ := He.ba c5
  obtain ⟨b2, c5⟩ := He.ba c5
  obtain ⟨b3, c5⟩ := He.ba c5
  obtain ⟨b4, b5⟩ := He.ba c5
  have hrec : ∃ rest, PySem.W.recIn K (pAt K d.1) "property" = some (.ref (gAt K d.1) :: rest) := by
    cases q : PySem.W.recIn K (pAt K d.1) "property" with
    | none => rw [q] at b4; cases b4
    | some vs =>
      rw [q] at b4
      cases vs with
      | nil => cases b4
      | cons v r =>
        cases v with
        | ref g => exact ⟨r, by unfold gAt; rw [q]⟩
        | _ => cases b4
  have P0 : PropOf K (He.ga K "Frame") d.1 (pAt K d.1) (gAt K d.1) := ⟨He.eqO_ok b1, He.eqO_ok b2, of_decide_eq_true b3, hrec⟩
  unfold prV prW at e2
  cases q : K.lookup (gAt K d.1) with
  | none => rw [q] at b5; cases b5
  | some o =>
    obtain ⟨oc, od, dt, osl⟩ := o
    rw [q] at b5 e2
    cases dt with
    | func fd =>
      obtain ⟨n1, n2, n3, n4, n5, n6, n7, n8, n9, n10, n11, n12, n13, n14, n15⟩ := fd
      have e3 : (some (n1, n2, n3, n4, n5, n6, n7, n8, n15) : He.FnV) = some (d.1, d.2.1, defArgs d.2.2, .stmts (defBody d.2.2), defScope d.2.2, mainGlobals, [], .none, builtinsNs) := e2
      simp only [Option.some.injEq, Prod.mk.injEq] at e3
      obtain ⟨h1, h2, h3, h4, h5, h6, h7, h8, h9⟩ := e3
      subst h1 h2 h3 h4 h5 h6 h7 h8 h9
      exact ⟨pAt K d.1, gAt K d.1, _, P0, fn_getter (f := a) q b5 S rfl hb cl n, Binds.all fun us hl => bd _ _ _ _ _ _ us hl⟩
    | _ => cases b5
theorem facts {P : Program} {w : World} {K : PySem.W.Frag} {h : Heap} {mg : Str → Option Value} {f : Addr} (X : K.In h) (G : h.Ns mainGlobals mg) (hfa : mg ("law" : Str) = some (.ref f)) (c : obsX K = valX) :
    ∃ fd : FuncData, (∀ (s : Shared) (v : Value), BindsTo s fd ⟨[v], []⟩ [("script", v)]) ∧ ∀ base : Heap, K.In base → base.Ns mainGlobals mg → FnOkG P w K mg base CX0 9 f fd ["script"] (spLaw K) := by
  have cD : He.SaysD fa fn K := congrArg (fun z : AlX => z.1) c
  have c3 : ((K.lookup sysModules).isSome && pd.all fun d => prB K d.1 d.2.1) = true := congrArg (fun z : AlX => z.2.1) c
  obtain ⟨om, hK⟩ := Option.isSome_iff_exists.mp (He.ba c3).1
  have T : Bt mg := ⟨He.free_ok X G (cD.fact 25 (f := .free "abs") rfl), He.free_ok X G (cD.fact 26 (f := .free "all") rfl), He.free_ok X G (cD.fact 27 (f := .free "dict") rfl), He.free_ok X G (cD.fact 28 (f := .free "enumerate") rfl), He.free_ok X G (cD.fact 29 (f := .free "int") rfl), He.free_ok X G (cD.fact 30 (f := .free "isinstance") rfl), He.free_ok X G (cD.fact 31 (f := .free "len") rfl), He.free_ok X G (cD.fact 32 (f := .free "list") rfl), He.free_ok X G (cD.fact 33 (f := .free "max") rfl), He.free_ok X G (cD.fact 34 (f := .free "min") rfl), He.free_ok X G (cD.fact 36 (f := .free "range") rfl), He.free_ok X G (cD.fact 37 (f := .free "repr") rfl), He.free_ok X G (cD.fact 38 (f := .free "set") rfl), He.free_ok X G (cD.fact 39 (f := .free "str") rfl), He.free_ok X G (cD.fact 40 (f := .free "sum") rfl), He.free_ok X G (cD.fact 41 (f := .free "tuple") rfl)⟩
  have Co_ : Co mg := ⟨He.int_ok X G (cD.fact 42 (f := .int "LONGEST_NAME" 8) rfl), He.int_ok X G (cD.fact 43 (f := .int "MAX_ARRAYS" 12) rfl), He.int_ok X G (cD.fact 44 (f := .int "MAX_POSITIONS" 6) rfl), He.int_ok X G (cD.fact 45 (f := .int "MAX_VALUES" 6) rfl)⟩
  have X0 : Fx K mg (He.ga K "Frame") := ⟨He.cls_ok (cD.fact 46 (f := .cls "Frame") rfl), He.noat_ok (cD.fact 47 (f := .noat "Frame" "_arrays") rfl), He.noat_ok (cD.fact 48 (f := .noat "Frame" "_positions") rfl), He.noat_ok (cD.fact 49 (f := .noat "Frame" "_amounts") rfl), He.noat_ok (cD.fact 50 (f := .noat "Frame" "_length_by_array") rfl), He.noat_ok (cD.fact 51 (f := .noat "Frame" "_lengths") rfl), He.noat_ok (cD.fact 52 (f := .noat "Frame" "_kinds") rfl), He.glo_ok X G (cD.fact 22 (f := .glo "Frame") rfl)⟩
  obtain ⟨x1, x2, x3, x4⟩ := He.exc_ok (cD.fact 61 (f := .exc "InvalidFrame") rfl)
  have XI : Ex K mg (He.ga K "InvalidFrame") := ⟨He.glo_ok X G (cD.fact 21 (f := .glo "InvalidFrame") rfl), x1, x2, x3, x4⟩
  have hI := He.exm_ok (cD.fact 62 (f := .exm "InvalidFrame" "InvalidFrame" true) rfl)
  have M := He.mkr_ok (cD.fact 60 (f := .mkr "Frame") rfl)
  obtain ⟨fd0, F0⟩ := cD.def_ 21 (d := dm "__init__" "Frame.__init__" s_Frame_init) rfl
  obtain ⟨fdL, FL⟩ := cD.def_ 20 (d := dd "law" s_law) rfl
  have eL := hfa.symm.trans (He.glo_ok X G (cD.fact 20 (f := .glo "law") rfl))
  cases eL
  have b0 : Binds K fd0 P_Frame_init [] := FunD.bindsN F0 fun _ _ _ _ _ _ us hl => match us, hl with | [_, _, _, _], _ => rfl
  have bL := FunD.bindsA (ps := ["script"]) FL fun _ _ _ _ _ _ us hl => match us, hl with | [_], _ => rfl
  refine ⟨fdL, fun s v => bL s [v] rfl, fun base kb nb => ?_⟩
  have hDip := ok_dip (P := P) (w := w) (K := K) (mg := mg) (base := base) T ⟨_, _, (cD.def_ 7 (d := dd "_law_dip" s_law_dip) rfl).choose_spec, He.glo_ok X G (cD.fact 7 (f := .glo "_law_dip") rfl)⟩
  have hFil := ok_filled (P := P) (w := w) (K := K) (mg := mg) (base := base) T ⟨_, _, (cD.def_ 6 (d := dd "_law_filled" s_law_filled) rfl).choose_spec, He.glo_ok X G (cD.fact 6 (f := .glo "_law_filled") rfl)⟩
  have hCho := ok_choose T ⟨_, _, (cD.def_ 8 (d := dd "_law_choose" s_law_choose) rfl).choose_spec, He.glo_ok X G (cD.fact 8 (f := .glo "_law_choose") rfl)⟩ hDip
  have hNam := ok_name T ⟨_, _, (cD.def_ 9 (d := dd "_law_name" s_law_name) rfl).choose_spec, He.glo_ok X G (cD.fact 9 (f := .glo "_law_name") rfl)⟩ hDip hCho
  have hNms := ok_names T ⟨_, _, (cD.def_ 10 (d := dd "_law_names" s_law_names) rfl).choose_spec, He.glo_ok X G (cD.fact 10 (f := .glo "_law_names") rfl)⟩ hNam
  have hLen := ok_lengths (P := P) (w := w) (K := K) (mg := mg) (base := base) T ⟨_, _, (cD.def_ 12 (d := dd "_law_lengths" s_law_lengths) rfl).choose_spec, He.glo_ok X G (cD.fact 12 (f := .glo "_law_lengths") rfl)⟩
  have hPar := ok_parts T ⟨_, _, (cD.def_ 11 (d := dd "_law_parts" s_law_parts) rfl).choose_spec, He.glo_ok X G (cD.fact 11 (f := .glo "_law_parts") rfl)⟩ hDip hNms
  have hIsn := ok_is_name (P := P) (w := w) (K := K) (mg := mg) (base := base) T Co_ ⟨_, _, (cD.def_ 0 (d := dd "is_name" s_is_name) rfl).choose_spec, He.glo_ok X G (cD.fact 0 (f := .glo "is_name") rfl)⟩
  have hAre := ok_are_names T ⟨_, _, (cD.def_ 1 (d := dd "_are_names" s_are_names) rfl).choose_spec, He.glo_ok X G (cD.fact 1 (f := .glo "_are_names") rfl)⟩ hIsn
  have hArr := ok_is_array T ⟨_, _, (cD.def_ 2 (d := dd "_is_array" s_is_array) rfl).choose_spec, He.glo_ok X G (cD.fact 2 (f := .glo "_is_array") rfl)⟩ hAre
  have hArs := ok_are_arrays T Co_ ⟨_, _, (cD.def_ 3 (d := dd "_are_arrays" s_are_arrays) rfl).choose_spec, He.glo_ok X G (cD.fact 3 (f := .glo "_are_arrays") rfl)⟩ hArr
  have hKin := ok_kinds (P := P) (w := w) (K := K) (mg := mg) (base := base) T ⟨_, _, (cD.def_ 4 (d := dd "_kinds_of" s_kinds_of) rfl).choose_spec, He.glo_ok X G (cD.fact 4 (f := .glo "_kinds_of") rfl)⟩
  have hBla := ok_blanks (P := P) (w := w) (K := K) (mg := mg) (base := base) T ⟨_, _, (cD.def_ 5 (d := dd "_with_blanks" s_with_blanks) rfl).choose_spec, He.glo_ok X G (cD.fact 5 (f := .glo "_with_blanks") rfl)⟩
  have hIni := ok_init T Co_ F0 X0 XI hArs hAre hKin
  have mKind := ok_kind (P := P) (w := w) (K := K) (mg := mg) (base := base) T X0 ⟨_, _, (cD.def_ 25 (d := dm "_is_of_kind" "Frame._is_of_kind" s_Frame_is_of_kind) rfl).choose_spec, He.meth_ok (cD.fact 56 (f := .meth "Frame" "_is_of_kind") rfl)⟩
  have mHas := ok_contains (P := P) (w := w) (K := K) (mg := mg) (base := base) T X0 ⟨_, _, (cD.def_ 26 (d := dm "__contains__" "Frame.__contains__" s_Frame_contains) rfl).choose_spec, He.meth_ok (cD.fact 57 (f := .meth "Frame" "__contains__") rfl)⟩
  have mFre := ok_fresh T X0 ⟨_, _, (cD.def_ 24 (d := dm "is_fresh" "Frame.is_fresh" s_Frame_is_fresh) rfl).choose_spec, He.meth_ok (cD.fact 55 (f := .meth "Frame" "is_fresh") rfl)⟩ hIsn
  have mKof := ok_kind_of T X0 ⟨_, _, (cD.def_ 23 (d := dm "kind_of" "Frame.kind_of" s_Frame_kind_of) rfl).choose_spec, He.meth_ok (cD.fact 54 (f := .meth "Frame" "kind_of") rfl)⟩ mHas
  have mLof := ok_length_of T X0 ⟨_, _, (cD.def_ 22 (d := dm "length_of" "Frame.length_of" s_Frame_length_of) rfl).choose_spec, He.meth_ok (cD.fact 53 (f := .meth "Frame" "length_of") rfl)⟩ mKind
  have mLen := ok_len (P := P) (w := w) (K := K) (mg := mg) (base := base) T X0 ⟨_, _, (cD.def_ 27 (d := dm "__len__" "Frame.__len__" s_Frame_len) rfl).choose_spec, He.meth_ok (cD.fact 58 (f := .meth "Frame" "__len__") rfl)⟩
  have mStr := ok_str T X0 ⟨_, _, (cD.def_ 28 (d := dm "__str__" "Frame.__str__" s_Frame_str) rfl).choose_spec, He.meth_ok (cD.fact 59 (f := .meth "Frame" "__str__") rfl)⟩ hBla
  have hLin := ok_law_is_name (P := P) (w := w) (K := K) (mg := mg) (base := base) T ⟨_, _, (cD.def_ 13 (d := dd "_law_is_name" s_law_is_name) rfl).choose_spec, He.glo_ok X G (cD.fact 13 (f := .glo "_law_is_name") rfl)⟩
  have hFra := ok_is_frame T ⟨_, _, (cD.def_ 14 (d := dd "_law_is_frame" s_law_is_frame) rfl).choose_spec, He.glo_ok X G (cD.fact 14 (f := .glo "_law_is_frame") rfl)⟩ hLin hLen
  have hOdd := ok_odd T ⟨_, _, (cD.def_ 15 (d := dd "_law_odd_name" s_law_odd_name) rfl).choose_spec, He.glo_ok X G (cD.fact 15 (f := .glo "_law_odd_name") rfl)⟩ hDip hCho
  have hNea := ok_near T ⟨_, _, (cD.def_ 16 (d := dd "_law_near" s_law_near) rfl).choose_spec, He.glo_ok X G (cD.fact 16 (f := .glo "_law_near") rfl)⟩ hDip hCho hNam hNms hOdd
  have hMet := ok_met T ⟨_, _, (cD.def_ 17 (d := dd "_law_met" s_law_met) rfl).choose_spec, He.glo_ok X G (cD.fact 17 (f := .glo "_law_met") rfl)⟩ X0 XI hI M hIni b0
  have p0 := pr_of (P := P) (w := w) (K := K) (mg := mg) (base := base) c 0 (d := ("arrays", "Frame.arrays", s_Frame_arrays)) rfl ⟨rfl, rfl, rfl, by decide +kernel, rfl, by decide +kernel, by decide +kernel⟩ (fun _ _ _ _ _ _ us hl => match us, hl with | [_], _ => rfl) rfl X0.cl X0.n1
  have p1 := pr_of (P := P) (w := w) (K := K) (mg := mg) (base := base) c 1 (d := ("positions", "Frame.positions", s_Frame_positions)) rfl ⟨rfl, rfl, rfl, by decide +kernel, rfl, by decide +kernel, by decide +kernel⟩ (fun _ _ _ _ _ _ us hl => match us, hl with | [_], _ => rfl) rfl X0.cl X0.n2
  have p2 := pr_of (P := P) (w := w) (K := K) (mg := mg) (base := base) c 2 (d := ("amounts", "Frame.amounts", s_Frame_amounts)) rfl ⟨rfl, rfl, rfl, by decide +kernel, rfl, by decide +kernel, by decide +kernel⟩ (fun _ _ _ _ _ _ us hl => match us, hl with | [_], _ => rfl) rfl X0.cl X0.n3
  have p3 := pr_of (P := P) (w := w) (K := K) (mg := mg) (base := base) c 3 (d := ("lengths", "Frame.lengths", s_Frame_lengths)) rfl ⟨rfl, rfl, rfl, by decide +kernel, rfl, by decide +kernel, by decide +kernel⟩ (fun _ _ _ _ _ _ us hl => match us, hl with | [_], _ => rfl) rfl X0.cl X0.n5
  have hTol := ok_told hK T X0 ⟨_, _, (cD.def_ 18 (d := dd "_law_is_told" s_law_is_told) rfl).choose_spec, He.glo_ok X G (cD.fact 18 (f := .glo "_law_is_told") rfl)⟩ hLen p0 p1 p2 p3 mKof mHas mFre mLof mStr mLen
  have hRig := ok_right hK T ⟨_, _, (cD.def_ 19 (d := dd "_law_right" s_law_right) rfl).choose_spec, He.glo_ok X G (cD.fact 19 (f := .glo "_law_right") rfl)⟩ hDip hCho hPar hNea hFra hMet hTol
  exact ok_law hK T FL hFil hNam hOdd hIsn hLin hMet hRig
end Kx
open PySem PySem.W PySem.Calls PyProof.Rows
theorem PySem.Challenge.cw_cellsenough_k00_names_and_frames_judged_holds : PySem.Challenge.rw_cellsenough_k00_names_and_frames_judged.Holds := by
  w_on; o_law
  refine HandSHeadRun.head_any (r := OpenLaw.row PySem.Challenge.rw_cellsenough_k00_names_and_frames_judged) (q := view (OpenLaw.row PySem.Challenge.rw_cellsenough_k00_names_and_frames_judged).prog [34]) (H := Kx.hkX) (ob := Kx.obX) (M := 3000) (loose := Kx.names1 ++ Kx.names2) (d := HandSHeadRun.topDef (OpenLaw.row PySem.Challenge.rw_cellsenough_k00_names_and_frames_judged).prog 34) (kwd := []) Kx.obX_eq
    (by kernel_rfl) (fun s => by kernel_rfl) Kx.runX (by kernel_rfl) (by kernel_rfl) (by kernel_rfl) (by rfl) (by first | assumption | decide +kernel) (by decide +kernel) ⟨rfl, rfl, rfl, rfl, rfl, by decide +kernel⟩ ?hw ?hc
  case hw => w_witness2
  case hc =>
    refine Kx.walk_ofG (l := PySem.Challenge.rw_cellsenough_k00_names_and_frames_judged) (n := 63) (k := 9) (x := "script") rfl (by decide) (by kernel_rfl) ⟨rfl, by decide, by decide⟩ ?F
    intro w mg fa h Y G hmg0
    obtain ⟨K, KX, c⟩ := Y
    have hmg : mg ("law" : PySem.Str) = some (.ref fa) := by
      have e : (HandSHeadRun.topDef (OpenLaw.row PySem.Challenge.rw_cellsenough_k00_names_and_frames_judged).prog 34).name = ("law" : PySem.Str) := by kernel_rfl
      rw [← e]
      exact hmg0
    obtain ⟨fd, hb, hF⟩ := Kx.facts (P := (PySem.Challenge.rw_cellsenough_k00_names_and_frames_judged).prog) (w := w) KX G hmg c
    exact ⟨K, fd, Kx.spLaw K, KX, hb, fun H a ns hl _ hS => ⟨a, ns, rfl, hS, hl, fun _ => rfl⟩, hF⟩
