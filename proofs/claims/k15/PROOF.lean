import PyProof.Rows.All
import Wide.All
import OpenK.AllK
import Wide.FinOn
import PyProof.ListStr
import PyProof.SliceStr2
import KE.KRevSl
import HandS.ForMost
import HandS.Style
import HandS.Wide
import PySem.Challenge.RW_growntexts_k15_rows_joined
set_option Elab.async false
set_option linter.all false
set_option maxRecDepth 100000
namespace My
open PySem PySem.Spec PyProof.Rows L2
section
variable {X : Cx}
/-- the signs of a text, each a text -/
def sgn (z : Str) : List V := z.cps.toList.map fun c => V.str ⟨#[c]⟩
theorem sgn_len (z : Str) : (sgn z).length = z.length := by
  unfold sgn
  rw [List.length_map, Array.length_toList]
  rfl
/-- list(z), z a text -/
theorem cr_listStr (hc : X.calm = true) : CallR X (.type "list") (fun xs H Q => ∃ z : Str, xs = [.str z] ∧ z.length ≤ sizeLine ∧ ∀ l, H l = none → Q (.ref l) (upd H l (.lst (sgn z)))) := by
  intro pins s σ H xs us Q I r h
  obtain ⟨z, rfl, hz, q⟩ := h
  obtain ⟨u, rfl, t, rfl⟩ := vals1 r
  refine PySem.call_list_str (I.ok.hd hc) z t (hn := hz) fun h' tk acc c' kp hg hi => ?_
  have e1 : acc.size = z.cps.size := hi.1
  have hv : Vals (sgn z) acc.toList := by
    have gen : ∀ (cs : List Nat) (us : List Value), us.length = cs.length → (∀ (j : Nat) (v : Value), us[j]? = some v → ∃ c w, cs[j]? = some c ∧ v = Value.str ⟨#[c]⟩ w) → Vals (cs.map fun c => V.str ⟨#[c]⟩) us := by
      intro cs
      induction cs with
      | nil =>
        intro us hl _
        cases us with
        | nil => exact .nil
        | cons a b => cases hl
      | cons c cs ih =>
        intro us hl hx
        cases us with
        | nil => cases hl
        | cons a b =>
          refine .cons ?_ (ih b (Nat.succ.inj hl) fun j v e => hx (j + 1) v (by simpa using e))
          obtain ⟨c', w, e2, e3⟩ := hx 0 a rfl
          have e4 : c = c' := Option.some.inj e2
          subst e4
          exact ⟨w, e3⟩
    refine gen z.cps.toList acc.toList (by rw [Array.length_toList, Array.length_toList, e1]) fun j v e => ?_
    obtain ⟨c, w, h1, h2⟩ := hi.2 j v (by simpa using e)
    exact ⟨c, w, by simpa using h1, h2⟩
  refine ⟨.ref s.heap.objs.size, _, I.laid (t' := tk) kp (Nat.le_refl _) (show ObjOk X.prog X.w _ h' _ (.lst (sgn z)) from ⟨by rw [sgn_len]; exact hz, acc.toList, c', hv, by simpa using hg⟩), rfl, q _ (I.hok.fresh (Nat.le_refl _))⟩
/-- repr(z), z a text -/
theorem cr_reprStr : CallR X (.builtin "repr") (fun xs H Q => ∃ z : Str, xs = [.str z] ∧ (reprText z).length ≤ sizeLine ∧ Q (.str (reprText z)) H) := by
  intro pins s σ H xs us Q I r h
  obtain ⟨z, rfl, hz, q⟩ := h
  obtain ⟨u, rfl, t, rfl⟩ := vals1 r
  exact PySem.P.repr_of_str (hsz := hz) ⟨.str _, H, I.tok _, ⟨_, rfl⟩, q⟩
/-- a text turned about -/
def revS (z : Str) : Str := ⟨z.cps.toList.reverse.toArray⟩
theorem back_ix (n : Nat) : Builtin.Str.strSliceIndices none none (-1) n = (List.range n).reverse := by
  unfold Builtin.Str.strSliceIndices
  show sliceRange ((n : Int) - 1) (-1) (-1) = _
  rw [PySem.W.krv_sliceRange, PySem.W.krv_range]
theorem back_all (z : Str) : ((List.range z.length).reverse.filterMap (z.cps[·]?)).toArray = z.cps.toList.reverse.toArray := by
  rw [List.filterMap_reverse]
  show ((List.range z.cps.size).filterMap (z.cps[·]?)).reverse.toArray = _
  rw [PySem.W.krv_all]
def tRevS (te : TE) (ts : TE) : TE := fun σ H Q => te σ H fun x H1 => ts σ H1 fun y H2 => y = .int (-1) ∧ ∃ z : Str, x = .str z ∧ z.length ≤ sizeLine ∧ Q (.str (revS z)) H2
/-- z[::k], k reckoned, -1 -/
theorem pe_revS {e st : Expr} {te ts : TE} {p3 pos : Pos} (he : PE X e te) (hs : PE X st ts)
    (hsub : ∀ v i, ∃ ops, subscripted (.Slice none none (some st) p3) false v i = operate ops (getItem v i) := by intro v i; exact ⟨_, rfl⟩) :
    PE X (.Subscript e (.Slice none none (some st) p3) pos) (tRevS te ts) := by
  refine ⟨fun pins s σ H Q I h => ?_⟩
  refine Subscript_ (thn (he.run pins s σ H _ I h) fun v s1 ⟨x, H1, I1, r1, q1⟩ => ?_)
  have hst : PO X (some st) (tPart ts) := po_some hs
  refine wpAny_Slice (thn (po_none.run pins s1 σ H1 (fun o H2 => o = none ∧ H2 = H1) I1 ⟨rfl, rfl⟩) fun vl s2 ⟨l, H2, I2, pl, el, e2⟩ => ?_)
  subst el e2
  refine thn (po_none.run pins s2 σ H2 (fun o H3 => o = none ∧ H3 = H2) I2 ⟨rfl, rfl⟩) fun vu s3 ⟨u, H3, I3, pu, eu, e3⟩ => ?_
  subst eu e3
  have exn : ∀ (y : V) (H4 : Hp), (y = .int (-1) ∧ ∃ z : Str, x = .str z ∧ z.length ≤ sizeLine ∧ Q (.str (revS z)) H4) → ∃ i, y = .int i ∧ (i = -1 ∧ ∃ z : Str, x = .str z ∧ z.length ≤ sizeLine ∧ Q (.str (revS z)) H4) := fun y H4 q => ⟨-1, q.1, rfl, q.2⟩
  rw [evalPart_some]
  refine thn (hs.run pins s3 σ H3 _ I3 q1) fun vs s4 ⟨y, H4, I4, ry, ey, z, ez, hz, q⟩ => ?_
  subst ey ez
  obtain ⟨t, rfl⟩ := r1
  obtain ⟨ty, rfl⟩ := ry
  obtain ⟨l', rfl, hl'⟩ := IsPart.raw pl
  obtain ⟨u', rfl, hu'⟩ := IsPart.raw pu
  have el : l' = none := by cases l' <;> first | rfl | cases hl'
  have eu : u' = none := by cases u' <;> first | rfl | cases hu'
  subst el eu
  have I5 : Inv X pins σ H4 { s4 with heap := s4.heap.push { cls := .type "slice", data := .fields #[partValue none, partValue none, .int (-1) ty] } } := I4.kept (t' := s4.toks) fun b ob q => Heap.get?_push_of_some _ q
  show wpAny (model X.prog X.w) X.A (subscriptTail e (.Slice none none (some st) p3) (.str z t) (.ref s4.heap.objs.size)) (EP X pins σ Q) X.xe { s4 with heap := s4.heap.push { cls := .type "slice", data := .fields #[partValue none, partValue none, .int (-1) ty] } }
  obtain ⟨ops, hops⟩ := hsub (.str z t) (.ref s4.heap.objs.size)
  refine tail_any (ops := ops) (typeIs_str _ _ _) (F.slot_str_getitem.lookup) ?_ hops
  refine wpAny_getItem_str_slice (l := none) (u := none) (st := some (-1, ty)) (Heap.IsSliceOf.new _ _ _ _) rfl ?_
  unfold sliceMade slicePicked
  show Made.post (if ((-1 : Int) == 1 && (Builtin.Str.strSliceIndices none none (-1) z.length).length == z.length) = true then Made.val (.str z t) else Made.str ⟨((Builtin.Str.strSliceIndices none none (-1) z.length).filterMap (z.cps[·]?)).toArray⟩) (EP X pins σ Q) _
  rw [if_neg (by simp), back_ix, back_all]
  have hl : (revS z).length ≤ sizeLine := by
    show (z.cps.toList.reverse.toArray).size ≤ sizeLine
    rw [List.size_toArray, List.length_reverse]
    exact hz
  exact ⟨hl, .str (revS z), H4, I5.tok _, ⟨_, rfl⟩, q⟩
end
end My
namespace My
open PySem PySem.Spec PyProof.Rows L2
/-- a new object changes nothing that stands -/
theorem same_upd {H : Hp} {p : Addr} {o : HO} (h : H p = none) : Same H (upd H p o) := fun b x e => by
  rw [upd_ne (ne_of_none e h)]
  exact e
theorem Same.tup {K : PySem.W.Frag} {H H' : Hp} {a : Addr} {xs : List V} (e : Same H H') (h : SqT K H a xs) : SqT K H' a xs := by
  rcases h with (h | ⟨o, h⟩) | h
  · exact .inl (.inl (e _ _ h))
  · exact .inl (.inr ⟨o, e _ _ h⟩)
  · exact .inr h
/-- the box of the draws: two whole numbers -/
def B2 (H : Hp) (b : Addr) : Prop := ∃ g r : Int, H b = some (.lst [.int g, .int r])
/-- behind some draws: all but the box stands as it stood, the box holds two whole numbers -/
structure Dr (b : Addr) (H H' : Hp) : Prop where
  kp : ∀ a o, a ≠ b → H a = some o → H' a = some o
  bx : B2 H' b
theorem Dr.trans {b : Addr} {H H1 H2 : Hp} (x : Dr b H H1) (y : Dr b H1 H2) : Dr b H H2 := ⟨fun a o n e => y.kp a o n (x.kp a o n e), y.bx⟩
theorem Dr.refl {b : Addr} {H : Hp} (x : B2 H b) : Dr b H H := ⟨fun _ _ _ e => e, x⟩
theorem Dr.same {b : Addr} {H H1 : Hp} (x : B2 H b) (y : Same H H1) : Dr b H H1 := ⟨fun a o _ e => y a o e, let ⟨g, r, e⟩ := x; ⟨g, r, y _ _ e⟩⟩
theorem Dr.put {b : Addr} {H : Hp} (g r : Int) : Dr b H (upd H b (.lst [.int g, .int r])) := ⟨fun a o n e => by rw [upd_ne n]; exact e, g, r, upd_same⟩
theorem Dr.free {b p : Addr} {H H' : Hp} (x : Dr b H H') (h : H' p = none) : H p = none := by
  cases q : H p with
  | none => rfl
  | some o =>
    by_cases e : p = b
    · obtain ⟨g, r, z⟩ := x.bx
      rw [e, z] at h
      cases h
    · rw [x.kp p o e q] at h
      cases h
theorem Dr.sqL {K : PySem.W.Frag} {b a : Addr} {H H' : Hp} {xs : List V} (x : Dr b H H') (n : a ≠ b) (h : SqL K H a xs) : SqL K H' a xs := by
  rcases h with (h | ⟨o, h⟩) | h
  · exact .inl (.inl (x.kp _ _ n h))
  · exact .inl (.inr ⟨o, x.kp _ _ n h⟩)
  · exact .inr h
theorem Dr.sqT {K : PySem.W.Frag} {b a : Addr} {H H' : Hp} {xs : List V} (x : Dr b H H') (n : a ≠ b) (h : SqT K H a xs) : SqT K H' a xs := by
  rcases h with (h | ⟨o, h⟩) | h
  · exact .inl (.inl (x.kp _ _ n h))
  · exact .inl (.inr ⟨o, x.kp _ _ n h⟩)
  · exact .inr h
/-- a new address is not the box -/
theorem B2.ne {b p : Addr} {H : Hp} (x : B2 H b) (h : H p = none) : p ≠ b := fun e => by
  obtain ⟨g, r, z⟩ := x
  rw [e, z] at h
  cases h
theorem str_ext {a b : Str} (h : a.cps.toList = b.cps.toList) : a = b := by
  cases a with | mk x => cases b with | mk y =>
  exact congrArg Str.mk (Array.toList_inj.mp h)
/-- joined without a sign between -/
theorem join_nil : ∀ ys : List Str, (Txt.join ⟨#[]⟩ ys).cps.toList = (ys.map fun y => y.cps.toList).flatten := by
  have gen : ∀ ys : List Str, (Str.join ⟨#[]⟩ ys).cps.toList = (ys.map fun y => y.cps.toList).flatten := by
    intro ys
    induction ys with
    | nil => rfl
    | cons y r ih =>
      cases r with
      | nil => show y.cps.toList = ([y.cps.toList]).flatten; simp
      | cons z r =>
        show ((y.cps ++ #[]) ++ (Str.join ⟨#[]⟩ (z :: r)).cps).toList = _
        rw [Array.toList_append, ih]
        simp
  intro ys
  rw [show Txt.join ⟨#[]⟩ ys = Str.join ⟨#[]⟩ ys from PySem.StrLaws.glued_eq_join _ ys]
  exact gen ys
theorem len_cps (z : Str) : z.cps.toList.length = z.length := by
  rw [Array.length_toList]
  rfl
theorem app_cps (x y : Str) : (x ++ y).cps.toList = x.cps.toList ++ y.cps.toList := by
  show (x.cps ++ y.cps).toList = _
  rw [Array.toList_append]
theorem rev_cps (x : Str) : (revS x).cps.toList = x.cps.toList.reverse := by
  show x.cps.toList.reverse.toArray.toList = _
  simp
theorem app_len (x y : Str) : (x ++ y).length = x.length + y.length := by
  rw [← len_cps, app_cps, List.length_append, len_cps, len_cps]
theorem rev_len (x : Str) : (revS x).length = x.length := by
  rw [← len_cps, rev_cps, List.length_reverse, len_cps]
theorem at_some {xs : List V} {k : Int} (h0 : 0 ≤ k) (h1 : k < xs.length) : ∃ v, atI xs k = some v ∧ v ∈ xs := by
  have hk : k.toNat < xs.length := by omega
  refine ⟨xs[k.toNat], ?_, List.getElem_mem hk⟩
  have e : atI xs ((k.toNat : Nat) : Int) = some xs[k.toNat] := atI_nat (List.getElem?_eq_getElem hk)
  rw [show ((k.toNat : Nat) : Int) = k by omega] at e
  exact e
theorem at_ints {ns : List Int} {k : Int} (h0 : 0 ≤ k) (h1 : k < ns.length) : ∃ n : Int, atI (ns.map V.int) k = some (V.int n) := by
  obtain ⟨v, e, m⟩ := at_some (xs := ns.map V.int) h0 (by rw [List.length_map]; exact h1)
  obtain ⟨n, _, rfl⟩ := List.mem_map.mp m
  exact ⟨n, e⟩
theorem le_line {n : Nat} (h : Nat.ble n 1000 = true) : n ≤ sizeLine := by
  rw [sizeLine_eq]
  exact Nat.le_trans (Nat.le_of_ble_eq_true h) (by decide)
theorem le_lineN {n : Nat} (h : n ≤ 1000000) : n ≤ sizeLine := by
  rw [sizeLine_eq]
  exact Nat.le_trans h (by decide)
/-- texts of one sign each, of the signs of z -/
def OneOf (z : Str) (y : Str) : Prop := ∃ c, c ∈ z.cps.toList ∧ y = ⟨#[c]⟩
theorem sgn_mem {z : Str} {v : V} (h : v ∈ sgn z) : ∃ y : Str, v = .str y ∧ OneOf z y := by
  obtain ⟨c, hc, rfl⟩ := List.mem_map.mp h
  exact ⟨⟨#[c]⟩, rfl, c, hc, rfl⟩
theorem ones_len {z : Str} : ∀ {ys : List Str}, (∀ y ∈ ys, OneOf z y) → (ys.map (·.length)).sum = ys.length
  | [], _ => rfl
  | y :: r, h => by
    obtain ⟨c, _, e⟩ := h y (List.mem_cons_self ..)
    have ih := ones_len (ys := r) fun x hx => h x (List.mem_cons_of_mem _ hx)
    rw [List.map_cons, List.sum_cons, ih, e, List.length_cons]
    show 1 + r.length = r.length + 1
    omega
theorem ones_join {z : Str} {ys : List Str} (h : ∀ y ∈ ys, OneOf z y) : (Txt.join ⟨#[]⟩ ys).length = ys.length ∧ ∀ c ∈ (Txt.join ⟨#[]⟩ ys).cps.toList, c ∈ z.cps.toList := by
  constructor
  · rw [← len_cps, join_nil, List.length_flatten, List.map_map]
    rw [← ones_len h]
    refine congrArg List.sum (List.map_congr_left fun y _ => ?_)
    exact len_cps y
  · intro c hc
    rw [join_nil] at hc
    obtain ⟨l, hl, hcl⟩ := List.mem_flatten.mp hc
    obtain ⟨y, hy, rfl⟩ := List.mem_map.mp hl
    obtain ⟨d, hd, e⟩ := h y hy
    rw [e] at hcl
    have : c = d := by simpa using hcl
    rw [this]
    exact hd
end My

namespace My
open PySem PySem.Spec PyProof.Rows L2

def topS (i : Nat) : Stmt := PySem.Challenge.pw_growntexts_k15_rows_joined.main.body.getD i (.Pass ⟨0, 0, 0, 0⟩)
abbrev s_part_text : Stmt := topS 2
abbrev N_part_text : List Str := ["part", "texts", "kind", "what"]
theorem sc_part_text : FnScope N_part_text ["part", "texts"] (defScope s_part_text) :=
  ⟨rfl, rfl, rfl, by decide +kernel, rfl, by decide +kernel, by decide +kernel⟩
abbrev s_row_text : Stmt := topS 1
abbrev N_row_text : List Str := ["row", "texts", "part"]
theorem sc_row_text : FnScope N_row_text ["row", "texts"] (defScope s_row_text) :=
  ⟨rfl, rfl, rfl, by decide +kernel, rfl, by decide +kernel, by decide +kernel⟩
abbrev s_seed : Stmt := topS 4
abbrev N_seed : List Str := ["_law_script", "_law_k", "_law_cell", "_law_great"]
theorem sc_seed : FnScope N_seed ["_law_script", "_law_k"] (defScope s_seed) :=
  ⟨rfl, rfl, rfl, by decide +kernel, rfl, by decide +kernel, by decide +kernel⟩
abbrev s_choose : Stmt := topS 5
abbrev N_choose : List Str := ["_law_box", "_law_many", "_law_digit", "_law_raw"]
theorem sc_choose : FnScope N_choose ["_law_box", "_law_many"] (defScope s_choose) :=
  ⟨rfl, rfl, rfl, by decide +kernel, rfl, by decide +kernel, by decide +kernel⟩
abbrev s_one_of : Stmt := topS 6
abbrev N_one_of : List Str := ["_law_box", "_law_some"]
theorem sc_one_of : FnScope N_one_of ["_law_box", "_law_some"] (defScope s_one_of) :=
  ⟨rfl, rfl, rfl, by decide +kernel, rfl, by decide +kernel, by decide +kernel⟩
abbrev s_told : Stmt := topS 7
abbrev N_told : List Str := ["_law_box", "_law_marks", "_law_most", "_law_turn"]
theorem sc_told : FnScope N_told ["_law_box", "_law_marks", "_law_most"] (defScope s_told) :=
  ⟨rfl, rfl, rfl, by decide +kernel, rfl, by decide +kernel, by decide +kernel⟩
abbrev s_closed : Stmt := topS 8
abbrev N_closed : List Str := ["_law_close", "_law_cells", "_law_found", "_law_kind", "_law_what"]
theorem sc_closed : FnScope N_closed ["_law_close", "_law_cells"] (defScope s_closed) :=
  ⟨rfl, rfl, rfl, by decide +kernel, rfl, by decide +kernel, by decide +kernel⟩
abbrev s_law : Stmt := topS 9
abbrev N_law : List Str := ["_law_script", "_law_k", "_law_box", "_law_turn", "_law_cells", "_law_row", "_law_part", "_law_sort", "_law_due", "_law_had", "_law_spot", "_law_what"]
theorem sc_law : FnScope N_law ["_law_script"] (defScope s_law) :=
  ⟨rfl, rfl, rfl, by decide +kernel, rfl, by decide +kernel, by decide +kernel⟩
structure Ad where
  (f_part_text f_row_text f_seed f_choose f_one_of f_told f_closed f_law : Addr)
  (d_part_text d_row_text d_seed d_choose d_one_of d_told d_closed d_law : FuncData)
structure Txt (K : PySem.W.Frag) (mg : Str → Option Value) (A : Ad) : Prop where
  g_part_text : mg "part_text" = some (.ref A.f_part_text)
  k_part_text : PySem.W.keepIn K (.ref A.f_part_text) = true
  F_part_text : Fun K "part_text" "part_text" s_part_text A.f_part_text A.d_part_text
  b_part_text : Binds K A.d_part_text ["part", "texts"] []
  g_row_text : mg "row_text" = some (.ref A.f_row_text)
  k_row_text : PySem.W.keepIn K (.ref A.f_row_text) = true
  F_row_text : Fun K "row_text" "row_text" s_row_text A.f_row_text A.d_row_text
  b_row_text : Binds K A.d_row_text ["row", "texts"] []
  g_seed : mg "_law_seed" = some (.ref A.f_seed)
  k_seed : PySem.W.keepIn K (.ref A.f_seed) = true
  F_seed : Fun K "_law_seed" "_law_seed" s_seed A.f_seed A.d_seed
  b_seed : Binds K A.d_seed ["_law_script", "_law_k"] []
  g_choose : mg "_law_choose" = some (.ref A.f_choose)
  k_choose : PySem.W.keepIn K (.ref A.f_choose) = true
  F_choose : Fun K "_law_choose" "_law_choose" s_choose A.f_choose A.d_choose
  b_choose : Binds K A.d_choose ["_law_box", "_law_many"] []
  g_one_of : mg "_law_one_of" = some (.ref A.f_one_of)
  k_one_of : PySem.W.keepIn K (.ref A.f_one_of) = true
  F_one_of : Fun K "_law_one_of" "_law_one_of" s_one_of A.f_one_of A.d_one_of
  b_one_of : Binds K A.d_one_of ["_law_box", "_law_some"] []
  g_told : mg "_law_told" = some (.ref A.f_told)
  k_told : PySem.W.keepIn K (.ref A.f_told) = true
  F_told : Fun K "_law_told" "_law_told" s_told A.f_told A.d_told
  b_told : Binds K A.d_told ["_law_box", "_law_marks", "_law_most"] []
  g_closed : mg "_law_closed" = some (.ref A.f_closed)
  k_closed : PySem.W.keepIn K (.ref A.f_closed) = true
  F_closed : Fun K "_law_closed" "_law_closed" s_closed A.f_closed A.d_closed
  b_closed : Binds K A.d_closed ["_law_close", "_law_cells"] []
  g_law : mg "law" = some (.ref A.f_law)
  k_law : PySem.W.keepIn K (.ref A.f_law) = true
  F_law : Fun K "law" "law" s_law A.f_law A.d_law
  b_law : Binds K A.d_law ["_law_script"] []
  z_abs : mg "abs" = none
  z_int : mg "int" = none
  z_len : mg "len" = none
  z_list : mg "list" = none
  z_max : mg "max" = none
  z_min : mg "min" = none
  z_range : mg "range" = none
  z_repr : mg "repr" = none
  z_tuple : mg "tuple" = none

def spSeed (K : PySem.W.Frag) : Sp := fun vs H Q _ => ∃ (a : Addr) (ns : List Int) (k : Int), vs = [.ref a, .int k] ∧ SqL K H a (ns.map V.int) ∧ ns.length ≤ 63 ∧ 0 ≤ k ∧ k ≤ 1000 ∧
  ∀ (p : Addr) (g r : Int), H p = none → Q (.ref p) (upd H p (.lst [.int g, .int r]))
def spChoose : Sp := fun vs H Q _ => ∃ (b : Addr) (m : Int), vs = [.ref b, .int m] ∧ B2 H b ∧ 0 < m ∧ m < 100000 ∧
  ∀ (d : Int) (H' : Hp), Dr b H H' → 0 ≤ d → d < m → (∀ p, H' p = none → H p = none) → Q (.int d) H'
def spOne (K : PySem.W.Frag) : Sp := fun vs H Q _ => ∃ (b p : Addr) (xs : List V), vs = [.ref b, .ref p] ∧ B2 H b ∧ SqL K H p xs ∧ p ≠ b ∧ 0 < xs.length ∧ xs.length < 1000 ∧
  ∀ (v : V) (H' : Hp), Dr b H H' → v ∈ xs → Q v H'
def spTold : Sp := fun vs H Q _ => ∃ (b : Addr) (z : Str) (m : Int), vs = [.ref b, .str z, .int m] ∧ B2 H b ∧ 0 < z.length ∧ z.length < 1000 ∧ 0 ≤ m ∧ m < 1000 ∧
  ∀ (y : Str) (H' : Hp), Dr b H H' → (y.length : Int) ≤ m → (∀ c ∈ y.cps.toList, c ∈ z.cps.toList) → Q (.str y) H'

local macro_rules | `(tactic| walk_at "rd") => `(tactic| (repeat (first
  | (refine ⟨_, rfl, ?_⟩) | (refine ⟨_, _, rfl, rfl, ?_⟩) | (refine ⟨rfl, ?_⟩) | (refine ⟨⟨_, rfl⟩, ?_⟩)
  | (refine ⟨.inl (by decide), ?_⟩) | (refine ⟨.inr (by decide), ?_⟩) | (refine ⟨⟨by decide, by decide⟩, ?_⟩) | (refine ⟨⟨by decide, by decide, by decide⟩, ?_⟩) | (refine ⟨by decide, ?_⟩)
  | (refine ⟨(by show (0 : Int) < _; decide), ?_⟩)
  | (refine ⟨le_line rfl, ?_⟩) | (refine .inl ⟨_, rfl, ?_⟩) | (refine ⟨_, _, _, _, rfl, rfl, SqL.of (by assumption), rfl, ?_⟩))))
section
theorem ok_seed {K : PySem.W.Frag} {mg : Str → Option Value} {A0 : Ad} {P : Program} {w : World} {base : Heap} (T : Txt K mg A0) : FnOk P w K mg base CX0 1 A0.f_seed A0.d_seed ["_law_script", "_law_k"] (spSeed K) := by
  refine T.F_seed.ok sc_seed (fun vs H Q E h => ?_) (fun cdv A outer s H vs Q E hr h => ?_)
  · obtain ⟨a, ns, k, rfl, hS, hlen, hk0, hk1, kk⟩ := h
    rfl
  · obtain ⟨a, ns, k, rfl, hS, hlen, hk0, hk1, kk⟩ := h
    refine ⟨_, (pss_cons (ps_set (i := 2) sc_seed.nd rfl (Or.inl rfl) (pe_op op_add (pe_op op_mul pe_int (pv 1)) pe_int))
      (pss_cons (ps_if (pt_cmpR op_lt (pv 1) (pe_callB call_len_seq (by rfl) T.z_len (by decide +kernel) (pa_cons (pv 0) pa_nil)) (nomark _)) (pss_one (ps_set (i := 2) sc_seed.nd rfl (Or.inl rfl) (pe_callB call_abs (by rfl) T.z_abs (by decide +kernel) (pa_cons (pe_ix ix_list (pv 0) (pv 1) (fun _ _ => rfl)) pa_nil)))) (pss_one (ps_if (pt_cmpR op_gt (pe_callB call_len_seq (by rfl) T.z_len (by decide +kernel) (pa_cons (pv 0) pa_nil)) pe_int (nomark _)) (pss_one (ps_set (i := 2) sc_seed.nd rfl (Or.inl rfl) (pe_op op_add (pv 2) (pe_op op_mul (pe_op op_mod (pe_callTy call_int1 (by rfl) T.z_int (by decide +kernel) (pa_cons (pe_callB call_abs (by rfl) T.z_abs (by decide +kernel) (pa_cons (pe_ix ix_list (pv 0) (pe_op op_mod (pe_callTy call_int1 (by rfl) T.z_int (by decide +kernel) (pa_cons (pv 1) pa_nil)) (pe_callB call_len_seq (by rfl) T.z_len (by decide +kernel) (pa_cons (pv 0) pa_nil))) (fun _ _ => rfl)) pa_nil)) pa_nil)) pe_int) pe_int)))) pss_nil)))
      (pss_cons (ps_set (i := 3) sc_seed.nd rfl (Or.inl rfl) (pe_ifExp (pt_cmpR op_ge (pv 2) (pe_op op_pow pe_int pe_int) (nomark _)) (pv 2) pe_int))
      (pss_one (ps_ret (pe_lst (pa_cons (pv 3) (pa_cons (pe_op op_add (pe_op op_mod (pe_callTy call_int1 (by rfl) T.z_int (by decide +kernel) (pa_cons (pe_op op_add (pe_op op_mul (pe_op op_mod (pe_callTy call_int1 (by rfl) T.z_int (by decide +kernel) (pa_cons (pv 2) pa_nil)) pe_int) pe_int) (pe_op op_mul pe_int (pv 1))) pa_nil)) pe_int) pe_int) pa_nil)))))))), ?_⟩
    have hl : ((ns.map V.int).length : Int) = ns.length := by rw [List.length_map]
    have fin : ∀ (p : Addr) (g r : Int), H p = none → Q (.ref p) (upd H p (.lst [.int g, .int r])) := kk
    walk_at "rd"
    refine ⟨_, _, rfl, .inl hS, ?_⟩
    walk_at "rd"
    rw [hl]
    refine ite2 (fun h1 => ?_) (fun h1 => ?_)
    · obtain ⟨n, en⟩ := at_ints hk0 (of_decide_eq_true h1)
      refine ⟨_, rfl, _, rfl, _, _, k, .int n, rfl, rfl, hS, en, ?_⟩
      walk_at "rd"
      refine ite2 (fun h2 => ?_) (fun h2 => ?_) <;> (walk_at "rd"; exact fun p np => kk p _ _ np)
    · walk_at "rd"
      refine ⟨_, _, rfl, .inl hS, ?_⟩
      walk_at "rd"
      rw [hl]
      refine ite2 (fun h3 => ?_) (fun h3 => ?_)
      · have h3' : (0 : Int) < ns.length := of_decide_eq_true h3
        walk_at "rd"
        refine ⟨_, _, rfl, .inl hS, ?_⟩
        walk_at "rd"
        rw [hl]
        obtain ⟨n, en⟩ := at_ints (ns := ns) (k := k % (ns.length : Int)) (Int.emod_nonneg _ (by omega)) (Int.emod_lt_of_pos _ h3')
        refine ⟨h3', _, _, _, .int n, rfl, rfl, hS, en, ?_⟩
        walk_at "rd"
        refine ite2 (fun h2 => ?_) (fun h2 => ?_) <;> (walk_at "rd"; exact fun p np => kk p _ _ np)
      · walk_at "rd"
        refine ite2 (fun h2 => ?_) (fun h2 => ?_) <;> (walk_at "rd"; exact fun p np => kk p _ _ np)

theorem ok_choose {K : PySem.W.Frag} {mg : Str → Option Value} {A0 : Ad} {P : Program} {w : World} {base : Heap} (T : Txt K mg A0) : FnOk P w K mg base CX0 1 A0.f_choose A0.d_choose ["_law_box", "_law_many"] (spChoose) := by
  refine T.F_choose.ok sc_choose (fun vs H Q E h => ?_) (fun cdv A outer s H vs Q E hr h => ?_)
  · obtain ⟨b, m, rfl, hB, hm0, hm1, kk⟩ := h
    rfl
  · obtain ⟨b, m, rfl, hB, hm0, hm1, kk⟩ := h
    refine ⟨_, (pss_cons (ps_if (pt_cmpR op_gt (pe_ix ix_list (pv 0) pe_int (fun _ _ => rfl)) pe_int (nomark _)) (pss_cons (ps_set (i := 2) sc_choose.nd rfl (Or.inl rfl) (pe_op op_mod (pe_callTy call_int1 (by rfl) T.z_int (by decide +kernel) (pa_cons (pe_ix ix_list (pv 0) pe_int (fun _ _ => rfl)) pa_nil)) (pv 1)))
      (pss_cons (ps_asg (pe_op op_fdiv (pe_ix ix_list (pv 0) pe_int (fun _ _ => rfl)) (pv 1)) (pg_sub (pv 0) pe_int set_list))
      (pss_one (ps_ret (pv 2))))) pss_nil)
      (pss_cons (ps_set (i := 3) sc_choose.nd rfl (Or.inl rfl) (pe_op op_mod (pe_callTy call_int1 (by rfl) T.z_int (by decide +kernel) (pa_cons (pe_op op_add (pe_op op_mul (pe_ix ix_list (pv 0) pe_int (fun _ _ => rfl)) pe_int) pe_int) pa_nil)) pe_int))
      (pss_cons (ps_asg (pe_op op_add (pe_op op_mod (pe_callTy call_int1 (by rfl) T.z_int (by decide +kernel) (pa_cons (pe_op op_add (pe_op op_mul (pv 3) pe_int) pe_int) pa_nil)) pe_int) pe_int) (pg_sub (pv 0) pe_int set_list))
      (pss_one (ps_ret (pe_op op_mod (pe_callTy call_int1 (by rfl) T.z_int (by decide +kernel) (pa_cons (pe_op op_fdiv (pe_op op_add (pe_op op_mul (pv 3) pe_int) (pe_ix ix_list (pv 0) pe_int (fun _ _ => rfl))) pe_int) pa_nil)) (pv 1))))))), ?_⟩
    obtain ⟨g, r, hb⟩ := hB
    have fr : ∀ (H' : Hp), (∀ a o, H a = some o → a ≠ b → H' a = some o) → H' b ≠ none → ∀ p, H' p = none → H p = none := fun H' k1 k2 p np => by
      cases q : H p with
      | none => rfl
      | some o =>
        by_cases e : p = b
        · exact absurd (e ▸ np) k2
        · rw [k1 p o q e] at np
          cases np
    have two : ∀ (x y : Int) (xs : List V), xs = [.int x, .int y] → ∃ g' r' : Int, xs = [.int g', .int r'] := fun x y xs e => ⟨x, y, e⟩
    walk_at "rd"
    refine ite2 (fun hg => ?_) (fun hg => ?_)
    · walk_at "rd"
      refine ⟨hm0, ?_⟩
      walk_at "rd"
      refine ⟨⟨hm0, by show m < 1073741824; omega⟩, ?_⟩
      walk_at "rd"
      refine ⟨b, _, 0, 0, rfl, rfl, hb, rfl, ?_⟩
      walk_at "rd"
      exact kk _ _ (Dr.put (g / m) r) (Int.emod_nonneg _ (by omega)) (Int.emod_lt_of_pos _ hm0) (fr _ (fun a o e n => by rw [upd_ne n]; exact e) (by rw [upd_same]; exact fun z => nomatch z))
    · walk_at "rd"
      refine ⟨b, _, 1, 1, rfl, rfl, hb, rfl, ?_⟩
      walk_at "rd"
      refine ⟨_, _, _, _, rfl, rfl, SqL.of upd_same, rfl, ?_⟩
      walk_at "rd"
      refine ⟨hm0, ?_⟩
      exact kk _ _ (Dr.put g _) (Int.emod_nonneg _ (by omega)) (Int.emod_lt_of_pos _ hm0) (fr _ (fun a o e n => by rw [upd_ne n]; exact e) (by rw [upd_same]; exact fun z => nomatch z))

theorem ok_one_of {K : PySem.W.Frag} {mg : Str → Option Value} {A0 : Ad} {P : Program} {w : World} {base : Heap} (T : Txt K mg A0) : FnOk P w K mg base CX0 2 A0.f_one_of A0.d_one_of ["_law_box", "_law_some"] (spOne K) := by
  have Gchoose := ok_choose (P := P) (w := w) (base := base) T
  refine T.F_one_of.ok sc_one_of (fun vs H Q E h => ?_) (fun cdv A outer s H vs Q E hr h => ?_)
  · obtain ⟨b, p, xs, rfl, hB, hS, npb, hl0, hl1, kk⟩ := h
    rfl
  · obtain ⟨b, p, xs, rfl, hB, hS, npb, hl0, hl1, kk⟩ := h
    have hr_choose : Room 1 _ := hr.mono (by decide)
    refine ⟨_, (pss_one (ps_ret (pe_ix ix_list (pv 1) (pe_call Gchoose hr_choose rfl T.g_choose T.k_choose T.b_choose .nil pass0 (pa_cons (pv 0) (pa_cons (pe_callB call_len_seq (by rfl) T.z_len (by decide +kernel) (pa_cons (pv 1) pa_nil)) pa_nil))) (fun _ _ => rfl)))), ?_⟩
    walk_at "rd"
    refine ⟨_, _, rfl, .inl hS, ?_⟩
    refine ⟨b, (xs.length : Int), rfl, hB, by omega, by omega, fun d H' D d0 d1 _ => ?_⟩
    obtain ⟨v, ev, mv⟩ := at_some d0 d1
    exact ⟨_, _, _, v, rfl, rfl, D.sqL npb hS, ev, kk v H' D mv⟩

theorem ok_told {K : PySem.W.Frag} {mg : Str → Option Value} {A0 : Ad} {P : Program} {w : World} {base : Heap} (T : Txt K mg A0) : FnOk P w K mg base CX0 3 A0.f_told A0.d_told ["_law_box", "_law_marks", "_law_most"] (spTold) := by
  have Gone_of := ok_one_of (P := P) (w := w) (base := base) T
  have Gchoose := ok_choose (P := P) (w := w) (base := base) T
  refine T.F_told.ok sc_told (fun vs H Q E h => ?_) (fun cdv A outer s H vs Q E hr h => ?_)
  · obtain ⟨b, z, m, rfl, hB, hz0, hz1, hm0, hm1, kk⟩ := h
    rfl
  · obtain ⟨b, z, m, rfl, hB, hz0, hz1, hm0, hm1, kk⟩ := h
    have hr_one_of : Room 2 _ := hr.mono (by decide)
    have hr_choose : Room 1 _ := hr.mono (by decide)
    refine ⟨_, (pss_one (ps_ret (pe_join pe_str (pe_lc (own := [("_law_turn", 3)]) (g := gName 3) (tt := tYes) rfl sc_told.nd (pi_range1 (by rfl) T.z_range (pa_cons (pe_call Gchoose hr_choose rfl T.g_choose T.k_choose T.b_choose .nil pass0 (pa_cons (pv 0) (pa_cons (pe_op op_add (pv 2) pe_int) pa_nil))) pa_nil)) (blkOk_by (own := [("_law_turn", 3)]) (N := N_told) (sc := defScope s_told) (by decide +kernel)) (fun _ _ _ _ _ => (pg_name (i := 3) sc_told.nd rfl (Or.inl rfl))) (fun _ _ _ _ _ => pts_nil) (fun _ _ _ _ _ => (pe_call Gone_of hr_one_of rfl T.g_one_of T.k_one_of T.b_one_of .nil pass0 (pa_cons (pv 0) (pa_cons (pe_callTy (cr_listStr rfl) (by rfl) T.z_list (by decide +kernel) (pa_cons (pv 1) pa_nil)) pa_nil)))))))), ?_⟩
    walk_at "rd"
    refine ⟨b, m + 1, rfl, hB, by omega, by omega, fun d H1 D1 d0 d1 _ => ?_⟩
    refine ⟨d, rfl, by omega, by omega, fun L nL => ?_⟩
    have nLb : L ≠ b := D1.bx.ne nL
    refine lc_range (lo := 0) (n := d.toNat) (fun i H' => ∃ ys : List Str, Dr b H H' ∧ H' L = some (.lst (ys.map V.str)) ∧ ys.length = i ∧ ∀ y ∈ ys, OneOf z y)
      ⟨[], D1.trans (.same D1.bx (same_upd nL)), upd_same, rfl, fun y hy => by cases hy⟩ (fun i H2 hi P2 => ?_) (fun H2 P2 => ?_)
    · obtain ⟨ys, D2, eL, hy, ho⟩ := P2
      walk_at "rd"
      refine ⟨le_lineN (by omega), fun p np => ?_⟩
      have D3 : Dr b H (upd H2 p (.lst (sgn z))) := D2.trans (.same D2.bx (same_upd np))
      have nLp : L ≠ p := ne_of_none eL np
      refine ⟨b, p, sgn z, rfl, D3.bx, SqL.of upd_same, D2.bx.ne np, by rw [sgn_len]; exact hz0, by rw [sgn_len]; exact hz1, fun v H3 D4 mv => ?_⟩
      obtain ⟨y, rfl, oy⟩ := sgn_mem mv
      have e3 : H3 L = some (.lst (ys.map V.str)) := D4.kp _ _ nLb (by rw [upd_ne nLp]; exact eL)
      refine ⟨_, e3, by rw [List.length_map]; exact Nat.lt_of_lt_of_le (show ys.length < 1000 by omega) (le_line rfl), ys ++ [y], ?_, ?_, ?_, ?_⟩
      · refine ⟨fun a o n e => ?_, ?_⟩
        · rw [upd_ne (ne_of_none e (D1.free nL))]
          exact D4.kp _ _ n (D3.kp _ _ n e)
        · obtain ⟨g, r, eb⟩ := D4.bx
          exact ⟨g, r, by rw [upd_ne nLb.symm]; exact eb⟩
      · rw [upd_same, List.map_append]
        rfl
      · rw [List.length_append, hy]
        rfl
      · intro x hx
        rcases List.mem_append.mp hx with hx | hx
        · exact ho x hx
        · rw [List.mem_singleton.mp hx]
          exact oy
    · obtain ⟨ys, D2, eL, hy, ho⟩ := P2
      refine ⟨_, L, ys, rfl, rfl, .inl (SqL.of eL), ?_, ?_⟩
      · rw [ones_len ho]
        show ys.length + ys.length * 0 ≤ 16777216
        omega
      · obtain ⟨h1, h2⟩ := ones_join ho
        refine kk _ _ D2 ?_ h2
        show ((Txt.join ⟨#[]⟩ ys).length : Int) ≤ m
        rw [h1]
        omega

end
end My

namespace My
open PySem PySem.Spec PyProof.Rows L2

local macro_rules | `(tactic| walk_at "rd") => `(tactic| (repeat (first
  | (refine ⟨_, rfl, ?_⟩) | (refine ⟨_, _, rfl, rfl, ?_⟩) | (refine ⟨_, _, rfl, ?_⟩) | (refine ⟨rfl, ?_⟩) | (refine ⟨⟨_, rfl⟩, ?_⟩)
  | (refine ⟨.inl (by decide), ?_⟩) | (refine ⟨.inr (by decide), ?_⟩) | (refine ⟨⟨by decide, by decide⟩, ?_⟩) | (refine ⟨⟨by decide, by decide, by decide⟩, ?_⟩) | (refine ⟨by decide, ?_⟩)
  | (refine ⟨(by show (0 : Int) < _; decide), ?_⟩)
  | (refine ⟨le_line rfl, ?_⟩) | (refine .inl ⟨_, rfl, ?_⟩) | (refine ⟨_, _, _, _, rfl, rfl, SqL.of (by assumption), rfl, ?_⟩))))


inductive Pt where
  | box (n : Nat) | turned (n : Nat) | told (x : Str)
def Pt.vals : Pt → List V
  | .box n => [.str "box", .int n]
  | .turned n => [.str "turned", .int n]
  | .told x => [.str "told", .str x]
def Pt.txt (cells : List Str) : Pt → Str
  | .box n => cells.getD n ⟨#[]⟩
  | .turned n => revS (cells.getD n ⟨#[]⟩)
  | .told x => x
def Pt.ok (m : Nat) : Pt → Prop
  | .box n => n < m
  | .turned n => n < m
  | .told x => x.length ≤ 1000
def SqA (K : PySem.W.Frag) (H : Hp) (q : Addr) (xs : List V) : Prop := SqL K H q xs ∨ SqT K H q xs
def spPart (K : PySem.W.Frag) : Sp := fun vs H Q _ => ∃ (p q : Addr) (pt : Pt) (cells : List Str), vs = [.ref p, .ref q] ∧ SqT K H p pt.vals ∧ SqA K H q (cells.map V.str) ∧ pt.ok cells.length ∧ (∀ c ∈ cells, c.length ≤ 1000) ∧
  Q (.str (pt.txt cells)) H

section
theorem ok_part_text {K : PySem.W.Frag} {mg : Str → Option Value} {A0 : Ad} {P : Program} {w : World} {base : Heap} (T : Txt K mg A0) : FnOk P w K mg base CX0 1 A0.f_part_text A0.d_part_text ["part", "texts"] (spPart K) := by
  refine T.F_part_text.ok sc_part_text (fun vs H Q E h => ?_) (fun cdv A outer s H vs Q E hr h => ?_)
  · obtain ⟨p, q, pt, cells, rfl, hP, hS, hok, hlen, kk⟩ := h
    rfl
  · obtain ⟨p, q, pt, cells, rfl, hP, hS, hok, hlen, kk⟩ := h
    refine ⟨_, (pss_cons (ps_asg (pv 0) (pg_tup rfl (pgs_cons (pg_name (i := 2) sc_part_text.nd rfl (Or.inl rfl)) (pgs_cons (pg_name (i := 3) sc_part_text.nd rfl (Or.inl rfl)) pgs_nil))))
      (pss_cons (ps_if (pt_cmpR op_eq (pv 2) pe_str (nomark _)) (pss_one (ps_ret (pv 3))) pss_nil)
      (pss_one (ps_ret (pe_ifExp (pt_cmpR op_eq (pv 2) pe_str (nomark _)) (pe_revS (pe_ix ix_seq (pv 1) (pv 3) (fun _ _ => rfl)) (pe_un un_neg pe_int)) (pe_ix ix_seq (pv 1) (pv 3) (fun _ _ => rfl))))))), ?_⟩
    have at1 : ∀ n, n < cells.length → ∃ c, atI (cells.map V.str) (n : Int) = some (V.str c) ∧ cells.getD n ⟨#[]⟩ = c ∧ c ∈ cells := fun n hn => by
      refine ⟨cells[n], atI_nat (by rw [List.getElem?_map, List.getElem?_eq_getElem hn]; rfl), ?_, List.getElem_mem hn⟩
      rw [List.getD_eq_getElem?_getD, List.getElem?_eq_getElem hn]
      rfl
    refine ⟨_, rfl, p, pt.vals, rfl, hP, by cases pt <;> rfl, ?_⟩
    cases pt with
    | told x =>
      refine ⟨_, _, rfl, _, _, rfl, rfl, ?_⟩
      walk_at "rd"
      exact kk
    | box n =>
      obtain ⟨c, e1, e2, e3⟩ := at1 n hok
      refine ⟨_, _, rfl, _, _, rfl, rfl, ?_⟩
      walk_at "rd"
      have kk' : Q (.str c) H := by rw [← e2]; exact kk
      rcases hS with hS | hS
      · exact .inl ⟨_, _, _, _, rfl, rfl, hS, e1, kk'⟩
      · exact .inr (.inl ⟨_, _, _, _, rfl, rfl, hS, e1, kk'⟩)
    | turned n =>
      obtain ⟨c, e1, e2, e3⟩ := at1 n hok
      have kk' : Q (.str (revS c)) H := by rw [← e2]; exact kk
      have hc := hlen c e3
      refine ⟨_, _, rfl, _, _, rfl, rfl, ?_⟩
      walk_at "rd"
      rcases hS with hS | hS
      · refine .inl ⟨_, _, _, _, rfl, rfl, hS, e1, ?_⟩
        exact ⟨_, rfl, rfl, _, rfl, le_lineN (by omega), kk'⟩
      · refine .inr (.inl ⟨_, _, _, _, rfl, rfl, hS, e1, ?_⟩)
        exact ⟨_, rfl, rfl, _, rfl, le_lineN (by omega), kk'⟩

end

/-- a row of parts, as it stands -/
def PtsAt (K : PySem.W.Frag) (H : Hp) : List V → List Pt → Prop := Paired fun v pt => ∃ p, v = .ref p ∧ SqT K H p pt.vals
def rowS (cells : List Str) (pts : List Pt) : Str := Txt.join ⟨#[]⟩ (pts.map (Pt.txt cells))
def spRow (K : PySem.W.Frag) : Sp := fun vs H Q _ => ∃ (p q : Addr) (xs : List V) (pts : List Pt) (cells : List Str), vs = [.ref p, .ref q] ∧ SqA K H p xs ∧ PtsAt K H xs pts ∧ SqA K H q (cells.map V.str) ∧ (∀ pt ∈ pts, pt.ok cells.length) ∧ (∀ c ∈ cells, c.length ≤ 1000) ∧
  pts.length ≤ 1000 ∧ ∀ H', Same H H' → Q (.str (rowS cells pts)) H'
theorem Same.sqA {K : PySem.W.Frag} {H H' : Hp} {q : Addr} {xs : List V} (s : Same H H') (h : SqA K H q xs) : SqA K H' q xs := h.elim (fun h => .inl (s.seq h)) fun h => .inr (Same.tup s h)
theorem PtsAt.at {K : PySem.W.Frag} {H : Hp} : ∀ {xs : List V} {pts : List Pt} {i : Nat} {x : V}, PtsAt K H xs pts → xs[i]? = some x → ∃ pt p, pts[i]? = some pt ∧ x = .ref p ∧ SqT K H p pt.vals
  | _, _, _, _, .nil, e => by simp at e
  | _, _, 0, _, .cons r _, e => by
    obtain ⟨p, e1, e2⟩ := r
    simp at e
    subst e
    exact ⟨_, p, rfl, e1, e2⟩
  | _, _, i + 1, _, .cons _ t, e => PtsAt.at (i := i) t (by simpa using e)
theorem PtsAt.length {K : PySem.W.Frag} {H : Hp} {xs : List V} {pts : List Pt} (h : PtsAt K H xs pts) : xs.length = pts.length := Paired.length h
theorem txt_len {cells : List Str} (hl : ∀ c ∈ cells, c.length ≤ 1000) {pt : Pt} (ok : pt.ok cells.length) : (pt.txt cells).length ≤ 1000 := by
  have g : ∀ n, n < cells.length → (cells.getD n ⟨#[]⟩).length ≤ 1000 := fun n hn => by
    rw [List.getD_eq_getElem?_getD, List.getElem?_eq_getElem hn]
    exact hl _ (List.getElem_mem hn)
  cases pt with
  | told x => exact ok
  | box n => exact g n ok
  | turned n =>
    show (revS _).length ≤ 1000
    rw [rev_len]
    exact g n ok
theorem sum_le {α : Type} (f : α → Nat) (m : Nat) : ∀ l : List α, (∀ x ∈ l, f x ≤ m) → (l.map f).sum ≤ l.length * m
  | [], _ => by simp
  | x :: r, h => by
    have h1 := h x (List.mem_cons_self ..)
    have h2 := sum_le f m r fun y hy => h y (List.mem_cons_of_mem _ hy)
    rw [List.map_cons, List.sum_cons, List.length_cons, Nat.add_mul]
    omega

section
theorem ok_row_text {K : PySem.W.Frag} {mg : Str → Option Value} {A0 : Ad} {P : Program} {w : World} {base : Heap} (T : Txt K mg A0) : FnOk P w K mg base CX0 2 A0.f_row_text A0.d_row_text ["row", "texts"] (spRow K) := by
  have Gpart_text := ok_part_text (P := P) (w := w) (base := base) T
  refine T.F_row_text.ok sc_row_text (fun vs H Q E h => ?_) (fun cdv A outer s H vs Q E hr h => ?_)
  · obtain ⟨p, q, xs, pts, cells, rfl, hP, hX, hS, hok, hlen, hn, kk⟩ := h
    rfl
  · obtain ⟨p, q, xs, pts, cells, rfl, hP, hX, hS, hok, hlen, hn, kk⟩ := h
    have hr_part_text : Room 1 _ := hr.mono (by decide)
    rcases hP with hP | hP
    ·
      refine ⟨_, (pss_one (ps_ret (pe_join pe_str (pe_lc (own := [("part", 2)]) (g := gName 2) (tt := tYes) rfl sc_row_text.nd (pi_list (pv 0)) (blkOk_by (own := [("part", 2)]) (N := N_row_text) (sc := defScope s_row_text) (by decide +kernel)) (fun _ _ _ _ _ => (pg_name (i := 2) sc_row_text.nd rfl (Or.inl rfl))) (fun _ _ _ _ _ => pts_nil) (fun _ _ _ _ _ => (pe_call Gpart_text hr_part_text rfl T.g_part_text T.k_part_text T.b_part_text .nil pass0 (pa_cons (pv 2) (pa_cons (pv 1) pa_nil)))))))), ?_⟩
      refine ⟨⟨_, rfl⟩, _, rfl, p, rfl, ⟨xs, hP⟩, fun L nL => ?_⟩
      have sL : Same H (upd H L (.lst [])) := same_upd nL
      have inv : ∀ i : Nat, ∀ H' : Hp, True := fun _ _ => trivial
      refine lc_list (K := K) (a := p) (xs := xs) (fun i H' => Same H H' ∧ H' L = some (.lst (((pts.take i).map (Pt.txt cells)).map V.str)))
        ⟨sL, upd_same⟩ (fun i H' _ P2 => Same.seq P2.1 hP) (fun i x H2 ex P2 => ?_) (fun H2 P2 => ?_)
      · obtain ⟨s2, eL⟩ := P2
        obtain ⟨pt, a, ep, rfl, ha⟩ := hX.at ex
        have hi : i < pts.length := (List.getElem?_eq_some_iff.mp ep).1
        walk_at "rd"
        refine ⟨a, q, pt, cells, rfl, Same.tup s2 ha, Same.sqA s2 hS, hok _ (List.mem_of_getElem? ep), hlen, ?_⟩
        refine ⟨_, eL, ?_, ?_, ?_⟩
        · rw [List.length_map, List.length_map]
          rw [List.length_take]
          exact Nat.lt_of_lt_of_le (show min i pts.length < 1001 by omega) (le_lineN (by omega))
        · exact fun b o e => by rw [upd_ne (ne_of_none e nL)]; exact s2 _ _ e
        · rw [upd_same, List.take_add_one, ep, List.map_append, List.map_append]
          rfl
      · obtain ⟨s2, eL⟩ := P2
        have hx := hX.length
        rw [List.take_of_length_le (by omega)] at eL
        refine ⟨_, L, pts.map (Pt.txt cells), rfl, rfl, .inl (SqL.of eL), ?_, kk _ s2⟩
        rw [List.map_map, List.length_map]
        have := sum_le ((fun y : Str => y.length) ∘ Pt.txt cells) 1000 pts (fun pt hp => txt_len hlen (hok pt hp))
        show _ + pts.length * 0 ≤ 16777216
        have h3 : ((fun y : Str => y.length) ∘ Pt.txt cells) = (Str.length ∘ Pt.txt cells) := rfl
        omega

    ·
      refine ⟨_, (pss_one (ps_ret (pe_join pe_str (pe_lc (own := [("part", 2)]) (g := gName 2) (tt := tYes) rfl sc_row_text.nd (pi_tup (pv 0)) (blkOk_by (own := [("part", 2)]) (N := N_row_text) (sc := defScope s_row_text) (by decide +kernel)) (fun _ _ _ _ _ => (pg_name (i := 2) sc_row_text.nd rfl (Or.inl rfl))) (fun _ _ _ _ _ => pts_nil) (fun _ _ _ _ _ => (pe_call Gpart_text hr_part_text rfl T.g_part_text T.k_part_text T.b_part_text .nil pass0 (pa_cons (pv 2) (pa_cons (pv 1) pa_nil)))))))), ?_⟩
      refine ⟨⟨_, rfl⟩, _, rfl, p, rfl, ⟨xs, hP⟩, fun L nL => ?_⟩
      have sL : Same H (upd H L (.lst [])) := same_upd nL
      have inv : ∀ i : Nat, ∀ H' : Hp, True := fun _ _ => trivial
      refine lc_tup (K := K) (a := p) (xs := xs) (fun i H' => Same H H' ∧ H' L = some (.lst (((pts.take i).map (Pt.txt cells)).map V.str)))
        ⟨sL, upd_same⟩ (fun i H' _ P2 => Same.tup P2.1 hP) (fun i x H2 ex P2 => ?_) (fun H2 P2 => ?_)
      · obtain ⟨s2, eL⟩ := P2
        obtain ⟨pt, a, ep, rfl, ha⟩ := hX.at ex
        have hi : i < pts.length := (List.getElem?_eq_some_iff.mp ep).1
        walk_at "rd"
        refine ⟨a, q, pt, cells, rfl, Same.tup s2 ha, Same.sqA s2 hS, hok _ (List.mem_of_getElem? ep), hlen, ?_⟩
        refine ⟨_, eL, ?_, ?_, ?_⟩
        · rw [List.length_map, List.length_map]
          rw [List.length_take]
          exact Nat.lt_of_lt_of_le (show min i pts.length < 1001 by omega) (le_lineN (by omega))
        · exact fun b o e => by rw [upd_ne (ne_of_none e nL)]; exact s2 _ _ e
        · rw [upd_same, List.take_add_one, ep, List.map_append, List.map_append]
          rfl
      · obtain ⟨s2, eL⟩ := P2
        have hx := hX.length
        rw [List.take_of_length_le (by omega)] at eL
        refine ⟨_, L, pts.map (Pt.txt cells), rfl, rfl, .inl (SqL.of eL), ?_, kk _ s2⟩
        rw [List.map_map, List.length_map]
        have := sum_le ((fun y : Str => y.length) ∘ Pt.txt cells) 1000 pts (fun pt hp => txt_len hlen (hok pt hp))
        show _ + pts.length * 0 ≤ 16777216
        have h3 : ((fun y : Str => y.length) ∘ Pt.txt cells) = (Str.length ∘ Pt.txt cells) := rfl
        omega


end
end My

namespace My
open PySem PySem.Spec PyProof.Rows L2

local macro_rules | `(tactic| walk_at "rd") => `(tactic| (repeat (first
  | (refine ⟨_, rfl, ?_⟩) | (refine ⟨_, _, rfl, rfl, ?_⟩) | (refine ⟨_, _, rfl, ?_⟩) | (refine ⟨rfl, ?_⟩) | (refine ⟨⟨_, rfl⟩, ?_⟩)
  | (refine ⟨.inl (by decide), ?_⟩) | (refine ⟨.inr (by decide), ?_⟩) | (refine ⟨⟨by decide, by decide⟩, ?_⟩) | (refine ⟨⟨by decide, by decide, by decide⟩, ?_⟩) | (refine ⟨by decide, ?_⟩)
  | (refine ⟨(by show (0 : Int) < _; decide), ?_⟩)
  | (refine ⟨le_line rfl, ?_⟩) | (refine .inl ⟨_, rfl, ?_⟩) | (refine ⟨_, _, _, _, rfl, rfl, SqL.of (by assumption), rfl, ?_⟩))))


theorem rowS_cps (cells : List Str) (pts : List Pt) : (rowS cells pts).cps.toList = ((pts.map (Pt.txt cells)).map fun y => y.cps.toList).flatten := join_nil _
theorem rowS_nil (cells : List Str) : rowS cells [] = ⟨#[]⟩ := str_ext (by rw [rowS_cps]; rfl)
theorem rowS_snoc (cells : List Str) (pts : List Pt) (pt : Pt) : rowS cells (pts ++ [pt]) = rowS cells pts ++ pt.txt cells := str_ext (by
  rw [app_cps, rowS_cps, rowS_cps, List.map_append, List.map_append, List.flatten_append]
  simp)
theorem rowS_len {cells : List Str} (hl : ∀ c ∈ cells, c.length ≤ 1000) {pts : List Pt} (ok : ∀ pt ∈ pts, pt.ok cells.length) : (rowS cells pts).length ≤ pts.length * 1000 := by
  rw [← len_cps, rowS_cps, List.length_flatten, List.map_map, List.map_map]
  have := sum_le ((List.length ∘ fun y : Str => y.cps.toList) ∘ Pt.txt cells) 1000 pts (fun pt hp => by
    show (pt.txt cells).cps.toList.length ≤ 1000
    rw [len_cps]
    exact txt_len hl (ok pt hp))
  exact this
def spClosed (K : PySem.W.Frag) : Sp := fun vs H Q _ => ∃ (p q : Addr) (xs : List V) (pts : List Pt) (cells : List Str), vs = [.ref p, .ref q] ∧ SqL K H p xs ∧ PtsAt K H xs pts ∧ SqL K H q (cells.map V.str) ∧ (∀ pt ∈ pts, pt.ok cells.length) ∧ (∀ c ∈ cells, c.length ≤ 1000) ∧
  pts.length ≤ 1000 ∧ Q (.str (rowS cells pts)) H

section
theorem ok_closed {K : PySem.W.Frag} {mg : Str → Option Value} {A0 : Ad} {P : Program} {w : World} {base : Heap} (T : Txt K mg A0) : FnOk P w K mg base CX0 1 A0.f_closed A0.d_closed ["_law_close", "_law_cells"] (spClosed K) := by
  refine T.F_closed.ok sc_closed (fun vs H Q E h => ?_) (fun cdv A outer s H vs Q E hr h => ?_)
  · obtain ⟨p, q, xs, pts, cells, rfl, hP, hX, hS, hok, hlen, hn, kk⟩ := h
    rfl
  · obtain ⟨p, q, xs, pts, cells, rfl, hP, hX, hS, hok, hlen, hn, kk⟩ := h
    refine ⟨_, (pss_cons (ps_if (pt_cmpR op_isN (pv 0) pe_non (nomark _)) (pss_one (ps_ret pe_non)) pss_nil)
      (pss_cons (ps_set (i := 2) sc_closed.nd rfl (Or.inl rfl) pe_str)
      (pss_cons (ps_for PassesOwn.never rfl (pi_list (pv 0)) (pg_tup rfl (pgs_cons (pg_name (i := 3) sc_closed.nd rfl (Or.inl rfl)) (pgs_cons (pg_name (i := 4) sc_closed.nd rfl (Or.inl rfl)) pgs_nil))) (pss_one (ps_if (pt_cmpR op_eq (pv 3) pe_str (nomark _)) (pss_one (ps_set (i := 2) sc_closed.nd rfl (Or.inl rfl) (pe_op op_add_str (pv 2) (pv 4)))) (pss_one (ps_set (i := 2) sc_closed.nd rfl (Or.inl rfl) (pe_op op_add_str (pv 2) (pe_ifExp (pt_cmpR op_eq (pv 3) pe_str (nomark _)) (pe_ix ix_list (pv 1) (pv 4) (fun _ _ => rfl)) (pe_revS (pe_ix ix_list (pv 1) (pv 4) (fun _ _ => rfl)) (pe_op op_sub pe_int pe_int)))))))))
      (pss_one (ps_ret (pv 2)))))), ?_⟩
    have at1 : ∀ n, n < cells.length → ∃ c, atI (cells.map V.str) (n : Int) = some (V.str c) ∧ cells.getD n ⟨#[]⟩ = c ∧ c ∈ cells := fun n hn => by
      refine ⟨cells[n], atI_nat (by rw [List.getElem?_map, List.getElem?_eq_getElem hn]; rfl), ?_, List.getElem_mem hn⟩
      rw [List.getD_eq_getElem?_getD, List.getElem?_eq_getElem hn]
      rfl
    refine ⟨_, rfl, rfl, _, rfl, ?_⟩
    refine ⟨_, rfl, p, rfl, ⟨xs, hP⟩, for_list (K := K) (a := p) (xs := xs) (fun i σ H' => ∃ v3 v4, σ = [some (.ref p), some (.ref q), some (.str (rowS cells (pts.take i))), v3, v4] ∧ H' = H)
      ⟨none, none, by rw [List.take_zero, rowS_nil]; rfl, rfl⟩ (fun i σ H' _ P2 => by obtain ⟨_, _, _, rfl⟩ := P2; exact hP) (fun i x σ H2 ex P2 => ?_) (fun σ H2 P2 => ?_)⟩
    · obtain ⟨v3, v4, rfl, rfl⟩ := P2
      obtain ⟨pt, a, ep, rfl, ha⟩ := hX.at ex
      have hi : i < pts.length := (List.getElem?_eq_some_iff.mp ep).1
      have hm := List.mem_of_getElem? ep
      have ht : pts.take (i + 1) = pts.take i ++ [pt] := by rw [List.take_add_one, ep]; rfl
      have l1 := rowS_len hlen (pts := pts.take i) fun y hy => hok y (List.mem_of_mem_take hy)
      rw [List.length_take] at l1
      have l2 := txt_len hlen (hok pt hm)
      have l3 : (rowS cells (pts.take i)).length + (pt.txt cells).length ≤ sizeLine := le_lineN (by
        have : min i pts.length * 1000 ≤ 1000 * 1000 - 1000 := by
          have : min i pts.length ≤ 999 := by omega
          omega
        omega)
      refine ⟨a, pt.vals, rfl, ha, by cases pt <;> rfl, ?_⟩
      rw [ht, rowS_snoc]
      cases pt with
      | told x =>
        refine ⟨_, _, rfl, _, _, rfl, rfl, ?_⟩
        walk_at "rd"
        refine ⟨l3, ?_⟩
        exact ⟨_, _, rfl, rfl⟩
      | box n =>
        obtain ⟨c, e1, e2, e3⟩ := at1 n (hok _ hm)
        have et : (Pt.box n).txt cells = c := e2
        rw [et] at l3 ⊢
        refine ⟨_, _, rfl, _, _, rfl, rfl, ?_⟩
        walk_at "rd"
        refine ⟨_, _, _, _, rfl, rfl, hS, e1, ?_⟩
        refine ⟨_, _, rfl, rfl, l3, ?_⟩
        exact ⟨_, _, rfl, rfl⟩
      | turned n =>
        obtain ⟨c, e1, e2, e3⟩ := at1 n (hok _ hm)
        have et : (Pt.turned n).txt cells = revS c := congrArg revS e2
        rw [et] at l3 ⊢
        refine ⟨_, _, rfl, _, _, rfl, rfl, ?_⟩
        walk_at "rd"
        refine ⟨_, _, _, _, rfl, rfl, hS, e1, ?_⟩
        refine ⟨_, _, rfl, rfl, rfl, _, rfl, le_lineN (by have := hlen c e3; omega), ?_⟩
        refine ⟨_, _, rfl, rfl, l3, ?_⟩
        exact ⟨_, _, rfl, rfl⟩
    · obtain ⟨v3, v4, rfl, rfl⟩ := P2
      have hx := hX.length
      rw [List.take_of_length_le (by omega)]
      exact ⟨_, rfl, kk⟩

end
end My

namespace My
open PySem PySem.Spec PyProof.Rows L2

local macro_rules | `(tactic| walk_at "rd") => `(tactic| (repeat (first
  | (refine ⟨_, rfl, ?_⟩) | (refine ⟨_, _, rfl, rfl, ?_⟩) | (refine ⟨_, _, rfl, ?_⟩) | (refine ⟨rfl, ?_⟩) | (refine ⟨⟨_, rfl⟩, ?_⟩)
  | (refine ⟨.inl (by decide), ?_⟩) | (refine ⟨.inr (by decide), ?_⟩) | (refine ⟨⟨by decide, by decide⟩, ?_⟩) | (refine ⟨⟨by decide, by decide, by decide⟩, ?_⟩) | (refine ⟨by decide, ?_⟩)
  | (refine ⟨(by show (0 : Int) < _; decide), ?_⟩)
  | (refine ⟨le_line rfl, ?_⟩) | (refine .inl ⟨_, rfl, ?_⟩) | (refine ⟨_, _, _, _, rfl, rfl, SqL.of (by assumption), rfl, ?_⟩))))


def Abc (y : Str) : Prop := ∀ c ∈ y.cps.toList, c < 128
def Pt.abc : Pt → Prop
  | .told x => Abc x
  | _ => True
def spLaw (K : PySem.W.Frag) : Sp := fun vs H Q _ => ∃ (a : Addr) (ns : List Int), vs = [.ref a] ∧ SqL K H a (ns.map V.int) ∧ ns.length ≤ 63 ∧ ∀ H', Q (.bl true) H'
/-- the script, read whatever is drawn -/
def ScL (K : PySem.W.Frag) (b : Addr) (H : Hp) (a : Addr) (xs : List V) : Prop := SqL K H a xs ∧ (a ≠ b ∨ ∀ H', SqL K H' a xs)
theorem ScL.mk {K : PySem.W.Frag} {b a : Addr} {H : Hp} {xs : List V} (h : SqL K H a xs) (nb : H b = none) : ScL K b H a xs := by
  refine ⟨h, ?_⟩
  rcases h with h | h
  · refine .inl ?_
    rcases h with h | ⟨o, h⟩ <;> exact ne_of_none h nb
  · exact .inr fun _ => .inr h
/-- a row of parts that the law has made -/
def PtsH (H : Hp) : List V → List Pt → Prop := Paired fun v pt => ∃ p, v = .ref p ∧ H p = some (.tup pt.vals)
theorem PtsH.at {K : PySem.W.Frag} {H : Hp} {xs : List V} {pts : List Pt} (h : PtsH H xs pts) : PtsAt K H xs pts := Paired.mapP h fun _ _ ⟨p, e, q⟩ => ⟨p, e, SqT.of q⟩
theorem PtsH.mono {H H' : Hp} {xs : List V} {pts : List Pt} (h : PtsH H xs pts) (k : ∀ p ys, H p = some (.tup ys) → H' p = some (.tup ys)) : PtsH H' xs pts := Paired.mapP h fun _ _ ⟨p, e, q⟩ => ⟨p, e, k _ _ q⟩
theorem PtsH.snoc {H : Hp} {p : Addr} {pt : Pt} : ∀ {xs : List V} {pts : List Pt}, PtsH H xs pts → H p = some (.tup pt.vals) → PtsH H (xs ++ [.ref p]) (pts ++ [pt])
  | _, _, .nil, e => .cons ⟨p, rfl, e⟩ .nil
  | _, _, .cons r t, e => .cons r (PtsH.snoc t e)
theorem Dr.tup {b : Addr} {H H' : Hp} (d : Dr b H H') (x : B2 H b) {p : Addr} {ys : List V} (e : H p = some (.tup ys)) : H' p = some (.tup ys) := by
  obtain ⟨g, r, q⟩ := x
  exact d.kp _ _ (ne_of e q (by intro z; cases z)) e
theorem upd_tup {H : Hp} {L : Addr} {zs us : List V} (e : H L = some (.lst zs)) {p : Addr} {ys : List V} (q : H p = some (.tup ys)) : upd H L (.lst us) p = some (.tup ys) := by
  rw [upd_ne (ne_of q e (by intro z; cases z))]
  exact q
/-- the row as data -/
def Pt.dat : Pt → PyData
  | .box n => .tuple [.str "box", .int n]
  | .turned n => .tuple [.str "turned", .int n]
  | .told x => .tuple [.str "told", .str x]
def rowD (pts : List Pt) (cells : List Str) : PyData := .tuple [.list (pts.map Pt.dat), .list (cells.map .str)]
theorem abc_ok {x : Str} (h : Abc x) : PyData.strOk x = true := by
  unfold PyData.strOk
  rw [Array.all_eq_true_iff_forall_mem]
  intro c hc
  have := h c (by simpa using hc)
  exact decide_eq_true (by omega)
theorem rowD_shaped {pts : List Pt} {cells : List Str} (h1 : ∀ pt ∈ pts, pt.abc) (h2 : ∀ c ∈ cells, Abc c) : SeqAt.shaped (rowD pts cells) = true := by
  have c1 : ∀ pts : List Pt, (∀ pt ∈ pts, pt.abc) → PyData.canLayAll0 (pts.map Pt.dat) = true ∧ PyData.depthAll (pts.map Pt.dat) ≤ 1 := by
    intro pts
    induction pts with
    | nil => intro _; exact ⟨rfl, Nat.zero_le _⟩
    | cons pt r ih =>
      intro h
      obtain ⟨i1, i2⟩ := ih fun y hy => h y (List.mem_cons_of_mem _ hy)
      have h0 := h pt (List.mem_cons_self ..)
      have hd : pt.dat.canLay0 = true ∧ pt.dat.depth ≤ 1 := by
        cases pt with
        | told x =>
          refine ⟨?_, Nat.le_refl _⟩
          show (PyData.strOk (PySem.Str.ofString "told") && (PyData.strOk x && true)) = true
          rw [abc_ok h0]
          decide +kernel
        | box n => exact ⟨by show (PyData.strOk (PySem.Str.ofString "box") && (true && true)) = true; decide +kernel, Nat.le_refl _⟩
        | turned n => exact ⟨by show (PyData.strOk (PySem.Str.ofString "turned") && (true && true)) = true; decide +kernel, Nat.le_refl _⟩
      refine ⟨?_, ?_⟩
      · show (pt.dat.canLay0 && PyData.canLayAll0 (r.map Pt.dat)) = true
        rw [hd.1, i1]
        rfl
      · show max pt.dat.depth (PyData.depthAll (r.map Pt.dat)) ≤ 1
        omega
  have c2 : ∀ cells : List Str, (∀ c ∈ cells, Abc c) → PyData.canLayAll0 (cells.map .str) = true ∧ PyData.depthAll (cells.map .str) ≤ 0 := by
    intro cells
    induction cells with
    | nil => intro _; exact ⟨rfl, Nat.zero_le _⟩
    | cons c r ih =>
      intro h
      obtain ⟨i1, i2⟩ := ih fun y hy => h y (List.mem_cons_of_mem _ hy)
      refine ⟨?_, ?_⟩
      · show (PyData.strOk c && PyData.canLayAll0 (r.map .str)) = true
        rw [abc_ok (h c (List.mem_cons_self ..)), i1]
        rfl
      · show max 0 (PyData.depthAll (r.map .str)) ≤ 0
        omega
  obtain ⟨a1, a2⟩ := c1 pts h1
  obtain ⟨b1, b2⟩ := c2 cells h2
  unfold SeqAt.shaped
  rw [Bool.and_eq_true]
  refine ⟨?_, decide_eq_true ?_⟩
  · show (PyData.canLayAll0 (pts.map Pt.dat) && (PyData.canLayAll0 (cells.map .str) && true)) = true
    rw [a1, b1]
    rfl
  · show max (PyData.depthAll (pts.map Pt.dat) + 1) (max (PyData.depthAll (cells.map .str) + 1) 0) + 1 ≤ 64
    omega
theorem dp_pts {K : PySem.W.Frag} {H : Hp} : ∀ {xs : List V} {pts : List Pt}, PtsH H xs pts → DpAll K H xs (pts.map Pt.dat)
  | _, _, .nil => .nil
  | _, .told x :: _, .cons ⟨p, e1, e⟩ t => by rw [e1]; exact .cons (.tup (SqT.of e) (.cons (.str _) (.cons (.str _) .nil))) (dp_pts t)
  | _, .box n :: _, .cons ⟨p, e1, e⟩ t => by rw [e1]; exact .cons (.tup (SqT.of e) (.cons (.str _) (.cons (.int _) .nil))) (dp_pts t)
  | _, .turned n :: _, .cons ⟨p, e1, e⟩ t => by rw [e1]; exact .cons (.tup (SqT.of e) (.cons (.str _) (.cons (.int _) .nil))) (dp_pts t)
theorem dp_row {K : PySem.W.Frag} {H : Hp} {T R C : Addr} {xs : List V} {pts : List Pt} {cells : List Str} (hT : H T = some (.tup [.ref R, .ref C])) (hR : H R = some (.lst xs)) (hC : H C = some (.lst (cells.map V.str))) (hX : PtsH H xs pts) : Dp K H (.ref T) (rowD pts cells) := by
  have d2 : ∀ cells : List Str, DpAll K H (cells.map V.str) (cells.map .str) := by
    intro cells
    induction cells with
    | nil => exact .nil
    | cons c r ih => exact .cons (.str _) ih
  exact .tup (SqT.of hT) (.cons (.lst (SqL.of hR) (dp_pts hX)) (.cons (.lst (SqL.of hC) (d2 cells)) .nil))
theorem rowS_abc {pts : List Pt} {cells : List Str} (ok : ∀ pt ∈ pts, pt.ok cells.length) (h1 : ∀ pt ∈ pts, pt.abc) (h2 : ∀ c ∈ cells, Abc c) : Abc (rowS cells pts) := by
  intro c hc
  rw [rowS_cps, List.map_map] at hc
  obtain ⟨l, hl, hcl⟩ := List.mem_flatten.mp hc
  obtain ⟨pt, hp, rfl⟩ := List.mem_map.mp hl
  have g : ∀ n, n < cells.length → Abc (cells.getD n ⟨#[]⟩) := fun n hn => by
    rw [List.getD_eq_getElem?_getD, List.getElem?_eq_getElem hn]
    exact h2 _ (List.getElem_mem hn)
  cases pt with
  | told x => exact h1 _ hp c hcl
  | box n => exact g n (ok _ hp) c hcl
  | turned n =>
    have e : c ∈ (revS (cells.getD n ⟨#[]⟩)).cps.toList := hcl
    rw [rev_cps, List.mem_reverse] at e
    exact g n (ok _ hp) c e
theorem repr_fit {x : Str} (h : Abc x) (hl : x.length ≤ 10000) : (reprText x).length ≤ sizeLine := by
  have := StrLaws.reprText_len x fun c hc => Nat.lt_of_lt_of_le (h c hc) (by decide)
  exact le_lineN (by omega)
theorem ScL.dr {K : PySem.W.Frag} {b a : Addr} {H H' : Hp} {xs : List V} (h : ScL K b H a xs) (d : Dr b H H') : ScL K b H' a xs := by
  obtain ⟨h1, h2⟩ := h
  rcases h2 with n | n
  · exact ⟨d.sqL n h1, .inl n⟩
  · exact ⟨n H', .inr n⟩

section
theorem ok_law {K : PySem.W.Frag} {mg : Str → Option Value} {A0 : Ad} {P : Program} {w : World} {base : Heap} (T : Txt K mg A0) : FnOk P w K mg base CX0 4 A0.f_law A0.d_law ["_law_script"] (spLaw K) := by
  have Gseed := ok_seed (P := P) (w := w) (base := base) T
  have Grow_text := ok_row_text (P := P) (w := w) (base := base) T
  have Gtold := ok_told (P := P) (w := w) (base := base) T
  have Gchoose := ok_choose (P := P) (w := w) (base := base) T
  have Gone_of := ok_one_of (P := P) (w := w) (base := base) T
  have Gclosed := ok_closed (P := P) (w := w) (base := base) T
  refine T.F_law.ok sc_law (fun vs H Q E h => ?_) (fun cdv A outer s H vs Q E hr h => ?_)
  · obtain ⟨a, ns, rfl, hS, hlen, kk⟩ := h
    rfl
  · obtain ⟨a, ns, rfl, hS, hlen, kk⟩ := h
    have hr_seed : Room 1 _ := hr.mono (by decide)
    have hr_row_text : Room 2 _ := hr.mono (by decide)
    have hr_told : Room 3 _ := hr.mono (by decide)
    have hr_choose : Room 1 _ := hr.mono (by decide)
    have hr_one_of : Room 2 _ := hr.mono (by decide)
    have hr_closed : Room 1 _ := hr.mono (by decide)
    refine ⟨_, (pss_cons (ps_for PassesOwn.never rfl (pi_range1 (by rfl) T.z_range (pa_cons (pe_callB (call_max2 rfl) (by rfl) T.z_max (by decide +kernel) (pa_cons pe_int (pa_cons (pe_callB (call_min2 rfl) (by rfl) T.z_min (by decide +kernel) (pa_cons pe_int (pa_cons (pe_callB call_len_seq (by rfl) T.z_len (by decide +kernel) (pa_cons (pv 0) pa_nil)) pa_nil))) pa_nil))) pa_nil)) (pg_name (i := 1) sc_law.nd rfl (Or.inl rfl)) (pss_cons (ps_set (i := 2) sc_law.nd rfl (Or.inr rfl) (pe_call Gseed hr_seed rfl T.g_seed T.k_seed T.b_seed .nil pass0 (pa_cons (pv 0) (pa_cons (pv 1) pa_nil))))
      (pss_one (ps_for PassesOwn.never rfl (pi_range1 (by rfl) T.z_range (pa_cons pe_int pa_nil)) (pg_name (i := 3) sc_law.nd rfl (Or.inl rfl)) (pss_cons (ps_setLc (i := 4) (own := [("_law_spot", 10)]) (g := gName 10) (tt := tYes) rfl sc_law.nd rfl rfl (sw_true rfl rfl rfl (by decide +kernel)) (pi_range1 (by rfl) T.z_range (pa_cons (pe_op op_add pe_int (pe_call Gchoose hr_choose rfl T.g_choose T.k_choose T.b_choose .nil pass0 (pa_cons (pv 2) (pa_cons pe_int pa_nil)))) pa_nil)) (blkOk_by (own := [("_law_spot", 10)]) (N := N_law) (sc := defScope s_law) (by decide +kernel)) (fun _ _ _ _ _ => (pg_name (i := 10) sc_law.nd rfl (Or.inl rfl))) (fun _ _ _ _ _ => pts_nil) (fun _ _ _ _ _ => (pe_call Gtold hr_told rfl T.g_told T.k_told T.b_told .nil pass0 (pa_cons (pv 2) (pa_cons pe_str (pa_cons pe_int pa_nil))))))
      (pss_cons (ps_set (i := 5) sc_law.nd rfl (Or.inl rfl) (pe_lst pa_nil))
      (pss_cons (ps_for PassesOwn.never rfl (pi_range1 (by rfl) T.z_range (pa_cons (pe_call Gchoose hr_choose rfl T.g_choose T.k_choose T.b_choose .nil pass0 (pa_cons (pv 2) (pa_cons pe_int pa_nil))) pa_nil)) (pg_name (i := 6) sc_law.nd rfl (Or.inl rfl)) (pss_cons (ps_set (i := 7) sc_law.nd rfl (Or.inl rfl) (pe_call Gone_of hr_one_of rfl T.g_one_of T.k_one_of T.b_one_of .nil pass0 (pa_cons (pv 2) (pa_cons (pe_lst (pa_cons pe_str (pa_cons pe_str (pa_cons pe_str pa_nil)))) pa_nil))))
      (pss_one (ps_expr (pe_bm PySem.F.plainAttrs_list PySem.F.slot_list_append PySem.F.type_list_append mt_append (pv 5) (pa_cons (pe_tup (pa_cons (pv 7) (pa_cons (pe_ifExp (pt_cmpR op_eq (pv 7) pe_str (nomark _)) (pe_op op_add_str (pe_call Gtold hr_told rfl T.g_told T.k_told T.b_told .nil pass0 (pa_cons (pv 2) (pa_cons pe_str (pa_cons pe_int pa_nil)))) pe_str) (pe_call Gchoose hr_choose rfl T.g_choose T.k_choose T.b_choose .nil pass0 (pa_cons (pv 2) (pa_cons (pe_callB call_len_seq (by rfl) T.z_len (by decide +kernel) (pa_cons (pv 4) pa_nil)) pa_nil)))) pa_nil))) pa_nil))))))
      (pss_cons (ps_if (pt_cmpR op_gt (pe_callB call_len_seq (by rfl) T.z_len (by decide +kernel) (pa_cons (pe_lc (own := [("_law_sort", 7), ("_law_what", 11)]) (g := gTup K 2 (gCons (gName 7) (gCons (gName 11) gNil))) rfl sc_law.nd (pi_list (pv 5)) (blkOk_by (own := [("_law_sort", 7), ("_law_what", 11)]) (N := N_law) (sc := defScope s_law) (by decide +kernel)) (fun _ _ _ _ _ => (pg_tup rfl (pgs_cons (pg_name (i := 7) sc_law.nd rfl (Or.inl rfl)) (pgs_cons (pg_name (i := 11) sc_law.nd rfl (Or.inl rfl)) pgs_nil)))) (fun _ _ _ _ _ => (pts_one (pt_cmpR op_ne (pv 7) pe_str (nomark _)))) (fun _ _ _ _ _ => pe_int)) pa_nil)) pe_int (nomark _)) (pss_one ps_continue) pss_nil)
      (pss_cons (ps_par (i := 8) (j := 9) (by rfl) sc_law.nd rfl rfl (by decide) rfl rfl (pa_cons (pe_call Gclosed hr_closed rfl T.g_closed T.k_closed T.b_closed .nil pass0 (pa_cons (pv 5) (pa_cons (pv 4) pa_nil))) (pa_cons (pe_tup (pa_cons (pe_callTy call_list_of (by rfl) T.z_list (by decide +kernel) (pa_cons (pv 5) pa_nil)) (pa_cons (pe_callTy call_list_of (by rfl) T.z_list (by decide +kernel) (pa_cons (pv 4) pa_nil)) pa_nil))) pa_nil)) (by rfl))
      (pss_cons (ps_if (PW.pt (pw_or (pt_cmpR op_ne (pe_callB cr_reprStr (by rfl) T.z_repr (by decide +kernel) (pa_cons (pe_call Grow_text hr_row_text rfl T.g_row_text T.k_row_text T.b_row_text .nil pass0 (pa_cons (pv 5) (pa_cons (pv 4) pa_nil))) pa_nil)) (pe_callB cr_reprStr (by rfl) T.z_repr (by decide +kernel) (pa_cons (pv 8) pa_nil)) (nomark _)) (pw_or1 (pt_cmpR (op_neD hr.units) (pe_tup (pa_cons (pv 5) (pa_cons (pv 4) pa_nil))) (pv 9) (nomark _))))) (pss_one (ps_ret pe_bl)) pss_nil)
      (pss_one (ps_if (pt_cmpR op_ne (pe_call Grow_text hr_row_text rfl T.g_row_text T.k_row_text T.b_row_text .nil pass0 (pa_cons (pe_callTy call_tuple_of (by rfl) T.z_tuple (by decide +kernel) (pa_cons (pv 5) pa_nil)) (pa_cons (pe_callTy call_tuple_of (by rfl) T.z_tuple (by decide +kernel) (pa_cons (pv 4) pa_nil)) pa_nil))) (pv 8) (nomark _)) (pss_one (ps_ret pe_bl)) pss_nil))))))))))))
      (pss_one (ps_ret (pe_and (pe_cmpR op_eq (pe_call Grow_text hr_row_text rfl T.g_row_text T.k_row_text T.b_row_text .nil pass0 (pa_cons (pe_lst pa_nil) (pa_cons (pe_tup (pa_cons pe_str pa_nil)) pa_nil))) pe_str (nomark _)) (pe_one (pe_cmpR op_eq (pe_call Grow_text hr_row_text rfl T.g_row_text T.k_row_text T.b_row_text .nil pass0 (pa_cons (pe_tup (pa_cons (pe_tup (pa_cons pe_str (pa_cons pe_int pa_nil))) pa_nil)) (pa_cons (pe_lst (pa_cons pe_str pa_nil)) pa_nil))) pe_str (nomark _))))))), ?_⟩
    walk_at "rd"
    refine ⟨_, _, rfl, .inl hS, ?_⟩
    walk_at "rd"
    rw [List.length_map]
    generalize hJ : (if (if ((ns.length : Nat) : Int) < 3 then ((ns.length : Nat) : Int) else 3) > 1 then (if ((ns.length : Nat) : Int) < 3 then ((ns.length : Nat) : Int) else 3) else 1) = J
    have hJ0 : 0 ≤ J ∧ J ≤ 63 := by
      rw [← hJ]
      constructor <;> (repeat' split) <;> omega
    refine ⟨by omega, by omega, for_range (lo := 0) (n := J.toNat) (fun i σ H' => (∃ v1 v2 v3 v4 v5 v6 v7 v8 v9 v10 v11, σ = [some (.ref a), v1, v2, v3, v4, v5, v6, v7, v8, v9, v10, v11]) ∧ SqL K H' a (ns.map V.int))
      ⟨⟨_, _, _, _, _, _, _, _, _, _, _, rfl⟩, hS⟩ (fun i σ H1 hi P1 => ?_) (fun σ H1 P1 => ?_)⟩
    · obtain ⟨⟨v1, v2, v3, v4, v5, v6, v7, v8, v9, v10, v11, rfl⟩, hS1⟩ := P1
      walk_at "rd"
      refine ⟨a, ns, 0 + (i : Int), rfl, hS1, hlen, by omega, by omega, fun b g r nb => ?_⟩
      have hB0 : B2 (upd H1 b (.lst [.int g, .int r])) b := ⟨g, r, upd_same⟩
      have hC0 : ScL K b (upd H1 b (.lst [.int g, .int r])) a (ns.map V.int) := ⟨(same_upd nb).seq hS1, (ScL.mk hS1 nb).2⟩
      walk_at "rd"
      refine for_range (lo := 0) (n := 12) (fun j σ H' => (∃ v3 v4 v5 v6 v7 v8 v9 v10 v11, σ = [some (.ref a), some (.int (0 + (i : Int))), some (.ref b), v3, v4, v5, v6, v7, v8, v9, v10, v11]) ∧ B2 H' b ∧ ScL K b H' a (ns.map V.int))
        ⟨⟨_, _, _, _, _, _, _, _, _, rfl⟩, hB0, hC0⟩ (fun j σ H2 hj P2 => ?_) (fun σ H2 P2 => ?_)
      · obtain ⟨⟨v3, v4, v5, v6, v7, v8, v9, v10, v11, rfl⟩, hB, hC⟩ := P2
        walk_at "rd"
        refine ⟨hB, by decide, by decide, fun d H3 D3 d0 d1 _ => ?_⟩
        walk_at "rd"
        refine ⟨by omega, by omega, fun Lc nLc => ?_⟩
        have nLb : Lc ≠ b := D3.bx.ne nLc
        refine lc_range (lo := 0) (n := (1 + d).toNat) (fun i H' => ∃ ys : List Str, Dr b H2 H' ∧ H' Lc = some (.lst (ys.map V.str)) ∧ ys.length = i ∧ ∀ y ∈ ys, y.length ≤ 6 ∧ Abc y)
          ⟨[], D3.trans (.same D3.bx (same_upd nLc)), upd_same, rfl, fun y hy => by cases hy⟩ (fun i H4 hi P4 => ?_) (fun H4 P4 => ?_)
        · obtain ⟨ys, D4, eL, hy, ho⟩ := P4
          walk_at "rd"
          refine ⟨b, _, 6, rfl, D4.bx, by decide, by decide, by decide, by decide, fun y H5 D5 ly cy => ?_⟩
          have e5 : H5 Lc = some (.lst (ys.map V.str)) := D5.kp _ _ nLb eL
          refine ⟨_, e5, by rw [List.length_map]; exact Nat.lt_of_lt_of_le (show ys.length < 1000 by omega) (le_line rfl), ys ++ [y], ?_, ?_, ?_, ?_⟩
          · refine ⟨fun p o n e => ?_, ?_⟩
            · rw [upd_ne (ne_of_none e (D3.free nLc))]
              exact D5.kp _ _ n (D4.kp _ _ n e)
            · obtain ⟨g, r, eb⟩ := D5.bx
              exact ⟨g, r, by rw [upd_ne nLb.symm]; exact eb⟩
          · rw [upd_same, List.map_append]
            rfl
          · rw [List.length_append, hy]
            rfl
          · intro x hx
            rcases List.mem_append.mp hx with hx | hx
            · exact ho x hx
            · rw [List.mem_singleton.mp hx]
              refine ⟨by omega, fun c hc => ?_⟩
              have := cy c hc
              exact (show ∀ c ∈ (PySem.Str.ofString "abc").cps.toList, c < 128 by decide +kernel) c this
        · obtain ⟨cells, D4, eLc, hcl, hco⟩ := P4
          have hcl1 : 0 < cells.length := by omega
          have hcl2 : cells.length ≤ 2 := by omega
          walk_at "rd"
          intro Lr nLr
          have nLrb : Lr ≠ b := D4.bx.ne nLr
          have nLcr : Lc ≠ Lr := ne_of_none eLc nLr
          have D5 : Dr b H2 (upd H4 Lr (.lst [])) := D4.trans (.same D4.bx (same_upd nLr))
          have eLc5 : (upd H4 Lr (.lst [])) Lc = some (.lst (cells.map V.str)) := by rw [upd_ne nLcr]; exact eLc
          walk_at "rd"
          refine ⟨D5.bx, by decide, by decide, fun d6 H6 D6 d60 d61 _ => ?_⟩
          have eLc6 := D6.kp _ _ nLb eLc5
          have eLr6 := D6.kp _ _ nLrb (show (upd H4 Lr (.lst [])) Lr = _ from upd_same)
          walk_at "rd"
          refine ⟨by omega, by omega, for_range (lo := 0) (n := d6.toNat) (fun i2 σ H' => ∃ (v6 v7 v8 v9 v10 v11 : Option V) (xs : List V) (pts : List Pt), σ = [some (.ref a), some (.int (0 + (i : Int))), some (.ref b), some (.int (0 + (j : Int))), some (.ref Lc), some (.ref Lr), v6, v7, v8, v9, v10, v11] ∧
              Dr b H2 H' ∧ H' Lc = some (.lst (cells.map V.str)) ∧ H' Lr = some (.lst xs) ∧ PtsH H' xs pts ∧ pts.length = i2 ∧ ∀ pt ∈ pts, pt.ok cells.length ∧ pt.abc)
            ⟨_, _, _, _, _, _, [], [], rfl, D5.trans D6, eLc6, eLr6, .nil, rfl, fun pt hp => by cases hp⟩ (fun i2 σ H7 hi2 P7 => ?_) (fun σ H7 P7 => ?_)⟩
          · obtain ⟨v6, v7, v8, v9, v10, v11, xs, pts, rfl, D7, eLc7, eLr7, hX, hpl, hpo⟩ := P7
            have hBx := D7.bx
            have fin : ∀ (H9 : Hp) (t : Addr) (pt : Pt), Dr b H7 H9 → H9 t = none → pt.ok cells.length → pt.abc →
                Dr b H2 (upd (upd H9 t (.tup pt.vals)) Lr (.lst (xs ++ [.ref t]))) ∧ (upd (upd H9 t (.tup pt.vals)) Lr (.lst (xs ++ [.ref t]))) Lc = some (.lst (cells.map V.str)) ∧
                (upd (upd H9 t (.tup pt.vals)) Lr (.lst (xs ++ [.ref t]))) Lr = some (.lst (xs ++ [.ref t])) ∧ PtsH (upd (upd H9 t (.tup pt.vals)) Lr (.lst (xs ++ [.ref t]))) (xs ++ [.ref t]) (pts ++ [pt]) ∧
                (pts ++ [pt]).length = i2 + 1 ∧ ∀ y ∈ pts ++ [pt], y.ok cells.length ∧ y.abc := by
              intro H9 t pt D9 nt ok1 ok2
              have e9r := D9.kp _ _ nLrb eLr7
              have e9c := D9.kp _ _ nLb eLc7
              have ntr : t ≠ Lr := (ne_of_none e9r nt).symm
              have ntc : t ≠ Lc := (ne_of_none e9c nt).symm
              have nt2 : H2 t = none := D7.free (D9.free nt)
              have n2r : H2 Lr = none := D4.free nLr
              refine ⟨⟨fun p o n e => ?_, ?_⟩, ?_, upd_same, ?_, ?_, ?_⟩
              · rw [upd_ne (ne_of_none e n2r), upd_ne (ne_of_none e nt2)]
                exact D9.kp _ _ n (D7.kp _ _ n e)
              · obtain ⟨g, r, eb⟩ := D9.bx
                exact ⟨g, r, by rw [upd_ne nLrb.symm, upd_ne (ne_of_none eb nt)]; exact eb⟩
              · rw [upd_ne nLcr, upd_ne ntc.symm]
                exact e9c
              · refine PtsH.snoc (PtsH.mono hX fun p ys e => ?_) ?_
                · have e2 := D9.tup hBx e
                  rw [upd_ne (ne_of e2 e9r (by intro z; cases z)), upd_ne (ne_of_none e2 nt)]
                  exact e2
                · rw [upd_ne ntr, upd_same]
              · rw [List.length_append, hpl]
                rfl
              · intro y hy
                rcases List.mem_append.mp hy with hy | hy
                · exact hpo y hy
                · rw [List.mem_singleton.mp hy]
                  exact ⟨ok1, ok2⟩
            walk_at "rd"
            intro q nq
            have D8 : Dr b H7 (upd H7 q (.lst [.str "box", .str "turned", .str "told"])) := .same hBx (same_upd nq)
            refine ⟨b, q, _, rfl, D8.bx, SqL.of upd_same, hBx.ne nq, by decide, by decide, fun v H8 D8' mv => ?_⟩
            have D9 := D8.trans D8'
            have e9r := D9.kp _ _ nLrb eLr7
            have e9c := D9.kp _ _ nLb eLc7
            have hxl : xs.length = pts.length := Paired.length hX
            have hxs : xs.length < sizeLine := Nat.lt_of_lt_of_le (show xs.length < 1000 by omega) (le_line rfl)
            simp only [List.mem_cons, List.not_mem_nil, or_false] at mv
            rcases mv with rfl | rfl | rfl
            · walk_at "rd"
              refine ⟨.inl ⟨rfl, _, SqL.of e9r⟩, ?_⟩
              walk_at "rd"
              refine ⟨_, _, rfl, .inl (SqL.of e9c), ?_⟩
              refine ⟨b, _, rfl, D9.bx, by rw [List.length_map]; omega, by rw [List.length_map]; omega, fun n H9 D10 n0 n1 _ => ?_⟩
              rw [List.length_map] at n1
              obtain ⟨n, rfl⟩ := Int.eq_ofNat_of_zero_le n0
              walk_at "rd"
              intro t nt
              obtain ⟨f1, f2, f3, f4, f5, f6⟩ := fin H9 t (.box n) (D9.trans D10) nt (show n < cells.length by omega) trivial
              have e10 : (upd H9 t (.tup (Pt.box n).vals)) Lr = some (.lst xs) := by
                have e := D10.kp _ _ nLrb e9r
                rw [upd_ne (ne_of_none e nt)]
                exact e
              refine ⟨Lr, xs, _, rfl, rfl, e10, hxs, ?_⟩
              exact ⟨_, _, _, _, _, _, _, _, rfl, f1, f2, f3, f4, f5, f6⟩
            · walk_at "rd"
              refine ⟨.inl ⟨rfl, _, SqL.of e9r⟩, ?_⟩
              walk_at "rd"
              refine ⟨_, _, rfl, .inl (SqL.of e9c), ?_⟩
              refine ⟨b, _, rfl, D9.bx, by rw [List.length_map]; omega, by rw [List.length_map]; omega, fun n H9 D10 n0 n1 _ => ?_⟩
              rw [List.length_map] at n1
              obtain ⟨n, rfl⟩ := Int.eq_ofNat_of_zero_le n0
              walk_at "rd"
              intro t nt
              obtain ⟨f1, f2, f3, f4, f5, f6⟩ := fin H9 t (.turned n) (D9.trans D10) nt (show n < cells.length by omega) trivial
              have e10 : (upd H9 t (.tup (Pt.turned n).vals)) Lr = some (.lst xs) := by
                have e := D10.kp _ _ nLrb e9r
                rw [upd_ne (ne_of_none e nt)]
                exact e
              refine ⟨Lr, xs, _, rfl, rfl, e10, hxs, ?_⟩
              exact ⟨_, _, _, _, _, _, _, _, rfl, f1, f2, f3, f4, f5, f6⟩
            · walk_at "rd"
              refine ⟨.inl ⟨rfl, _, SqL.of e9r⟩, ?_⟩
              walk_at "rd"
              refine ⟨b, _, 2, rfl, D9.bx, by decide, by decide, by decide, by decide, fun y H9 D10 ly cy => ?_⟩
              walk_at "rd"
              refine ⟨le_lineN (by show y.length + 1 ≤ 1000000; omega), ?_⟩
              walk_at "rd"
              intro t nt
              obtain ⟨f1, f2, f3, f4, f5, f6⟩ := fin H9 t (.told (y ++ PySem.Str.ofString "a")) (D9.trans D10) nt (by
                  show (y ++ PySem.Str.ofString "a").length ≤ 1000
                  rw [app_len]
                  show y.length + 1 ≤ 1000
                  omega) (fun c hc => by
                  rw [app_cps] at hc
                  rcases List.mem_append.mp hc with hc | hc
                  · exact (show ∀ c ∈ (PySem.Str.ofString "abc").cps.toList, c < 128 by decide +kernel) c (cy c hc)
                  · exact (show ∀ c ∈ (PySem.Str.ofString "a").cps.toList, c < 128 by decide +kernel) c hc)
              have e10 : (upd H9 t (.tup (Pt.told (y ++ PySem.Str.ofString "a")).vals)) Lr = some (.lst xs) := by
                have e := D10.kp _ _ nLrb e9r
                rw [upd_ne (ne_of_none e nt)]
                exact e
              refine ⟨Lr, xs, _, rfl, rfl, e10, hxs, ?_⟩
              exact ⟨_, _, _, _, _, _, _, _, rfl, f1, f2, f3, f4, f5, f6⟩
          · obtain ⟨v6, v7, v8, v9, v10, v11, xs, pts, rfl, D7, eLc7, eLr7, hX, hpl, hpo⟩ := P7
            have hxl : xs.length = pts.length := Paired.length hX
            walk_at "rd"
            refine ⟨⟨_, SqL.of eLr7⟩, fun L1 nL1 => ?_⟩
            refine lc_list (K := K) (a := Lr) (xs := xs) (fun i3 H' => Same H7 H' ∧ ∃ acc : List V, H' L1 = some (.lst acc) ∧ acc.length ≤ i3)
              ⟨same_upd nL1, [], upd_same, Nat.le_refl _⟩ (fun i3 H' _ P8 => P8.1.seq (SqL.of eLr7)) (fun i3 x H8 ex P8 => ?_) (fun H8 P8 => ?_)
            · obtain ⟨s8, acc, e8, l8⟩ := P8
              obtain ⟨pt, q, ep, rfl, hq⟩ := (PtsH.at (K := K) hX).at ex
              have hi3 : i3 < xs.length := (List.getElem?_eq_some_iff.mp ex).1
              have push : ∃ acc' : List V, H8 L1 = some (.lst acc') ∧ acc'.length < sizeLine ∧ Same H7 (upd H8 L1 (.lst (acc' ++ [.int 1]))) ∧ ∃ acc2 : List V, (upd H8 L1 (.lst (acc' ++ [.int 1]))) L1 = some (.lst acc2) ∧ acc2.length ≤ i3 + 1 := by
                refine ⟨acc, e8, Nat.lt_of_lt_of_le (show acc.length < 1000 by omega) (le_line rfl), fun b o e => by rw [upd_ne (ne_of_none e nL1)]; exact s8 _ _ e, _, upd_same, ?_⟩
                rw [List.length_append]
                show acc.length + 1 ≤ i3 + 1
                omega
              refine ⟨q, pt.vals, rfl, Same.tup s8 hq, by cases pt <;> rfl, ?_⟩
              cases pt with
              | told x =>
                refine ⟨_, _, rfl, _, _, rfl, rfl, rfl, ?_⟩
                walk_at "rd"
                exact ⟨s8, acc, e8, by omega⟩
              | box n =>
                refine ⟨_, _, rfl, _, _, rfl, rfl, rfl, ?_⟩
                walk_at "rd"
                exact push
              | turned n =>
                refine ⟨_, _, rfl, _, _, rfl, rfl, rfl, ?_⟩
                walk_at "rd"
                exact push
            · obtain ⟨s8, acc, e8, l8⟩ := P8
              walk_at "rd"
              refine ⟨_, _, rfl, .inl (SqL.of e8), ?_⟩
              walk_at "rd"
              have D8 : Dr b H2 H8 := D7.trans (.same D7.bx s8)
              refine ite2 (fun h9 => ?_) (fun h9 => ?_)
              · exact ⟨⟨_, _, _, _, _, _, _, _, _, rfl⟩, D8.bx, hC.dr D8⟩
              · walk_at "rd"
                have eLr8 := s8 _ _ eLr7
                have eLc8 := s8 _ _ eLc7
                have hX8 : PtsH H8 xs pts := hX.mono fun p ys e => s8 _ _ e
                have hok : ∀ pt ∈ pts, pt.ok cells.length := fun pt hp => (hpo pt hp).1
                have hcl : ∀ c ∈ cells, c.length ≤ 1000 := fun c hc => Nat.le_trans (hco c hc).1 (by decide)
                have hca : ∀ c ∈ cells, Abc c := fun c hc => (hco c hc).2
                have hpn : pts.length ≤ 1000 := by omega
                have hra := rowS_abc hok (fun pt hp => (hpo pt hp).2) hca
                have hrl : (rowS cells pts).length ≤ 10000 := by
                  have := rowS_len hcl hok
                  omega
                have hrf := repr_fit hra hrl
                refine ⟨Lr, Lc, xs, pts, cells, rfl, SqL.of eLr8, PtsH.at hX8, SqL.of eLc8, hok, hcl, hpn, ?_⟩
                walk_at "rd"
                refine ⟨Lr, xs, rfl, .inl (SqL.of eLr8), fun M1 nM1 => ?_⟩
                have s9 : Same H8 (upd H8 M1 (.lst xs)) := same_upd nM1
                walk_at "rd"
                refine ⟨Lc, _, rfl, .inl (SqL.of (s9 _ _ eLc8)), fun M2 nM2 => ?_⟩
                have s10 : Same (upd H8 M1 (.lst xs)) (upd (upd H8 M1 (.lst xs)) M2 (.lst (cells.map V.str))) := same_upd nM2
                walk_at "rd"
                intro T1 nT1
                have s11 := same_upd (o := .tup [.ref M1, .ref M2]) nT1
                have t8 := s9.trans (s10.trans s11)
                generalize hH9 : upd (upd (upd H8 M1 (.lst xs)) M2 (.lst (cells.map V.str))) T1 (.tup [.ref M1, .ref M2]) = H9 at t8 s11 ⊢
                have eT1 : H9 T1 = some (.tup [.ref M1, .ref M2]) := by rw [← hH9, upd_same]
                have eM1 : H9 M1 = some (.lst xs) := s11 _ _ (s10 _ _ upd_same)
                have eM2 : H9 M2 = some (.lst (cells.map V.str)) := s11 _ _ upd_same
                walk_at "rd"
                have eLr9 := t8 _ _ eLr8
                have eLc9 := t8 _ _ eLc8
                have hX9 : PtsH H9 xs pts := hX8.mono fun p ys e => t8 _ _ e
                refine ⟨Lr, Lc, xs, pts, cells, rfl, .inl (SqL.of eLr9), PtsH.at hX9, .inl (SqL.of eLc9), hok, hcl, hpn, fun H10 s12 => ?_⟩
                refine ⟨_, rfl, hrf, _, rfl, _, rfl, hrf, rfl, _, rfl, iteNS rfl ?_⟩
                have eLr10 := s12 _ _ eLr9
                have eLc10 := s12 _ _ eLc9
                have hX10 : PtsH H10 xs pts := hX9.mono fun p ys e => s12 _ _ e
                walk_at "rd"
                intro T2 nT2
                have s13 := same_upd (o := .tup [.ref Lr, .ref Lc]) nT2
                generalize hH11 : upd H10 T2 (.tup [.ref Lr, .ref Lc]) = H11 at s13 ⊢
                have hX11 : PtsH H11 xs pts := hX10.mono fun p ys e => s13 _ _ e
                have eT2 : H11 T2 = some (.tup [.ref Lr, .ref Lc]) := by rw [← hH11, upd_same]
                have sh := rowD_shaped (fun pt hp => (hpo pt hp).2) hca (pts := pts)
                have k9 := s12.trans s13
                refine ⟨_, rfl, rowD pts cells, rowD pts cells, dp_row eT2 (s13 _ _ eLr10) (s13 _ _ eLc10) hX11, dp_row (k9 _ _ eT1) (k9 _ _ eM1) (k9 _ _ eM2) hX11, sh, sh, _, rfl, ?_⟩
                rw [SeqAt.eqv_refl _ (SeqAt.canLay_of_shaped sh)]
                refine iteF ?_
                have eLr11 := s13 _ _ eLr10
                have eLc11 := s13 _ _ eLc10
                refine ⟨_, rfl, Lr, xs, rfl, .inl ⟨SqL.of eLr11, fun T3 nT3 => ?_⟩⟩
                have s14 := same_upd (o := .tup xs) nT3
                refine ⟨_, rfl, Lc, _, rfl, .inl ⟨SqL.of (s14 _ _ eLc11), fun T4 nT4 => ?_⟩⟩
                have s15 := same_upd (o := .tup (cells.map V.str)) nT4
                have hX12 := (hX11.mono fun p ys e => s14 _ _ e).mono fun p ys e => s15 _ _ e
                refine ⟨T3, T4, xs, pts, cells, rfl, .inr (SqT.of (s15 _ _ upd_same)), PtsH.at hX12, .inr (SqT.of upd_same), hok, hcl, hpn, fun H12 s16 => ?_⟩
                refine ⟨_, rfl, rfl, _, rfl, iteNS rfl ?_⟩
                have D12 : Dr b H2 H12 := D8.trans (.same D8.bx (t8.trans (s12.trans (s13.trans (s14.trans (s15.trans s16))))))
                exact ⟨⟨_, _, _, _, _, _, _, _, _, rfl⟩, D12.bx, hC.dr D12⟩
      · obtain ⟨⟨v3, v4, v5, v6, v7, v8, v9, v10, v11, rfl⟩, hB, hC⟩ := P2
        exact ⟨⟨_, _, _, _, _, _, _, _, _, _, _, rfl⟩, hC.1⟩
    · obtain ⟨⟨v1, v2, v3, v4, v5, v6, v7, v8, v9, v10, v11, rfl⟩, hS1⟩ := P1
      walk_at "rd"
      intro L1 nL1
      walk_at "rd"
      intro T1 nT1
      have s1 := same_upd (o := .tup [.str "a"]) nT1
      refine ⟨L1, T1, [], [], [PySem.Str.ofString "a"], rfl, .inl (SqL.of (s1 _ _ upd_same)), .nil, .inr (SqT.of upd_same), (fun pt hp => by cases hp), (fun c hc => by rw [List.mem_singleton.mp hc]; decide +kernel), Nat.zero_le _, fun H2 s2 => ?_⟩
      rw [rowS_nil]
      walk_at "rd"
      intro T2 nT2
      walk_at "rd"
      intro T3 nT3
      have s3 := same_upd (o := .tup [.ref T2]) nT3
      walk_at "rd"
      intro L4 nL4
      have s4 := same_upd (o := .lst [.str "abc"]) nL4
      refine ⟨T3, L4, [.ref T2], [.turned 0], [PySem.Str.ofString "abc"], rfl, .inr (SqT.of (s4 _ _ upd_same)), .cons ⟨T2, rfl, SqT.of (s4 _ _ (s3 _ _ upd_same))⟩ .nil, .inl (SqL.of upd_same),
        (fun pt hp => by rw [List.mem_singleton.mp hp]; exact (show 0 < 1 by decide)), (fun c hc => by rw [List.mem_singleton.mp hc]; decide +kernel), Nat.le_of_ble_eq_true rfl, fun H5 s5 => ?_⟩
      have e : rowS [PySem.Str.ofString "abc"] [Pt.turned 0] = PySem.Str.ofString "cba" := by decide +kernel
      rw [e]
      refine ⟨rfl, ?_⟩
      rw [decide_eq_true rfl]
      exact kk _

end
end My

namespace My
open PySem PySem.Spec PyProof.Rows L2

theorem all_mk {l : PySem.W.OpenLaw} {w : World} {K : PySem.W.Frag} {h : Heap} {mg : Str → Option Value} {fa : Addr} (X : K.In h) (G : h.Ns mainGlobals mg) (hfa : mg "law" = some (.ref fa))
    {f1 f2 f3 f4 f5 f6 f7 f8 : Addr} {od1 an1 od2 an2 od3 an3 od4 an4 od5 an5 od6 an6 od7 an7 od8 an8 : Option Addr} {sl1 sl2 sl3 sl4 sl5 sl6 sl7 sl8 : Array (Option Value)}
    {oc1 kV1 dc1 pm1 cd1 ct1 oc2 kV2 dc2 pm2 cd2 ct2 oc3 kV3 dc3 pm3 cd3 ct3 oc4 kV4 dc4 pm4 cd4 ct4 oc5 kV5 dc5 pm5 cd5 ct5 oc6 kV6 dc6 pm6 cd6 ct6 oc7 kV7 dc7 pm7 cd7 ct7 oc8 kV8 dc8 pm8 cd8 ct8 : Value}
    (a1 : PySem.W.nsIn K mainGlobals "part_text" = some (some (.ref f1)))
    (l1 : K.lookup f1 = some ⟨oc1, od1, .func (PySem.W.fnOf "part_text" "part_text" (defArgs s_part_text) (defBody s_part_text) (defScope s_part_text) .none kV1 dc1 pm1 an1 cd1 ct1), sl1⟩)
    (c1 : PySem.W.codeIn K cd1 "part_text" = true) (k1 : PySem.W.keepIn K (.ref f1) = true)
    (a2 : PySem.W.nsIn K mainGlobals "row_text" = some (some (.ref f2)))
    (l2 : K.lookup f2 = some ⟨oc2, od2, .func (PySem.W.fnOf "row_text" "row_text" (defArgs s_row_text) (defBody s_row_text) (defScope s_row_text) .none kV2 dc2 pm2 an2 cd2 ct2), sl2⟩)
    (c2 : PySem.W.codeIn K cd2 "row_text" = true) (k2 : PySem.W.keepIn K (.ref f2) = true)
    (a3 : PySem.W.nsIn K mainGlobals "_law_seed" = some (some (.ref f3)))
    (l3 : K.lookup f3 = some ⟨oc3, od3, .func (PySem.W.fnOf "_law_seed" "_law_seed" (defArgs s_seed) (defBody s_seed) (defScope s_seed) .none kV3 dc3 pm3 an3 cd3 ct3), sl3⟩)
    (c3 : PySem.W.codeIn K cd3 "_law_seed" = true) (k3 : PySem.W.keepIn K (.ref f3) = true)
    (a4 : PySem.W.nsIn K mainGlobals "_law_choose" = some (some (.ref f4)))
    (l4 : K.lookup f4 = some ⟨oc4, od4, .func (PySem.W.fnOf "_law_choose" "_law_choose" (defArgs s_choose) (defBody s_choose) (defScope s_choose) .none kV4 dc4 pm4 an4 cd4 ct4), sl4⟩)
    (c4 : PySem.W.codeIn K cd4 "_law_choose" = true) (k4 : PySem.W.keepIn K (.ref f4) = true)
    (a5 : PySem.W.nsIn K mainGlobals "_law_one_of" = some (some (.ref f5)))
    (l5 : K.lookup f5 = some ⟨oc5, od5, .func (PySem.W.fnOf "_law_one_of" "_law_one_of" (defArgs s_one_of) (defBody s_one_of) (defScope s_one_of) .none kV5 dc5 pm5 an5 cd5 ct5), sl5⟩)
    (c5 : PySem.W.codeIn K cd5 "_law_one_of" = true) (k5 : PySem.W.keepIn K (.ref f5) = true)
    (a6 : PySem.W.nsIn K mainGlobals "_law_told" = some (some (.ref f6)))
    (l6 : K.lookup f6 = some ⟨oc6, od6, .func (PySem.W.fnOf "_law_told" "_law_told" (defArgs s_told) (defBody s_told) (defScope s_told) .none kV6 dc6 pm6 an6 cd6 ct6), sl6⟩)
    (c6 : PySem.W.codeIn K cd6 "_law_told" = true) (k6 : PySem.W.keepIn K (.ref f6) = true)
    (a7 : PySem.W.nsIn K mainGlobals "_law_closed" = some (some (.ref f7)))
    (l7 : K.lookup f7 = some ⟨oc7, od7, .func (PySem.W.fnOf "_law_closed" "_law_closed" (defArgs s_closed) (defBody s_closed) (defScope s_closed) .none kV7 dc7 pm7 an7 cd7 ct7), sl7⟩)
    (c7 : PySem.W.codeIn K cd7 "_law_closed" = true) (k7 : PySem.W.keepIn K (.ref f7) = true)
    (a8 : PySem.W.nsIn K mainGlobals "law" = some (some (.ref f8)))
    (l8 : K.lookup f8 = some ⟨oc8, od8, .func (PySem.W.fnOf "law" "law" (defArgs s_law) (defBody s_law) (defScope s_law) .none kV8 dc8 pm8 an8 cd8 ct8), sl8⟩)
    (c8 : PySem.W.codeIn K cd8 "law" = true) (k8 : PySem.W.keepIn K (.ref f8) = true)
    (z_abs : PySem.W.nsIn K mainGlobals "abs" = some none)
    (z_int : PySem.W.nsIn K mainGlobals "int" = some none)
    (z_len : PySem.W.nsIn K mainGlobals "len" = some none)
    (z_list : PySem.W.nsIn K mainGlobals "list" = some none)
    (z_max : PySem.W.nsIn K mainGlobals "max" = some none)
    (z_min : PySem.W.nsIn K mainGlobals "min" = some none)
    (z_range : PySem.W.nsIn K mainGlobals "range" = some none)
    (z_repr : PySem.W.nsIn K mainGlobals "repr" = some none)
    (z_tuple : PySem.W.nsIn K mainGlobals "tuple" = some none)
    : ∃ fd : FuncData, (∀ (s : Shared) (v : Value), BindsTo s fd ⟨[v], []⟩ [("_law_script", v)]) ∧ ∀ base : Heap, K.In base → base.Ns mainGlobals mg → FnOk l.prog w K mg base CX0 4 fa fd ["_law_script"] (spLaw K) := by
  have e := hfa.symm.trans (PySem.W.mg_of X G a8)
  cases e
  have F1 := fun_mk (st := s_part_text) l1 c1 k1
  have F2 := fun_mk (st := s_row_text) l2 c2 k2
  have F3 := fun_mk (st := s_seed) l3 c3 k3
  have F4 := fun_mk (st := s_choose) l4 c4 k4
  have F5 := fun_mk (st := s_one_of) l5 c5 k5
  have F6 := fun_mk (st := s_told) l6 c6 k6
  have F7 := fun_mk (st := s_closed) l7 c7 k7
  have F8 := fun_mk (st := s_law) l8 c8 k8
  have b1 := F1.binds (ps := ["part", "texts"]) fun _ _ _ _ _ _ us hl => match us, hl with | [_, _], _ => rfl
  have b2 := F2.binds (ps := ["row", "texts"]) fun _ _ _ _ _ _ us hl => match us, hl with | [_, _], _ => rfl
  have b3 := F3.binds (ps := ["_law_script", "_law_k"]) fun _ _ _ _ _ _ us hl => match us, hl with | [_, _], _ => rfl
  have b4 := F4.binds (ps := ["_law_box", "_law_many"]) fun _ _ _ _ _ _ us hl => match us, hl with | [_, _], _ => rfl
  have b5 := F5.binds (ps := ["_law_box", "_law_some"]) fun _ _ _ _ _ _ us hl => match us, hl with | [_, _], _ => rfl
  have b6 := F6.binds (ps := ["_law_box", "_law_marks", "_law_most"]) fun _ _ _ _ _ _ us hl => match us, hl with | [_, _, _], _ => rfl
  have b7 := F7.binds (ps := ["_law_close", "_law_cells"]) fun _ _ _ _ _ _ us hl => match us, hl with | [_, _], _ => rfl
  have b8 := F8.binds (ps := ["_law_script"]) fun _ _ _ _ _ _ us hl => match us, hl with | [_], _ => rfl
  have T : Txt K mg ⟨f1, f2, f3, f4, f5, f6, f7, fa,
    (PySem.W.fnOf "part_text" "part_text" (defArgs s_part_text) (defBody s_part_text) (defScope s_part_text) .none kV1 dc1 pm1 an1 cd1 ct1),
    (PySem.W.fnOf "row_text" "row_text" (defArgs s_row_text) (defBody s_row_text) (defScope s_row_text) .none kV2 dc2 pm2 an2 cd2 ct2),
    (PySem.W.fnOf "_law_seed" "_law_seed" (defArgs s_seed) (defBody s_seed) (defScope s_seed) .none kV3 dc3 pm3 an3 cd3 ct3),
    (PySem.W.fnOf "_law_choose" "_law_choose" (defArgs s_choose) (defBody s_choose) (defScope s_choose) .none kV4 dc4 pm4 an4 cd4 ct4),
    (PySem.W.fnOf "_law_one_of" "_law_one_of" (defArgs s_one_of) (defBody s_one_of) (defScope s_one_of) .none kV5 dc5 pm5 an5 cd5 ct5),
    (PySem.W.fnOf "_law_told" "_law_told" (defArgs s_told) (defBody s_told) (defScope s_told) .none kV6 dc6 pm6 an6 cd6 ct6),
    (PySem.W.fnOf "_law_closed" "_law_closed" (defArgs s_closed) (defBody s_closed) (defScope s_closed) .none kV7 dc7 pm7 an7 cd7 ct7),
    (PySem.W.fnOf "law" "law" (defArgs s_law) (defBody s_law) (defScope s_law) .none kV8 dc8 pm8 an8 cd8 ct8)⟩ :=
    ⟨PySem.W.mg_of X G a1, k1, F1, b1,
    PySem.W.mg_of X G a2, k2, F2, b2,
    PySem.W.mg_of X G a3, k3, F3, b3,
    PySem.W.mg_of X G a4, k4, F4, b4,
    PySem.W.mg_of X G a5, k5, F5, b5,
    PySem.W.mg_of X G a6, k6, F6, b6,
    PySem.W.mg_of X G a7, k7, F7, b7,
    PySem.W.mg_of X G a8, k8, F8, b8,
    PySem.W.mg_none_of X G z_abs,
    PySem.W.mg_none_of X G z_int,
    PySem.W.mg_none_of X G z_len,
    PySem.W.mg_none_of X G z_list,
    PySem.W.mg_none_of X G z_max,
    PySem.W.mg_none_of X G z_min,
    PySem.W.mg_none_of X G z_range,
    PySem.W.mg_none_of X G z_repr,
    PySem.W.mg_none_of X G z_tuple⟩
  exact ⟨(PySem.W.fnOf "law" "law" (defArgs s_law) (defBody s_law) (defScope s_law) .none kV8 dc8 pm8 an8 cd8 ct8), fun s v => .of_eq rfl, fun base _ _ => ok_law T⟩
end My
open PySem PySem.W PyProof.Rows
set_option maxHeartbeats 0 in
theorem PySem.Challenge.cw_growntexts_k15_rows_joined_holds : PySem.Challenge.rw_growntexts_k15_rows_joined.Holds := by
  w_on; o_law; k_head; (case hw => w_witness2)
  k_fill
  refine L2.walk_of (l := PySem.Challenge.rw_growntexts_k15_rows_joined) (n := 63) (k := 4) (x := "_law_script") (CX := fun _ => L2.CX0) (sp := fun w => My.spLaw _) rfl (by decide) rfl ⟨rfl, by decide, by decide⟩
    (fun w h Y => PySem.W.kIn_of Y) ?F (fun _ _ a ns hl _ hS => ⟨a, ns, rfl, hS, hl, fun _ => rfl⟩) (fun _ _ _ _ _ h => h)
  case F =>
    intro w mg fa h KX G hmg
    refine' My.all_mk KX G hmg ?a1 ?l1 ?c1 ?k1 ?a2 ?l2 ?c2 ?k2 ?a3 ?l3 ?c3 ?k3 ?a4 ?l4 ?c4 ?k4 ?a5 ?l5 ?c5 ?k5 ?a6 ?l6 ?c6 ?k6 ?a7 ?l7 ?c7 ?k7 ?a8 ?l8 ?c8 ?k8 ?z_abs ?z_int ?z_len ?z_list ?z_max ?z_min ?z_range ?z_repr ?z_tuple
    (case a1 => k_is); (case l1 => k_is); (case c1 => k_is); (case k1 => k_is); (case a2 => k_is); (case l2 => k_is); (case c2 => k_is); (case k2 => k_is); (case a3 => k_is); (case l3 => k_is); (case c3 => k_is); (case k3 => k_is); (case a4 => k_is); (case l4 => k_is); (case c4 => k_is); (case k4 => k_is); (case a5 => k_is); (case l5 => k_is); (case c5 => k_is); (case k5 => k_is); (case a6 => k_is); (case l6 => k_is); (case c6 => k_is); (case k6 => k_is); (case a7 => k_is); (case l7 => k_is); (case c7 => k_is); (case k7 => k_is); (case a8 => k_is); (case l8 => k_is); (case c8 => k_is); (case k8 => k_is); (case z_abs => k_is); (case z_int => k_is); (case z_len => k_is); (case z_list => k_is); (case z_max => k_is); (case z_min => k_is); (case z_range => k_is); (case z_repr => k_is); (case z_tuple => k_is)
